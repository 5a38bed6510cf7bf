import PyProof.Rows.All
import Wide.All
import OpenK.AllK
import Wide.FinOn
import KE.KExcSuper
import HandS.ForMost
import HandS.Exc
import HandS.ExcInit
import HandS.ExcField
import HandS.ExcValue
import HandS.Style
import HandS.Walk
import HandS.IsInst
import HandS.More
import KE.KExcIs
import PyProof.NeKinds
import KE.KEqDict
import HandS.ExcIs
import HandS.Strs
import PyProof.StrWalks
import PyProof.StrBlock2
import PyProof.FitsStr
import HandS.Comp
import HandS.Words
import HandS.Codes
import KE.SortData
import KE.DataMinMax
import KE.KEqSeq
import HandS.TupAny
import HandS.DictSubView
import HandS.Sort
import HandS.Gcd
import HandS.Wide
import KE.KDictList
import KE.KMathGC
import HandS.Conv
import HandS.Iter
import HandS.SetFor
import HandS.Zip
import PyProof.Rows.ChunkLeaf
import PySem.Challenge.RW_turnindex_k36_runs_of_rows
set_option Elab.async false
set_option linter.all false
set_option maxRecDepth 100000
set_option maxHeartbeats 4000000
/-! ErrKit: an error class of the program: __init__ says super().__init__(text), then keeps its one value. -/
namespace EK
open PySem PySem.W PySem.Calls PyProof.Rows PySem.HandSPX L2
/-! ### the text of such an __init__ -/
def eArgs (f : Str) (p1 p2 : Pos) : Arguments := { posonlyargs := [], args := [{ arg := "self", annotation := none, pos := p1 }, { arg := f, annotation := none, pos := p2 }], vararg := none, kwonlyargs := [], kw_defaults := [], kwarg := none, defaults := [] }
def eBody (f msg : Str) (a1 a2 a3 a4 a5 a6 b1 b2 b3 b4 : Pos) : List Stmt :=
  [.Expr (.Call (.Attribute (.Call (.Name "super" a1) [] [] a2) "__init__" a3) [.Constant (.str msg) 0 a4] [] a5) a6, .Assign [.Attribute (.Name "self" b1) f b2] (.Name f b3) b4]
def eScope (f : Str) : Scope := { kind := .function, names := [(PySem.Str.ofString "self", .local), (f, .local), (PySem.Str.ofString "__class__", .free), (PySem.Str.ofString "super", .globalImplicit)], isGenerator := false, isCoroutine := false, more := [] }

/-- the row super().__init__(msg) of the text, as a call of a method -/
def SupCall (a1 a2 a3 a4 a5 : Pos) (msg : Str) (env : Env) : Prop := ∃ pl : Sem Bool,
  eval (.Call (.Attribute (.Call (.Name "super" a1) [] [] a2) "__init__" a3) [.Constant (.str msg) 0 a4] [] a5) env = (do
    let ov ← attributeBase (.Call (.Name "super" a1) [] [] a2) "__init__" env (eval (.Call (.Name "super" a1) [] [] a2) env)
    standAt a3.atName
    let (g, first) ← holding [ov] (getMethod ov "__init__" pl)
    callWith a5 g first (backTo a5 (starEach [.Constant (.str msg) 0 a4] env)) [])
/-- what the top has written of the class x at C, of its __init__ at fI -/
structure ErrTxt (P : Program) (K : Frag) (mg : Str → Option Value) (x f : Str) (C fI : Addr) : Prop where
  gC : mg x = some (.ref C)
  cls : ∃ nm q N bs bm sn sub ab col dd k0 k1 k2 k3 k5, K.lookup C = some (excClassObj nm q C N bs bm true sn sub ab col dd k0 k1 k2 k3 k5 "ValueError.__new__") ∧ refsVE bm = true
  sa : findIn K (.ref C) "__setattr__" = some (some (.builtin "object.__setattr__"))
  ga : findIn K (.ref C) "__getattribute__" = some (some (.builtin "BaseException.__getattribute__"))
  gg : findIn K (.ref C) "__getattr__" = some none
  noN : findIn K (.ref C) f = some none
  iC : findIn K (.ref C) "__init__" = some (some (.ref fI))
  tC : typeIn K (.ref fI) = some (.type "function")
  kC : keepIn K (.ref C) = true
  exC : subIn K (.ref C) (.type "BaseException") = some true
  tyC : typeIn K (.ref C) = some (.type "type")
  hdC : hasDictIn K C = true
  te : exmOne K (.ref C) (.ref C) = some true
  hB : subIn K (.ref C) (.type "ValueError") = some true
  si : ks_superIn K C C "__init__" = some (some (.builtin "ValueError.__init__"))
  ho : nsIn K cStatics "thirdparty.any" = some none
  su : mg "super" = none
  mC : mroIn K C (.ref C) = some true
  fok : f ≠ "self" ∧ f ≠ "__class__" ∧ f ≠ "super" ∧ f ≠ "__debug__"
  top : (P.main.scope.names.lookup ("super" : Str)).isSome = false
  fn : ∃ (oc : Value) (od : Option Addr) (qn msg : Str) (doc pm : Value) (an : Option Addr) (cda cc : Addr) (ct : Value) (osl : Array (Option Value)) (p1 p2 a1 a2 a3 a4 a5 a6 b1 b2 b3 b4 : Pos),
    K.lookup fI = some ⟨oc, od, .func (ksFn "__init__" qn (eArgs f p1 p2) (eBody f msg a1 a2 a3 a4 a5 a6 b1 b2 b3 b4) (eScope f) .none .none doc pm an (.ref cda) ct cc), osl⟩ ∧ codeIn K (.ref cda) qn = true ∧
    (∀ u v : Value, bindArgs (ksFn "__init__" qn (eArgs f p1 p2) (eBody f msg a1 a2 a3 a4 a5 a6 b1 b2 b3 b4) (eScope f) .none .none doc pm an (.ref cda) ct cc) ⟨[u, v], []⟩ = pure [(("self" : Str), u), (f, v)]) ∧
    (∀ L : Addr, SupCall a1 a2 a3 a4 a5 msg (callEnv (ksFn "__init__" qn (eArgs f p1 p2) (eBody f msg a1 a2 a3 a4 a5 a6 b1 b2 b3 b4) (eScope f) .none .none doc pm an (.ref cda) ct cc) L fI)) ∧
    (∃ (ccl : Value) (cdd : Option Addr) (ccs : Array (Option Value)) (vs : Array Value) (file : Str) (tf : Tok), K.lookup cda = some ⟨ccl, cdd, .fields vs, ccs⟩ ∧ vs[2]? = some (.str file tf) ∧ ((P.main.file : Str) == file) = true) ∧
    ∃ (cl : Value) (cld : Option Addr) (csl : Array (Option Value)), K.lookup cc = some ⟨cl, cld, .cell (some (.ref C)), csl⟩
theorem one_size (v : Value) : [v].length ≤ sizeLine := by
  rw [sizeLine_eq]
  exact (by decide : 1 ≤ 16777216)
/-- what __init__ leaves of the exception at y -/
structure MadeI (h h' : Heap) (y C dx : Addr) (f : Str) (v : Value) : Prop where
  keep : ∀ b o, b ≠ y → h.get? b = some o → h'.get? b = some o
  obj : ∃ t1 : Addr, h'.get? y = some { cls := .ref C, dict := some dx, data := .fields #[.ref t1, .none, .none, .none, .bool false, .none] }
  dbig : h.objs.size ≤ dx
  dne : dx ≠ y
  ns : h'.Ns1 dx (fun z => if z = f then some v else none)
theorem kept_but {K : Frag} {h h' : Heap} {x : Addr} (X : K.In h) (hx : K.lookup x = none) (k : ∀ b o, b ≠ x → h.get? b = some o → h'.get? b = some o) : K.In h' := fun a o e =>
  k a o (fun z => by rw [z, hx] at e; cases e) (X a o e)
section
variable {prog : Program} {w : World} {A : Around} {E : Value → Shared → Prop} {R : Result → Shared → Prop} {s : Shared} {K : Frag} {mg : Str → Option Value} {C fI : Addr} {x f : Str}
/-- the method-wrapper that super().__init__ gives is called -/
theorem call_mw {u e t0 : Addr} {rest : List Value} {nm q : Str} {C N : Addr} {bs bm : List Value} {hdct : Bool} {sn : List Str} {sub : List Value} {ab : Bool} {col : Option Bool} {dd : Option Addr} {k0 k1 k2 k3 k5 : Option Value} {Q : Value → Shared → Prop}
    (hC : s.heap.get? C = some (excClassObj nm q C N bs bm hdct sn sub ab col dd k0 k1 k2 k3 k5 "ValueError.__new__")) (he : s.heap.get? e = some (excO C t0)) (hu : s.heap.get? u = some (kxs_mw "ValueError.__init__" e)) (hrest : rest.length ≤ sizeLine)
    (hq : ∀ h' t1, (∀ b o, b ≠ e → s.heap.get? b = some o → h'.get? b = some o) → h'.get? e = some (excO C t1) → Q .none { s with heap := h' }) :
    wpAny (model prog w) A (call (.ref u) rest) Q E s := by
  obtain ⟨hh, g, d, tk, os⟩ := s
  refine wpAny_call (codeAny_of_tree ?_)
  show wpAny _ A.in1 (callAny (.ref u) ⟨rest, []⟩) _ _ _
  simp only [callAny]
  refine wpAny_bind (wpAny_load hu ?_)
  simp only [kxs_mw, show (Value.type "method-wrapper" == Value.type "method" || Value.type "method-wrapper" == Value.type "builtin_function_or_method" || Value.type "method-wrapper" == Value.type "method-wrapper") = true by decide, if_true]
  refine KFB.if_so (by decide) ?_
  refine wpAny_bind (check_bound_init F.excBase_ValueError.toExcCallFacts hC he rfl ?_)
  refine wpAny_bind (wpAny_pure (wpAny_pure ?_))
  refine ⟨plainId_quiet F.excBase_ValueError.init.plain _, codeAny_builtin F.excBase_ValueError.initEntry ?_⟩
  exact exc_init_tree (cls := .ref C) (t0 := t0) (dv := none) (c2 := .none) (c3 := .none) (b4 := .bool false) he hrest fun h' k o _ => hq h' _ k o
theorem look_self (f : Str) : (eScope f).names.lookup ("self" : Str) = some .local := by
  show List.lookup ("self" : Str) ((("self" : Str), NameKind.local) :: _) = _
  rw [List.lookup_cons]
  simp
theorem look_f {f : Str} (h : f ≠ "self") : (eScope f).names.lookup f = some .local := by
  have e : (f == ("self" : Str)) = false := by simpa using h
  show List.lookup f ((("self" : Str), NameKind.local) :: (f, NameKind.local) :: _) = _
  rw [List.lookup_cons, e, List.lookup_cons]
  simp
theorem look_cls {f : Str} (h : f ≠ "__class__") : (eScope f).names.lookup ("__class__" : Str) = some .free := by
  have e : ((("__class__" : Str)) == f) = false := by simpa using Ne.symm h
  have e2 : ((("__class__" : Str)) == ("self" : Str)) = false := by decide +kernel
  show List.lookup ("__class__" : Str) ((("self" : Str), NameKind.local) :: (f, NameKind.local) :: (("__class__" : Str), NameKind.free) :: _) = _
  rw [List.lookup_cons, e2, List.lookup_cons, e, List.lookup_cons]
  simp
theorem look_super {f : Str} (h : f ≠ "super") : (eScope f).names.lookup ("super" : Str) = some .globalImplicit := by
  have e : ((("super" : Str)) == f) = false := by simpa using Ne.symm h
  have e2 : ((("super" : Str)) == ("self" : Str)) = false := by decide +kernel
  have e3 : ((("super" : Str)) == ("__class__" : Str)) = false := by decide +kernel
  show List.lookup ("super" : Str) ((("self" : Str), NameKind.local) :: (f, NameKind.local) :: (("__class__" : Str), NameKind.free) :: (("super" : Str), NameKind.globalImplicit) :: []) = _
  rw [List.lookup_cons, e2, List.lookup_cons, e, List.lookup_cons, e3, List.lookup_cons]
  simp
theorem bl_self {f : Str} (h : f ≠ "self") (a v : Value) : List.lookup ("self" : Str) ([(("self" : Str), a), (f, v)].reverse) = some a := by
  have e : ((("self" : Str)) == f) = false := by simpa using Ne.symm h
  show List.lookup ("self" : Str) ((f, v) :: (("self" : Str), a) :: []) = _
  rw [List.lookup_cons, e, List.lookup_cons]
  simp
theorem bl_f {f : Str} (a v : Value) : List.lookup f ([(("self" : Str), a), (f, v)].reverse) = some v := by
  show List.lookup f ((f, v) :: (("self" : Str), a) :: []) = _
  rw [List.lookup_cons]
  simp
theorem err_init (T : ErrTxt prog K mg x f C fI) {y t0 : Addr} {v : Value} (X : K.In s.heap) (hlim : s.heap.NoLimit) (hg : s.heap.Ns mainGlobals mg) (hb : ∃ mb, s.heap.Ns builtinsNs mb ∧ ∀ z : Str, z ≠ "__name__" → mb z = bootBuiltins z)
    (hx : s.heap.get? y = some (excO C t0)) (hnx : K.lookup y = none) (hroom : A.depth < recursionLimit)
    (hq : ∀ h' tk dx, MadeI s.heap h' y C dx f v → R (.ok (.ret .none)) { s with heap := h', toks := tk }) :
    codeAny (model prog w) A (.call (.ref fI) ⟨[.ref y, v], []⟩) R s := by
  obtain ⟨oc, od, qn, msg, doc, pm, an, cda, cc, ct, osl, p1, p2, a1, a2, a3, a4, a5, a6, b1, b2, b3, b4, ho, hcd, hB, hS, ⟨ccl, cdd, ccs, vs, file, tf, hcda, hvs, hfile⟩, ⟨cl, cld, csl, hcell⟩⟩ := T.fn
  obtain ⟨nm, q, N, bs, bm, sn, sub, ab, col, dd, k0, k1, k2, k3, k5, hC, hbm⟩ := T.cls
  obtain ⟨mb, hbn, hbv⟩ := hb
  obtain ⟨hf1, hf2, hf3, hf4⟩ := T.fok
  have hcl : clsIn K C = some { name := nm, bases := bs, mro := .ref C :: bm, ns := N, qualname := q, hasDict := true, slotNames := sn, subclasses := sub, abstract := ab, collection := col, hasDel := false } := by unfold clsIn; rw [hC] <;> rfl
  refine ks_codeAny_call_defAt (fd := ksFn "__init__" qn (eArgs f p1 p2) (eBody f msg a1 a2 a3 a4 a5 a6 b1 b2 b3 b4) (eScope f) .none .none doc pm an (.ref cda) ct cc) (body := eBody f msg a1 a2 a3 a4 a5 a6 b1 b2 b3 b4) (binds := [(("self" : Str), Value.ref y), (f, v)]) hroom (X _ _ ho) rfl hlim (codeRec_of X hcd) rfl (BindsTo.of_eq (hB _ _)) ?_ ?_ (fun h₁ hns k => ?_) rfl rfl rfl
  · intro z hz
    rcases List.mem_cons.mp hz with rfl | hz
    · exact fun e => nomatch e
    rcases List.mem_cons.mp hz with rfl | hz
    · exact fun e => nomatch e
    rcases List.mem_cons.mp hz with rfl | hz
    · exact fun e => nomatch e
    rcases List.mem_cons.mp hz with rfl | hz
    · exact fun e => nomatch e
    · cases hz
  · intro z hz
    rcases List.mem_cons.mp hz with rfl | hz
    · exact look_self f
    rcases List.mem_cons.mp hz with rfl | hz
    · exact look_f hf1
    · cases hz
  · have X₁ : K.In h₁ := X.keeps k
    have hyL : s.heap.objs.size ≠ y := Nat.ne_of_gt (Heap.lt_size hx)
    have ks : (callEnv (ksFn "__init__" qn (eArgs f p1 p2) (eBody f msg a1 a2 a3 a4 a5 a6 b1 b2 b3 b4) (eScope f) .none .none doc pm an (.ref cda) ct cc) s.heap.objs.size fI).kindOf "super" = some .globalImplicit := look_super hf3
    obtain ⟨oD, hD⟩ : ∃ oD, h₁.get? C = some oD ∧ ∃ cd : ClassData, oD.data = .cls cd := ⟨_, X₁ _ _ hC, _, rfl⟩
    obtain ⟨hD1, cdD, hD2⟩ := hD
    have IY : ∀ {h : Heap}, h.get? y = some (excO C t0) → InstAt h y (excO C t0) C none := fun e => ⟨e, rfl, rfl, trivial⟩
    have hyC : y ≠ C := fun z => by rw [z, hC] at hnx; cases hnx
    obtain ⟨pl, hpl⟩ := hS s.heap.objs.size
    refine ks_wpAt_execs_cons (ks_wpAt_Expr_any (ks_wpAt_MethodCall ?_ hpl) (by rfl) (by rfl))
    refine ks_wpAt_super_base ks (look_cls hf2) (by decide +kernel) rfl (X₁ _ _ ho) rfl rfl rfl (X₁ _ _ hcda) rfl hvs hfile T.top ?_
    refine ks_loadName_global rfl ks (loadGlobal_builtin (hg.keeps k) T.su (hbn.keeps k) (hbv _ (by decide +kernel)) ⟨by rfl, ?_⟩)
    refine wpAny_loadName_free rfl (look_cls hf2) rfl ⟨_, X₁ _ _ hcell, rfl⟩ ?_
    refine wpAny_loadName_local rfl (look_self f) hns (bl_self hf1 _ _) ?_
    refine ks_wpAny_isType_cls hD1 hD2 ⟨rfl, ?_⟩
    refine ks_wpAny_call_super hD1 hD2 (k _ _ hx) rfl (fun c e => nomatch e) (looks_mroIn X₁ T.mC) (fun h2 hso k2 => ?_)
    have X2 : K.In h2 := X₁.keeps k2
    refine kxs_getMethod kxs_ValueError hso (looks_opaque X2 T.ho) (l₀ := .ref C :: bm) ((looks_clsIn X2 hcl).andThen .now) rfl X2 ?_ ((IY (k2 _ _ (k _ _ hx))).type.andThen (looks_subIn X2 T.hB)) hyC (by decide +kernel) ?_
    · have e := T.si
      unfold ks_superIn at e
      rw [hcl] at e
      exact e
    have k3 : ∀ b o, h2.get? b = some o → (h2.push (kxs_mw "ValueError.__init__" y)).get? b = some o := fun b o e => Heap.get?_push_of_some _ e
    have hu : (h2.push (kxs_mw "ValueError.__init__" y)).get? h2.objs.size = some (kxs_mw "ValueError.__init__" y) := Heap.get?_push_at rfl rfl
    refine kxs_callWith (i := "ValueError.__init__") (x := y) (by rfl) (evalArgs_plain (Calls.spliced_cons (Calls.Constant_str (k := 0) (pos := a4) (Calls.spliced_nil ⟨hu, ?_⟩))))
    refine call_mw (X2.keeps k3 _ _ hC) (k3 _ _ (k2 _ _ (k _ _ hx))) hu (one_size _) fun h4 t1 k4 hy4 => ?_
    have X4 : K.In h4 := kept_but (X2.keeps k3) hnx k4
    have kk : ∀ b o, b ≠ y → h₁.get? b = some o → h4.get? b = some o := fun b o n e => k4 b o n (k3 b o (k2 b o e))
    have n4 : h4.Ns s.heap.objs.size fun z => [(("self" : Str), Value.ref y), (f, v)].reverse.lookup z := by
      obtain ⟨o, es, ep, e1, r⟩ := hns
      exact ⟨o, es, ep, kk _ _ hyL e1, r⟩
    have hfd : (f == ("__debug__" : Str)) = false := by simpa using hf4
    refine wpAt_of_wpAny (wpAny_execs_cons (plainObj_wpAny_Assign_Attribute ?_))
    refine wpAny_Name (wpAny_loadName_local rfl (look_f hf1) n4 (bl_f _ _) ?_) hfd
    refine wpAny_Name (wpAny_loadName_local rfl (look_self f) n4 (bl_self hf1 _ _) ?_) (by decide +kernel)
    refine set_plain X4 (ox := excO C t1) (od := none) ⟨hy4, rfl, rfl, trivial⟩ T.sa ?_
    refine exc_osa X4 hy4 hcl (show refsVE (.ref C :: bm) = true from hbm) rfl T.noN (fun h5 tk5 dx k5 dn dne hx5 hn5 => ?_)
    refine wpAny_execs_nil (hq h5 tk5 dx ⟨fun b o hb e => k5 b o hb (kk b o hb (k b o e)), ⟨_, hx5⟩, ?_, dne, hn5⟩)
    have z1 : s.heap.objs.size < h4.objs.size := n4.lt
    exact Nat.le_of_lt (Nat.lt_of_lt_of_le z1 dn)
/-- an error that was made: the object at e, its own dict at d -/
structure MadeE (h h' : Heap) (e C d : Addr) (f : Str) (v : Value) : Prop where
  keep : ∀ b o, h.get? b = some o → h'.get? b = some o
  new : h.objs.size ≤ e
  obj : ∃ t1 : Addr, h'.get? e = some { cls := .ref C, dict := some d, data := .fields #[.ref t1, .none, .none, .none, .bool false, .none] }
  dbig : h.objs.size ≤ d
  dne : d ≠ e
  ns : h'.Ns1 d (fun z => if z = f then some v else none)
theorem not_in {K : Frag} {h : Heap} {a : Addr} (X : K.In h) (ha : h.objs.size ≤ a) : K.lookup a = none := by
  cases e : K.lookup a with
  | none => rfl
  | some o => exact absurd (Nat.lt_of_lt_of_le (Heap.lt_size (X _ _ e)) ha) (Nat.lt_irrefl _)
theorem err_made (T : ErrTxt prog K mg x f C fI) {v : Value} (X : K.In s.heap) (hlim : s.heap.NoLimit) (hg : s.heap.Ns mainGlobals mg) (hb : ∃ mb, s.heap.Ns builtinsNs mb ∧ ∀ z : Str, z ≠ "__name__" → mb z = bootBuiltins z)
    (hroom : A.depth + 1 < recursionLimit) (hq : ∀ h' tk e d, MadeE s.heap h' e C d f v → R (.ok (.ret (.ref e))) { s with heap := h', toks := tk }) :
    codeAny (model prog w) A (.call (.ref C) ⟨[v], []⟩) R s := by
  obtain ⟨nm, q, N, bs, bm, sn, sub, ab, col, dd, k0, k1, k2, k3, k5, hC, hbm⟩ := T.cls
  obtain ⟨mb, hbn, hbv⟩ := hb
  obtain ⟨hp, g, dr, tk, os⟩ := s
  have k : ∀ b o, hp.get? b = some o → ((hp.push (kdv_tup [v])).push (excO C hp.objs.size)).get? b = some o := fun b o e => Heap.get?_push_of_some _ (Heap.get?_push_of_some _ e)
  have hget : ((hp.push (kdv_tup [v])).push (excO C hp.objs.size)).get? (hp.objs.size + 1) = some (excO C hp.objs.size) := by heap_get
  have hnx : K.lookup (hp.objs.size + 1) = none := not_in X (Nat.le_succ _)
  refine call_own F.excBase_ValueError (fun X => refsVE_contains X bm hbm) (X _ _ hC) (looks_findIn X T.iC) (fun self => bind_fn X self T.tC) (one_size v) ?_
  refine err_init (s := ⟨(hp.push (kdv_tup [v])).push (excO C hp.objs.size), g, dr, tk, os⟩) T (X.keeps k) (hlim.keeps k) (hg.keeps k) ⟨mb, hbn.keeps k, hbv⟩ hget hnx ?_ fun h' tk' dx ⟨k', ⟨t1, hx⟩, dn, dne, hns⟩ => ?_
  · show A.depth + 1 < recursionLimit
    exact hroom
  · have old : ∀ b o, hp.get? b = some o → h'.get? b = some o := fun b o e => k' b o (Nat.ne_of_lt (Nat.lt_succ_of_lt (Heap.lt_size e))) (k b o e)
    have z : hp.objs.size + 1 + 1 ≤ dx := by
      have q := dn
      rw [Heap.size_push, Heap.size_push] at q
      exact q
    exact ⟨rfl, hq h' tk' (hp.objs.size + 1) dx ⟨old, Nat.le_succ _, ⟨t1, hx⟩, Nat.le_trans (Nat.le_trans (Nat.le_succ _) (Nat.le_succ _)) z, dne, hns⟩⟩
end
end EK
namespace L2
open PySem PySem.Spec PyProof.Rows EK
theorem relO_one {f : Str} {v : V} {u : Value} (r : RelV v u) (g : Str) : RelO (List.lookup g [(f, v)]) (if g = f then some u else none) := relO_put (fs := []) (mA := fun _ => none) r (fun _ => True.intro) g
section
variable {X : Cx} {C fI : Addr} {x f : Str}
/-- x(e) as a value: a new error at a, its dict at d -/
def tErrV (C : Addr) (f : Str) (ta : TA) : TE := fun σ H Q => ta σ H fun vs H1 => ∃ v, vs = [v] ∧ ∀ a d, H1 a = none → H1 d = none → d ≠ a → Q (.ref a) (upd (upd H1 d (exd d [(f, v)])) a (exo a C (some d)))
theorem pe_errV {a : Expr} {ta : TA} {p pos : Pos} {k : Nat} (T : ErrTxt X.prog X.K X.mg x f C fI) (hr : Room k X.A) (ha : PA X [a] ta) (hg : Gl X x) (hd : (x == ("__debug__" : Str)) = false := by decide)
    (he : starEach (a :: []) X.env = (false, eval a X.env) :: starEach [] X.env := by rfl) (hpl : (backTo pos (starEach [] X.env)).any (·.1) = false := by rfl) :
    PE X (.Call (.Name x p) [a] [] pos) (tErrV C f ta) := by
  refine ⟨fun pins s σ H Q I h => ?_⟩
  refine wpAny_Call_Name_kw (ld_glob I hg T.gC ?_ hd)
  refine PySem.W.callWith_K (h₀ := X.base) I.ok.mod.kin T.kC (thn (ha.run pos pins s σ H _ I h) fun us s1 hh => ?_) he hpl
  obtain ⟨vs, H1, I1, r1, v, ev, q1⟩ := hh
  subst ev
  refine ⟨I1.kIn, ?_⟩
  cases r1 with
  | cons rv rn =>
    rename_i v' us'
    cases rn
    show wpAny _ _ (call (.ref C) [v']) _ _ _
    have hlim := I1.nolimit
    obtain ⟨hp, g, dr, tk, os⟩ := s1
    obtain ⟨mb, hb1, hb2⟩ := I1.mod.blt
    refine wpAny_call (err_made T I1.kIn hlim (I1.mod.glob.keeps I1.bk) ⟨mb, hb1.keeps I1.bk, hb2⟩ (by have := hr.dp; omega) fun h' tk' e d M => ?_)
    obtain ⟨t1, hoe⟩ := M.obj
    have nd : H1 d = none := I1.hok.fresh M.dbig
    have ne : H1 e = none := I1.hok.fresh M.new
    obtain ⟨G, g1, g2⟩ := restrict h' fun b => decide (b ≠ e)
    have gk : ∀ b, b ≠ e → G.get? b = h'.get? b := fun b hb => g1 b (decide_eq_true hb)
    have ge : G.get? e = none := g2 e (by simp)
    have old : ∀ b o, hp.get? b = some o → G.get? b = some o := fun b o q => (gk b (Nat.ne_of_lt (Nat.lt_of_lt_of_le (Heap.lt_size q) M.new))).trans (M.keep b o q)
    have gs : ∀ b o, G.get? b = some o → h'.get? b = some o := fun b o q => by
      by_cases hbe : b = e
      · rw [hbe, ge] at q
        cases q
      · exact (gk b hbe).symm.trans q
    have J : Inv X pins σ (upd H1 d (exd d [(f, v)])) ⟨G, g, dr, tk', os⟩ := I1.laid (t' := tk') old M.dbig (exd_ok (M.ns.at fun o q => (gk d M.dne).trans q) (relO_one rv))
    have hne : (upd H1 d (exd d [(f, v)])) e = none := by
      rw [upd_ne (Ne.symm M.dne)]
      exact ne
    exact ⟨.ref e, _, J.laidN (t' := tk') gs ge hne (exo_ok hoe), rfl, q1 e d ne nd M.dne⟩
/-- a field of an error, read -/
def tErrF (K : PySem.W.Frag) (f : Str) (te : TE) : TE := fun σ H Q => te σ H fun x H1 => ∃ (a C d : Addr) (fs : List (Str × V)) (v : V), x = .ref a ∧ H1 a = some (exo a C (some d)) ∧ H1 d = some (exd d fs) ∧ XfC K C ∧ PySem.W.findIn K (.ref C) f = some none ∧ fs.lookup f = some v ∧ Q v H1
theorem pe_errF {e : Expr} {te : TE} {pos : Pos} (he : PE X e te) (hb : attributeBase e f X.env (eval e X.env) = eval e X.env := by rfl) : PE X (.Attribute e f pos) (tErrF X.K f te) := by
  refine ⟨fun pins s σ H Q I h => ?_⟩
  refine attr_of hb (thn (he.run pins s σ H _ I h) fun u s1 hh => ?_)
  obtain ⟨y, H1, I1, ry, a, C, d, fs, v, ey, ea, ed, T, hno, l, q⟩ := hh
  subst ey
  obtain rfl : u = Value.ref a := ry
  obtain ⟨t1, ha⟩ := exo_at I1.hok ea
  obtain ⟨mA, hns, hr⟩ := exd_at I1.hok ed
  obtain ⟨od, ho, hl⟩ := lookIn_ns hns
  obtain ⟨u, hu, ru⟩ := RelO.some_of (v := v) (o := mA f) (by rw [← l]; exact hr f)
  have J : PySem.W.InstAt s1.heap a _ C (some od) := ⟨ha, rfl, rfl, ho⟩
  exact HandSPX.exc_get I1.kIn J T.ga T.gg T.exC (PySem.W.findObj_own T.hdC hno rfl (by rw [hl, hu])) (handed_of ru) ⟨v, H1, I1.tok _, ru, q⟩
end
end L2

set_option Elab.async false
set_option linter.all false
set_option maxRecDepth 100000
set_option maxHeartbeats 4000000
/-! EqKit: things that are told equal, whatever they hold; isinstance of errors. -/
namespace L2
open PySem PySem.Spec PyProof.Rows
/-- x and y compare equal, at most n deep: one thing, or lists, tuples of such -/
inductive Sm (K : PySem.W.Frag) (H : Hp) : Nat → V → V → Prop
  | rf {n : Nat} (x : V) (h : ∀ b, x ≠ .flt b) : Sm K H n x x
  | ls {n : Nat} {a b : Addr} {xs ys : List V} (h1 : SqL K H a xs) (h2 : SqL K H b ys) (hl : xs.length = ys.length) (h : ∀ (i : Nat) x y, xs[i]? = some x → ys[i]? = some y → Sm K H n x y) : Sm K H (n + 1) (.ref a) (.ref b)
  | tp {n : Nat} {a b : Addr} {xs ys : List V} (h1 : SqT K H a xs) (h2 : SqT K H b ys) (hl : xs.length = ys.length) (h : ∀ (i : Nat) x y, xs[i]? = some x → ys[i]? = some y → Sm K H n x y) : Sm K H (n + 1) (.ref a) (.ref b)
section
variable {X : Cx} {pins : List (Addr × Obj)} {σ : St} {H : Hp} {s : Shared}
theorem sm_items {xs ys : List V} {us vs : List Value} {A : Around} (rx : Vals xs us) (ry : Vals ys vs)
    (h : ∀ (i : Nat) x y, xs[i]? = some x → ys[i]? = some y → ∀ u v, RelV x u → RelV y v → SeqAt.EqAt A s u v true) :
    ∀ j (h1 : j < us.toArray.size) (h2 : j < vs.toArray.size), SeqAt.EqAt A s us.toArray[j] vs.toArray[j] true := by
  intro j h1 h2
  have l1 := rx.length
  have l2 := ry.length
  have j1 : j < xs.length := by rw [l1]; simpa using h1
  have j2 : j < ys.length := by rw [l2]; simpa using h2
  obtain ⟨u, e1, r1⟩ := rx.get (List.getElem?_eq_getElem j1)
  obtain ⟨v, e2, r2⟩ := ry.get (List.getElem?_eq_getElem j2)
  have f1 : us.toArray[j] = u := by
    have q : us[j]? = some (us[j]'(by simpa using h1)) := List.getElem?_eq_getElem _
    rw [e1] at q
    simpa using (Option.some.inj q).symm
  have f2 : vs.toArray[j] = v := by
    have q : vs[j]? = some (vs[j]'(by simpa using h2)) := List.getElem?_eq_getElem _
    rw [e2] at q
    simpa using (Option.some.inj q).symm
  rw [f1, f2]
  exact h j _ _ (List.getElem?_eq_getElem j1) (List.getElem?_eq_getElem j2) u v r1 r2
theorem all_true {n : Nat} : ((List.range n).all fun _ => true) = true := by
  induction n with
  | zero => rfl
  | succ n ih => simp
theorem sm_at (I : Inv X pins σ H s) : ∀ {n : Nat} {x y : V} {u v : Value} {A : Around}, Sm X.K H n x y → RelV x u → RelV y v → A.units + n < cLine → SeqAt.EqAt A s u v true := by
  intro n x y u v A h
  induction h generalizing u v A with
  | rf x hf =>
    intro r1 r2 _
    cases x with
    | non => cases r1; cases r2; exact .same _
    | bl b => cases r1; cases r2; exact .same _
    | int i =>
      obtain ⟨t, rfl⟩ := r1
      obtain ⟨t', rfl⟩ := r2
      have q := SeqAt.EqAt.int_int (A := A) (s := s) i t i t'
      rw [beq_self_eq_true] at q
      exact q
    | str z =>
      obtain ⟨t, rfl⟩ := r1
      obtain ⟨t', rfl⟩ := r2
      have q := SeqAt.EqAt.str_str (A := A) (s := s) z t z t'
      rw [beq_self_eq_true] at q
      exact q
    | byt b =>
      obtain ⟨t, rfl⟩ := (show ∃ t, u = Value.bytes b t from r1)
      obtain ⟨t', rfl⟩ := (show ∃ t, v = Value.bytes b t from r2)
      exact fun prog w E Q h => PySem.W.eqBool_bytes (by simpa using h)
    | flt b => exact absurd rfl (hf b)
    | ref a => cases r1; cases r2; exact .same _
    | ty n => cases r1; cases r2; exact .same _
  | @ls n a b xs ys h1 h2 hl _ ih =>
    intro r1 r2 hu
    cases r1; cases r2
    by_cases e : a = b
    · rw [e]; exact .same _
    · obtain ⟨us, ru, ⟨o, m, ho, hc, _, hd⟩, _⟩ := I.list h1
      obtain ⟨vs, rv, ⟨o', m', ho', hc', _, hd'⟩, _⟩ := I.list h2
      have hs : us.toArray.size = vs.toArray.size := by simp only [List.size_toArray]; rw [← ru.length, ← rv.length, hl]
      refine .of_refs e ?_
      have q := SeqAt.RcAt.lists (A := A) (s := s) (e := fun _ => true) ⟨o, ho, hc, m, hd⟩ ⟨o', ho', hc', m', hd'⟩ hs (by omega) (sm_items (A := A.in1) ru rv fun i x y e1 e2 u v s1 s2 => ih i x y e1 e2 s1 s2 (by show A.units + 1 + n < cLine; omega))
      rw [all_true] at q
      exact q
  | @tp n a b xs ys h1 h2 hl _ ih =>
    intro r1 r2 hu
    cases r1; cases r2
    by_cases e : a = b
    · rw [e]; exact .same _
    · obtain ⟨us, ru, ⟨o, ho, hc, m, hd⟩, _⟩ := I.tuple h1
      obtain ⟨vs, rv, ⟨o', ho', hc', m', hd'⟩, _⟩ := I.tuple h2
      have hs : us.toArray.size = vs.toArray.size := by simp only [List.size_toArray]; rw [← ru.length, ← rv.length, hl]
      refine .of_refs e ?_
      have q := SeqAt.RcAt.tuples (A := A) (s := s) (e := fun _ => true) ⟨o, ho, hc, m, hd⟩ ⟨o', ho', hc', m', hd'⟩ (by omega) (sm_items (A := A.in1) ru rv fun i x y e1 e2 u v s1 s2 => ih i x y e1 e2 s1 s2 (by show A.units + 1 + n < cLine; omega))
      rw [all_true, hs, beq_self_eq_true] at q
      exact q
/-- what may stand on both sides of a comparison that is told equal -/
inductive SmT (K : PySem.W.Frag) (H : Hp) : V → V → Prop
  | sc (x : V) (h : scal x x = true) : SmT K H x x
  | ls {a b : Addr} {xs ys : List V} (h1 : SqL K H a xs) (h2 : SqL K H b ys) (hl : xs.length = ys.length) (h : ∀ (i : Nat) x y, xs[i]? = some x → ys[i]? = some y → Sm K H 60 x y) : SmT K H (.ref a) (.ref b)
  | tp {a b : Addr} {xs ys : List V} (h1 : SqT K H a xs) (h2 : SqT K H b ys) (hl : xs.length = ys.length) (h : ∀ (i : Nat) x y, xs[i]? = some x → ys[i]? = some y → Sm K H 60 x y) : SmT K H (.ref a) (.ref b)
  | dk {a b : Addr} {kvs : List (Key × V)} (h1 : H a = some (.dK kvs)) (h2 : H b = some (.dK kvs)) (nd : (kvs.map (·.1)).Nodup) (fl : ∀ p ∈ kvs, flatB p.2 = true) : SmT K H (.ref a) (.ref b)
theorem op_neS (hu : X.A.units + 64 < cLine) : OpR X (compareOp .NotEq) (fun x y H Q => SmT X.K H x y ∧ Q (.bl false) H) := by
  intro pins s σ H x y v u Q I rx ry ⟨h, q⟩
  cases h with
  | sc x h => exact op_ne pins s σ H x x v u Q I rx ry ⟨h, by rw [decide_eq_true rfl]; exact q⟩
  | ls h1 h2 hl h =>
    cases rx; cases ry
    obtain ⟨us, ru, ⟨o, m, ho, hc, _, hd⟩, _⟩ := I.list h1
    obtain ⟨vs, rv, ⟨o', m', ho', hc', _, hd'⟩, _⟩ := I.list h2
    have hs : us.toArray.size = vs.toArray.size := by simp only [List.size_toArray]; rw [← ru.length, ← rv.length, hl]
    have z := SeqAt.RcNeAt.lists (A := X.A) (s := s) (e := fun _ => true) ⟨o, ho, hc, m, hd⟩ ⟨o', ho', hc', m', hd'⟩ hs (by omega) (sm_items (A := X.A.in1) ru rv fun i x y e1 e2 u v s1 s2 => sm_at I (h i x y e1 e2) s1 s2 (by show X.A.units + 1 + 60 < cLine; omega))
    rw [all_true] at z
    exact z X.prog X.w _ _ ⟨.bl false, H, I, rfl, q⟩
  | tp h1 h2 hl h =>
    cases rx; cases ry
    obtain ⟨us, ru, ⟨o, ho, hc, m, hd⟩, _⟩ := I.tuple h1
    obtain ⟨vs, rv, ⟨o', ho', hc', m', hd'⟩, _⟩ := I.tuple h2
    have hs : us.toArray.size = vs.toArray.size := by simp only [List.size_toArray]; rw [← ru.length, ← rv.length, hl]
    have z := SeqAt.RcNeAt.tuples (A := X.A) (s := s) (e := fun _ => true) ⟨o, ho, hc, m, hd⟩ ⟨o', ho', hc', m', hd'⟩ (by omega) (sm_items (A := X.A.in1) ru rv fun i x y e1 e2 u v s1 s2 => sm_at I (h i x y e1 e2) s1 s2 (by show X.A.units + 1 + 60 < cLine; omega))
    rw [all_true, hs, beq_self_eq_true] at z
    exact z X.prog X.w _ _ ⟨.bl false, H, I, rfl, q⟩
  | @dk a b kvs h1 h2 nd fl =>
    cases rx; cases ry
    obtain ⟨_, ya, va, ra, da⟩ := (show ObjOk X.prog X.w H s.heap a (.dK kvs) from I.hok a _ h1)
    obtain ⟨_, yb, vb, rb, db⟩ := (show ObjOk X.prog X.w H s.heap b (.dK kvs) from I.hok b _ h2)
    have hl : va.length = vb.length := ra.length.symm.trans rb.length
    exact PySem.W.keq_ne (knd := mixKind X.prog X.w) (r := true) ya yb da db (by omega) (fun _ => hits_all rb ra fun p hp => ⟨val_nodup nd p hp, fl p hp⟩) (fin_bl I q (by simp [hl]))
theorem op_eqS (hu : X.A.units + 64 < cLine) : OpR X (compareOp .Eq) (fun x y H Q => SmT X.K H x y ∧ Q (.bl true) H) := by
  intro pins s σ H x y v u Q I rx ry ⟨h, q⟩
  cases h with
  | sc x h => exact op_eq pins s σ H x x v u Q I rx ry ⟨h, by rw [decide_eq_true rfl]; exact q⟩
  | ls h1 h2 hl h =>
    cases rx; cases ry
    obtain ⟨us, ru, ⟨o, m, ho, hc, _, hd⟩, _⟩ := I.list h1
    obtain ⟨vs, rv, ⟨o', m', ho', hc', _, hd'⟩, _⟩ := I.list h2
    have hs : us.toArray.size = vs.toArray.size := by simp only [List.size_toArray]; rw [← ru.length, ← rv.length, hl]
    have z := SeqAt.RcAt.lists (A := X.A) (s := s) (e := fun _ => true) ⟨o, ho, hc, m, hd⟩ ⟨o', ho', hc', m', hd'⟩ hs (by omega) (sm_items (A := X.A.in1) ru rv fun i x y e1 e2 u v s1 s2 => sm_at I (h i x y e1 e2) s1 s2 (by show X.A.units + 1 + 60 < cLine; omega))
    rw [all_true] at z
    exact z X.prog X.w _ _ ⟨.bl true, H, I, rfl, q⟩
  | tp h1 h2 hl h =>
    cases rx; cases ry
    obtain ⟨us, ru, ⟨o, ho, hc, m, hd⟩, _⟩ := I.tuple h1
    obtain ⟨vs, rv, ⟨o', ho', hc', m', hd'⟩, _⟩ := I.tuple h2
    have hs : us.toArray.size = vs.toArray.size := by simp only [List.size_toArray]; rw [← ru.length, ← rv.length, hl]
    have z := SeqAt.RcAt.tuples (A := X.A) (s := s) (e := fun _ => true) ⟨o, ho, hc, m, hd⟩ ⟨o', ho', hc', m', hd'⟩ (by omega) (sm_items (A := X.A.in1) ru rv fun i x y e1 e2 u v s1 s2 => sm_at I (h i x y e1 e2) s1 s2 (by show X.A.units + 1 + 60 < cLine; omega))
    rw [all_true, hs, beq_self_eq_true] at z
    exact z X.prog X.w _ _ ⟨.bl true, H, I, rfl, q⟩
  | @dk a b kvs h1 h2 nd fl =>
    exact op_eq_dict (by omega) pins s σ H _ _ v u Q I rx ry ⟨a, b, kvs, rfl, rfl, h1, h2, nd, fl, q⟩
/-- isinstance(e, c), e an error that is held as a value -/
def rIsErr (K : PySem.W.Frag) : List V → Hp → VK → Prop := fun xs H Q => ∃ (a C : Addr) (d : Option Addr) (fs : List (Str × V)) (c : V) (u : Value) (b : Bool), xs = [.ref a, c] ∧ H a = some (exo a C d) ∧ (∀ dd, d = some dd → H dd = some (exd dd fs)) ∧ ExcC K C ∧ ClsV c u ∧ PySem.W.kitOne K (.ref C) u = some b ∧ Q (.bl b) H
theorem call_isErr : CallR X (.builtin "isinstance") (rIsErr X.K) := by
  intro pins s σ H xs us Q I r h
  obtain ⟨a, C, d, fs, c, u, b, rfl, ea, ed, T, k, e, q⟩ := h
  obtain ⟨u1, u2, rfl, r1, r2⟩ := vals2 r
  have e2 := k.eq r2
  subst e2
  cases r1
  obtain ⟨t1, ha⟩ := exo_at I.hok ea
  have hcl : (PySem.W.clsIn X.K C).isSome = true := by
    obtain ⟨cd, hc, _⟩ := PySem.W.any_some T.hd
    rw [hc]
    rfl
  cases d with
  | none => exact PySem.W.kia_one (PySem.W.kitx_exc (od := none) hcl T.hg T.hk T.hs T.ha T.hn T.ht T.hm) I.kIn (show PySem.W.InstAt s.heap a _ C none from ⟨ha, rfl, rfl, trivial⟩) e (fun z => nomatch z) fun tk => ⟨.bl b, H, I.tok tk, rfl, q⟩
  | some dd =>
    obtain ⟨mA, ⟨od, es, ep, ho, hr⟩, _⟩ := exd_at I.hok (ed dd rfl)
    exact PySem.W.kia_one (PySem.W.kitx_exc (od := some od) hcl T.hg T.hk T.hs T.ha T.hn T.ht T.hm) I.kIn (show PySem.W.InstAt s.heap a _ C (some od) from ⟨ha, rfl, rfl, ho⟩) e (fun z => nomatch z) fun tk => ⟨.bl b, H, I.tok tk, rfl, q⟩
end
end L2

set_option Elab.async false
set_option linter.all false
set_option maxRecDepth 100000
set_option maxHeartbeats 4000000
namespace T36
open PySem L2
def top (i : Nat) : Stmt := PySem.Challenge.pw_turnindex_k36_runs_of_rows.main.body.getD i (.Pass ⟨0, 0, 0, 0⟩)
abbrev sIsText : Stmt := top 7
abbrev sIsRow : Stmt := top 8
abbrev sCkText : Stmt := top 9
abbrev sCkRow : Stmt := top 10
abbrev sRuns : Stmt := top 12
abbrev sRingRuns : Stmt := top 13
abbrev sUrn : Stmt := top 15
abbrev sPull : Stmt := top 16
abbrev sPick : Stmt := top 17
abbrev sText : Stmt := top 18
abbrev sLine : Stmt := top 19
abbrev sRowRight : Stmt := top 20
abbrev sWordRight : Stmt := top 21
abbrev sLaw : Stmt := top 22
/-- an urn of draws: its own digits left, its number, how often it was asked -/
def UrnAt (H : Hp) (a : Addr) (n : Int) : Prop := ∃ w0 w1 w2 : Int, H a = some (.lst [.int w0, .int w1, .int w2]) ∧ 0 ≤ w1 ∧ w1 < 2147483563 ∧ 0 ≤ w2 ∧ w2 ≤ n
def KeepB (a : Addr) (H H' : Hp) : Prop := ∀ b o, H b = some o → b ≠ a → H' b = some o
theorem KeepB.trans {a : Addr} {H H1 H2 : Hp} (s : KeepB a H H1) (t : KeepB a H1 H2) : KeepB a H H2 := fun b o e n => t b o (s b o e n) n
def spUrn : Sp := fun vs H Q _ => ∃ c : Int, vs = [.int c] ∧ ∀ p H', H p = none → UrnAt H' p 0 → Same H H' → Q (.ref p) H'
def spPull : Sp := fun vs H Q _ => ∃ (a : Addr) (m n : Int), vs = [.ref a, .int m] ∧ UrnAt H a n ∧ n ≤ 1000000 ∧ 0 < m ∧ m < 1073741824 ∧ ∀ (d : Int) H', 0 ≤ d → d < m → UrnAt H' a (n + 1) → KeepB a H H' → Q (.int d) H'
structure TxtU (K : PySem.W.Frag) (mg : Str → Option Value) : Prop where
  int : mg "int" = none
  abs : mg "abs" = none
section
variable {P : Program} {w : World} {K : PySem.W.Frag} {mg : Str → Option Value} {base : Heap}
theorem scUrn : FnScope ["_law_cell"] ["_law_cell"] (defScope sUrn) := ⟨rfl, rfl, rfl, by decide +kernel, rfl, by decide +kernel, by decide +kernel⟩
theorem ok_urn {f : Addr} {fd : FuncData} (F : Fun K "_law_urn" "_law_urn" sUrn f fd) (T : TxtU K mg) : FnOk P w K mg base CX0 1 f fd ["_law_cell"] spUrn := by
  refine F.ok scUrn (fun vs H Q E h => ?_) (fun cdv A outer s H vs Q E hr h => ?_)
  · obtain ⟨c, rfl, _⟩ := h
    rfl
  · obtain ⟨c, rfl, k⟩ := h
    refine ⟨_, (pss_one (ps_ret (pe_lst (pa_cons (pe_ifExp (pt_cmpR op_ge (pe_callB call_abs (by rfl) T.abs (by decide +kernel) (pa_cons (pv 0) pa_nil)) (pe_op op_pow pe_int pe_int) (nomark _)) (pe_callB call_abs (by rfl) T.abs (by decide +kernel) (pa_cons (pv 0) pa_nil)) pe_int) (pa_cons (pe_op op_mod (pe_callTy call_int1 (by rfl) T.int (by decide +kernel) (pa_cons (pv 0) pa_nil)) pe_int) (pa_cons pe_int pa_nil)))))), ?_⟩
    refine ⟨_, rfl, _, rfl, _, _, rfl, rfl, ⟨by decide, by decide, by decide⟩, _, _, rfl, rfl, _, rfl, ?_⟩
    have fin : ∀ w0 : Int, ∃ v, (some (some (V.int c)) : Option (Option V)) = some (some v) ∧ ((∃ i, [v] = [V.int i] ∧ ∃ i_1 j, V.int i = .int i_1 ∧ V.int 2147483563 = .int j ∧ 0 < j ∧ [V.int w0, .int (i_1 % j), .int 0].length ≤ sizeLine ∧ ∀ p, H p = none → Q (.ref p) (upd H p (.lst [V.int w0, .int (i_1 % j), .int 0])))) := fun w0 =>
      ⟨_, rfl, _, rfl, _, _, rfl, rfl, (by decide), (by show 3 ≤ sizeLine; decide), fun p hp => k p _ hp ⟨_, _, _, upd_same, Int.emod_nonneg _ (by decide), Int.emod_lt_of_pos _ (by decide), by decide, by decide⟩ fun b o e => by rw [upd_ne (ne_of_none e hp)]; exact e⟩
    refine ite2 (fun h0 => ?_) (fun h0 => ?_)
    · refine ⟨_, rfl, _, rfl, ?_⟩
      obtain ⟨v, e, i, ev, i1, j, e1, e2, h1, h2, h3⟩ := fin (if c < 0 then -c else c)
      exact ⟨_, rfl, .inl ⟨_, rfl, _, _, rfl, rfl, (by show (0 : Int) < 2147483563; decide), (by show 3 ≤ sizeLine; decide), fun p hp => k p _ hp ⟨_, _, _, upd_same, Int.emod_nonneg _ (by decide), Int.emod_lt_of_pos _ (by decide), by decide, by decide⟩ fun b o e => by rw [upd_ne (ne_of_none e hp)]; exact e⟩⟩
    · exact ⟨_, rfl, .inl ⟨_, rfl, _, _, rfl, rfl, (by show (0 : Int) < 2147483563; decide), (by show 3 ≤ sizeLine; decide), fun p hp => k p _ hp ⟨_, _, _, upd_same, Int.emod_nonneg _ (by decide), Int.emod_lt_of_pos _ (by decide), by decide, by decide⟩ fun b o e => by rw [upd_ne (ne_of_none e hp)]; exact e⟩⟩
theorem scPull : FnScope ["_law_urn_here", "_law_many", "_law_found", "_law_mixed"] ["_law_urn_here", "_law_many"] (defScope sPull) := ⟨rfl, rfl, rfl, by decide +kernel, rfl, by decide +kernel, by decide +kernel⟩
theorem ok_pull {f : Addr} {fd : FuncData} (F : Fun K "_law_pull" "_law_pull" sPull f fd) (T : TxtU K mg) : FnOk P w K mg base CX0 1 f fd ["_law_urn_here", "_law_many"] spPull := by
  refine F.ok scPull (fun vs H Q E h => ?_) (fun cdv A outer s H vs Q E hr h => ?_)
  · obtain ⟨a, m, n, rfl, _⟩ := h
    rfl
  · obtain ⟨a, m, n, rfl, ⟨w0, w1, w2, ha, h1, h2, h3, h4⟩, hn, hm, hm2, k⟩ := h
    have nd := scPull.nd
    refine ⟨_, (pss_cons (ps_if (pt_cmpR op_gt (pe_ix ix_list (pv 0) pe_int (fun _ _ => rfl)) pe_int (nomark _)) (pss_cons (ps_set (i := 2) nd rfl (Or.inl rfl) (pe_op op_mod (pe_callTy call_int1 (by rfl) T.int (by decide +kernel) (pa_cons (pe_ix ix_list (pv 0) pe_int (fun _ _ => rfl)) pa_nil)) (pv 1)))
      (pss_cons (ps_asg (pe_op op_fdiv (pe_ix ix_list (pv 0) pe_int (fun _ _ => rfl)) (pv 1)) (pg_sub (pv 0) pe_int set_list))
      (pss_one (ps_ret (pv 2))))) pss_nil)
      (pss_cons (ps_asg (pe_op op_add (pe_ix ix_list (pv 0) pe_int (fun _ _ => rfl)) pe_int) (pg_sub (pv 0) pe_int set_list))
      (pss_cons (ps_set (i := 3) nd rfl (Or.inl rfl) (pe_op op_mod (pe_callTy call_int1 (by rfl) T.int (by decide +kernel) (pa_cons (pe_op op_add (pe_op op_add (pe_op op_mul (pe_ix ix_list (pv 0) pe_int (fun _ _ => rfl)) pe_int) (pe_op op_mul (pe_ix ix_list (pv 0) pe_int (fun _ _ => rfl)) pe_int)) pe_int) pa_nil)) pe_int))
      (pss_cons (ps_set (i := 3) nd rfl (Or.inl rfl) (pe_op op_mod (pe_callTy call_int1 (by rfl) T.int (by decide +kernel) (pa_cons (pe_op op_mul (pv 3) (pe_op op_add (pe_op op_fdiv (pv 3) pe_int) pe_int)) pa_nil)) pe_int))
      (pss_cons (ps_set (i := 3) nd rfl (Or.inl rfl) (pe_op op_mod (pe_callTy call_int1 (by rfl) T.int (by decide +kernel) (pa_cons (pe_op op_mul (pv 3) (pe_op op_add (pe_op op_fdiv (pv 3) pe_int) pe_int)) pa_nil)) pe_int))
      (pss_one (ps_ret (pe_op op_mod (pe_callTy call_int1 (by rfl) T.int (by decide +kernel) (pa_cons (pe_op op_fdiv (pv 3) pe_int) pa_nil)) (pv 1))))))))), ?_⟩
    refine ⟨_, rfl, a, _, 0, _, rfl, rfl, .of ha, rfl, _, _, rfl, rfl, _, rfl, ?_⟩
    refine ite2 (fun h0 => ?_) (fun h0 => ?_)
    · refine ⟨_, rfl, a, _, 0, _, rfl, rfl, .of ha, rfl, .inl ⟨_, rfl, _, rfl, _, _, rfl, rfl, hm, ?_⟩⟩
      refine ⟨_, rfl, a, _, 0, _, rfl, rfl, .of ha, rfl, _, rfl, _, _, rfl, rfl, ⟨hm, hm2⟩, _, rfl, a, _, 0, 0, rfl, rfl, ha, rfl, _, rfl, ?_⟩
      refine k _ _ (Int.emod_nonneg _ (by omega)) (Int.emod_lt_of_pos _ hm) ⟨_, _, _, upd_same, h1, h2, h3, by omega⟩ fun b o e n => ?_
      rw [upd_ne n]
      exact e
    · refine ⟨_, rfl, a, _, 2, _, rfl, rfl, .of ha, rfl, _, _, rfl, rfl, _, rfl, a, _, 2, 2, rfl, rfl, ha, rfl, ?_⟩
      have ha2 : (upd H a (.lst ([V.int w0, V.int w1, V.int w2].set 2 (V.int (w2 + 1))))) a = some (.lst [.int w0, .int w1, .int (w2 + 1)]) := upd_same
      refine ⟨_, rfl, a, _, 1, _, rfl, rfl, .of ha2, rfl, _, _, rfl, rfl, .inl ⟨by omega, by omega⟩, _, rfl, a, _, 2, _, rfl, rfl, .of ha2, rfl, _, _, rfl, rfl, .inl ⟨by omega, by omega⟩, _, _, rfl, rfl, _, _, rfl, rfl, .inl ⟨_, rfl, _, _, rfl, rfl, (by show (0 : Int) < 2147483647; decide), ?_⟩⟩
      have g0 := Int.emod_nonneg (w1 * 48619 + (w2 + 1) * 999979 + 60611) (show (2147483647 : Int) ≠ 0 by decide)
      have g1 := Int.emod_lt_of_pos (w1 * 48619 + (w2 + 1) * 999979 + 60611) (show (0 : Int) < 2147483647 by decide)
      generalize (w1 * 48619 + (w2 + 1) * 999979 + 60611) % 2147483647 = x1 at g0 g1
      refine ⟨_, rfl, _, rfl, _, _, rfl, rfl, ⟨by decide, by decide⟩, _, _, rfl, rfl, _, _, rfl, rfl, .inl ⟨by omega, by omega⟩, .inl ⟨_, rfl, _, _, rfl, rfl, (by show (0 : Int) < 2147483629; decide), ?_⟩⟩
      have g2 := Int.emod_nonneg (x1 * (x1 / 1021 + 52081)) (show (2147483629 : Int) ≠ 0 by decide)
      have g3 := Int.emod_lt_of_pos (x1 * (x1 / 1021 + 52081)) (show (0 : Int) < 2147483629 by decide)
      refine ⟨_, rfl, _, rfl, _, _, rfl, rfl, ⟨by decide, by decide⟩, _, _, rfl, rfl, _, _, rfl, rfl, .inl ⟨by omega, by omega⟩, .inl ⟨_, rfl, _, _, rfl, rfl, (by show (0 : Int) < 2147483563; decide), ?_⟩⟩
      refine ⟨_, rfl, _, _, rfl, rfl, ⟨by decide, by decide⟩, .inl ⟨_, rfl, _, rfl, _, _, rfl, rfl, hm, ?_⟩⟩
      refine k _ _ (Int.emod_nonneg _ (by omega)) (Int.emod_lt_of_pos _ hm) ⟨_, _, _, ha2, h1, h2, by omega, by omega⟩ fun b o e n => ?_
      rw [upd_ne n]
      exact e
end
end T36

set_option Elab.async false
set_option linter.all false
set_option maxRecDepth 100000
set_option maxHeartbeats 4000000
namespace L2
open PySem EK
theorem alloc {H : Hp} {p : Addr} {o : HO} (hp : H p = none) : ∃ H1, upd H p o = H1 ∧ Same H H1 ∧ H1 p = some o :=
  ⟨_, rfl, fun b u e => by rw [upd_ne (ne_of_none e hp)]; exact e, upd_same⟩
/-- an error of the class at C stands at a, its one value v -/
def ErrAt (H : Hp) (a d C : Addr) (f : Str) (v : V) : Prop := H a = some (exo a C (some d)) ∧ H d = some (exd d [(f, v)])
theorem ErrAt.keep {H H' : Hp} {a d C : Addr} {f : Str} {v : V} (e : ErrAt H a d C f v) (s : Same H H') : ErrAt H' a d C f v := ⟨s _ _ e.1, s _ _ e.2⟩
theorem alloc_err {H : Hp} {a d C : Addr} {f : Str} {v : V} (ha : H a = none) (hd : H d = none) (hne : d ≠ a) : ∃ H1, upd (upd H d (exd d [(f, v)])) a (exo a C (some d)) = H1 ∧ Same H H1 ∧ ErrAt H1 a d C f v :=
  ⟨_, rfl, fun b u e => by rw [upd_ne (ne_of_none e ha), upd_ne (ne_of_none e hd)]; exact e, upd_same, by rw [upd_ne hne, upd_same]⟩
theorem look1 (f : Str) (v : V) : List.lookup f [(f, v)] = some v := by rw [lookup_put, if_pos rfl]
theorem _root_.EK.ErrTxt.xf {P : Program} {K : PySem.W.Frag} {mg : Str → Option Value} {x f : Str} {C fI : Addr} (T : ErrTxt P K mg x f C fI) : XfC K C := ⟨T.ga, T.gg, T.exC, T.hdC⟩
end L2

set_option Elab.async false
set_option linter.all false
set_option maxRecDepth 100000
set_option maxHeartbeats 4000000
/-! SetTup: len(set(t)), t a tuple of texts. -/
namespace L2
open PySem PySem.Spec PyProof.Rows
/-- the unlike ones, in the order of their first -/
def ddS (l : List Str) : List Str := l.foldl (fun acc x => if x ∈ acc then acc else acc ++ [x]) []
theorem ddS_snoc (l : List Str) (x : Str) : ddS (l ++ [x]) = if x ∈ ddS l then ddS l else ddS l ++ [x] := by
  unfold ddS
  rw [List.foldl_append]
  rfl
theorem ddS_mem (l : List Str) (y : Str) : y ∈ ddS l ↔ y ∈ l := by
  have gen : ∀ (m acc : List Str), y ∈ m.foldl (fun acc x => if x ∈ acc then acc else acc ++ [x]) acc ↔ y ∈ acc ∨ y ∈ m := by
    intro m
    induction m with
    | nil => intro acc; simp
    | cons a m ih =>
      intro acc
      rw [List.foldl_cons, ih]
      by_cases h : a ∈ acc
      · rw [if_pos h]
        constructor
        · rintro (q | q)
          · exact .inl q
          · exact .inr (List.mem_cons_of_mem _ q)
        · rintro (q | q)
          · exact .inl q
          · rcases List.mem_cons.mp q with q | q
            · exact .inl (q ▸ h)
            · exact .inr q
      · rw [if_neg h, List.mem_append, List.mem_singleton, List.mem_cons]
        constructor
        · rintro ((q | q) | q)
          · exact .inl q
          · exact .inr (.inl q)
          · exact .inr (.inr q)
        · rintro (q | q | q)
          · exact .inl (.inl q)
          · exact .inl (.inr q)
          · exact .inr q
  have := gen l []
  simpa [ddS] using this
theorem ddS_len (l : List Str) : (ddS l).length ≤ l.length := by
  have gen : ∀ (m acc : List Str), (m.foldl (fun acc x => if x ∈ acc then acc else acc ++ [x]) acc).length ≤ acc.length + m.length := by
    intro m
    induction m with
    | nil => intro acc; exact Nat.le_refl _
    | cons a m ih =>
      intro acc
      rw [List.foldl_cons]
      refine Nat.le_trans (ih _) ?_
      split
      · rw [List.length_cons]; omega
      · rw [List.length_append, List.length_singleton, List.length_cons]; omega
  have := gen l []
  simpa [ddS] using this
section
variable {pr : Program} {w : World} {B : Around} {RR : Result → Shared → Prop} {it : Addr} {fq ww : List Addr} {GG : Array GenState → Array GenState → Prop} {m : Nat} {PP : Nat → Value → Prop} {TT : Nat → Shared → Prop}
theorem loop_texts (U : WalksS pr w B.in1 it fq ww GG m PP TT) (so : Addr) (hso : so ∉ fq) (ys : List Str) (hys : ys.length = m) (few : m < 64) (hv : ∀ i v, PP i v → ∃ t, v = .str (ys.getD i Str.empty) t) :
    ∀ (left i : Nat) (s : Shared), m - i = left → i ≤ m → TT i s → s.heap.SetOf (strKind pr w) so (fun q => decide (q ∈ ys.take i)) (ddS (ys.take i)).length →
      (∀ s', Moved (so :: ww) GG s s' → s'.heap.SetOf (strKind pr w) so (fun q => decide (q ∈ ys)) (ddS ys).length → RR (.ok (.ret .none)) s') →
      codeAny (model pr w) B (.builtin "set.update.loop" ⟨[.ref so, .ref it], []⟩) RR s := by
  have now : so ∉ ww := fun h => hso (U.sub _ h)
  have sub2 : ∀ b ∈ ww, b ∈ so :: ww := fun b hb => List.mem_cons_of_mem _ hb
  intro left
  induction left with
  | zero =>
    intro i s hl hi ht hS hR
    obtain rfl : i = m := by omega
    rw [← hys, List.take_length] at hS
    refine codeAny_builtin F.entry_set_update_loop ?_
    rw [Around.under_plainId F.plain_set_update_loop _]
    refine wpAny_bind (U.done s _ _ ht fun s' mv => ?_)
    obtain ⟨o, es, ep, tb, ho, rest⟩ := hS
    exact wpAny_pure (hR s' (mv.mono sub2) ⟨o, es, ep, tb, mv.heap so _ now ho, rest⟩)
  | succ left ih =>
    intro i s hl hi ht hS hR
    have him : i < m := by omega
    refine codeAny_builtin F.entry_set_update_loop ?_
    rw [Around.under_plainId F.plain_set_update_loop _]
    refine wpAny_bind (U.item i s _ _ him ht fun v s' hP ht' mv => ?_)
    obtain ⟨t, rfl⟩ := hv i v hP
    have hS' : s'.heap.SetOf (strKind pr w) so (fun q => decide (q ∈ ys.take i)) (ddS (ys.take i)).length := by
      obtain ⟨o, es, ep, tb, ho, rest⟩ := hS
      exact ⟨o, es, ep, tb, mv.heap so _ now ho, rest⟩
    have hlen := ddS_len (ys.take i)
    rw [List.length_take] at hlen
    refine wpAny_bind (wpAny_holding ?_)
    unfold setAdd
    refine wpAny_holding ?_
    refine wpAny_bind ((strKind pr w).pyHash (k := ys.getD i Str.empty) (strKind_is _ _ _ _) ?_)
    refine wpAny_setAddHashed_of (knd := strKind pr w) (s := { s' with toks := s'.toks + 1 }) (strKind_is _ _ _ _) rfl hS' (by unfold scanBound; omega) fun h' sb hS2 => ?_
    have ey : ys.take (i + 1) = ys.take i ++ [ys.getD i Str.empty] := by
      rw [List.take_succ, List.getD_eq_getElem?_getD, List.getElem?_eq_getElem (by omega)]
      rfl
    have hS3 : h'.SetOf (strKind pr w) so (fun q => decide (q ∈ ys.take (i + 1))) (ddS (ys.take (i + 1))).length := by
      rw [ey]
      refine SetOf_congr hS2 (fun q => ?_) ?_
      · by_cases h1 : q ∈ ys.take i
        · simp [h1]
        · simp [h1]
      · rw [ddS_snoc]
        by_cases h1 : ys.getD i Str.empty ∈ ys.take i
        · rw [if_pos ((ddS_mem _ _).mpr h1), if_pos (by simpa using h1)]
        · rw [if_neg (fun z => h1 ((ddS_mem _ _).mp z)), if_neg (by simpa using h1), List.length_append]
          rfl
    refine wpAny_pure ⟨plainId_quiet F.plain_set_update_loop _, ih (i + 1) _ (by omega) him (U.frame _ s' _ _ ht' (Nat.le_succ _) fun b hb o e => ?_) hS3 fun s2 mv2 hS4 => ?_⟩
    · rw [sb.2 b (fun z : b = so => hso (by rw [← z]; exact hb))]
      exact e
    · refine hR s2 (Moved.trans U.gtrans ((mv.mono sub2).then_heap (Nat.le_succ _) fun b o hb e => ?_) mv2) hS4
      rw [sb.2 b (fun z : b = so => hb (by rw [z]; exact List.mem_cons_self))]
      exact e
end
section
variable {pr : Program} {w : World} {B : Around} {EE : Value → Shared → Prop} {s : Shared}
abbrev setOb (led : Bool) : Obj := { cls := .type "set", dict := none, data := .set #[] 0 (.fresh 0 0 led) }
theorem call_set_texts {tu : Addr} {its : Array Value} {ys : List Str} {QQ : Value → Shared → Prop} (hd : B.handled = none) (ht : s.heap.IsTuple tu its) (hy : StrsAre its.toList ys) (few : ys.length < 64)
    (fin : ∀ (h' : Heap) (tk : Nat), h'.SetOf (strKind pr w) s.heap.objs.size (fun q => decide (q ∈ ys)) (ddS ys).length → (∀ b o, b < s.heap.objs.size → s.heap.get? b = some o → h'.get? b = some o) → QQ (.ref s.heap.objs.size) { s with heap := h', toks := tk }) :
    wpAny (model pr w) B (call (.type "set") [.ref tu]) QQ EE s := by
  obtain ⟨cc, tl, mro⟩ := F.called_set.mro
  have md := F.called_set.made
  have sb := F.called_set.sub
  refine wpAny_call (codeAny_of_tree ?_)
  show wpAny _ _ (callAny (.type "set") _) _ _ _
  refine wpAny_pure ⟨Code.quiet_builtin _ (by decide +kernel), codeAny_builtin F.entry_type_call ?_⟩
  rw [Around.under_plain (weight_type_call_type "set" [.ref tu] []) rfl]
  have q1 := F.called_set.notType
  have q2 := F.called_set.canCreate
  have q3 := F.typeCall_set_1 (.ref tu)
  repeat (any_goals (first | assumption | wp_step))
  refine codeAny_mono (code_set_new_1 (.ref tu) (E := EE) (Q₁ := fun ob s1 => ∃ led : Bool, ob = .ref s.heap.objs.size ∧ s1 = { s with heap := s.heap.push (setOb led) }) fun led => ⟨led, rfl, rfl⟩) fun r s1 hr => ?_
  cases r with
  | error e => exact hr
  | ok fl =>
    cases fl with
    | ret ob =>
      obtain ⟨led, rfl, rfl⟩ := hr
      have gS : (s.heap.push (setOb led)).get? s.heap.objs.size = some (setOb led) := Heap.get?_push_size _ rfl
      have tS : Shared.TypeIs { s with heap := s.heap.push (setOb led) } (.ref s.heap.objs.size) "set" := ⟨_, gS, rfl⟩
      have i1 := F.called_set.init.lookup
      have i2 := F.called_set.init.bind (.ref s.heap.objs.size)
      repeat (any_goals (first | assumption | wp_step))
      refine codeAny_mono (codeAny_call_builtin (R := wants (fun r s2 => r = .none ∧ ∃ h' tk, s2 = { s with heap := h', toks := tk } ∧ h'.SetOf (strKind pr w) s.heap.objs.size (fun q => decide (q ∈ ys)) (ddS ys).length ∧ (∀ b o, b < s.heap.objs.size → s.heap.get? b = some o → h'.get? b = some o)) EE) F.called_set.init.plain F.entry_set_init (check_set_init_1 tS ?_)) fun r2 s2 hr2 => ?_
      · obtain ⟨ot, got, ct, nt, dt⟩ := ht
        obtain ⟨otc, otd, otx, ots⟩ := ot
        simp only at ct dt
        subst ct
        subst dt
        have got2 : (s.heap.push (setOb led)).get? tu = some { cls := .type "tuple", dict := otd, data := .seq its nt, slots := ots } := Heap.get?_push_of_some _ got
        have u1 := F.sub_tuple_set
        have u2 := F.sub_tuple_frozenset
        have u3 : (Value.type "tuple" == Value.type "dict") = false := by decide
        have tup1 : (s.heap.push (setOb led)).IsTuple tu its := ⟨_, got2, rfl, nt, rfl⟩
        unfold Builtin.«set.__init__» noKeywords Builtin.Frozenset.updateFrom
        generalize hPI : pyIter = PI
        wp_walk
        subst hPI
        refine wpAny_pyIter_tuple tup1 ?_
        refine wpAny_bind (wpAny_runValue ?_)
        have lt1 : tu < s.heap.objs.size := Heap.lt_size got
        have hd3 : B.in1.in1.in1.handled = none := by simp [hd]
        have ne1 : tu ≠ (s.heap.push (setOb led)).objs.size := by
          rw [Heap.size_push]
          exact Nat.ne_of_lt (Nat.lt_succ_of_lt lt1)
        have so1 : s.heap.objs.size ∉ [(s.heap.push (setOb led)).objs.size, tu] := by
          rw [Heap.size_push]
          simp only [List.mem_cons, List.mem_singleton, List.not_mem_nil, or_false, not_or]
          exact ⟨Nat.ne_of_lt (Nat.lt_succ_self _), Nat.ne_of_gt lt1⟩
        have len1 : ys.length = its.size := by rw [← StrsAre.len_eq hy, Array.length_toList]
        refine loop_texts ((Walks.tuple hd3 _ tu ne1 its).toS) s.heap.objs.size so1 ys len1 (by omega) (fun i v e => SS.strs_at hy i v (by rw [Array.getElem?_toList]; exact e)) (its.size - 0) 0 _ (by omega) (Nat.zero_le _)
          ⟨⟨_, Heap.get?_push_size _ rfl, rfl, rfl⟩, tup1.push _⟩ ?start ?done
        case start =>
          have g2 : ((s.heap.push (setOb led)).push { cls := .type "tuple_iterator", data := .fields #[.ref tu, .int 0 0] }).get? s.heap.objs.size = some (setOb led) := Heap.get?_push_of_some _ gS
          exact SetOf_congr ((setObjOf_fresh (knd := strKind pr w) led).setOf g2 (by unfold scanBound; omega)) (fun q => by simp) rfl
        case done =>
          intro s' mv hS
          obtain ⟨h', g', d', tk', os'⟩ := s'
          have eg : g' = s.gens := mv.gens
          have ed : d' = s.drawn := mv.drawn
          have eo : os' = s.os := mv.os
          subst eg
          subst ed
          subst eo
          refine wpAny_pure ?_
          show wpAny _ _ (ret Value.none) _ _ _
          refine wpAny_pure ⟨rfl, h', tk', rfl, hS, fun b o hb e => ?_⟩
          have n1 : b ≠ s.heap.objs.size := Nat.ne_of_lt hb
          have n2 : b ≠ (s.heap.push (setOb led)).objs.size := by
            rw [Heap.size_push]
            exact Nat.ne_of_lt (Nat.lt_succ_of_lt hb)
          exact mv.heap b o (by simp only [List.mem_cons, List.mem_singleton, List.not_mem_nil, or_false, not_or]; exact ⟨n1, n2⟩) (Heap.get?_push_of_some _ (Heap.get?_push_of_some _ e))
      · cases r2 with
        | error e => exact hr2
        | ok fl2 =>
          cases fl2 with
          | ret r =>
            obtain ⟨rfl, h', tk, rfl, hS, hk⟩ := hr2
            repeat (any_goals (first | assumption | wp_step))
            exact fin _ _ hS hk
          | _ => exact hr2.elim
    | _ => exact hr.elim
end
section
variable {X : Cx}
def tLenSetT (K : PySem.W.Frag) (ta : TE) : TE := fun σ H Q => ta σ H fun x H1 => ∃ (l : Addr) (ys : List Str), x = V.ref l ∧ SqT K H1 l (ys.map V.str) ∧ ys.length < 64 ∧ Q (.int ((ddS ys).length : Nat)) H1
theorem pe_lenSetT {a : Expr} {ta : TE} {p p2 q pos : Pos} (hc : X.calm = true) (hg : Gl X "len") (hm : X.mg "len" = none) (hg2 : Gl X "set") (hm2 : X.mg "set" = none) (ha : PE X a ta)
    (na : starEach [a] X.env = (false, eval a X.env) :: starEach [] X.env := by rfl) : PE X (.Call (.Name "len" p) [.Call (.Name "set" p2) [a] [] q] [] pos) (tLenSetT X.K ta) := by
  refine ⟨fun pins s σ H Q I h => ?_⟩
  refine Call_ (ld_blt I hg hm boot_len ?_)
  refine callWith_builtin1 (args_cons ?_ rfl) rfl rfl
  refine Call_ (ld_blt I hg2 hm2 boot_set ?_)
  refine callWith_type1 (args_cons (thn (ha.run pins s σ H _ I h) fun v s1 ⟨x, H1, I1, r1, q1⟩ => args_nil ?_) na) na rfl
  obtain ⟨l, ys, rfl, hq, few, q1⟩ := q1
  cases r1
  obtain ⟨its, r, pl, hz⟩ := I1.tuple hq
  have small := ddS_len ys
  refine call_set_texts (I1.ok.hd hc) pl (ys := ys) (by simpa using strsAre_of r) few fun h' tk hS hk => ?_
  refine args_nil ?_
  obtain ⟨o, es, ep, t, ho, hex, hd, _, _, _, hf, hn⟩ := hS
  have I2 : Inv X pins σ H1 { s1 with heap := h', toks := tk } := I1.kept fun b o e => hk b o (Heap.lt_size e) e
  exact call_len_set ho hex hd hf (by rw [hn] <;> omega) ⟨.int ((ddS ys).length : Nat), H1, I2.tok _, ⟨_, by rw [hn]⟩, q1⟩
end
end L2

set_option Elab.async false
set_option linter.all false
set_option maxRecDepth 100000
set_option maxHeartbeats 4000000
/-! SetStr: len(set(z)), z a text. -/
namespace L2
open PySem PySem.Spec PyProof.Rows
def signsS (x : Str) : List Str := x.cps.toList.map fun c => ⟨#[c]⟩
section
variable {pr : Program} {w : World} {B : Around} {RR : Result → Shared → Prop} {it : Addr} {fq ww : List Addr} {GG : Array GenState → Array GenState → Prop} {m : Nat} {PP : Nat → Value → Prop} {TT : Nat → Shared → Prop}
theorem loop_signs (U : WalksS pr w B.in1 it fq ww GG m PP TT) (so : Addr) (hso : so ∉ fq) (ys : List Str) (hys : ys.length = m) (few : m < 4000) (hv : ∀ i v, PP i v → ∃ t, v = .str (ys.getD i Str.empty) t) :
    ∀ (left i : Nat) (s : Shared), m - i = left → i ≤ m → TT i s → s.heap.SetOf (strKind pr w) so (fun q => decide (q ∈ ys.take i)) (ddS (ys.take i)).length →
      (∀ s', Moved (so :: ww) GG s s' → s'.heap.SetOf (strKind pr w) so (fun q => decide (q ∈ ys)) (ddS ys).length → RR (.ok (.ret .none)) s') →
      codeAny (model pr w) B (.builtin "set.update.loop" ⟨[.ref so, .ref it], []⟩) RR s := by
  have now : so ∉ ww := fun h => hso (U.sub _ h)
  have sub2 : ∀ b ∈ ww, b ∈ so :: ww := fun b hb => List.mem_cons_of_mem _ hb
  intro left
  induction left with
  | zero =>
    intro i s hl hi ht hS hR
    obtain rfl : i = m := by omega
    rw [← hys, List.take_length] at hS
    refine codeAny_builtin F.entry_set_update_loop ?_
    rw [Around.under_plainId F.plain_set_update_loop _]
    refine wpAny_bind (U.done s _ _ ht fun s' mv => ?_)
    obtain ⟨o, es, ep, tb, ho, rest⟩ := hS
    exact wpAny_pure (hR s' (mv.mono sub2) ⟨o, es, ep, tb, mv.heap so _ now ho, rest⟩)
  | succ left ih =>
    intro i s hl hi ht hS hR
    have him : i < m := by omega
    refine codeAny_builtin F.entry_set_update_loop ?_
    rw [Around.under_plainId F.plain_set_update_loop _]
    refine wpAny_bind (U.item i s _ _ him ht fun v s' hP ht' mv => ?_)
    obtain ⟨t, rfl⟩ := hv i v hP
    have hS' : s'.heap.SetOf (strKind pr w) so (fun q => decide (q ∈ ys.take i)) (ddS (ys.take i)).length := by
      obtain ⟨o, es, ep, tb, ho, rest⟩ := hS
      exact ⟨o, es, ep, tb, mv.heap so _ now ho, rest⟩
    have hlen := ddS_len (ys.take i)
    rw [List.length_take] at hlen
    refine wpAny_bind (wpAny_holding ?_)
    unfold setAdd
    refine wpAny_holding ?_
    refine wpAny_bind ((strKind pr w).pyHash (k := ys.getD i Str.empty) (strKind_is _ _ _ _) ?_)
    refine wpAny_setAddHashed_of (knd := strKind pr w) (s := { s' with toks := s'.toks + 1 }) (strKind_is _ _ _ _) rfl hS' (by unfold scanBound; omega) fun h' sb hS2 => ?_
    have ey : ys.take (i + 1) = ys.take i ++ [ys.getD i Str.empty] := by
      rw [List.take_succ, List.getD_eq_getElem?_getD, List.getElem?_eq_getElem (by omega)]
      rfl
    have hS3 : h'.SetOf (strKind pr w) so (fun q => decide (q ∈ ys.take (i + 1))) (ddS (ys.take (i + 1))).length := by
      rw [ey]
      refine SetOf_congr hS2 (fun q => ?_) ?_
      · by_cases h1 : q ∈ ys.take i
        · simp [h1]
        · simp [h1]
      · rw [ddS_snoc]
        by_cases h1 : ys.getD i Str.empty ∈ ys.take i
        · rw [if_pos ((ddS_mem _ _).mpr h1), if_pos (by simpa using h1)]
        · rw [if_neg (fun z => h1 ((ddS_mem _ _).mp z)), if_neg (by simpa using h1), List.length_append]
          rfl
    refine wpAny_pure ⟨plainId_quiet F.plain_set_update_loop _, ih (i + 1) _ (by omega) him (U.frame _ s' _ _ ht' (Nat.le_succ _) fun b hb o e => ?_) hS3 fun s2 mv2 hS4 => ?_⟩
    · rw [sb.2 b (fun z : b = so => hso (by rw [← z]; exact hb))]
      exact e
    · refine hR s2 (Moved.trans U.gtrans ((mv.mono sub2).then_heap (Nat.le_succ _) fun b o hb e => ?_) mv2) hS4
      rw [sb.2 b (fun z : b = so => hb (by rw [z]; exact List.mem_cons_self))]
      exact e
end
section
variable {pr : Program} {w : World} {B : Around} {EE : Value → Shared → Prop} {s : Shared}
theorem call_set_sign {x : Str} {tx : Tok} {QQ : Value → Shared → Prop} (hd : B.handled = none) (few : x.cps.size < 4000)
    (fin : ∀ (h' : Heap) (tk : Nat), h'.SetOf (strKind pr w) s.heap.objs.size (fun q => decide (q ∈ signsS x)) (ddS (signsS x)).length → (∀ b o, b < s.heap.objs.size → s.heap.get? b = some o → h'.get? b = some o) → QQ (.ref s.heap.objs.size) { s with heap := h', toks := tk }) :
    wpAny (model pr w) B (call (.type "set") [.str x tx]) QQ EE s := by
  obtain ⟨cc, tl, mro⟩ := F.called_set.mro
  have md := F.called_set.made
  have sb := F.called_set.sub
  refine wpAny_call (codeAny_of_tree ?_)
  show wpAny _ _ (callAny (.type "set") _) _ _ _
  refine wpAny_pure ⟨Code.quiet_builtin _ (by decide +kernel), codeAny_builtin F.entry_type_call ?_⟩
  rw [Around.under_plain (weight_type_call_type "set" [.str x tx] []) rfl]
  have q1 := F.called_set.notType
  have q2 := F.called_set.canCreate
  have q3 := F.typeCall_set_1 (.str x tx)
  repeat (any_goals (first | assumption | wp_step))
  refine codeAny_mono (code_set_new_1 (.str x tx) (E := EE) (Q₁ := fun ob s1 => ∃ led : Bool, ob = .ref s.heap.objs.size ∧ s1 = { s with heap := s.heap.push (setOb led) }) fun led => ⟨led, rfl, rfl⟩) fun r s1 hr => ?_
  cases r with
  | error e => exact hr
  | ok fl =>
    cases fl with
    | ret ob =>
      obtain ⟨led, rfl, rfl⟩ := hr
      have gS : (s.heap.push (setOb led)).get? s.heap.objs.size = some (setOb led) := Heap.get?_push_size _ rfl
      have tS : Shared.TypeIs { s with heap := s.heap.push (setOb led) } (.ref s.heap.objs.size) "set" := ⟨_, gS, rfl⟩
      have i1 := F.called_set.init.lookup
      have i2 := F.called_set.init.bind (.ref s.heap.objs.size)
      repeat (any_goals (first | assumption | wp_step))
      refine codeAny_mono (codeAny_call_builtin (R := wants (fun r s2 => r = .none ∧ ∃ h' tk, s2 = { s with heap := h', toks := tk } ∧ h'.SetOf (strKind pr w) s.heap.objs.size (fun q => decide (q ∈ signsS x)) (ddS (signsS x)).length ∧ (∀ b o, b < s.heap.objs.size → s.heap.get? b = some o → h'.get? b = some o)) EE) F.called_set.init.plain F.entry_set_init (check_set_init_1 tS ?_)) fun r2 s2 hr2 => ?_
      · have u1 : (Value.type "str" == Value.type "dict") = false := by decide
        have u2 := F.sub_str_set
        have u3 := F.sub_str_frozenset
        unfold Builtin.«set.__init__» noKeywords Builtin.Frozenset.updateFrom
        generalize hPI : pyIter = PI
        wp_walk
        subst hPI
        refine wpAny_pyIter_str fun o St W st0 => ?_
        refine wpAny_bind (wpAny_runValue ?_)
        have hd3 : B.in1.in1.in1.handled = none := by simp [hd]
        have so1 : s.heap.objs.size ∉ [(s.heap.push (setOb led)).objs.size] := by
          rw [Heap.size_push]
          simp only [List.mem_cons, List.mem_singleton, List.not_mem_nil, or_false, not_or]
          exact Nat.ne_of_lt (Nat.lt_succ_self _)
        have len1 : (signsS x).length = x.cps.size := by rw [signsS, List.length_map, Array.length_toList]
        refine loop_signs ((W _ hd3).toS) s.heap.objs.size so1 (signsS x) len1 (by omega) (fun i v ⟨c, u, e1, e2⟩ => ⟨u, by rw [e2, signsS, List.getD_eq_getElem?_getD, List.getElem?_map, Array.getElem?_toList, e1]; rfl⟩) (x.cps.size - 0) 0 _ (by omega) (Nat.zero_le _)
          st0 ?start ?done
        case start =>
          have g2 : ((s.heap.push (setOb led)).push o).get? s.heap.objs.size = some (setOb led) := Heap.get?_push_of_some _ gS
          exact SetOf_congr ((setObjOf_fresh (knd := strKind pr w) led).setOf g2 (by unfold scanBound; omega)) (fun q => by simp) rfl
        case done =>
          intro s' mv hS
          obtain ⟨h', g', d', tk', os'⟩ := s'
          have eg : g' = s.gens := mv.gens
          have ed : d' = s.drawn := mv.drawn
          have eo : os' = s.os := mv.os
          subst eg
          subst ed
          subst eo
          refine wpAny_pure ?_
          show wpAny _ _ (ret Value.none) _ _ _
          refine wpAny_pure ⟨rfl, h', tk', rfl, hS, fun b o hb e => ?_⟩
          have n1 : b ≠ s.heap.objs.size := Nat.ne_of_lt hb
          have n2 : b ≠ (s.heap.push (setOb led)).objs.size := by
            rw [Heap.size_push]
            exact Nat.ne_of_lt (Nat.lt_succ_of_lt hb)
          exact mv.heap b o (by simp only [List.mem_cons, List.mem_singleton, List.not_mem_nil, or_false, not_or]; exact ⟨n1, n2⟩) (Heap.get?_push_of_some _ (Heap.get?_push_of_some _ e))
      · cases r2 with
        | error e => exact hr2
        | ok fl2 =>
          cases fl2 with
          | ret r =>
            obtain ⟨rfl, h', tk, rfl, hS, hk⟩ := hr2
            repeat (any_goals (first | assumption | wp_step))
            exact fin _ _ hS hk
          | _ => exact hr2.elim
    | _ => exact hr.elim
end
section
variable {X : Cx}
def tLenSetS (ta : TE) : TE := fun σ H Q => ta σ H fun x H1 => ∃ z : Str, x = V.str z ∧ z.cps.size < 4000 ∧ Q (.int ((ddS (signsS z)).length : Nat)) H1
theorem pe_lenSetS {a : Expr} {ta : TE} {p p2 q pos : Pos} (hc : X.calm = true) (hg : Gl X "len") (hm : X.mg "len" = none) (hg2 : Gl X "set") (hm2 : X.mg "set" = none) (ha : PE X a ta)
    (na : starEach [a] X.env = (false, eval a X.env) :: starEach [] X.env := by rfl) : PE X (.Call (.Name "len" p) [.Call (.Name "set" p2) [a] [] q] [] pos) (tLenSetS ta) := by
  refine ⟨fun pins s σ H Q I h => ?_⟩
  refine Call_ (ld_blt I hg hm boot_len ?_)
  refine callWith_builtin1 (args_cons ?_ rfl) rfl rfl
  refine Call_ (ld_blt I hg2 hm2 boot_set ?_)
  refine callWith_type1 (args_cons (thn (ha.run pins s σ H _ I h) fun v s1 ⟨x, H1, I1, r1, q1⟩ => args_nil ?_) na) na rfl
  obtain ⟨z, rfl, few, q1⟩ := q1
  obtain ⟨tk0, rfl⟩ := r1
  have small := ddS_len (signsS z)
  have sl : (signsS z).length = z.cps.size := by rw [signsS, List.length_map, Array.length_toList]
  refine call_set_sign (I1.ok.hd hc) few fun h' tk hS hk => ?_
  refine args_nil ?_
  obtain ⟨o, es, ep, t, ho, hex, hd, _, _, _, hf, hn⟩ := hS
  have I2 : Inv X pins σ H1 { s1 with heap := h', toks := tk } := I1.kept fun b o e => hk b o (Heap.lt_size e) e
  exact call_len_set ho hex hd hf (by rw [hn]; omega) ⟨.int ((ddS (signsS z)).length : Nat), H1, I2.tok _, ⟨_, by rw [hn]⟩, q1⟩
end
end L2

set_option Elab.async false
set_option linter.all false
set_option maxRecDepth 100000
set_option maxHeartbeats 4000000
/-! StrKit: z * k and z[::-1] of texts. -/
namespace L2
open PySem PySem.Spec PyProof.Rows
/-- a text so many times -/
def repS (z : Str) (n : Nat) : Str := ⟨(List.replicate n z.cps.toList).flatten.toArray⟩
theorem foldl_app {α : Type} (xs : List (Array α)) (acc : Array α) : (xs.foldl (· ++ ·) acc).toList = acc.toList ++ (xs.map Array.toList).flatten := by
  induction xs generalizing acc with
  | nil => simp
  | cons x xs ih => rw [List.foldl_cons, ih, Array.toList_append, List.map_cons, List.flatten_cons, List.append_assoc]
theorem repS_list (z : Str) (n : Nat) : (repS z n).cps.toList = (List.replicate n z.cps.toList).flatten := rfl
theorem repS_len (z : Str) (n : Nat) : (repS z n).cps.toList.length = n * z.cps.toList.length := by
  rw [repS_list, List.length_flatten, List.map_replicate, List.sum_replicate_nat]
theorem mul_repS (z : Str) (k : Int) : Txt.mul z k = repS z k.toNat := by
  unfold Txt.mul repS
  by_cases h1 : k < 1
  · rw [if_pos h1, show k.toNat = 0 by omega]
    rfl
  · rw [if_neg h1]
    by_cases h2 : (k == 1 || z.length == 0) = true
    · rw [if_pos h2]
      rcases Bool.or_eq_true_iff.mp h2 with h | h
      · have : k = 1 := by simpa using h
        subst this
        obtain ⟨cs⟩ := z
        simp
      · have : z.length = 0 := by simpa using h
        have e : z.cps = #[] := Array.eq_empty_of_size_eq_zero this
        obtain ⟨cs⟩ := z
        simp only at e
        subst e
        simp
    · rw [if_neg h2]
      congr 1
      apply Array.ext'
      rw [foldl_app, List.map_replicate]
      simp
section
variable {X : Cx}
theorem op_mulS : OpR X (binaryOp .Mult) (fun x y H Q => ∃ z k, x = .str z ∧ y = .int k ∧ -(2 ^ 62) ≤ k ∧ k ≤ 2 ^ 24 ∧ z.cps.toList.length * k.toNat ≤ 2 ^ 24 ∧ Q (.str (repS z k.toNat)) H) := by
  intro pins s σ H x y v u Q I rx ry h
  obtain ⟨z, k, rfl, rfl, h1, h2, h3, q⟩ := h
  obtain ⟨t, rfl⟩ := rx
  obtain ⟨t', rfl⟩ := ry
  have hz : z.length = z.cps.toList.length := Array.length_toList.symm
  refine SB.mul ⟨?_, fun h4 h5 => ?_, fun h4 h5 => ?_⟩ fun t' tk => ⟨.str (repS z k.toNat), H, I.tok _, ⟨t', by rw [mul_repS]⟩, q⟩
  · have : ¬ k < -(2 ^ 63 : Int) := by omega
    have h : ¬ k ≥ (2 ^ 63 : Int) := by omega
    rw [decide_eq_false this, decide_eq_false h]
    rfl
  · have hk : 0 < k := by omega
    have : ((z.length : Nat) : Int) * k ≤ 2 ^ 24 := by
      rw [hz]
      have := Int.ofNat_le.mpr h3
      rw [Int.natCast_mul, Int.toNat_of_nonneg (by omega)] at this
      exact this
    have := Int.le_ediv_of_mul_le hk (Int.le_trans this (by decide : (2 : Int) ^ 24 ≤ 2 ^ 63 - 1))
    omega
  · unfold Builtin.Str.tooLong
    have : z.length * k.toNat ≤ 2 ^ 24 := by rw [hz]; exact h3
    simp only [sizeLine_eq]
    have h : ¬ z.length * k.toNat > 2 ^ 24 := by omega
    simp [h]
/-- z[::-1] -/
def revS (z : Str) : Str := ⟨z.cps.toList.reverse.toArray⟩
theorem revS_list (z : Str) : (revS z).cps.toList = z.cps.toList.reverse := rfl
def tRevS (te : TE) : TE := fun σ H Q => te σ H fun x H1 => ∃ z, x = .str z ∧ z.length ≤ sizeLine ∧ Q (.str (revS z)) H1
theorem pe_revS {e : Expr} {te : TE} {k : Nat} {p1 p2 p3 pos : Pos} (he : PE X e te) : PE X (.Subscript e (.Slice none none (some (.UnaryOp .USub (.Constant (.int 1) k p1) p2)) p3) pos) (tRevS te) := by
  refine ⟨fun pins s σ H Q I h => ?_⟩
  refine Subscript_ (thn (he.run pins s σ H _ I h) fun v s1 ⟨x, H1, I1, r1, q1⟩ => ?_)
  obtain ⟨z, ex, hz, q⟩ := q1
  subst ex
  obtain ⟨tz, rfl⟩ := r1
  have hst : PO X (some (.UnaryOp .USub (.Constant (.int 1) k p1) p2)) (tPart (tUn (rU fun i => .int (-i)) (tC (.int 1)))) := po_some (pe_un un_neg pe_int)
  refine wpAny_Slice (thn (po_none.run pins s1 σ H1 (fun o H2 => o = none ∧ H2 = H1) I1 ⟨rfl, rfl⟩) fun vl s2 ⟨l, H2, I2, pl, el, e2⟩ => ?_)
  subst el e2
  refine thn (po_none.run pins s2 σ H2 (fun o H3 => o = none ∧ H3 = H2) I2 ⟨rfl, rfl⟩) fun vu s3 ⟨u, H3, I3, pu, eu, e3⟩ => ?_
  subst eu e3
  refine thn (hst.run pins s3 σ H3 (fun o H4 => o = some (-1) ∧ H4 = H3) I3 ⟨1, rfl, -1, rfl, rfl, rfl⟩) fun vs s4 ⟨o, H4, I4, ps, eo, e4⟩ => ?_
  subst eo e4
  have I5 : Inv X pins σ H4 { s4 with heap := s4.heap.push { cls := .type "slice", data := .fields #[vl, vu, vs] } } := I4.kept (t' := s4.toks) fun b ob q => Heap.get?_push_of_some _ q
  show wpAny (model X.prog X.w) X.A (subscriptTail e (.Slice none none (some (.UnaryOp .USub (.Constant (.int 1) k p1) p2)) p3) (.str z tz) (.ref s4.heap.objs.size)) (EP X pins σ Q) X.xe { s4 with heap := s4.heap.push { cls := .type "slice", data := .fields #[vl, vu, vs] } }
  obtain ⟨l, rfl, e1⟩ := IsPart.raw pl
  obtain ⟨u, rfl, e2⟩ := IsPart.raw pu
  obtain ⟨st, rfl, e3⟩ := IsPart.raw ps
  have el : l = none := by cases l <;> simp_all
  have eu : u = none := by cases u <;> simp_all
  subst el eu
  refine tail_any (ops := [.str z tz, .ref s4.heap.objs.size]) (typeIs_str _ _ _) (F.slot_str_getitem.lookup) ?_ (by with_unfolding_all rfl)
  refine wpAny_getItem_str_slice (l := none) (u := none) (st := st) ⟨_, Heap.get?_push_size _ rfl, rfl, rfl⟩ (by rw [e3]; rfl) ?_
  have hp : ((Builtin.Str.strSliceIndices none none (-1) z.length).filterMap (z.cps[·]?)) = z.cps.toList.reverse := by
    unfold Builtin.Str.strSliceIndices
    show ((PySem.sliceRange ((z.length : Int) - 1) (-1) (-1)).filterMap (z.cps[·]?)) = _
    rw [PySem.W.krv_sliceRange, PySem.W.krv_range, List.filterMap_reverse]
    exact congrArg List.reverse (PySem.W.krv_all z.cps)
  have hl : (revS z).length ≤ sizeLine := by
    have : (revS z).length = z.length := by
      show (z.cps.toList.reverse.toArray).size = z.cps.size
      rw [List.size_toArray, List.length_reverse, Array.length_toList]
    omega
  unfold sliceMade slicePicked
  rw [e3]
  show Made.post (if ((-1 : Int) == 1 && _) = true then _ else Made.str ⟨((Builtin.Str.strSliceIndices none none (-1) z.length).filterMap (z.cps[·]?)).toArray⟩) _ _
  rw [hp, if_neg (by simp)]
  exact ⟨hl, .str (revS z), H4, I5.tok _, ⟨_, rfl⟩, q⟩
end
end L2

set_option Elab.async false
set_option linter.all false
set_option maxRecDepth 100000
set_option maxHeartbeats 4000000
/-! LcKit: comprehensions whose items are known one by one. -/
namespace L2
open PySem
/-- all but the lists stay -/
def KeepL (H H' : Hp) : Prop := ∀ b o, H b = some o → (∀ l, o ≠ .lst l) → H' b = some o
theorem KeepL.of {H H' : Hp} (s : ∀ b o, H b = some o → H' b = some o) : KeepL H H' := fun b o e _ => s b o e
theorem KeepL.trans {H H1 H2 : Hp} (s : KeepL H H1) (t : KeepL H1 H2) : KeepL H H2 := fun b o e n => t b o (s b o e n) n
inductive All2 {α β : Type} (R : α → β → Prop) : List α → List β → Prop
  | nil : All2 R [] []
  | cons {x : α} {z : β} {xs : List α} {zs : List β} (h : R x z) (t : All2 R xs zs) : All2 R (x :: xs) (z :: zs)
section
variable {α β : Type} {R : α → β → Prop}
theorem All2.length {xs : List α} {zs : List β} (h : All2 R xs zs) : xs.length = zs.length := by
  induction h with
  | nil => rfl
  | cons _ _ ih => rw [List.length_cons, List.length_cons, ih]
theorem All2.get {xs : List α} {zs : List β} (h : All2 R xs zs) {i : Nat} {x : α} (e : xs[i]? = some x) : ∃ z, zs[i]? = some z ∧ R x z := by
  induction h generalizing i with
  | nil => cases e
  | cons h t ih =>
    cases i with
    | zero => cases e; exact ⟨_, rfl, h⟩
    | succ i => exact ih e
theorem All2.getR {xs : List α} {zs : List β} (h : All2 R xs zs) {i : Nat} {z : β} (e : zs[i]? = some z) : ∃ x, xs[i]? = some x ∧ R x z := by
  induction h generalizing i with
  | nil => cases e
  | cons h t ih =>
    cases i with
    | zero => cases e; exact ⟨_, rfl, h⟩
    | succ i => exact ih e
theorem All2.append {xs ys : List α} {zs ws : List β} (h : All2 R xs zs) (g : All2 R ys ws) : All2 R (xs ++ ys) (zs ++ ws) := by
  induction h with
  | nil => exact g
  | cons h t ih => exact .cons h ih
theorem All2.mono {S : α → β → Prop} {xs : List α} {zs : List β} (h : All2 R xs zs) (m : ∀ x z, z ∈ zs → R x z → S x z) : All2 S xs zs := by
  induction h with
  | nil => exact .nil
  | cons h t ih => exact .cons (m _ _ List.mem_cons_self h) (ih fun x z hz r => m x z (List.mem_cons_of_mem _ hz) r)
theorem All2.drop {xs : List α} {zs : List β} (h : All2 R xs zs) : ∀ k : Nat, All2 R (xs.drop k) (zs.drop k)
  | 0 => h
  | k + 1 => by
    cases h with
    | nil => exact .nil
    | cons h t => exact t.drop k
theorem All2.take {xs : List α} {zs : List β} (h : All2 R xs zs) : ∀ k : Nat, All2 R (xs.take k) (zs.take k)
  | 0 => .nil
  | k + 1 => by
    cases h with
    | nil => exact .nil
    | cons h t => exact .cons h (t.take k)
theorem All2.map {γ : Type} {f : γ → α} {g : γ → β} : ∀ {cs : List γ}, (∀ c ∈ cs, R (f c) (g c)) → All2 R (cs.map f) (cs.map g)
  | [], _ => .nil
  | c :: cs, h => .cons (h c List.mem_cons_self) (All2.map fun d hd => h d (List.mem_cons_of_mem _ hd))
theorem All2.mem {xs : List α} {zs : List β} (h : All2 R xs zs) {x : α} (e : x ∈ xs) : ∃ z, z ∈ zs ∧ R x z := by
  obtain ⟨i, hi⟩ := List.mem_iff_getElem?.mp e
  obtain ⟨z, hz, r⟩ := h.get hi
  exact ⟨z, List.mem_of_getElem? hz, r⟩
/-- values that are told by what they are -/
theorem All2.eq_map {f : β → α} {xs : List α} {zs : List β} (h : All2 (fun x z => x = f z) xs zs) : xs = zs.map f := by
  induction h with
  | nil => rfl
  | cons h t ih => rw [List.map_cons, h, ih]
theorem All2.of_map {f : β → α} : ∀ zs : List β, All2 (fun x z => x = f z) (zs.map f) zs
  | [] => .nil
  | z :: zs => .cons rfl (All2.of_map zs)
end
theorem filter_take_succ {β γ : Type} {zs : List β} {i : Nat} {z : β} (e : zs[i]? = some z) (t : β → Bool) (f : β → γ) : ((zs.take (i + 1)).filter t).map f = ((zs.take i).filter t).map f ++ (if t z = true then [f z] else []) := by
  rw [List.take_succ, e, List.filter_append, List.map_append]
  congr 1
  by_cases h : t z = true
  · rw [if_pos h]
    simp [h]
  · rw [if_neg h]
    simp [h]
section
variable {K : PySem.W.Frag} {g : TG} {tt : TT} {te : TE} {vs : List Nat} {σ : St} {H1 : Hp} {D : Addr} {Qd : Hp → Prop} {α β : Type} {zs : List α} {R : Hp → V → α → Prop} {R' : Hp → V → β → Prop}
theorem sqT_same {H H' : Hp} {a : Addr} {xs : List V} (e : ∀ b o, H b = some o → H' b = some o) (h : SqT K H a xs) : SqT K H' a xs :=
  h.elim (fun h => .inl (h.elim (fun h => .inl (e _ _ h)) fun ⟨o, h⟩ => .inr ⟨o, e _ _ h⟩)) fun h => .inr h
theorem sqL_same {H H' : Hp} {a : Addr} {xs : List V} (e : ∀ b o, H b = some o → H' b = some o) (h : SqL K H a xs) : SqL K H' a xs :=
  h.elim (fun h => .inl (h.elim (fun h => .inl (e _ _ h)) fun ⟨o, h⟩ => .inr ⟨o, e _ _ h⟩)) fun h => .inr h
/-- one turn's wish -/
def LcP (H1 : Hp) (D : Addr) (R' : Hp → V → β → Prop) (zs : List α) (t : α → Bool) (f : α → β) (i : Nat) (H : Hp) : Prop := (∀ b o, H1 b = some o → H b = some o) ∧ ∃ ys, H D = some (.lst ys) ∧ All2 (R' H) ys (((zs.take i).filter t).map f)
theorem lcP_put {t : α → Bool} {f : α → β} {i : Nat} {z : α} {H H4 : Hp} {y : V} (hD : H1 D = none) (mR' : ∀ H H' x z, KeepL H H' → R' H x z → R' H' x z) (hz : zs.length < sizeLine) (e : zs[i]? = some z) (p : LcP H1 D R' zs t f i H) (ht : t z = true)
    (s : ∀ b o, H b = some o → H4 b = some o) (r : R' H4 y (f z)) : ∃ acc, H4 D = some (.lst acc) ∧ acc.length < sizeLine ∧ LcP H1 D R' zs t f (i + 1) (upd H4 D (.lst (acc ++ [y]))) := by
  obtain ⟨s1, ys, hd, a⟩ := p
  have kl : KeepL H4 (upd H4 D (.lst (ys ++ [y]))) := fun b o e n => by
    rw [upd_ne (fun q => by subst q; rw [s _ _ hd] at e; cases e; exact n _ rfl)]
    exact e
  have hlen := a.length
  rw [List.length_map] at hlen
  have h1 : ((zs.take i).filter t).length ≤ zs.length := Nat.le_trans (List.length_filter_le _ _) (by rw [List.length_take]; omega)
  refine ⟨ys, s _ _ hd, by omega, fun b o e => ?_, _, upd_same, ?_⟩
  · rw [upd_ne (ne_of_none e hD)]
    exact s _ _ (s1 _ _ e)
  · rw [filter_take_succ e, if_pos ht]
    exact (a.mono fun x z _ r => mR' _ _ _ _ kl (mR' _ _ _ _ (.of s) r)).append (.cons (mR' _ _ _ _ kl r) .nil)
theorem lcP_skip {t : α → Bool} {f : α → β} {i : Nat} {z : α} {H H3 : Hp} (mR' : ∀ H H' x z, KeepL H H' → R' H x z → R' H' x z) (e : zs[i]? = some z) (p : LcP H1 D R' zs t f i H) (ht : t z = false)
    (s : ∀ b o, H b = some o → H3 b = some o) : LcP H1 D R' zs t f (i + 1) H3 := by
  obtain ⟨s1, ys, hd, a⟩ := p
  refine ⟨fun b o e => s _ _ (s1 _ _ e), ys, s _ _ hd, ?_⟩
  rw [filter_take_succ e, if_neg (by rw [ht]; simp), List.append_nil]
  exact a.mono fun x z _ r => mR' _ _ _ _ (.of s) r
theorem lcP_zero {t : α → Bool} {f : α → β} (hD : H1 D = none) : LcP H1 D R' zs t f 0 (upd H1 D (.lst [])) := ⟨fun b o e => by rw [upd_ne (ne_of_none e hD)]; exact e, [], upd_same, .nil⟩
/-- over a list whose items are known -/
theorem lcM_list {a : Addr} {xs : List V} (t : α → Bool) (f : α → β) (hD : H1 D = none) (hS : SqL K H1 a xs) (hx : All2 (R H1) xs zs) (mR : ∀ H H' x z, (∀ b o, H b = some o → H' b = some o) → R H x z → R H' x z) (mR' : ∀ H H' x z, KeepL H H' → R' H x z → R' H' x z) (hz : zs.length < sizeLine)
    (step : ∀ (i : Nat) (x : V) (z : α) (H : Hp) (C : V → Hp → Prop) (C0 : Hp → Prop), zs[i]? = some z → (∀ b o, H1 b = some o → H b = some o) → R H x z →
      (t z = true → ∀ y H4, (∀ b o, H b = some o → H4 b = some o) → R' H4 y (f z) → C y H4) → (t z = false → ∀ H3, (∀ b o, H b = some o → H3 b = some o) → C0 H3) →
      g x (wipe σ vs) H fun σ2 H2 => wipe σ2 vs = wipe σ vs ∧ tt σ2 H2 fun b H3 => if b = true then te σ2 H3 C else C0 H3)
    (fin : ∀ ys H, (∀ b o, H1 b = some o → H b = some o) → H D = some (.lst ys) → All2 (R' H) ys ((zs.filter t).map f) → Qd H) :
    ∃ W : Nat → Nat → Hp → Prop, (∃ m, W 0 m (upd H1 D (.lst []))) ∧ ∀ i m H, W i m H →
      ((Itl K a).stop i H ∧ Qd H) ∨ ((Itl K a).go i H ∧ ∃ Nx : Hp → Prop, (∀ H', Nx H' → ∃ m', m' < m ∧ W (i + 1) m' H') ∧ ∀ x H', (Itl K a).yld i H x H' → g x (wipe σ vs) H' fun σ2 H2 => wipe σ2 vs = wipe σ vs ∧ tt σ2 H2 fun b H3 =>
        if b = true then te σ2 H3 fun y H4 => ∃ acc, H4 D = some (.lst acc) ∧ acc.length < sizeLine ∧ Nx (upd H4 D (.lst (acc ++ [y]))) else Nx H3) := by
  have el := hx.length
  refine lc_list (xs := xs) (LcP H1 D R' zs t f) (lcP_zero hD) (fun i H _ p => sqL_same p.1 hS) (fun i x H hi p => ?_) (fun H p => ?_)
  · obtain ⟨z, e, r⟩ := hx.get hi
    exact step i x z H _ _ e p.1 (mR _ _ _ _ p.1 r) (fun ht y H4 s r => lcP_put hD mR' hz e p ht s r) (fun ht H3 s => lcP_skip mR' e p ht s)
  · obtain ⟨s1, ys, hd, a2⟩ := p
    rw [el, List.take_length] at a2
    exact fin ys H s1 hd a2
/-- over a tuple -/
theorem lcM_tup {a : Addr} {xs : List V} (t : α → Bool) (f : α → β) (hD : H1 D = none) (hS : SqT K H1 a xs) (hx : All2 (R H1) xs zs) (mR : ∀ H H' x z, (∀ b o, H b = some o → H' b = some o) → R H x z → R H' x z) (mR' : ∀ H H' x z, KeepL H H' → R' H x z → R' H' x z) (hz : zs.length < sizeLine)
    (step : ∀ (i : Nat) (x : V) (z : α) (H : Hp) (C : V → Hp → Prop) (C0 : Hp → Prop), zs[i]? = some z → (∀ b o, H1 b = some o → H b = some o) → R H x z →
      (t z = true → ∀ y H4, (∀ b o, H b = some o → H4 b = some o) → R' H4 y (f z) → C y H4) → (t z = false → ∀ H3, (∀ b o, H b = some o → H3 b = some o) → C0 H3) →
      g x (wipe σ vs) H fun σ2 H2 => wipe σ2 vs = wipe σ vs ∧ tt σ2 H2 fun b H3 => if b = true then te σ2 H3 C else C0 H3)
    (fin : ∀ ys H, (∀ b o, H1 b = some o → H b = some o) → H D = some (.lst ys) → All2 (R' H) ys ((zs.filter t).map f) → Qd H) :
    ∃ W : Nat → Nat → Hp → Prop, (∃ m, W 0 m (upd H1 D (.lst []))) ∧ ∀ i m H, W i m H →
      ((Itt K a).stop i H ∧ Qd H) ∨ ((Itt K a).go i H ∧ ∃ Nx : Hp → Prop, (∀ H', Nx H' → ∃ m', m' < m ∧ W (i + 1) m' H') ∧ ∀ x H', (Itt K a).yld i H x H' → g x (wipe σ vs) H' fun σ2 H2 => wipe σ2 vs = wipe σ vs ∧ tt σ2 H2 fun b H3 =>
        if b = true then te σ2 H3 fun y H4 => ∃ acc, H4 D = some (.lst acc) ∧ acc.length < sizeLine ∧ Nx (upd H4 D (.lst (acc ++ [y]))) else Nx H3) := by
  have el := hx.length
  refine lc_tup (xs := xs) (LcP H1 D R' zs t f) (lcP_zero hD) (fun i H _ p => sqT_same p.1 hS) (fun i x H hi p => ?_) (fun H p => ?_)
  · obtain ⟨z, e, r⟩ := hx.get hi
    exact step i x z H _ _ e p.1 (mR _ _ _ _ p.1 r) (fun ht y H4 s r => lcP_put hD mR' hz e p ht s r) (fun ht H3 s => lcP_skip mR' e p ht s)
  · obtain ⟨s1, ys, hd, a2⟩ := p
    rw [el, List.take_length] at a2
    exact fin ys H s1 hd a2
/-- over a range -/
theorem lcM_range {lo : Int} {n : Nat} (t : Nat → Bool) (f : Nat → β) (hD : H1 D = none) (mR' : ∀ H H' x z, KeepL H H' → R' H x z → R' H' x z) (hz : n < sizeLine)
    (step : ∀ (i : Nat) (H : Hp) (C : V → Hp → Prop) (C0 : Hp → Prop), i < n → (∀ b o, H1 b = some o → H b = some o) →
      (t i = true → ∀ y H4, (∀ b o, H b = some o → H4 b = some o) → R' H4 y (f i) → C y H4) → (t i = false → ∀ H3, (∀ b o, H b = some o → H3 b = some o) → C0 H3) →
      g (.int (lo + i)) (wipe σ vs) H fun σ2 H2 => wipe σ2 vs = wipe σ vs ∧ tt σ2 H2 fun b H3 => if b = true then te σ2 H3 C else C0 H3)
    (fin : ∀ ys H, (∀ b o, H1 b = some o → H b = some o) → H D = some (.lst ys) → All2 (R' H) ys (((List.range n).filter t).map f) → Qd H) :
    ∃ W : Nat → Nat → Hp → Prop, (∃ m, W 0 m (upd H1 D (.lst []))) ∧ ∀ i m H, W i m H →
      ((Itr lo n).stop i H ∧ Qd H) ∨ ((Itr lo n).go i H ∧ ∃ Nx : Hp → Prop, (∀ H', Nx H' → ∃ m', m' < m ∧ W (i + 1) m' H') ∧ ∀ x H', (Itr lo n).yld i H x H' → g x (wipe σ vs) H' fun σ2 H2 => wipe σ2 vs = wipe σ vs ∧ tt σ2 H2 fun b H3 =>
        if b = true then te σ2 H3 fun y H4 => ∃ acc, H4 D = some (.lst acc) ∧ acc.length < sizeLine ∧ Nx (upd H4 D (.lst (acc ++ [y]))) else Nx H3) := by
  refine lc_range (LcP H1 D R' (List.range n) t f) (lcP_zero hD) (fun i H hi p => ?_) (fun H p => ?_)
  · have e : (List.range n)[i]? = some i := List.getElem?_range hi
    exact step i H _ _ hi p.1 (fun ht y H4 s r => lcP_put hD mR' (by rw [List.length_range]; exact hz) e p ht s r) (fun ht H3 s => lcP_skip mR' e p ht s)
  · obtain ⟨s1, ys, hd, a2⟩ := p
    have e2 : (List.range n).take n = List.range n := List.take_of_length_le (by rw [List.length_range]; exact Nat.le_refl _)
    rw [e2] at a2
    exact fin ys H s1 hd a2
end
end L2

set_option Elab.async false
set_option linter.all false
set_option maxRecDepth 100000
set_option maxHeartbeats 4000000
namespace T36
open PySem L2 EK
def letS : Str := "abcdefghijklmnopqrstuvwxyz"
/-- letters, so many at most -/
structure TxOk (m : Nat) (z : Str) : Prop where
  len : z.cps.toList.length ≤ m
  let_ : ∀ c ∈ z.cps.toList, c ∈ letS.cps.toList
theorem TxOk.mono {m n : Nat} {z : Str} (h : TxOk m z) (hm : m ≤ n) : TxOk n z := ⟨Nat.le_trans h.len hm, h.let_⟩
theorem cutS_take (z : Str) (k : Nat) : (cutS z none (some (k : Int))).cps.toList = z.cps.toList.take k := by
  show (((z.cps.toList.drop (HT.sIx z.length 0 none)).take (HT.sIx z.length z.length (some (k : Int)) - HT.sIx z.length 0 none))) = _
  rw [HT.sIx_none, HT.sIx_nat, List.drop_zero, Nat.sub_zero]
  have e : z.length = z.cps.toList.length := Array.length_toList.symm
  rw [e, Nat.min_def]
  split
  · rfl
  · rw [List.take_of_length_le (Nat.le_refl _), List.take_of_length_le (by omega)]
theorem cutS_drop (z : Str) (k : Nat) : (cutS z (some (k : Int)) none).cps.toList = z.cps.toList.drop k := by
  show (((z.cps.toList.drop (HT.sIx z.length 0 (some (k : Int)))).take (HT.sIx z.length z.length none - HT.sIx z.length 0 (some (k : Int))))) = _
  rw [HT.sIx_none, HT.sIx_nat]
  have e : z.length = z.cps.toList.length := Array.length_toList.symm
  rw [e, List.take_of_length_le (by rw [List.length_drop]; omega), Nat.min_def]
  split
  · rfl
  · rw [List.drop_of_length_le (Nat.le_refl _), List.drop_of_length_le (by omega)]
theorem cutS_mem (z : Str) (lo hi : Option Int) : ∀ c ∈ (cutS z lo hi).cps.toList, c ∈ z.cps.toList := fun c h => List.mem_of_mem_drop (List.mem_of_mem_take (show c ∈ ((z.cps.toList.drop (HT.sIx z.length 0 lo)).take (HT.sIx z.length z.length hi - HT.sIx z.length 0 lo)) from h))
theorem cutS_len (z : Str) (lo hi : Option Int) : (cutS z lo hi).cps.toList.length ≤ z.cps.toList.length := by
  have := cutS_length z lo hi
  rw [show (cutS z lo hi).length = (cutS z lo hi).cps.toList.length from Array.length_toList.symm, show z.length = z.cps.toList.length from Array.length_toList.symm] at this
  exact this
theorem joinL_nil : ∀ ys : List (List Nat), TL.joinL [] ys = ys.flatten
  | [] => rfl
  | [p] => by rw [List.flatten_cons, List.flatten_nil, List.append_nil]; rfl
  | p :: q :: r => (show p ++ TL.joinL [] (q :: r) = _ from by rw [joinL_nil (q :: r)]; rfl)
theorem join_list (ys : List Str) : (Txt.join "" ys).cps.toList = (ys.map fun y => y.cps.toList).flatten := by
  have e : ys = (ys.map fun y => y.cps.toList).map SX.S := by
    rw [List.map_map]
    exact (List.map_id' ys).symm.trans (List.map_congr_left fun y _ => (SX.S_tl y).symm)
  have h := SX.join_S [] (ys.map fun y => y.cps.toList)
  rw [← e, joinL_nil] at h
  exact congrArg (fun x : Str => x.cps.toList) h
theorem app_list (x y : Str) : (x ++ y).cps.toList = x.cps.toList ++ y.cps.toList := TL.tl_append x y
theorem sum_len (ys : List Str) : (ys.map (·.length)).sum = ((ys.map fun y => y.cps.toList).flatten).length := by
  rw [List.length_flatten, List.map_map]
  congr 1
theorem flat_mem {ys : List Str} {p : Nat → Prop} (h : ∀ y ∈ ys, ∀ c ∈ y.cps.toList, p c) : ∀ c ∈ ((ys.map fun y => y.cps.toList).flatten), p c := by
  intro c hc
  obtain ⟨l, hl, hcl⟩ := List.mem_flatten.mp hc
  obtain ⟨y, hy, rfl⟩ := List.mem_map.mp hl
  exact h y hy c hcl
theorem flat_len {ys : List Str} {k : Nat} (h : ∀ y ∈ ys, y.cps.toList.length ≤ k) : ((ys.map fun y => y.cps.toList).flatten).length ≤ ys.length * k := by
  induction ys with
  | nil => simp
  | cons y ys ih =>
    rw [List.map_cons, List.flatten_cons, List.length_append, List.length_cons, Nat.add_mul]
    have h1 := h y List.mem_cons_self
    have h2 := ih fun z hz => h z (List.mem_cons_of_mem _ hz)
    omega
theorem UrnAt.mono {H : Hp} {a : Addr} {n m : Int} (h : UrnAt H a n) (hm : n ≤ m) : UrnAt H a m := by
  obtain ⟨w0, w1, w2, e, h1, h2, h3, h4⟩ := h
  exact ⟨w0, w1, w2, e, h1, h2, h3, by omega⟩
theorem UrnAt.keep {H H' : Hp} {a : Addr} {n : Int} (h : UrnAt H a n) (s : ∀ o, H a = some o → H' a = some o) : UrnAt H' a n := by
  obtain ⟨w0, w1, w2, e, h1⟩ := h
  exact ⟨w0, w1, w2, s _ e, h1⟩
theorem KeepB.of {a : Addr} {H H' : Hp} (s : ∀ b o, H b = some o → H' b = some o) : KeepB a H H' := fun b o e _ => s b o e
theorem KeepB.rfl {a : Addr} {H : Hp} : KeepB a H H := fun _ _ e _ => e
structure TxtP (K : PySem.W.Frag) (mg : Str → Option Value) : Prop where
  len : mg "len" = none
  range : mg "range" = none
def spPick : Sp := fun vs H Q _ => ∃ (a : Addr) (n : Int) (x : V), vs = [.ref a, x] ∧ UrnAt H a n ∧ n ≤ 1000000 ∧
  ((∃ (l : Addr) (xs : List V), x = .ref l ∧ H l = some (.lst xs) ∧ l ≠ a ∧ 0 < xs.length ∧ xs.length ≤ 1000 ∧ ∀ (y : V) H', y ∈ xs → UrnAt H' a (n + 1) → KeepB a H H' → Q y H') ∨
   (∃ z : Str, x = .str z ∧ 0 < z.cps.toList.length ∧ z.cps.toList.length ≤ 1000 ∧ ∀ (c : Nat) H', c ∈ z.cps.toList → UrnAt H' a (n + 1) → KeepB a H H' → Q (.str ⟨#[c]⟩) H'))
def spText : Sp := fun vs H Q _ => ∃ (a : Addr) (n : Int) (m : Nat), vs = [.ref a, .int m] ∧ UrnAt H a n ∧ n ≤ 900000 ∧ m ≤ 300 ∧ ∀ z H', TxOk m z → UrnAt H' a (n + 700) → KeepB a H H' → Q (.str z) H'
abbrev NTX : List Str := ["_law_urn_here", "_law_most", "_law_every", "_law_letters", "_law_size", "_law_way", "_law_unit", "_law_one", "_law_other", "_law_turn", "_law_k"]
section
variable {P : Program} {w : World} {K : PySem.W.Frag} {mg : Str → Option Value} {base : Heap}
theorem scPick : FnScope ["_law_urn_here", "_law_some"] ["_law_urn_here", "_law_some"] (defScope sPick) := ⟨rfl, rfl, rfl, by decide +kernel, rfl, by decide +kernel, by decide +kernel⟩
theorem scText : FnScope NTX ["_law_urn_here", "_law_most"] (defScope sText) := ⟨rfl, rfl, rfl, by decide +kernel, rfl, by decide +kernel, by decide +kernel⟩
theorem ok_pick {f fP : Addr} {fd fdP : FuncData} (F : Fun K "_law_pick" "_law_pick" sPick f fd) (T : TxtP K mg)
    (GP : FnOk P w K mg base CX0 1 fP fdP ["_law_urn_here", "_law_many"] spPull) (gP : mg "_law_pull" = some (.ref fP)) (kP : PySem.W.keepIn K (.ref fP) = true) (bP : Binds K fdP ["_law_urn_here", "_law_many"] []) :
    FnOk P w K mg base CX0 2 f fd ["_law_urn_here", "_law_some"] spPick := by
  refine F.ok scPick (fun vs H Q E h => ?_) (fun cdv A outer s H vs Q E hr h => ?_)
  · obtain ⟨a, n, x, rfl, _⟩ := h
    rfl
  · obtain ⟨a, n, x, rfl, hw, hn, h⟩ := h
    rcases h with ⟨l, xs, rfl, hl, hla, h1, h2, k⟩ | ⟨z, rfl, h1, h2, k⟩
    · refine ⟨_, pss_one (ps_ret (pe_ix ix_list (pv 1) (pe_call GP hr rfl gP kP bP .nil pass0 (pa_cons (pv 0) (pa_cons (pe_callB call_len_seq (by rfl) T.len (by decide +kernel) (pa_cons (pv 1) pa_nil)) pa_nil))) (fun _ _ => rfl))), ?_⟩
      refine ⟨_, rfl, _, rfl, _, rfl, l, xs, rfl, .inl (.of hl), a, _, n, rfl, hw, hn, by omega, by omega, fun d H' hd hd2 hw' hk => ?_⟩
      obtain ⟨j, rfl⟩ : ∃ j : Nat, d = (j : Int) := ⟨d.toNat, by omega⟩
      have hj : j < xs.length := by omega
      refine ⟨l, xs, _, xs[j], rfl, rfl, .of (hk l _ hl hla), atI_nat (List.getElem?_eq_getElem hj), ?_⟩
      exact k _ _ (List.getElem_mem hj) hw' hk
    · have hz : sizeLine = 2 ^ 24 := sizeLine_eq
      have hzl : z.length = z.cps.toList.length := Array.length_toList.symm
      refine ⟨_, pss_one (ps_ret (pe_ix ix_str (pv 1) (pe_call GP hr rfl gP kP bP .nil pass0 (pa_cons (pv 0) (pa_cons (pe_callB call_len_str (by rfl) T.len (by decide +kernel) (pa_cons (pv 1) pa_nil)) pa_nil))) (fun _ _ => rfl))), ?_⟩
      refine ⟨_, rfl, _, rfl, _, rfl, z, rfl, by omega, a, _, n, rfl, hw, hn, by omega, by omega, fun d H' hd hd2 hw' hk => ?_⟩
      obtain ⟨j, rfl⟩ : ∃ j : Nat, d = (j : Int) := ⟨d.toNat, by omega⟩
      have hj : j < z.cps.toList.length := by omega
      refine ⟨z, _, z.cps.toList[j], rfl, rfl, by omega, atI_nat (List.getElem?_eq_getElem hj), ?_⟩
      exact k _ _ (List.getElem_mem hj) hw' hk
def lets7 : List Str := ["a", "ab", "ab", "abc", "aqz", "hgfedcba", "abcdefghijklmnopqrstuvwxyz"]
theorem good7 : ∀ L ∈ lets7, (decide (0 < L.cps.toList.length) && decide (L.cps.toList.length ≤ 26) && L.cps.toList.all fun c => decide (c ∈ letS.cps.toList)) = true := by decide +kernel
/-- drawn signs, one by one -/
def PkP (H1 : Hp) (a : Addr) (D : Addr) (n : Int) (q k : Nat) (i : Nat) (H : Hp) : Prop := UrnAt H a (n + (q * i : Nat)) ∧ KeepB a H1 H ∧ ∃ ys : List Str, H D = some (.lst (ys.map V.str)) ∧ ys.length = i ∧ ∀ y ∈ ys, y.cps.toList.length ≤ k ∧ ∀ c ∈ y.cps.toList, c ∈ letS.cps.toList
theorem pk_zero {H1 : Hp} {a D : Addr} {n : Int} {q k : Nat} (hw : UrnAt H1 a n) (nD : H1 D = none) : PkP H1 a D n q k 0 (upd H1 D (.lst [])) := by
  have s : ∀ b o, H1 b = some o → upd H1 D (.lst []) b = some o := fun b o e => by rw [upd_ne (ne_of_none e nD)]; exact e
  exact ⟨(hw.keep (s a)).mono (by omega), .of s, [], upd_same, rfl, fun y hy => (by cases hy)⟩
theorem pk_step {H1 H3 H4 : Hp} {a D : Addr} {n n0 : Int} {q k i : Nat} {y : Str} (nD : H1 D = none) (hw : UrnAt H1 a n0) (p : PkP H1 a D n q k i H3) (hk : KeepB a H3 H4) (hu : UrnAt H4 a (n + (q * (i + 1) : Nat))) (hi : i ≤ 1000000) (hy : y.cps.toList.length ≤ k ∧ ∀ c ∈ y.cps.toList, c ∈ letS.cps.toList) :
    ∃ acc, H4 D = some (.lst acc) ∧ acc.length < sizeLine ∧ PkP H1 a D n q k (i + 1) (upd H4 D (.lst (acc ++ [.str y]))) := by
  obtain ⟨_, k1, ys, hd, hl, hg⟩ := p
  have hDa : D ≠ a := fun e => by
    obtain ⟨_, _, _, e2, _⟩ := hw
    rw [e, e2] at nD
    cases nD
  have hz : sizeLine = 2 ^ 24 := sizeLine_eq
  refine ⟨_, hk _ _ hd hDa, by rw [List.length_map]; omega, hu.keep fun o e => by rw [upd_ne (Ne.symm hDa)]; exact e, fun b o e hb => ?_, ys ++ [y], by rw [upd_same, List.map_append]; rfl, by rw [List.length_append, hl]; rfl, fun z hz => ?_⟩
  · rw [upd_ne (ne_of_none e nD)]
    exact hk _ _ (k1 _ _ e hb) hb
  · rcases List.mem_append.mp hz with h | h
    · exact hg z h
    · rw [List.mem_singleton.mp h]
      exact hy
theorem pk_sign {L : Str} (h : ∀ c ∈ L.cps.toList, c ∈ letS.cps.toList) {c : Nat} (hc : c ∈ L.cps.toList) : (⟨#[c]⟩ : Str).cps.toList.length ≤ 1 ∧ ∀ d ∈ (⟨#[c]⟩ : Str).cps.toList, d ∈ letS.cps.toList := ⟨Nat.le_refl _, fun d hd => by
  rw [List.mem_singleton.mp hd]
  exact h c hc⟩
theorem ok_text {f fP fI : Addr} {fd fdP fdI : FuncData} (F : Fun K "_law_text" "_law_text" sText f fd) (T : TxtP K mg)
    (GP : FnOk P w K mg base CX0 1 fP fdP ["_law_urn_here", "_law_many"] spPull) (gP : mg "_law_pull" = some (.ref fP)) (kP : PySem.W.keepIn K (.ref fP) = true) (bP : Binds K fdP ["_law_urn_here", "_law_many"] [])
    (GI : FnOk P w K mg base CX0 2 fI fdI ["_law_urn_here", "_law_some"] spPick) (gI : mg "_law_pick" = some (.ref fI)) (kI : PySem.W.keepIn K (.ref fI) = true) (bI : Binds K fdI ["_law_urn_here", "_law_some"] []) :
    FnOk P w K mg base CX0 3 f fd ["_law_urn_here", "_law_most"] spText := by
  refine F.ok scText (fun vs H Q E h => ?_) (fun cdv A outer s H vs Q E hr h => ?_)
  · obtain ⟨a, n, m, rfl, _⟩ := h
    rfl
  · obtain ⟨a, n, m, rfl, hw, hn, hm, k⟩ := h
    have nd := scText.nd
    have hr2 : Room 2 _ := hr
    have hr1 : Room 1 _ := hr.mono (by decide)
    have hz : sizeLine = 2 ^ 24 := sizeLine_eq
    refine ⟨_, (pss_cons (ps_set (i := 2) nd rfl (Or.inl rfl) pe_str)
      (pss_cons (ps_set (i := 3) nd rfl (Or.inr rfl) (pe_call GI hr2 rfl gI kI bI .nil pass0 (pa_cons (pv 0) (pa_cons (pe_lst (pa_cons pe_str (pa_cons pe_str (pa_cons pe_str (pa_cons pe_str (pa_cons pe_str (pa_cons pe_str (pa_cons (pv 2) pa_nil)))))))) pa_nil))))
      (pss_cons (ps_par (i := 4) (j := 5) (by rfl) nd rfl rfl (by decide) rfl rfl (pa_cons (pe_call GP hr1 rfl gP kP bP .nil pass0 (pa_cons (pv 0) (pa_cons (pe_op op_add (pv 1) pe_int) pa_nil))) (pa_cons (pe_call GP hr1 rfl gP kP bP .nil pass0 (pa_cons (pv 0) (pa_cons pe_int pa_nil))) pa_nil)) (by rfl))
      (pss_cons (ps_if (pt_cmpR op_eq (pv 5) pe_int (nomark _)) (pss_cons (ps_set (i := 6) nd rfl (Or.inl rfl) (pe_join pe_str (pe_lc (own := [("_law_k", 10)]) (g := gName 10) (tt := tYes) rfl nd (pi_range1 (by rfl) T.range (pa_cons (pe_op op_add pe_int (pe_call GP hr1 rfl gP kP bP .nil pass0 (pa_cons (pv 0) (pa_cons pe_int pa_nil)))) pa_nil)) (blkOk_by (N := NTX) (sc := defScope sText) (by decide +kernel)) (fun _ _ _ _ _ => (pg_name (i := 10) nd rfl (Or.inl rfl))) (fun _ _ _ _ _ => pts_nil) (fun _ _ _ _ _ => (pe_call GI hr2 rfl gI kI bI .nil pass0 (pa_cons (pv 0) (pa_cons (pv 3) pa_nil)))))))
      (pss_one (ps_ret (pe_slice sl_str (pe_op op_mulS (pv 6) (pe_op op_add (pv 4) pe_int)) po_none (po_some (pv 4)))))) pss_nil)
      (pss_cons (ps_if (pt_cmpR op_eq (pv 5) pe_int (nomark _)) (pss_one (ps_ret (pe_slice sl_str (pe_join pe_str (pe_lc (own := [("_law_k", 10)]) (g := gName 10) (tt := tYes) rfl nd (pi_range1 (by rfl) T.range (pa_cons (pv 4) pa_nil)) (blkOk_by (N := NTX) (sc := defScope sText) (by decide +kernel)) (fun _ _ _ _ _ => (pg_name (i := 10) nd rfl (Or.inl rfl))) (fun _ _ _ _ _ => pts_nil) (fun _ _ _ _ _ => (pe_op op_mulS (pe_call GI hr2 rfl gI kI bI .nil pass0 (pa_cons (pv 0) (pa_cons (pv 3) pa_nil))) (pe_op op_add pe_int (pe_call GP hr1 rfl gP kP bP .nil pass0 (pa_cons (pv 0) (pa_cons pe_int pa_nil)))))))) po_none (po_some (pv 4))))) pss_nil)
      (pss_cons (ps_if (pt_cmpR op_eq (pv 5) pe_int (nomark _)) (pss_cons (ps_par (i := 7) (j := 8) (by rfl) nd rfl rfl (by decide) rfl rfl (pa_cons (pe_slice sl_str (pv 3) po_none (po_some pe_int)) (pa_cons (pe_op op_add_str (pe_slice sl_str (pv 3) (po_some (pe_un un_neg pe_int)) po_none) (pe_slice sl_str (pv 3) po_none (po_some pe_int))) pa_nil)) (by rfl))
      (pss_cons (ps_for PassesOwn.never rfl (pi_range1 (by rfl) T.range (pa_cons pe_int pa_nil)) (pg_name (i := 9) nd rfl (Or.inl rfl)) (pss_one (ps_par (i := 7) (j := 8) (by rfl) nd rfl rfl (by decide) rfl rfl (pa_cons (pv 8) (pa_cons (pe_op op_add_str (pv 8) (pv 7)) pa_nil)) (by rfl))))
      (pss_one (ps_ret (pe_slice sl_str (pv 8) po_none (po_some (pv 4))))))) pss_nil)
      (pss_one (ps_ret (pe_join pe_str (pe_lc (own := [("_law_k", 10)]) (g := gName 10) (tt := tYes) rfl nd (pi_range1 (by rfl) T.range (pa_cons (pv 4) pa_nil)) (blkOk_by (N := NTX) (sc := defScope sText) (by decide +kernel)) (fun _ _ _ _ _ => (pg_name (i := 10) nd rfl (Or.inl rfl))) (fun _ _ _ _ _ => pts_nil) (fun _ _ _ _ _ => (pe_call GI hr2 rfl gI kI bI .nil pass0 (pa_cons (pv 0) (pa_cons (pv 3) pa_nil))))))))))))))
, ?_⟩
    refine ⟨_, rfl, ?_⟩
    refine ⟨_, rfl, (by show 7 ≤ sizeLine; decide), fun p1 z1 => ?_⟩
    have A2 : upd H p1 (.lst (lets7.map V.str)) p1 = some (.lst (lets7.map V.str)) := upd_same
    have S2 : ∀ b o, H b = some o → upd H p1 (.lst (lets7.map V.str)) b = some o := fun b o e => by rw [upd_ne (ne_of_none e z1)]; exact e
    obtain ⟨w0, w1, w2, hwa, hwb⟩ := hw
    have hpa : p1 ≠ a := fun e => by rw [e, hwa] at z1; cases z1
    have hw2 : UrnAt (upd H p1 (.lst (lets7.map V.str))) a n := ⟨w0, w1, w2, S2 _ _ hwa, hwb⟩
    refine ⟨a, n, _, rfl, hw2, by omega, .inl ⟨p1, lets7.map V.str, rfl, A2, hpa, (by decide), (by decide), fun y H3 hy hw3 hk3 => ?_⟩⟩
    obtain ⟨L, hL, rfl⟩ := List.mem_map.mp (show y ∈ lets7.map V.str from hy)
    have g7 := good7 L hL
    rw [Bool.and_eq_true, Bool.and_eq_true, decide_eq_true_eq, decide_eq_true_eq, List.all_eq_true] at g7
    obtain ⟨⟨L0, L1⟩, L2'⟩ := g7
    have L2 : ∀ c ∈ L.cps.toList, c ∈ letS.cps.toList := fun c hc => of_decide_eq_true (L2' c hc)
    have hk13 : KeepB a H H3 := (KeepB.of S2).trans hk3
    refine ⟨_, rfl, _, rfl, _, _, rfl, rfl, a, _, _, rfl, hw3, by omega, by omega, by omega, fun d1 H4 d1a d1b hw4 hk4 => ?_⟩
    refine ⟨_, rfl, a, _, _, rfl, hw4, by omega, by decide, by decide, fun d2 H5 d2a d2b hw5 hk5 => ?_⟩
    have hk15 : KeepB a H H5 := (hk13.trans hk4).trans hk5
    obtain ⟨sz, rfl⟩ : ∃ j : Nat, d1 = (j : Int) := ⟨d1.toNat, by omega⟩
    have hsz : sz ≤ m := by omega
    refine ⟨_, _, rfl, _, rfl, rfl, _, rfl, ?_⟩
    refine ite2 (fun h0 => ?_) (fun h0 => ?_)
    · refine ⟨⟨_, rfl⟩, _, rfl, a, _, _, rfl, hw5, by omega, by decide, by decide, fun d3 H6 d3a d3b hw6 hk6 => ?_⟩
      obtain ⟨c3, hc3⟩ : ∃ j : Nat, (1 + d3).toNat = j := ⟨_, rfl⟩
      have hc3b : c3 ≤ 6 := by omega
      refine ⟨_, _, rfl, rfl, _, rfl, by omega, by omega, fun D nD => ?_⟩
      rw [hc3]
      refine lc_range (lo := 0) (n := c3) (PkP H6 a D (n + 4) 1 1) (pk_zero (hw6.mono (by omega)) nD) ?_ ?_
      · rintro i H7 hi p7
        refine ⟨rfl, _, rfl, _, rfl, a, _, _, rfl, p7.1, by omega, .inr ⟨L, rfl, L0, by omega, fun c H8 hc hw8 hk8 => ?_⟩⟩
        exact pk_step nD hw6 p7 hk8 (hw8.mono (by omega)) (by omega) (pk_sign L2 hc)
      · rintro H7 ⟨hw7, hk7, ys, hD, hyl, hyg⟩
        have f1 := flat_len fun y hy => (hyg y hy).1
        have f2 := flat_mem fun y hy => (hyg y hy).2
        refine ⟨_, _, ys, rfl, rfl, .inl (.of hD), ?_, ?_⟩
        · rw [sum_len]
          show _ + ys.length * 0 ≤ _
          omega
        have hjl := join_list ys
        refine ⟨_, rfl, _, rfl, _, _, rfl, rfl, _, _, rfl, rfl, by omega, by omega, ?_, ?_⟩
        · rw [hjl]
          have e : ((sz : Int) + 1).toNat = sz + 1 := by omega
          rw [e]
          exact Nat.le_trans (Nat.mul_le_mul (show _ ≤ 6 by omega) (show sz + 1 ≤ 301 by omega)) (by decide)
        · refine ⟨_, rfl, _, rfl, _, rfl, ?_, ?_⟩
          · rw [show (repS (Txt.join "" ys) _).length = _ from Array.length_toList.symm, repS_len, hjl]
            have e : ((sz : Int) + 1).toNat = sz + 1 := by omega
            rw [e]
            have := Nat.mul_le_mul (show sz + 1 ≤ 301 by omega) (show ((ys.map fun y => y.cps.toList).flatten).length ≤ 6 by omega)
            omega
          · refine k _ _ ⟨?_, ?_⟩ (hw7.mono (by omega)) (hk15.trans (hk6.trans hk7))
            · rw [cutS_take, List.length_take]
              omega
            · intro c hc
              have hc := cutS_mem _ _ _ c hc
              rw [repS_list] at hc
              obtain ⟨l, hl, hcl⟩ := List.mem_flatten.mp hc
              rw [(List.mem_replicate.mp hl).2, hjl] at hcl
              exact f2 c hcl
    refine ⟨_, rfl, rfl, _, rfl, ?_⟩
    refine ite2 (fun h1 => ?_) (fun h1 => ?_)
    · refine ⟨⟨_, rfl⟩, _, rfl, _, rfl, by omega, by omega, fun D nD => ?_⟩
      have en : ((sz : Int)).toNat = sz := by omega
      rw [en]
      refine lc_range (lo := 0) (n := sz) (PkP H5 a D (n + 3) 2 4) (pk_zero (hw5.mono (by omega)) nD) ?_ ?_
      · rintro i H7 hi p7
        refine ⟨rfl, _, rfl, _, rfl, a, _, _, rfl, p7.1, by omega, .inr ⟨L, rfl, L0, by omega, fun c H8 hc hw8 hk8 => ?_⟩⟩
        refine ⟨_, rfl, a, _, _, rfl, hw8, by omega, by decide, by decide, fun d3 H9 d3a d3b hw9 hk9 => ?_⟩
        refine ⟨_, _, rfl, rfl, _, _, rfl, rfl, by omega, by omega, ?_, ?_⟩
        · show 1 * _ ≤ _
          omega
        have h4 : (repS ⟨#[c]⟩ (1 + d3).toNat).cps.toList.length ≤ 4 := by
          rw [repS_len]
          show _ * 1 ≤ 4
          omega
        refine pk_step nD hw5 p7 (hk8.trans hk9) (hw9.mono (by omega)) (by omega) ⟨h4, fun x hx => ?_⟩
        rw [repS_list] at hx
        obtain ⟨l, hl, hcl⟩ := List.mem_flatten.mp hx
        rw [(List.mem_replicate.mp hl).2] at hcl
        exact (pk_sign L2 hc).2 x hcl
      · rintro H7 ⟨hw7, hk7, ys, hD, hyl, hyg⟩
        have f1 := flat_len fun y hy => (hyg y hy).1
        have f2 := flat_mem fun y hy => (hyg y hy).2
        have hjl := join_list ys
        refine ⟨_, _, ys, rfl, rfl, .inl (.of hD), ?_, ?_⟩
        · rw [sum_len]
          show _ + ys.length * 0 ≤ _
          omega
        refine ⟨_, rfl, _, rfl, _, rfl, ?_, ?_⟩
        · rw [show (Txt.join "" ys).length = _ from Array.length_toList.symm, hjl]
          omega
        · refine k _ _ ⟨?_, ?_⟩ (hw7.mono (by omega)) (hk15.trans hk7)
          · rw [cutS_take, List.length_take]
            omega
          · intro c hc
            have hc := cutS_mem _ _ _ c hc
            rw [hjl] at hc
            exact f2 c hc
    refine ⟨_, rfl, rfl, _, rfl, ?_⟩
    refine ite2 (fun h2 => ?_) (fun h2 => ?_)
    · have hL26 : L.length ≤ sizeLine := by
        rw [show L.length = _ from Array.length_toList.symm]
        omega
      have c1 : (cutS L none (some 1)).cps.toList.length ≤ 1 := by
        rw [show (some 1 : Option Int) = some ((1 : Nat) : Int) from rfl, cutS_take, List.length_take]
        omega
      have c2 := cutS_len L (some (-1)) none
      refine ⟨_, rfl, 1, rfl, L, rfl, hL26, _, rfl, 1, rfl, -1, rfl, L, rfl, hL26, _, rfl, 1, rfl, L, rfl, hL26, _, _, rfl, rfl, ?_, _, _, rfl, ?_⟩
      · rw [show (cutS L (some (-1)) none).length = _ from Array.length_toList.symm, show (cutS L none (some 1)).length = _ from Array.length_toList.symm]
        omega
      refine ⟨_, rfl, by decide, by decide, for_range (lo := 0) (n := 10) (fun i σ H' => H' = H5 ∧ ∃ (x y : Str) (v9 : Option V), σ = [some (.ref a), some (.int m), some (.str "abcdefghijklmnopqrstuvwxyz"), some (.str L), some (.int sz), some (.int d2), none, some (.str x), some (.str y), v9, none] ∧
        x.cps.toList.length ≤ 27 * 2 ^ i ∧ y.cps.toList.length ≤ 27 * 2 ^ i ∧ (∀ c ∈ x.cps.toList, c ∈ letS.cps.toList) ∧ ∀ c ∈ y.cps.toList, c ∈ letS.cps.toList) ⟨rfl, _, _, none, rfl, by omega, ?_, fun c hc => L2 c (cutS_mem _ _ _ c hc), fun c hc => ?_⟩ ?_ ?_⟩
      · rw [app_list, List.length_append]
        omega
      · rw [app_list] at hc
        rcases List.mem_append.mp hc with h | h
        · exact L2 c (cutS_mem _ _ _ c h)
        · exact L2 c (cutS_mem _ _ _ c h)
      · rintro i σ H7 hi ⟨rfl, x, y, v9, rfl, hx, hy, gx, gy⟩
        have hp : 2 ^ i ≤ 2 ^ 9 := Nat.pow_le_pow_right (by decide) (by omega)
        have hp1 : 2 ^ (i + 1) = 2 * 2 ^ i := by rw [Nat.pow_succ, Nat.mul_comm]
        refine ⟨_, rfl, _, rfl, _, rfl, _, _, rfl, rfl, ?_, _, _, rfl, rfl, _, _, _, rfl, by omega, ?_, gy, fun c hc => ?_⟩
        · rw [show y.length = _ from Array.length_toList.symm, show x.length = _ from Array.length_toList.symm]
          omega
        · rw [app_list, List.length_append]
          omega
        · rw [app_list] at hc
          rcases List.mem_append.mp hc with h | h
          · exact gy c h
          · exact gx c h
      · rintro σ H7 ⟨rfl, x, y, v9, rfl, hx, hy, gx, gy⟩
        refine ⟨_, rfl, _, rfl, _, rfl, _, rfl, ?_, ?_⟩
        · rw [show y.length = _ from Array.length_toList.symm]
          omega
        · refine k _ _ ⟨?_, fun c hc => gy c (cutS_mem _ _ _ c hc)⟩ (hw5.mono (by omega)) hk15
          rw [cutS_take, List.length_take]
          omega
    refine ⟨⟨_, rfl⟩, _, rfl, _, rfl, by omega, by omega, fun D nD => ?_⟩
    have en : ((sz : Int)).toNat = sz := by omega
    rw [en]
    refine lc_range (lo := 0) (n := sz) (PkP H5 a D (n + 3) 1 1) (pk_zero (hw5.mono (by omega)) nD) ?_ ?_
    · rintro i H7 hi p7
      refine ⟨rfl, _, rfl, _, rfl, a, _, _, rfl, p7.1, by omega, .inr ⟨L, rfl, L0, by omega, fun c H8 hc hw8 hk8 => ?_⟩⟩
      exact pk_step nD hw5 p7 hk8 (hw8.mono (by omega)) (by omega) (pk_sign L2 hc)
    · rintro H7 ⟨hw7, hk7, ys, hD, hyl, hyg⟩
      have f1 := flat_len fun y hy => (hyg y hy).1
      have f2 := flat_mem fun y hy => (hyg y hy).2
      have hjl := join_list ys
      refine ⟨_, _, ys, rfl, rfl, .inl (.of hD), ?_, ?_⟩
      · rw [sum_len]
        show _ + ys.length * 0 ≤ _
        omega
      · refine k _ _ ⟨?_, ?_⟩ (hw7.mono (by omega)) (hk15.trans hk7)
        · rw [hjl]
          omega
        · rw [hjl]
          exact f2
end
end T36

set_option Elab.async false
set_option linter.all false
set_option maxRecDepth 100000
set_option maxHeartbeats 4000000
/-! RunMath: changes from place to place, read on or round; runs. -/
namespace L2
open PySem
/-- how often a neighbour is another one -/
def adj : List Nat → Nat
  | a :: b :: r => (if a = b then 0 else 1) + adj (b :: r)
  | _ => 0
theorem adj_snoc (x a b : Nat) (l : List Nat) : adj (l ++ [a, b]) = adj (l ++ [a]) + (if a = b then 0 else 1) := by
  induction l with
  | nil => show (if a = b then 0 else 1) + 0 = 0 + _; omega
  | cons c l ih =>
    cases l with
    | nil => show (if c = a then 0 else 1) + ((if a = b then 0 else 1) + 0) = (if c = a then 0 else 1) + 0 + _; omega
    | cons d l =>
      show (if c = d then 0 else 1) + adj (d :: l ++ [a, b]) = (if c = d then 0 else 1) + adj (d :: l ++ [a]) + _
      rw [ih]
      omega
theorem adj_mid (a : Nat) (l r : List Nat) : adj (l ++ a :: r) = adj (l ++ [a]) + adj (a :: r) := by
  induction l with
  | nil => show adj (a :: r) = 0 + adj (a :: r); omega
  | cons c l ih =>
    cases l with
    | nil => show (if c = a then 0 else 1) + adj (a :: r) = (if c = a then 0 else 1) + 0 + adj (a :: r); omega
    | cons d l =>
      show (if c = d then 0 else 1) + adj (d :: l ++ a :: r) = (if c = d then 0 else 1) + adj (d :: l ++ [a]) + adj (a :: r)
      rw [ih]
      omega
theorem adj_rev (l : List Nat) : adj l.reverse = adj l := by
  induction l with
  | nil => rfl
  | cons a l ih =>
    cases l with
    | nil => rfl
    | cons b r =>
      rw [List.reverse_cons, List.reverse_cons, List.append_assoc]
      show adj (r.reverse ++ [b, a]) = (if a = b then 0 else 1) + adj (b :: r)
      rw [adj_snoc 0, ← ih, List.reverse_cons]
      have : (if b = a then 0 else 1) = (if a = b then 0 else 1) := by
        by_cases h : a = b
        · rw [if_pos h, if_pos h.symm]
        · rw [if_neg h, if_neg (Ne.symm h)]
      omega
/-- read round -/
def cyc (l : List Nat) : Nat := adj (l ++ l.take 1)
theorem cyc_cons (a : Nat) (r : List Nat) : cyc (a :: r) = adj (a :: r ++ [a]) := rfl
theorem cyc_swap (u v : List Nat) : cyc (u ++ v) = cyc (v ++ u) := by
  cases u with
  | nil => rw [List.append_nil]; rfl
  | cons a u =>
    cases v with
    | nil => rw [List.append_nil]; rfl
    | cons b v =>
      rw [show (a :: u ++ b :: v) = a :: (u ++ b :: v) from rfl, show (b :: v ++ a :: u) = b :: (v ++ a :: u) from rfl, cyc_cons, cyc_cons]
      have e1 : a :: (u ++ b :: v) ++ [a] = (a :: u) ++ b :: (v ++ [a]) := by simp
      have e2 : b :: (v ++ a :: u) ++ [b] = (b :: v) ++ a :: (u ++ [b]) := by simp
      rw [e1, e2, adj_mid, adj_mid a]
      rw [show a :: (u ++ [b]) = a :: u ++ [b] from rfl, show b :: (v ++ [a]) = b :: v ++ [a] from rfl]
      omega
theorem cyc_twice (l : List Nat) : cyc (l ++ l) = 2 * cyc l := by
  cases l with
  | nil => rfl
  | cons a l =>
    rw [show (a :: l ++ a :: l) = a :: (l ++ a :: l) from rfl, cyc_cons, cyc_cons]
    have e1 : a :: (l ++ a :: l) ++ [a] = (a :: l) ++ a :: (l ++ [a]) := by simp
    rw [e1, adj_mid, show a :: (l ++ [a]) = a :: l ++ [a] from rfl]
    omega
/-- the last one ahead -/
theorem cyc_last (l : List Nat) (h : l ≠ []) : adj (l.getLast h :: l) = cyc l := by
  have e : l = l.dropLast ++ [l.getLast h] := (List.dropLast_concat_getLast h).symm
  have e2 : adj (l.getLast h :: l) = cyc (l.getLast h :: l.dropLast) := by
    rw [cyc_cons, List.cons_append, ← e]
  rw [e2]
  have := cyc_swap [l.getLast h] l.dropLast
  rw [← e] at this
  exact this
theorem cyc_rev (l : List Nat) : cyc l.reverse = cyc l := by
  cases l with
  | nil => rfl
  | cons a r =>
    have h : (a :: r).reverse ≠ [] := by simp
    rw [← cyc_last _ h, cyc_cons]
    have e : (a :: r).reverse.getLast h = a := by simp
    rw [e, ← adj_rev, List.reverse_cons, List.reverse_reverse]
/-- no change: all alike -/
theorem adj_zero {a : Nat} {l : List Nat} (h : adj (a :: l) = 0) : ∀ c ∈ l, c = a := by
  induction l generalizing a with
  | nil => intro c hc; cases hc
  | cons b r ih =>
    have h : (if a = b then 0 else 1) + adj (b :: r) = 0 := h
    by_cases hab : a = b
    · subst hab
      intro c hc
      rcases List.mem_cons.mp hc with rfl | hc
      · rfl
      · exact ih (by omega) c hc
    · rw [if_neg hab] at h
      omega
theorem adj_alike {a : Nat} {l : List Nat} (h : ∀ c ∈ l, c = a) : adj (a :: l) = 0 := by
  induction l with
  | nil => rfl
  | cons b r ih =>
    have := h b List.mem_cons_self
    subst this
    show (if b = b then 0 else 1) + adj (b :: r) = 0
    rw [if_pos rfl, ih fun c hc => h c (List.mem_cons_of_mem _ hc)]
/-- from a back to a: no single change -/
theorem adj_back {a : Nat} {l : List Nat} : adj (a :: l ++ [a]) ≠ 1 := by
  have gen : ∀ (l : List Nat) (b : Nat), adj (b :: l ++ [a]) = 1 → b ≠ a := by
    intro l
    induction l with
    | nil =>
      intro b h e
      subst e
      have h : (if b = b then 0 else 1) + 0 = 1 := h
      rw [if_pos rfl] at h
      omega
    | cons c l ih =>
      intro b h e
      have h : (if b = c then 0 else 1) + adj (c :: l ++ [a]) = 1 := h
      by_cases hbc : b = c
      · rw [if_pos hbc] at h
        exact ih c (by omega) (by rw [← hbc]; exact e)
      · rw [if_neg hbc] at h
        have h0 : adj (c :: (l ++ [a])) = 0 := by
          show adj (c :: l ++ [a]) = 0
          omega
        have := adj_zero h0 a (List.mem_append_right _ List.mem_cons_self)
        exact hbc (by rw [e]; exact this)
  exact fun h => gen l a h rfl
theorem cyc_ne1 (l : List Nat) : cyc l ≠ 1 := by
  cases l with
  | nil => show (0 : Nat) ≠ 1; omega
  | cons a r => rw [cyc_cons]; exact adj_back
/-- the number of runs, read round -/
def ringM (l : List Nat) : Nat := max (cyc l) (if l = [] then 0 else 1)
theorem ringM_swap (u v : List Nat) : ringM (u ++ v) = ringM (v ++ u) := by
  unfold ringM
  rw [cyc_swap]
  congr 1
  by_cases h : u ++ v = []
  · rw [if_pos h, if_pos (by rcases List.append_eq_nil_iff.mp h with ⟨rfl, rfl⟩; rfl)]
  · rw [if_neg h, if_neg (fun e => h (by rcases List.append_eq_nil_iff.mp e with ⟨rfl, rfl⟩; rfl))]
theorem ringM_rev (l : List Nat) : ringM l.reverse = ringM l := by
  unfold ringM
  rw [cyc_rev]
  congr 1
  by_cases h : l = []
  · subst h; rfl
  · rw [if_neg h, if_neg (by simpa using h)]
theorem ringM_twice (l : List Nat) : ringM (l ++ l) = if ringM l < 2 then ringM l else 2 * ringM l := by
  unfold ringM
  rw [cyc_twice]
  have h1 := cyc_ne1 l
  by_cases h : l = []
  · subst h; rfl
  · rw [if_neg h, if_neg (by simpa using h)]
    by_cases h0 : cyc l = 0
    · rw [h0]; rfl
    · rw [Nat.max_eq_left (by omega), Nat.max_eq_left (by omega), if_neg (by omega)]
/-- counted place by place -/
theorem count_adj (x : List Nat) : ∀ m, m + 1 ≤ x.length → ((List.range m).filter fun k => decide (x.getD k 0 ≠ x.getD (k + 1) 0)).length = adj (x.take (m + 1))
  | 0, h => by
    cases x with
    | nil => rfl
    | cons a x => rfl
  | m + 1, h => by
    rw [List.range_succ, List.filter_append, List.length_append, count_adj x m (by omega)]
    have e : x.take (m + 1 + 1) = x.take m ++ [x.getD m 0, x.getD (m + 1) 0] := by
      rw [List.take_succ, List.take_succ, List.append_assoc]
      congr 1
      rw [List.getD_eq_getElem?_getD, List.getD_eq_getElem?_getD, List.getElem?_eq_getElem (by omega), List.getElem?_eq_getElem (show m + 1 < x.length by omega)]
      rfl
    have e2 : x.take (m + 1) = x.take m ++ [x.getD m 0] := by
      rw [List.take_succ]
      congr 1
      rw [List.getD_eq_getElem?_getD, List.getElem?_eq_getElem (by omega)]
      rfl
    rw [e, adj_snoc 0, e2]
    congr 1
    by_cases h : x.getD m 0 = x.getD (m + 1) 0
    · rw [if_pos h, List.filter_cons_of_neg (by rw [decide_eq_true_eq]; exact fun e => e h)]; rfl
    · rw [if_neg h, List.filter_cons_of_pos (by rw [decide_eq_true_eq]; exact h)]; rfl
/-! runs -/
structure RunsOk (l : List Nat) (rs : List (Nat × Nat)) : Prop where
  flat : (rs.flatMap fun r => List.replicate r.2 r.1) = l
  pos : ∀ r ∈ rs, 1 ≤ r.2
  unlike : ∀ i, i + 1 < rs.length → (rs.getD i (0, 0)).1 ≠ (rs.getD (i + 1) (0, 0)).1
theorem RunsOk.nil : RunsOk [] [] := ⟨rfl, fun _ h => (by cases h), fun i h => absurd h (by simp)⟩
theorem RunsOk.tail {r : Nat × Nat} {rs : List (Nat × Nat)} {l : List Nat} (h : RunsOk l (r :: rs)) : RunsOk (rs.flatMap fun r => List.replicate r.2 r.1) rs := ⟨rfl, fun x hx => h.pos x (List.mem_cons_of_mem _ hx), fun i hi => h.unlike (i + 1) (by simpa using hi)⟩
/-- just one way -/
theorem RunsOk.one : ∀ {rs qs : List (Nat × Nat)} {l : List Nat}, RunsOk l rs → RunsOk l qs → rs = qs
  | [], [], _, _, _ => rfl
  | [], (c, k) :: qs, l, h, g => by
    have h1 := h.flat
    have h2 := g.flat
    rw [← h1] at h2
    have := g.pos _ List.mem_cons_self
    obtain ⟨k, rfl⟩ : ∃ j, k = j + 1 := ⟨k - 1, by simp at this; omega⟩
    rw [List.flatMap_cons] at h2
    simp [List.replicate_succ] at h2
  | (c, k) :: rs, [], l, h, g => by
    have h1 := h.flat
    have h2 := g.flat
    rw [← h2] at h1
    have := h.pos _ List.mem_cons_self
    obtain ⟨k, rfl⟩ : ∃ j, k = j + 1 := ⟨k - 1, by simp at this; omega⟩
    rw [List.flatMap_cons] at h1
    simp [List.replicate_succ] at h1
  | (c, k) :: rs, (d, m) :: qs, l, h, g => by
    have h1 := h.flat
    have h2 := g.flat
    have pk := h.pos _ List.mem_cons_self
    have pm := g.pos _ List.mem_cons_self
    simp only at pk pm
    rw [← h1, List.flatMap_cons, List.flatMap_cons] at h2
    have hd : ∀ {c d k m : Nat} {rs qs : List (Nat × Nat)}, RunsOk (List.replicate k c ++ (rs.flatMap fun r => List.replicate r.2 r.1)) ((c, k) :: rs) → 1 ≤ m → List.replicate m d ++ (qs.flatMap fun r => List.replicate r.2 r.1) = List.replicate k c ++ (rs.flatMap fun r => List.replicate r.2 r.1) → 1 ≤ k → d = c ∧ m ≤ k := by
      intro c d k m rs qs h pm e pk
      obtain ⟨m, rfl⟩ : ∃ j, m = j + 1 := ⟨m - 1, by omega⟩
      obtain ⟨k, rfl⟩ : ∃ j, k = j + 1 := ⟨k - 1, by omega⟩
      have e0 := e
      rw [List.replicate_succ, List.replicate_succ, List.cons_append, List.cons_append] at e0
      have hdc : d = c := (List.cons.inj e0).1
      subst hdc
      refine ⟨rfl, Nat.le_of_not_lt fun hlt => ?_⟩
      have e1 : (List.replicate (m + 1) d ++ (qs.flatMap fun r => List.replicate r.2 r.1))[k + 1]? = (List.replicate (k + 1) d ++ (rs.flatMap fun r => List.replicate r.2 r.1))[k + 1]? := by rw [e]
      rw [List.getElem?_append_left (by rw [List.length_replicate]; omega), List.getElem?_replicate, if_pos (by omega), List.getElem?_append_right (by rw [List.length_replicate]; exact Nat.le_refl _), List.length_replicate, Nat.sub_self] at e1
      cases rs with
      | nil => cases e1
      | cons r rs =>
        obtain ⟨x, y⟩ := r
        have py := h.pos (x, y) (List.mem_cons_of_mem _ List.mem_cons_self)
        simp only at py
        obtain ⟨y, rfl⟩ : ∃ j, y = j + 1 := ⟨y - 1, by omega⟩
        rw [List.flatMap_cons] at e1
        have hx : d = x := by simpa [List.replicate_succ] using e1
        exact h.unlike 0 (by simp) hx
    have g' : RunsOk (List.replicate m d ++ (qs.flatMap fun r => List.replicate r.2 r.1)) ((d, m) :: qs) := ⟨rfl, g.pos, g.unlike⟩
    have h' : RunsOk (List.replicate k c ++ (rs.flatMap fun r => List.replicate r.2 r.1)) ((c, k) :: rs) := ⟨rfl, h.pos, h.unlike⟩
    obtain ⟨e1, e2⟩ := hd h' pm h2 pk
    obtain ⟨_, e3⟩ := hd g' pk h2.symm pm
    obtain rfl : m = k := by omega
    subst e1
    have h3 := List.append_cancel_left h2
    have ht := h.tail
    have gt := g.tail
    rw [h3] at gt
    rw [RunsOk.one ht gt]
/-- one more run -/
theorem RunsOk.snoc {l : List Nat} {rs : List (Nat × Nat)} {c k : Nat} (h : RunsOk l rs) (hk : 1 ≤ k) (hc : ∀ d j, rs.getLast? = some (d, j) → d ≠ c) : RunsOk (l ++ List.replicate k c) (rs ++ [(c, k)]) := by
  refine ⟨?_, fun r hr => ?_, fun i hi => ?_⟩
  · rw [List.flatMap_append, h.flat]
    simp
  · rcases List.mem_append.mp hr with hr | hr
    · exact h.pos r hr
    · rw [List.mem_singleton.mp hr]
      exact hk
  · rw [List.length_append, List.length_singleton] at hi
    by_cases hi2 : i + 1 < rs.length
    · have := h.unlike i hi2
      rw [List.getD_eq_getElem?_getD, List.getD_eq_getElem?_getD] at this ⊢
      rw [List.getElem?_append_left (by omega), List.getElem?_append_left hi2]
      exact this
    · have hi3 : i + 1 = rs.length := by omega
      rw [List.getD_eq_getElem?_getD, List.getD_eq_getElem?_getD, List.getElem?_append_left (by omega), List.getElem?_append_right (by omega), show i + 1 - rs.length = 0 by omega]
      have e : rs.getLast? = rs[i]? := by rw [List.getLast?_eq_getElem?, show rs.length - 1 = i by omega]
      have e2 : rs[i]? = some rs[i] := List.getElem?_eq_getElem (by omega)
      rw [e2]
      exact hc _ rs[i].2 (by rw [e, e2]; rfl)
/-- the number of unlike signs -/
theorem dd_small {z : Str} : (ddS (signsS z)).length < 2 → (ddS (signsS z)).length = ringM z.cps.toList := by
  intro h
  cases hz : z.cps.toList with
  | nil => unfold signsS; rw [hz]; rfl
  | cons a r =>
    have ha : (⟨#[a]⟩ : Str) ∈ ddS (signsS z) := (ddS_mem _ _).mpr (by unfold signsS; rw [hz]; exact List.mem_cons_self)
    have hall : ∀ c ∈ r, c = a := by
      intro c hc
      have hc2 : (⟨#[c]⟩ : Str) ∈ ddS (signsS z) := (ddS_mem _ _).mpr (by unfold signsS; rw [hz]; exact List.mem_cons_of_mem _ (List.mem_map.mpr ⟨c, hc, rfl⟩))
      cases hd : ddS (signsS z) with
      | nil => rw [hd] at ha; cases ha
      | cons x xs =>
        rw [hd] at h ha hc2
        have : xs = [] := by cases xs with
          | nil => rfl
          | cons y ys => simp at h; omega
        subst this
        have h1 := List.mem_singleton.mp ha
        have h2 := List.mem_singleton.mp hc2
        have := h2.trans h1.symm
        have := congrArg (fun s : Str => s.cps.toList) this
        simpa using this
    have h1 : (ddS (signsS z)).length = 1 := by
      cases hd : ddS (signsS z) with
      | nil => rw [hd] at ha; cases ha
      | cons x xs => rw [hd] at h; simp at h ⊢; cases xs with
        | nil => rfl
        | cons y ys => simp at h; omega
    rw [h1]
    unfold ringM
    have h0 : cyc (a :: r) = 0 := by
      rw [cyc_cons]
      refine adj_alike fun c hc => ?_
      rcases List.mem_append.mp hc with hc | hc
      · exact hall c hc
      · exact List.mem_singleton.mp hc
    rw [h0]
    rfl
theorem dd_great {z : Str} (h : ¬ (ddS (signsS z)).length < 2) : z.cps.toList ≠ [] ∧ cyc z.cps.toList = ringM z.cps.toList := by
  have hz : z.cps.toList ≠ [] := fun e => h (by unfold signsS; rw [e]; decide)
  refine ⟨hz, ?_⟩
  unfold ringM
  rw [if_neg hz]
  by_cases h0 : cyc z.cps.toList = 0
  · exfalso
    apply h
    cases hc : z.cps.toList with
    | nil => exact absurd hc hz
    | cons a r =>
      rw [hc, cyc_cons] at h0
      have hall := adj_zero (a := a) (l := r ++ [a]) h0
      have e : signsS z = List.replicate (r.length + 1) ⟨#[a]⟩ := by
        unfold signsS
        rw [hc, List.map_cons, List.replicate_succ]
        congr 1
        exact List.eq_replicate_iff.mpr ⟨by rw [List.length_map], fun x hx => by
          obtain ⟨c, hc, rfl⟩ := List.mem_map.mp hx
          rw [hall c (List.mem_append_left _ hc)]⟩
      have gen : ∀ n, ddS (List.replicate (n + 1) (⟨#[a]⟩ : Str)) = [⟨#[a]⟩] := by
        intro n
        induction n with
        | zero => rfl
        | succ n ih =>
          rw [List.replicate_succ', ddS_snoc, ih, if_pos List.mem_cons_self]
      rw [e, gen]
      exact Nat.lt_succ_self 1
  · exact (Nat.max_eq_left (by omega)).symm
end L2

set_option Elab.async false
set_option linter.all false
set_option maxRecDepth 100000
set_option maxHeartbeats 4000000
/-! DataKit: sorted, min of data at any depth and length, as rules of the layer. -/
namespace L2
open PySem PySem.Spec PyProof.Rows
section
variable {X : Cx} {pins : List (Addr × Obj)} {σ : St} {H : Hp} {s : Shared}
theorem each_vals (I : Inv X pins σ H s) : ∀ {bs : List (V × PyData)} {us : List Value}, Vals (bs.map (·.1)) us → (∀ b ∈ bs, Dp X.K H b.1 b.2) → PySem.W.EachIs (fun v b => RelV b.1 v) us bs ∧ PySem.W.EachIs (fun v b => ∃ as, Reads s.heap v b.2 as) us bs
  | [], _, r, _ => by
    cases r
    exact ⟨.nil, .nil⟩
  | b :: bs, _, r, h => by
    cases r with
    | cons r1 r2 =>
      obtain ⟨e1, e2⟩ := each_vals I r2 fun c hc => h c (List.mem_cons_of_mem _ hc)
      exact ⟨.cons r1 e1, .cons (Dp.reads I _ _ _ (h b List.mem_cons_self) r1) e2⟩
theorem vals_each : ∀ {us : List Value} {bs : List (V × PyData)}, PySem.W.EachIs (fun v b => RelV b.1 v) us bs → Vals (bs.map (·.1)) us
  | _, _, .nil => .nil
  | _, _, .cons r t => .cons r (vals_each t)
/-- sorted(xs) of data that are alike -/
def rSortedD (K : PySem.W.Frag) : List V → Hp → VK → Prop := fun vs H Q => ∃ (a : Addr) (bs : List (V × PyData)), vs = [V.ref a] ∧ SqL K H a (bs.map (·.1)) ∧ (∀ b ∈ bs, Dp K H b.1 b.2) ∧ PySem.W.AllAlike (bs.map (·.2)) ∧ PySem.W.Sortable (bs.map (·.2)) ∧ (∀ b ∈ bs, b.2.depth ≤ 50) ∧
  ∀ p, H p = none → Q (.ref p) (upd H p (.lst ((bs.mergeSort (PySem.W.dataLe false (·.2))).map (·.1))))
theorem cr_sortedD (hu : X.A.units + 64 < cLine) : CallR X (.builtin "sorted") (rSortedD X.K) := by
  intro pins s σ H vs us Q I r h
  obtain ⟨a, bs, rfl, hs, hd, hal, hk, hdep, q⟩ := h
  obtain ⟨its, rv, hl, hz⟩ := I.list hs
  obtain ⟨u, rfl, ru⟩ := vals1 r
  obtain rfl : u = Value.ref a := ru
  obtain ⟨e1, e2⟩ := each_vals I rv hd
  rw [List.length_map] at hz
  refine PySem.W.sorted_data (enc := fun b : V × PyData => b.2) hl.isList e1 e2 hal hk hz (fun b hb => by have := hdep b hb; omega) fun out hlen ho => ?_
  obtain ⟨n, hn⟩ := sortedAll_at s.heap its out.toArray
  have rv2 := vals_each ho
  exact ⟨.ref (s.heap.objs.size + 1), _, I.laid (t' := s.toks) (a := s.heap.objs.size + 1) (o := .lst ((bs.mergeSort (PySem.W.dataLe false (·.2))).map (·.1))) (fun b o e => sortedAll_old e) (Nat.le_succ _) ⟨by rw [rv2.length, hlen]; exact hz, out, n, rv2, hn⟩, rfl, q _ (I.hok.fresh (Nat.le_succ _))⟩
/-- min(xs) of texts, one at least -/
def minS (x : Str) (xs : List Str) : Str := xs.foldl (fun a y => if decide (y.cps.toList < a.cps.toList) = true then y else a) x
theorem minD_strs (x : Str) : ∀ xs : List Str, PySem.W.minD (.str x) (xs.map PyData.str) = .str (minS x xs) := by
  intro xs
  induction xs generalizing x with
  | nil => rfl
  | cons y ys ih =>
    show PySem.W.minD (if PySem.W.dataLt (.str y) (.str x) = true then .str y else .str x) (ys.map PyData.str) = .str (minS (if decide (y.cps.toList < x.cps.toList) = true then y else x) ys)
    rw [PySem.W.dataLt_str]
    split
    · exact ih y
    · exact ih x
theorem reads_strs {h : Heap} : ∀ {xs : List Str} {us : List Value}, Vals (xs.map V.str) us → ∃ as, ReadsAll h us (xs.map PyData.str) as
  | [], _, r => by
    cases r
    exact ⟨_, .nil⟩
  | x :: xs, _, r => by
    cases r with
    | cons r1 r2 =>
      obtain ⟨t, rfl⟩ := r1
      obtain ⟨as, z⟩ := reads_strs (h := h) r2
      exact ⟨_, .cons (.str x t) z⟩
theorem depth_strs : ∀ xs : List Str, PyData.depthAll (xs.map PyData.str) ≤ 1
  | [] => by simp [PyData.depthAll]
  | x :: xs => by
    have := depth_strs xs
    simp only [List.map_cons, PyData.depthAll, PyData.depth]
    omega
def rMinS (K : PySem.W.Frag) : List V → Hp → VK → Prop := fun vs H Q => ∃ (a : Addr) (x : Str) (xs : List Str), vs = [V.ref a] ∧ SqL K H a ((x :: xs).map V.str) ∧ Q (.str (minS x xs)) H
theorem cr_minS (hc : X.calm = true) (hu : X.A.units + 64 < cLine) : CallR X (.builtin "min") (rMinS X.K) := by
  intro pins s σ H vs us Q I r h
  obtain ⟨a, x, xs, rfl, hs, q⟩ := h
  obtain ⟨its, rv, hl, hz⟩ := I.list hs
  obtain ⟨u, rfl, ru⟩ := vals1 r
  obtain rfl : u = Value.ref a := ru
  obtain ⟨as, hr⟩ := reads_strs (h := s.heap) rv
  have hdep := depth_strs (x :: xs)
  refine PySem.W.min_list_data (x := .str x) (xs := xs.map PyData.str) (I.ok.hd hc) hl.isList (by simpa using hr) ⟨fun y hy z hz => ?_, fun y hy => ?_⟩ (by have : PyData.depthAll (PyData.str x :: xs.map PyData.str) ≤ 1 := hdep; omega) fun i v h' tk bs hv hrd hk => ?_
  · obtain ⟨y', _, rfl⟩ := List.mem_map.mp (show y ∈ (x :: xs).map PyData.str from hy)
    obtain ⟨z', _, rfl⟩ := List.mem_map.mp (show z ∈ (x :: xs).map PyData.str from hz)
    simp [PySem.W.alike]
  · obtain ⟨y', _, rfl⟩ := List.mem_map.mp (show y ∈ (x :: xs).map PyData.str from hy)
    exact fun z => nomatch z
  · rw [minD_strs] at hrd
    cases hrd with
    | str _ t => exact ⟨.str (minS x xs), H, I.kept (t' := tk) hk, ⟨t, rfl⟩, q⟩
end
end L2

set_option Elab.async false
set_option linter.all false
set_option maxRecDepth 100000
set_option maxHeartbeats 4000000
/-! SortKit: a list put in order, as a plain function that evaluates. -/
namespace L2
open PySem
section
variable {α : Type} (le : α → α → Bool)
def ins (a : α) : List α → List α
  | [] => [a]
  | b :: r => if le a b = true then a :: b :: r else b :: ins a r
def isort : List α → List α
  | [] => []
  | a :: r => ins le a (isort r)
theorem ins_perm (a : α) : ∀ l, (ins le a l).Perm (a :: l)
  | [] => .refl _
  | b :: r => by
    unfold ins
    split
    · exact .refl _
    · exact ((ins_perm a r).cons b).trans (.swap a b r)
theorem isort_perm : ∀ l, (isort le l).Perm l
  | [] => .refl _
  | a :: r => (ins_perm le a _).trans ((isort_perm r).cons a)
variable (trans : ∀ x y z, le x y = true → le y z = true → le x z = true) (total : ∀ x y, (le x y || le y x) = true)
include trans total
theorem ins_sorted (a : α) : ∀ {l : List α}, l.Pairwise (fun x y => le x y = true) → (ins le a l).Pairwise (fun x y => le x y = true)
  | [], _ => List.pairwise_singleton _ _
  | b :: r, h => by
    obtain ⟨h1, h2⟩ := List.pairwise_cons.mp h
    unfold ins
    split
    · rename_i q
      refine List.pairwise_cons.mpr ⟨fun c hc => ?_, h⟩
      rcases List.mem_cons.mp hc with rfl | hc
      · exact q
      · exact trans _ _ _ q (h1 c hc)
    · rename_i q
      refine List.pairwise_cons.mpr ⟨fun c hc => ?_, ins_sorted a h2⟩
      have hc2 := (ins_perm le a r).mem_iff.mp hc
      rcases List.mem_cons.mp hc2 with rfl | hc2
      · have t := total c b
        rw [Bool.or_eq_true] at t
        exact t.resolve_left q
      · exact h1 c hc2
theorem isort_sorted : ∀ l : List α, (isort le l).Pairwise (fun x y => le x y = true)
  | [] => List.Pairwise.nil
  | a :: r => ins_sorted le trans total a (isort_sorted r)
omit trans total in
theorem sorted_uniq : ∀ {l m : List α}, (∀ x ∈ l, ∀ y ∈ l, le x y = true → le y x = true → x = y) → l.Perm m → l.Pairwise (fun x y => le x y = true) → m.Pairwise (fun x y => le x y = true) → l = m
  | [], m, _, p, _, _ => by rw [List.nil_perm.mp p]
  | a :: l, m, an, p, h1, h2 => by
    cases m with
    | nil => exact absurd p.length_eq (by simp)
    | cons b m =>
      obtain ⟨s1, s2⟩ := List.pairwise_cons.mp h1
      obtain ⟨t1, t2⟩ := List.pairwise_cons.mp h2
      have e : a = b := by
        have ha : a ∈ b :: m := p.mem_iff.mp List.mem_cons_self
        have hb : b ∈ a :: l := p.mem_iff.mpr List.mem_cons_self
        rcases List.mem_cons.mp ha with e | ha
        · exact e
        rcases List.mem_cons.mp hb with e | hb2
        · exact e.symm
        exact an _ List.mem_cons_self _ hb (s1 b hb2) (t1 a ha)
      subst e
      rw [sorted_uniq (fun x hx y hy => an x (List.mem_cons_of_mem _ hx) y (List.mem_cons_of_mem _ hy)) p.cons_inv s2 t2]
theorem msort_isort (l : List α) (an : ∀ x ∈ l, ∀ y ∈ l, le x y = true → le y x = true → x = y) : l.mergeSort le = isort le l := by
  refine sorted_uniq le (fun x hx y hy => an x ((List.mergeSort_perm l le).mem_iff.mp hx) y ((List.mergeSort_perm l le).mem_iff.mp hy)) ((List.mergeSort_perm l le).trans (isort_perm le l).symm) ?_ (isort_sorted le trans total l)
  exact List.pairwise_mergeSort (fun a b c => trans a b c) (fun a b => total a b) l
end
/-- a sign and its place, as data -/
def skey (cs : List Nat) (i : Nat) : PyData := .tuple [.str ⟨#[cs.getD i 0]⟩, .int i]
/-- a pair of an address and its place, by sign and place -/
def dle {β : Type} (k : β → PyData) : β → β → Bool := PySem.W.dataLe false k
theorem dle_trans {β : Type} (k : β → PyData) (x y z : β) (h1 : dle k x y = true) (h2 : dle k y z = true) : dle k x z = true := (PySem.W.sortLe_total (PyProof.Rows.listOrd PyProof.Rows.itemOrd) false fun b => PySem.W.keyToks (k b)).trans x y z h1 h2
theorem dle_total {β : Type} (k : β → PyData) (x y : β) : (dle k x y || dle k y x) = true := by
  rw [Bool.or_eq_true]
  exact (PySem.W.sortLe_total (PyProof.Rows.listOrd PyProof.Rows.itemOrd) false fun b => PySem.W.keyToks (k b)).total x y
theorem dle_anti {β : Type} {k : β → PyData} {x y : β} (h1 : dle k x y = true) (h2 : dle k y x = true) : PySem.W.keyToks (k x) = PySem.W.keyToks (k y) := by
  have e1 : (!(PyProof.Rows.listOrd PyProof.Rows.itemOrd).blt (PySem.W.keyToks (k y)) (PySem.W.keyToks (k x))) = true := h1
  have e2 : (!(PyProof.Rows.listOrd PyProof.Rows.itemOrd).blt (PySem.W.keyToks (k x)) (PySem.W.keyToks (k y))) = true := h2
  rw [Bool.not_eq_true'] at e1 e2
  exact (PyProof.Rows.listOrd PyProof.Rows.itemOrd).total _ _ e2 e1
/-- the places in the order of their signs -/
def ordI (cs : List Nat) : List Nat := isort (dle (skey cs)) (List.range cs.length)
theorem skey_inj {cs ds : List Nat} {i j : Nat} (h : PySem.W.keyToks (skey cs i) = PySem.W.keyToks (skey ds j)) : i = j := by
  have e1 : ∀ (es : List Nat) (n : Nat), PySem.W.keyToks (skey es n) = [.inl 1, .inr [es.getD n 0], .inl 1, .inl n, .inl 0] := fun es n => by
    simp [skey, PySem.W.keyToks, PySem.W.keyToksAll]
  rw [e1, e1] at h
  injection h with _ h
  injection h with _ h
  injection h with _ h
  injection h with h _
  injection h with h
  exact Int.ofNat.inj h
/-- the pairs at their places, put in order: as ordI says -/
theorem sort_pairs (cs : List Nat) (bs : List (V × PyData)) (f : Nat → Addr) (e : bs = (List.range cs.length).map fun i => (V.ref (f i), skey cs i)) :
    (bs.mergeSort (PySem.W.dataLe false (·.2))).map (·.1) = (ordI cs).map fun i => V.ref (f i) := by
  have h1 := List.map_mergeSort (f := fun i : Nat => (V.ref (f i), skey cs i)) (r := dle (skey cs)) (s := PySem.W.dataLe false (·.2)) (l := List.range cs.length) fun a _ b _ => rfl
  rw [e, ← h1, List.map_map, msort_isort (dle (skey cs)) (dle_trans _) (dle_total _) _ fun x _ y _ h1 h2 => skey_inj (dle_anti h1 h2)]
  rfl
example : ordI [98, 97, 36, 97] = [2, 1, 3, 0] := by decide +kernel
end L2

set_option Elab.async false
set_option linter.all false
set_option maxRecDepth 100000
set_option maxHeartbeats 4000000
/-! IntsKit: tuples and lists of ints as data. -/
namespace L2
open PySem
def tI (ns : List Int) : PyData := .tuple (ns.map PyData.int)
def lI (ns : List Int) : PyData := .list (ns.map PyData.int)
theorem dp_ints {K : PySem.W.Frag} {H : Hp} : ∀ ns : List Int, DpAll K H (ns.map V.int) (ns.map PyData.int)
  | [] => .nil
  | n :: r => .cons (.int n) (dp_ints r)
theorem dp_tI {K : PySem.W.Frag} {H : Hp} {a : Addr} {ns : List Int} (h : SqT K H a (ns.map V.int)) : Dp K H (.ref a) (tI ns) := .tup h (dp_ints ns)
theorem dp_lI {K : PySem.W.Frag} {H : Hp} {a : Addr} {ns : List Int} (h : SqL K H a (ns.map V.int)) : Dp K H (.ref a) (lI ns) := .lst h (dp_ints ns)
theorem shaped_lI (ns : List Int) : SeqAt.shaped (lI ns) = true := PySem.W.ke_shaped_ints ns
theorem shaped_tI (ns : List Int) : SeqAt.shaped (tI ns) = true := by
  simp [tI, SeqAt.shaped, PyData.canLay0, PyData.depth, PySem.W.ke_canLayAll0, PySem.W.ke_depthAll]
theorem eqvAll_ints : ∀ ns ms : List Int, PyData.eqvAll (ns.map PyData.int) (ms.map PyData.int) = decide (ns = ms)
  | [], [] => by simp [PyData.eqvAll]
  | [], _ :: _ => by simp [PyData.eqvAll]
  | _ :: _, [] => by simp [PyData.eqvAll]
  | n :: r, k :: q => by
    simp only [List.map_cons, PyData.eqvAll, PyData.eqv, eqvAll_ints r q]
    by_cases h : n = k <;> simp [h]
theorem eqv_tI (ns ms : List Int) : PyData.eqv (tI ns) (tI ms) = decide (ns = ms) := by
  unfold tI
  simp only [PyData.eqv]
  exact eqvAll_ints ns ms
theorem eqv_lI (ns ms : List Int) : PyData.eqv (lI ns) (lI ms) = decide (ns = ms) := by
  unfold lI
  simp only [PyData.eqv]
  exact eqvAll_ints ns ms
theorem depth_tI (ns : List Int) : (tI ns).depth = 1 := by simp [tI, PyData.depth, PySem.W.ke_depthAll]
theorem flat_ints (ns : List Int) : (ns.map V.int).all flatV = true := by
  rw [List.all_map, List.all_eq_true]
  intro n _
  rfl
theorem inV_ints (k : Int) (ns : List Int) : inV (.int k) (ns.map V.int) = ns.any (· == k) := by
  unfold inV
  rw [List.any_map]
  rfl
/-- a tuple of ints -/
def RTup (H : Hp) (x : V) (ns : List Int) : Prop := ∃ p, x = .ref p ∧ H p = some (.tup (ns.map V.int))
theorem rtup_keep (H H' : Hp) (x : V) (ns : List Int) (k : KeepL H H') (r : RTup H x ns) : RTup H' x ns := by
  obtain ⟨p, rfl, e⟩ := r
  exact ⟨p, rfl, k _ _ e fun _ z => by cases z⟩
theorem rtup_same (H H' : Hp) (x : V) (ns : List Int) (s : ∀ b o, H b = some o → H' b = some o) (r : RTup H x ns) : RTup H' x ns := rtup_keep H H' x ns (.of s) r
def RInt (_ : Hp) (x : V) (n : Int) : Prop := x = .int n
theorem rint_keep (H H' : Hp) (x : V) (n : Int) (_ : KeepL H H') (r : RInt H x n) : RInt H' x n := r
theorem rint_map {H : Hp} {ys : List V} {ns : List Int} (h : All2 (RInt H) ys ns) : ys = ns.map V.int := All2.eq_map (f := V.int) h
/-- tuples of ints by their order -/
def leT (a b : List Int) : Bool := dle tI a b
def sortT (xs : List (List Int)) : List (List Int) := isort leT xs
theorem toks_tI (ns : List Int) : ∃ r, PySem.W.keyToks (tI ns) = r := ⟨_, rfl⟩
end L2
namespace L2
open PySem
theorem toksAll_inj : ∀ {ns ms : List Int}, PySem.W.keyToksAll (ns.map PyData.int) = PySem.W.keyToksAll (ms.map PyData.int) → ns = ms
  | [], [], _ => rfl
  | [], m :: r, h => by simp [PySem.W.keyToksAll] at h
  | n :: r, [], h => by simp [PySem.W.keyToksAll] at h
  | n :: r, m :: q, h => by
    simp only [List.map_cons, PySem.W.keyToksAll, PySem.W.keyToks, List.cons_append, List.nil_append] at h
    injection h with _ h
    injection h with h1 h2
    injection h1 with h1
    rw [h1, toksAll_inj h2]
theorem toks_inj {ns ms : List Int} (h : PySem.W.keyToks (tI ns) = PySem.W.keyToks (tI ms)) : ns = ms := by
  unfold tI at h
  simp only [PySem.W.keyToks] at h
  exact toksAll_inj h
theorem zip_snd {α β : Type} {R : α → β → Prop} {xs : List α} {zs : List β} (h : All2 R xs zs) : (xs.zip zs).map (·.2) = zs ∧ (∀ q ∈ xs.zip zs, R q.1 q.2) ∧ (xs.zip zs).map (·.1) = xs := by
  induction h with
  | nil => exact ⟨rfl, fun q hq => (by cases hq), rfl⟩
  | cons h t ih =>
    refine ⟨?_, fun q hq => ?_, ?_⟩
    · rw [List.zip_cons_cons, List.map_cons, ih.1]
    · rw [List.zip_cons_cons] at hq
      rcases List.mem_cons.mp hq with rfl | hq
      · exact h
      · exact ih.2.1 q hq
    · rw [List.zip_cons_cons, List.map_cons, ih.2.2]
theorem all2_of_pairs {α β : Type} {R : α → β → Prop} : ∀ {qs : List (α × β)}, (∀ q ∈ qs, R q.1 q.2) → All2 R (qs.map (·.1)) (qs.map (·.2))
  | [], _ => .nil
  | q :: qs, h => .cons (h q List.mem_cons_self) (all2_of_pairs fun p hp => h p (List.mem_cons_of_mem _ hp))
def prD (q : V × List Int) : V × PyData := (q.1, tI q.2)
theorem sorted_tups {R : V → List Int → Prop} {xs : List V} {zs : List (List Int)} (h : All2 R xs zs) : All2 R ((((xs.zip zs).map prD).mergeSort (PySem.W.dataLe false (·.2))).map (·.1)) (sortT zs) := by
  obtain ⟨e2, hR, _⟩ := zip_snd h
  have h1 := List.map_mergeSort (f := prD) (r := dle fun q : V × List Int => tI q.2) (s := PySem.W.dataLe false (·.2)) (l := xs.zip zs) fun a _ b _ => rfl
  rw [← h1, List.map_map]
  have hp := List.mergeSort_perm (xs.zip zs) (dle fun q : V × List Int => tI q.2)
  have hs : ((xs.zip zs).mergeSort (dle fun q : V × List Int => tI q.2)).Pairwise (fun x y => dle (fun q : V × List Int => tI q.2) x y = true) := List.pairwise_mergeSort (fun a b c => dle_trans _ a b c) (fun a b => dle_total _ a b) _
  have e3 : ((xs.zip zs).mergeSort (dle fun q : V × List Int => tI q.2)).map (·.2) = sortT zs := by
    refine sorted_uniq leT (fun x _ y _ a b => toks_inj (dle_anti a b)) ?_ ?_ (isort_sorted leT (dle_trans tI) (dle_total tI) zs)
    · have q := (hp.map (·.2)).trans (by rw [e2])
      exact q.trans (isort_perm leT zs).symm
    · rw [List.pairwise_map]
      exact hs
  rw [← e3]
  exact all2_of_pairs fun q hq => hR q (hp.mem_iff.mp hq)
theorem alike_ints : ∀ ns ms : List Int, PySem.W.alikeAll (ns.map PyData.int) (ms.map PyData.int) = true
  | [], [] => rfl
  | [], _ :: _ => rfl
  | _ :: _, [] => rfl
  | n :: r, m :: q => by simp [PySem.W.alikeAll, PySem.W.alike, alike_ints r q]
/-- sorted(xs) of tuples of ints, none empty -/
theorem sortedT_ok {K : PySem.W.Frag} {H : Hp} {a : Addr} {xs : List V} {zs : List (List Int)} {Q : VK} (hS : H a = some (.lst xs)) (h : All2 (RTup H) xs zs) (hne : ∀ z ∈ zs, z ≠ [])
    (k : ∀ p ys, H p = none → All2 (RTup H) ys (sortT zs) → Q (.ref p) (upd H p (.lst ys))) : rSortedD K [V.ref a] H Q := by
  obtain ⟨e2, hR, e1⟩ := zip_snd h
  have em : ((xs.zip zs).map prD).map (·.1) = xs := by
    rw [List.map_map]
    exact e1
  have ed : ((xs.zip zs).map prD).map (·.2) = zs.map tI := by
    rw [List.map_map]
    conv => rhs; rw [← e2, List.map_map]
    rfl
  refine ⟨a, (xs.zip zs).map prD, rfl, by rw [em]; exact .of hS, fun b hb => ?_, ?_, ?_, fun b hb => ?_, fun p hp => k p _ hp (sorted_tups h)⟩
  · obtain ⟨q, hq, rfl⟩ := List.mem_map.mp hb
    obtain ⟨p, e, hp⟩ := hR q hq
    show Dp K H q.1 (tI q.2)
    rw [e]
    exact dp_tI (.of hp)
  · rw [ed]
    intro d hd d' hd'
    obtain ⟨n, _, rfl⟩ := List.mem_map.mp hd
    obtain ⟨m, _, rfl⟩ := List.mem_map.mp hd'
    simp only [tI, PySem.W.alike]
    exact alike_ints n m
  · rw [ed]
    refine .inl fun d hd => ?_
    obtain ⟨n, hn, rfl⟩ := List.mem_map.mp hd
    cases n with
    | nil => exact absurd rfl (hne _ hn)
    | cons n r => exact ⟨.int n, r.map PyData.int, rfl⟩
  · obtain ⟨q, hq, rfl⟩ := List.mem_map.mp hb
    show (tI q.2).depth ≤ 50
    rw [depth_tI]
    decide
end L2
namespace L2
open PySem
theorem catA_ok {K : PySem.W.Frag} {H : Hp} {a b : Addr} {xs ys : List V} {Q : VK} (ha : H a = some (.tup xs)) (hb : H b = some (.tup ys)) (hl : xs.length + ys.length ≤ sizeLine) (k : ∀ p H', Same H H' → H' p = some (.tup (xs ++ ys)) → Q (.ref p) H') : rCatA K (.ref a) (.ref b) H Q :=
  ⟨a, b, xs, ys, rfl, rfl, .of ha, .of hb, hl, fun e => k _ _ (.refl _) (by rw [e]; exact hb), fun _ e => k _ _ (.refl _) (by rw [e, List.append_nil]; exact ha), fun _ _ p hp => k _ _ (fun c u e => by rw [upd_ne (ne_of_none e hp)]; exact e) upd_same⟩
theorem cutV_whole (xs : List V) (lo hi : Option Int) (h : HT.sIx xs.length 0 lo = 0 ∧ HT.sIx xs.length xs.length hi = xs.length) : cutV xs lo hi = xs := by
  unfold cutV
  rw [h.1, h.2]
  simp
theorem slA_ok {K : PySem.W.Frag} {H : Hp} {a : Addr} {xs : List V} {lo hi : Option Int} {Q : VK} (ha : H a = some (.tup xs)) (k : ∀ p H', Same H H' → H' p = some (.tup (cutV xs lo hi)) → Q (.ref p) H') : rSlA K (.ref a) lo hi H Q :=
  ⟨a, xs, rfl, .of ha, fun e => k _ _ (.refl _) (by rw [cutV_whole xs lo hi e]; exact ha), fun _ p hp => k _ _ (fun c u e => by rw [upd_ne (ne_of_none e hp)]; exact e) upd_same⟩
end L2
namespace L2
open PySem PySem.Spec PyProof.Rows
section
variable {X : Cx}
/-- xs + ys of lists that may be read only -/
def rCatS (K : PySem.W.Frag) : R2 := fun x y H Q => ∃ l b xs zs, x = .ref l ∧ y = .ref b ∧ SqL K H l xs ∧ SqL K H b zs ∧ xs.length + zs.length ≤ sizeLine ∧ ∀ p, H p = none → Q (.ref p) (upd H p (.lst (xs ++ zs)))
theorem op_catS : OpR X (binaryOp .Add) (rCatS X.K) := by
  intro pins s σ H x y v u Q I rx ry h
  obtain ⟨l, b, xs, zs, rfl, rfl, ha, hb, hz, q⟩ := h
  cases rx
  cases ry
  obtain ⟨its, r1, p1, _⟩ := I.list ha
  obtain ⟨its2, r2, p2, _⟩ := I.list hb
  obtain ⟨⟨cls, dd, data, sl⟩, n, ho, hc, hdn, hd⟩ := p1
  obtain ⟨⟨cls2, dd2, data2, sl2⟩, n2, ho2, hc2, hdn2, hd2⟩ := p2
  simp only at hc hdn hd hc2 hdn2 hd2
  subst hc hdn hd hc2 hdn2 hd2
  have l1 := r1.length
  have l2 := r2.length
  refine concat_meets ⟨_, ho, rfl⟩ ⟨_, ho2, rfl⟩ noFill_list_add seq_list_add PySem.F.slot_list_add PySem.F.entry_list_add (PySem.F.args_list_add_2 _ _)
    (list_addW l b its.toArray its2.toArray n n2 none none sl sl2 (by rw [List.size_toArray, List.size_toArray]; omega)) ⟨ho, ho2, ?_⟩
  have ea : its.toArray ++ its2.toArray = (its ++ its2).toArray := by simp
  rw [ea]
  exact ⟨.ref _, _, I.lnew (t' := s.toks) (r1.append r2) (by rw [List.length_append]; omega), rfl, q _ I.fresh⟩
end
end L2

set_option Elab.async false
set_option linter.all false
set_option maxRecDepth 100000
set_option maxHeartbeats 4000000
/-! ValKit: d.values(), sum and list of it; math.comb. -/
namespace L2
open PySem PySem.Spec PyProof.Rows
section
variable {X : Cx}
abbrev vwO (p d : Addr) : HO := viewO "dict_values" p d
def rVals : V → List V → Hp → VK → Prop := fun x xs H Q => ∃ (a : Addr) (kvs : List (Key × V)), x = .ref a ∧ xs = [] ∧ H a = some (.dK kvs) ∧ ∀ p, H p = none → Q (.ref p) (upd H p (vwO p a))
theorem mt_values : MtR X "dict.values" rVals := by
  intro pins s σ H x xs v us Q I rx rxs h
  obtain ⟨a, kvs, rfl, rfl, ha, q⟩ := h
  cases rx
  cases rxs
  obtain ⟨_, hsys, vs, rel, dof⟩ := dk_of I.hok ha
  refine call_meetsIn F.slot_dict_values dof.typeIs F.entry_dict_values (F.args_dict_values_1 _) (meets_dict_values (mixKind X.prog X.w) a hsys) ⟨⟨vs, dof⟩, ?_⟩
  exact ⟨.ref s.heap.objs.size, upd H s.heap.objs.size (vwO s.heap.objs.size a), I.laid (t' := s.toks) (fun b u e => Heap.get?_push_of_some _ e) (Nat.le_refl _) (viewO_ok (Heap.get?_push_size _ rfl)), rfl, q _ (I.hok.fresh (Nat.le_refl _))⟩
theorem preSum_ints (ns : List Int) : ∀ j, preSum (fun i => ns.getD i 0) j = (ns.take j).sum := by
  intro j
  induction j with
  | zero => simp [preSum]
  | succ j ih =>
    rw [preSum, ih]
    by_cases h : j < ns.length
    · rw [List.getD_eq_getElem?_getD, List.getElem?_eq_getElem h, List.take_succ_eq_append_getElem h, List.sum_append]
      simp only [Option.getD_some, List.sum_cons, List.sum_nil, Int.add_zero]
    · rw [List.take_of_length_le (by omega), List.take_of_length_le (by omega), List.getD_eq_getElem?_getD, List.getElem?_eq_none (by omega)]
      simp
def rSumV : List V → Hp → VK → Prop := fun xs H Q => ∃ (p a : Addr) (kvs : List (Key × V)) (ns : List Int), xs = [.ref p] ∧ H p = some (vwO p a) ∧ H a = some (.dK kvs) ∧ kvs.map (·.2) = ns.map V.int ∧ Q (.int ns.sum) H
theorem cr_sumV (hc : X.calm = true) : CallR X (.builtin "sum") rSumV := by
  intro pins s σ H xs us Q I r h
  obtain ⟨p, a, kvs, ns, rfl, hp, ha, hv, q⟩ := h
  rw [Vals.ref1 r]
  have vw : s.heap.get? p = some (DSub.viewOb "dict_values" a) := (show ObjOk X.prog X.w H s.heap p (vwO p a) from I.hok p _ hp).1
  obtain ⟨_, hsys, vs, rel, dof⟩ := dk_of I.hok ha
  obtain ⟨ep, dat⟩ := dof.dictAt
  obtain ⟨ob, es, ho, ex, hdat, hko, hpr, hnd⟩ := id dat
  have hlt : a < s.heap.objs.size := Heap.lt_size ho
  have hlv : vs.length = ns.length := by
    have e1 := congrArg List.length hv
    rw [List.length_map, List.length_map] at e1
    rw [← e1]
    exact (KV.length rel).symm
  have hval : ∀ (i : Nat) (v : Value), (∃ k, vs[i]? = some (k, v)) → ∃ t, v = Value.int (ns.getD i 0) t := fun i v ⟨k, hk⟩ => by
    obtain ⟨x, h1, h2⟩ := KV.at' rel hk
    have e1 : (kvs.map (·.2))[i]? = some x := by rw [List.getElem?_map, h1] <;> rfl
    rw [hv, List.getElem?_map] at e1
    obtain ⟨j, hj, e2⟩ := Option.map_eq_some_iff.mp e1
    subst e2
    obtain ⟨t, e3⟩ := h2
    refine ⟨t, ?_⟩
    rw [e3, List.getD_eq_getElem?_getD, hj] <;> rfl
  refine call_sum_walkAnyS (wpAny_pyIter_values (v := p) (d := a) ⟨_, vw, rfl, rfl⟩ dat ?_)
  refine ⟨_, _, _, _, _, _, _, fun i => ns.getD i 0, rfl, (Walks.dictValues (knd := mixKind X.prog X.w) (A := X.A.in1) (I.ok.hd hc) s.heap.objs.size a (Nat.ne_of_lt hlt) vs ep).toS,
    ⟨⟨_, Heap.get?_push_size _ rfl, rfl, rfl⟩, dat.keep fun b u e => Heap.get?_push_of_some _ e⟩, fun b hb => ?_, hval, fun s' t' hm => ?_⟩
  · rcases List.mem_cons.mp hb with e | hb
    · rw [e, Heap.size_push]
      exact Nat.lt_succ_self _
    · rw [List.mem_singleton.mp hb, Heap.size_push]
      exact Nat.lt_succ_of_lt hlt
  · have hk : ∀ b o, s.heap.get? b = some o → s'.heap.get? b = some o := fun b o e =>
      hm.heap b o (fun hI => absurd (Heap.lt_size e) (by rw [List.mem_singleton.mp hI]; exact Nat.lt_irrefl _)) (Heap.get?_push_of_some _ e)
    rw [Moved.eq_with hm]
    refine ⟨.int _, H, I.kept (t' := s'.toks) hk, ⟨t', rfl⟩, ?_⟩
    rw [preSum_ints, hlv, List.take_length]
    exact q
def rListV : List V → Hp → VK → Prop := fun xs H Q => ∃ (p a : Addr) (kvs : List (Key × V)), xs = [.ref p] ∧ H p = some (vwO p a) ∧ H a = some (.dK kvs) ∧ ∀ r, H r = none → Q (.ref r) (upd H r (.lst (kvs.map (·.2))))
theorem vals_at {us : List Value} {xs : List V} (hl : us.length = xs.length) (h : ∀ (i : Nat) (u : Value), us[i]? = some u → ∃ x : V, xs[i]? = some x ∧ RelV x u) : Vals xs us := by
  induction xs generalizing us with
  | nil =>
    cases us with
    | nil => exact .nil
    | cons u us => cases hl
  | cons x xs ih =>
    cases us with
    | nil => cases hl
    | cons u us =>
      obtain ⟨y, e, r⟩ := h 0 u rfl
      cases e
      exact .cons r (ih (by simpa using hl) fun i u hu => by simpa using h (i + 1) u (by simpa using hu))
theorem cr_listV (hc : X.calm = true) : CallR X (.type "list") rListV := by
  intro pins s σ H xs us Q I r h
  obtain ⟨p, a, kvs, rfl, hp, ha, q⟩ := h
  rw [Vals.ref1 r]
  have vw : s.heap.get? p = some (DSub.viewOb "dict_values" a) := (show ObjOk X.prog X.w H s.heap p (vwO p a) from I.hok p _ hp).1
  obtain ⟨hz, hsys, vs, rel, dof⟩ := dk_of I.hok ha
  obtain ⟨ep, dat⟩ := dof.dictAt
  have hl : kvs.length = vs.length := KV.length rel
  refine PySem.W.kdl_call (PySem.W.kdl_values (knd := mixKind X.prog X.w) (kvs := vs) (ep := ep)) (I.ok.hd hc) ⟨⟨_, vw, rfl, rfl⟩, dat⟩ (by omega) fun h' tk acc c hk hS hacc => ?_
  refine ⟨.ref s.heap.objs.size, _, I.laid (t' := tk) (a := s.heap.objs.size) (o := .lst (kvs.map (·.2))) hk (Nat.le_refl _) ⟨by rw [List.length_map]; exact hz, acc.toList, c, vals_at (by rw [Array.length_toList, hacc.1, List.length_map, hl]) fun i u hu => ?_, by rw [Array.toArray_toList]; exact hS⟩, rfl, q _ (I.hok.fresh (Nat.le_refl _))⟩
  obtain ⟨k, e⟩ := hacc.2 i u (by rw [← Array.getElem?_toList]; exact hu)
  obtain ⟨x, h1, h2⟩ := KV.at' rel e
  exact ⟨x, by rw [List.getElem?_map, h1] <;> rfl, h2⟩
def rComb : List V → Hp → VK → Prop := fun vs H Q => ∃ a b : Int, vs = [.int a, .int b] ∧ 0 ≤ a ∧ 0 ≤ b ∧ a < 2 ^ 64 ∧ b ≤ 9000 ∧ Q (.int (PySem.W.mcComb a b)) H
theorem cr_comb : CallR X (.builtin "math.comb") rComb := by
  intro pins s σ H vs us Q I r h
  obtain ⟨a, b, rfl, ha, hb, ha2, hk, q⟩ := h
  obtain ⟨t, u, rfl⟩ := Vals.int2 r
  exact PySem.W.mc_comb ha hb ha2 (.inl hk) fun _ => ⟨.int _, H, I.tok _, ⟨_, rfl⟩, q⟩
end
end L2

set_option Elab.async false
set_option linter.all false
set_option maxRecDepth 100000
set_option maxHeartbeats 4000000
namespace T36
open PySem L2 EK
def isTx (z : Str) : Bool := z.cps.toList.all fun c => decide (c ∈ letS.cps.toList)
def isR (z : Str) : Bool := z.cps.toList.all fun c => decide (c = 36) || decide (c ∈ letS.cps.toList)
theorem isTx_of {z : Str} (h : ∀ c ∈ z.cps.toList, c ∈ letS.cps.toList) : isTx z = true := List.all_eq_true.mpr fun c hc => decide_eq_true (h c hc)
theorem one_sign (c : Nat) : decide (V.str ⟨#[c]⟩ = V.str "$") = decide (c = 36) := by
  by_cases h : c = 36
  · subst h
    rfl
  · rw [decide_eq_false h, decide_eq_false]
    intro z
    injection z with z
    injection z with z
    injection z with z
    injection z with z
    exact h z
structure TxtC (K : PySem.W.Frag) (mg : Str → Option Value) : Prop where
  isinstance : mg "isinstance" = none
  str : mg "str" = none
  tuple : mg "tuple" = none
  all : mg "all" = none
  len : mg "len" = none
  range : mg "range" = none
  set : mg "set" = none
  sum : mg "sum" = none
  zip : mg "zip" = none
  max : mg "max" = none
  int : mg "int" = none
  letters : ∃ u, mg "LETTERS" = some u ∧ RelV (.str letS) u
  endS : ∃ u, mg "END" = some u ∧ RelV (.str "$") u
def spIsText : Sp := fun vs H Q _ => ∃ z : Str, vs = [.str z] ∧ z.cps.size ≤ 1000 ∧ ∀ H', Same H H' → Q (.bl (isTx z)) H'
def spIsRow : Sp := fun vs H Q _ => ∃ z : Str, vs = [.str z] ∧ z.cps.size ≤ 1000 ∧ ∀ H', Same H H' → Q (.bl (isR z)) H'
def spCkText : Sp := fun vs H Q _ => ∃ z : Str, vs = [.str z] ∧ z.cps.size ≤ 1000 ∧ isTx z = true ∧ ∀ H', Same H H' → Q .non H'
def spCkRow : Sp := fun vs H Q _ => ∃ z : Str, vs = [.str z] ∧ z.cps.size ≤ 1000 ∧ isR z = true ∧ ∀ H', Same H H' → Q .non H'
/-- a run as it is told -/
def RPair (H : Hp) (x : V) (r : Nat × Nat) : Prop := ∃ q, x = .ref q ∧ H q = some (.tup [.str ⟨#[r.1]⟩, .int (r.2 : Nat)])
theorem rpair_keep (H H' : Hp) (x : V) (r : Nat × Nat) (k : KeepL H H') (h : RPair H x r) : RPair H' x r := by
  obtain ⟨p, rfl, e⟩ := h
  exact ⟨p, rfl, k _ _ e fun _ z => by cases z⟩
def spRuns : Sp := fun vs H Q _ => ∃ z : Str, vs = [.str z] ∧ z.cps.size ≤ 1000 ∧ isR z = true ∧ ∀ p ys rs H', Same H H' → H' p = some (.tup ys) → All2 (RPair H') ys rs → RunsOk z.cps.toList rs → Q (.ref p) H'
def spRing : Sp := fun vs H Q _ => ∃ z : Str, vs = [.str z] ∧ z.cps.size ≤ 1000 ∧ isTx z = true ∧ ∀ H', Same H H' → Q (.int (ringM z.cps.toList : Nat)) H'
abbrev NRN : List Str := ["row", "found", "begin", "end"]
abbrev NRG : List Str := ["word", "sorts", "place"]
theorem take_run {l : List Nat} {b e : Nat} (hbe : b ≤ e) (he : e ≤ l.length) (h : ∀ j, b ≤ j → j < e → l.getD j 0 = l.getD b 0) : l.take e = l.take b ++ List.replicate (e - b) (l.getD b 0) := by
  apply List.ext_getElem?
  intro i
  by_cases hi : i < b
  · rw [List.getElem?_append_left (by rw [List.length_take]; omega), List.getElem?_take, List.getElem?_take, if_pos (by omega), if_pos hi]
  · rw [List.getElem?_append_right (by rw [List.length_take]; omega), List.length_take, List.getElem?_take, List.getElem?_replicate]
    by_cases hie : i < e
    · rw [if_pos hie, if_pos (by omega)]
      have := h i (by omega) hie
      rw [← this, List.getD_eq_getElem?_getD, List.getElem?_eq_getElem (by omega)]
      rfl
    · rw [if_neg hie, if_neg (by omega)]
section
variable {P : Program} {w : World} {K : PySem.W.Frag} {mg : Str → Option Value} {base : Heap}
theorem scIsText : FnScope ["value", "sign"] ["value"] (defScope sIsText) := ⟨rfl, rfl, rfl, by decide +kernel, rfl, by decide +kernel, by decide +kernel⟩
theorem scIsRow : FnScope ["value", "sign"] ["value"] (defScope sIsRow) := ⟨rfl, rfl, rfl, by decide +kernel, rfl, by decide +kernel, by decide +kernel⟩
theorem scCkText : FnScope ["text"] ["text"] (defScope sCkText) := ⟨rfl, rfl, rfl, by decide +kernel, rfl, by decide +kernel, by decide +kernel⟩
theorem scCkRow : FnScope ["row"] ["row"] (defScope sCkRow) := ⟨rfl, rfl, rfl, by decide +kernel, rfl, by decide +kernel, by decide +kernel⟩
theorem scRuns : FnScope NRN ["row"] (defScope sRuns) := ⟨rfl, rfl, rfl, by decide +kernel, rfl, by decide +kernel, by decide +kernel⟩
theorem scRing : FnScope NRG ["word"] (defScope sRingRuns) := ⟨rfl, rfl, rfl, by decide +kernel, rfl, by decide +kernel, by decide +kernel⟩
theorem ok_isText {f : Addr} {fd : FuncData} (F : Fun K "is_text" "is_text" sIsText f fd) (T : TxtC K mg) : FnOk P w K mg base CX0 1 f fd ["value"] spIsText := by
  refine F.ok scIsText (fun vs H Q E h => ?_) (fun cdv A outer s H vs Q E hr h => ?_)
  · obtain ⟨x, rfl, _⟩ := h
    rfl
  · obtain ⟨z, rfl, hz, k⟩ := h
    have nd := scIsText.nd
    refine ⟨_, (pss_one (ps_ret (pe_and (pe_callB call_isi (by rfl) T.isinstance (by decide +kernel) (pa_cons (pv 0) (pa_cons (pe_bltn (v := .ty "str") rfl T.str (by decide +kernel) rfl) pa_nil))) (pe_one (pe_callB (cr_all rfl) (by rfl) T.all (by decide +kernel) (pa_cons (pe_lc (own := [("sign", 1)]) (g := gName 1) (tt := tYes) rfl nd (pi_str (pv 0)) (blkOk_by (N := ["value", "sign"]) (sc := defScope sIsText) (by decide +kernel)) (fun _ _ _ _ _ => (pg_name (i := 1) nd rfl (Or.inl rfl))) (fun _ _ _ _ _ => pts_nil) (fun _ _ _ _ _ => (pe_cmpR op_in_sign (pv 1) (C8.pe_gc (by rfl) T.letters) (by rfl)))) pa_nil)))))), ?_⟩
    refine ⟨_, rfl, _, _, _, _, true, rfl, .ty _, .base (.str z), kit_ty (by decide +kernel), _, rfl, _, rfl, z, rfl, fun D hD => lc_it (walk_str (z := z)) (fun i H' => Same H H' ∧ H' D = some (.lst (((z.cps.toList.take i).map fun c => decide (c ∈ letS.cps.toList)).map V.bl))) ⟨fun b o e => by rw [upd_ne (ne_of_none e hD)]; exact e, upd_same⟩ (fun _ _ _ _ => trivial) ?_ ?_⟩
    · rintro i y H1 H2 hi ⟨s1, d1⟩ ⟨rfl, c, hc, rfl⟩
      have hc' : z.cps.toList[i]? = some c := by rw [Array.getElem?_toList]; exact hc
      refine ⟨rfl, ?_⟩
      refine ⟨_, rfl, c, _, rfl, rfl, _, d1, ?_, fun b o e => ?_, ?_⟩
      · rw [List.length_map, List.length_map, List.length_take]
        have : sizeLine = 2 ^ 24 := sizeLine_eq
        have hl : z.cps.toList.length = z.cps.size := Array.length_toList
        omega
      · rw [upd_ne (ne_of_none e hD)]
        exact s1 _ _ e
      · rw [upd_same, List.take_succ, hc', List.map_append, List.map_append]
        rfl
    · rintro H1 ⟨s1, d1⟩
      rw [← Array.length_toList, List.take_length] at d1
      refine ⟨D, _, rfl, .of d1, ?_⟩
      have e : ((z.cps.toList.map fun c => decide (c ∈ letS.cps.toList)).all id) = isTx z := by
        unfold isTx
        rw [List.all_map]
        rfl
      rw [e]
      exact k H1 s1
theorem ok_isRow {f : Addr} {fd : FuncData} (F : Fun K "is_row" "is_row" sIsRow f fd) (T : TxtC K mg) : FnOk P w K mg base CX0 1 f fd ["value"] spIsRow := by
  refine F.ok scIsRow (fun vs H Q E h => ?_) (fun cdv A outer s H vs Q E hr h => ?_)
  · obtain ⟨x, rfl, _⟩ := h
    rfl
  · obtain ⟨z, rfl, hz, k⟩ := h
    have nd := scIsRow.nd
    refine ⟨_, (pss_one (ps_ret (pe_and (pe_callB call_isi (by rfl) T.isinstance (by decide +kernel) (pa_cons (pv 0) (pa_cons (pe_bltn (v := .ty "str") rfl T.str (by decide +kernel) rfl) pa_nil))) (pe_one (pe_callB (cr_all rfl) (by rfl) T.all (by decide +kernel) (pa_cons (pe_lc (own := [("sign", 1)]) (g := gName 1) (tt := tYes) rfl nd (pi_str (pv 0)) (blkOk_by (N := ["value", "sign"]) (sc := defScope sIsRow) (by decide +kernel)) (fun _ _ _ _ _ => (pg_name (i := 1) nd rfl (Or.inl rfl))) (fun _ _ _ _ _ => pts_nil) (fun _ _ _ _ _ => (pe_or (pe_cmpR op_eq (pv 1) (C8.pe_gc (by rfl) T.endS) (nomark _)) (pe_one (pe_cmpR op_in_sign (pv 1) (C8.pe_gc (by rfl) T.letters) (by rfl)))))) pa_nil)))))), ?_⟩
    · refine ⟨_, rfl, _, _, _, _, true, rfl, .ty _, .base (.str z), kit_ty (by decide +kernel), _, rfl, _, rfl, z, rfl, fun D hD => lc_it (walk_str (z := z)) (fun i H' => Same H H' ∧ H' D = some (.lst (((z.cps.toList.take i).map fun c => decide (c = 36) || decide (c ∈ letS.cps.toList)).map V.bl))) ⟨fun b o e => by rw [upd_ne (ne_of_none e hD)]; exact e, upd_same⟩ (fun _ _ _ _ => trivial) ?_ ?_⟩
      · rintro i y H1 H2 hi ⟨s1, d1⟩ ⟨rfl, c, hc, rfl⟩
        have hc' : z.cps.toList[i]? = some c := by rw [Array.getElem?_toList]; exact hc
        have hl : z.cps.toList.length = z.cps.size := Array.length_toList
        have put : ∀ b, b = (decide (c = 36) || decide (c ∈ letS.cps.toList)) → ∃ acc, H2 D = some (.lst acc) ∧ acc.length < sizeLine ∧ Same H (upd H2 D (.lst (acc ++ [.bl b]))) ∧ (upd H2 D (.lst (acc ++ [.bl b]))) D = some (.lst (((z.cps.toList.take (i + 1)).map fun c => decide (c = 36) || decide (c ∈ letS.cps.toList)).map V.bl)) := fun b hb => by
          subst hb
          refine ⟨_, d1, ?_, fun b o e => ?_, ?_⟩
          · rw [List.length_map, List.length_map, List.length_take]
            exact Nat.lt_of_le_of_lt (Nat.min_le_left _ _) (Nat.lt_trans (show i < 100000 by omega) (by decide))
          · rw [upd_ne (ne_of_none e hD)]
            exact s1 _ _ e
          · rw [upd_same, List.take_succ, hc', List.map_append, List.map_append]
            rfl
        refine ⟨rfl, ?_⟩
        refine ⟨_, rfl, rfl, _, rfl, ?_⟩
        rw [one_sign]
        by_cases h36 : c = 36
        · rw [decide_eq_true h36]
          exact put _ (by rw [decide_eq_true h36]; rfl)
        · rw [decide_eq_false h36]
          exact ⟨_, rfl, c, _, rfl, rfl, put _ (by rw [decide_eq_false h36]; rfl)⟩
      · rintro H1 ⟨s1, d1⟩
        rw [← Array.length_toList, List.take_length] at d1
        refine ⟨D, _, rfl, .of d1, ?_⟩
        have e : ((z.cps.toList.map fun c => decide (c = 36) || decide (c ∈ letS.cps.toList)).all id) = isR z := by
          unfold isR
          rw [List.all_map]
          rfl
        rw [e]
        exact k H1 s1
theorem ok_ckText {f fT : Addr} {fd fdT : FuncData} (F : Fun K "check_text" "check_text" sCkText f fd)
    (GX : FnOk P w K mg base CX0 1 fT fdT ["value"] spIsText) (gX : mg "is_text" = some (.ref fT)) (kX : PySem.W.keepIn K (.ref fT) = true) (bX : Binds K fdT ["value"] []) :
    FnOk P w K mg base CX0 2 f fd ["text"] spCkText := by
  refine F.ok scCkText (fun vs H Q E h => ?_) (fun cdv A outer s H vs Q E hr h => ?_)
  · obtain ⟨z, rfl, _⟩ := h
    rfl
  · obtain ⟨z, rfl, hz, ht, k⟩ := h
    have hr1 : Room 1 _ := hr
    refine ⟨_, pss_one (ps_if (pt_not (pt_val (pe_call GX hr1 rfl gX kX bX .nil pass0 (pa_cons (pv 0) pa_nil)))) (pss_one ps_never) pss_nil), ?_⟩
    refine ⟨_, rfl, z, rfl, hz, fun H1 s1 => ⟨_, rfl, ?_⟩⟩
    rw [ht]
    exact k H1 s1
theorem ok_ckRow {f fT : Addr} {fd fdT : FuncData} (F : Fun K "check_row" "check_row" sCkRow f fd)
    (GX : FnOk P w K mg base CX0 1 fT fdT ["value"] spIsRow) (gX : mg "is_row" = some (.ref fT)) (kX : PySem.W.keepIn K (.ref fT) = true) (bX : Binds K fdT ["value"] []) :
    FnOk P w K mg base CX0 2 f fd ["row"] spCkRow := by
  refine F.ok scCkRow (fun vs H Q E h => ?_) (fun cdv A outer s H vs Q E hr h => ?_)
  · obtain ⟨z, rfl, _⟩ := h
    rfl
  · obtain ⟨z, rfl, hz, ht, k⟩ := h
    have hr1 : Room 1 _ := hr
    refine ⟨_, pss_one (ps_if (pt_not (pt_val (pe_call GX hr1 rfl gX kX bX .nil pass0 (pa_cons (pv 0) pa_nil)))) (pss_one ps_never) pss_nil), ?_⟩
    refine ⟨_, rfl, z, rfl, hz, fun H1 s1 => ⟨_, rfl, ?_⟩⟩
    rw [ht]
    exact k H1 s1
theorem ok_runs {f fCR : Addr} {fd fdCR : FuncData} (F : Fun K "runs" "runs" sRuns f fd) (T : TxtC K mg)
    (GCR : FnOk P w K mg base CX0 2 fCR fdCR ["row"] spCkRow) (gCR : mg "check_row" = some (.ref fCR)) (kCR : PySem.W.keepIn K (.ref fCR) = true) (bCR : Binds K fdCR ["row"] []) :
    FnOk P w K mg base CX0 3 f fd ["row"] spRuns := by
  refine F.ok scRuns (fun vs H Q E h => ?_) (fun cdv A outer s H vs Q E hr h => ?_)
  · obtain ⟨z, rfl, _⟩ := h
    rfl
  · obtain ⟨z, rfl, hzs, hR, k⟩ := h
    have nd := scRuns.nd
    have hr2 : Room 2 _ := hr
    have hz : sizeLine = 2 ^ 24 := sizeLine_eq
    have hzl : z.length = z.cps.toList.length := Array.length_toList.symm
    have hzs' : z.cps.toList.length ≤ 1000 := by rw [Array.length_toList]; exact hzs
    refine ⟨_, (pss_cons (ps_expr (pe_call GCR hr2 rfl gCR kCR bCR .nil pass0 (pa_cons (pv 0) pa_nil)))
      (pss_cons (ps_set (i := 1) nd rfl (Or.inl rfl) (pe_lst pa_nil))
      (pss_cons (ps_set (i := 2) nd rfl (Or.inl rfl) pe_int)
      (pss_cons (ps_for PassesOwn.never rfl (pi_range2 (by rfl) T.range (pa_cons pe_int (pa_cons (pe_op op_add (pe_callB call_len_str (by rfl) T.len (by decide +kernel) (pa_cons (pv 0) pa_nil)) pe_int) pa_nil))) (pg_name (i := 3) nd rfl (Or.inl rfl)) (pss_one (ps_if (PW.pt (pw_or (pt_cmpR op_eq (pv 3) (pe_callB call_len_str (by rfl) T.len (by decide +kernel) (pa_cons (pv 0) pa_nil)) (nomark _)) (pw_or1 (pt_cmpR op_ne (pe_ix ix_str (pv 0) (pv 3) (fun _ _ => rfl)) (pe_ix ix_str (pv 0) (pv 2) (fun _ _ => rfl)) (nomark _))))) (pss_cons (ps_expr (pe_bm PySem.F.plainAttrs_list PySem.F.slot_list_append PySem.F.type_list_append mt_append (pv 1) (pa_cons (pe_tup (pa_cons (pe_ix ix_str (pv 0) (pv 2) (fun _ _ => rfl)) (pa_cons (pe_op op_sub (pv 3) (pv 2)) pa_nil))) pa_nil)))
      (pss_one (ps_set (i := 2) nd rfl (Or.inl rfl) (pv 3)))) pss_nil)))
      (pss_one (ps_ret (pe_callTy call_tuple_of (by rfl) T.tuple (by decide +kernel) (pa_cons (pv 1) pa_nil)))))))), ?_⟩
    refine ⟨_, rfl, z, rfl, hzs, hR, fun H1 s1 => ?_⟩
    refine ⟨(by show 0 ≤ sizeLine; decide), fun p0 z0 => ?_⟩
    obtain ⟨H2, e2, S2, A2⟩ := alloc (o := .lst []) z0
    rw [e2]
    refine ⟨_, rfl, z, rfl, by omega, _, _, rfl, rfl, 1, _, rfl, ⟨by decide, by decide, by omega, by omega⟩, ?_⟩
    obtain ⟨n, hn⟩ : ∃ n, n = z.cps.toList.length := ⟨_, rfl⟩
    rw [show ((z.length : Int) + 1 - 1).toNat = n by omega]
    refine for_range (lo := 1) (n := n) (fun i σ H' => ∃ (b : Nat) (v3 : Option V) (ys : List V) (rs : List (Nat × Nat)), σ = [some (.str z), some (.ref p0), some (.int (b : Nat)), v3] ∧ Same H1 H' ∧ H' p0 = some (.lst ys) ∧ All2 (RPair H') ys rs ∧ RunsOk (z.cps.toList.take b) rs ∧ rs.length ≤ b ∧ b ≤ n ∧
      ((i < n ∧ b ≤ i ∧ (∀ j, b ≤ j → j ≤ i → z.cps.toList.getD j 0 = z.cps.toList.getD b 0) ∧ ∀ d j, rs.getLast? = some (d, j) → d ≠ z.cps.toList.getD b 0) ∨ (i = n ∧ b = n))) ⟨0, none, [], [], rfl, S2, A2, .nil, RunsOk.nil, Nat.le_refl _, Nat.zero_le _, ?_⟩ ?_ ?_
    · by_cases h0 : n = 0
      · exact .inr ⟨h0.symm, h0.symm⟩
      · exact .inl ⟨by omega, Nat.le_refl _, fun j h1 h2 => by rw [show j = 0 by omega], fun d j e => by cases e⟩
    · rintro i σ H3 hi ⟨b, v3, ys, rs, rfl, s3, hp3, ha, hok, hlen, hbn, hst⟩
      obtain ⟨hin, hbi, hal, hla⟩ := hst.resolve_right fun h => by omega
      have hgb : z.cps.toList[b]? = some (z.cps.toList.getD b 0) := by rw [List.getD_eq_getElem?_getD, List.getElem?_eq_getElem (by omega)]; rfl
      have tk := take_run (l := z.cps.toList) (b := b) (e := i + 1) (by omega) (by omega) fun j h1 h2 => hal j h1 (by omega)
      have hok' : RunsOk (z.cps.toList.take (i + 1)) (rs ++ [(z.cps.toList.getD b 0, i + 1 - b)]) := by
        rw [tk]
        exact hok.snoc (by omega) hla
      have hlr := ha.length
      refine ⟨_, rfl, ⟨_, rfl, z, rfl, by omega, ⟨rfl, _, rfl, ?_⟩⟩⟩
      by_cases h1 : i + 1 = n
      · rw [decide_eq_true (show V.int (1 + (i : Nat)) = V.int (z.length : Nat) by rw [show 1 + (i : Int) = ((z.length : Nat) : Int) by omega])]
        refine ⟨_, rfl, .inl ⟨rfl, _, .of hp3⟩, _, rfl, _, rfl, z, _, _, rfl, rfl, by omega, atI_nat hgb, _, rfl, _, rfl, _, _, rfl, rfl, (by show 2 ≤ sizeLine; decide), fun q zq => ?_⟩
        obtain ⟨H5, e5, S5, A5⟩ := alloc (o := .tup [V.str ⟨#[z.cps.toList.getD b 0]⟩, V.int (1 + (i : Nat) - (b : Nat))]) zq
        rw [e5]
        refine ⟨p0, ys, .ref q, rfl, rfl, S5 _ _ hp3, by omega, ?_⟩
        refine ⟨_, rfl, i + 1, some (.int (1 + (i : Nat))), ys ++ [.ref q], rs ++ [(z.cps.toList.getD b 0, i + 1 - b)], ?_, fun b2 o e => ?_, upd_same, ?_, hok', by rw [List.length_append, List.length_singleton]; omega, by omega, .inr ⟨h1, h1⟩⟩
        · rw [show (((i + 1 : Nat) : Int)) = 1 + (i : Nat) by omega]
          rfl
        · rw [upd_ne (ne_of_none e z0)]
          exact S5 _ _ (s3 _ _ e)
        · have kl : KeepL H3 (upd H5 p0 (.lst (ys ++ [.ref q]))) := fun b3 o e n => by
            rw [upd_ne (fun x => by subst x; rw [hp3] at e; cases e; exact n _ rfl)]
            exact S5 _ _ e
          refine (ha.mono fun x r _ h => rpair_keep _ _ _ _ kl h).append (.cons ⟨q, rfl, ?_⟩ .nil)
          rw [upd_ne (fun x => by subst x; rw [S5 _ _ hp3] at A5; cases A5), A5]
          rw [show (((i + 1 - b : Nat)) : Int) = 1 + (i : Nat) - (b : Nat) by omega]
      · rw [decide_eq_false (show ¬ V.int (1 + (i : Nat)) = V.int (z.length : Nat) from fun e => h1 (by injection e with e; omega))]
        have hgi : z.cps.toList[i + 1]? = some (z.cps.toList.getD (i + 1) 0) := by rw [List.getD_eq_getElem?_getD, List.getElem?_eq_getElem (by omega)]; rfl
        refine ⟨_, rfl, _, rfl, z, _, _, rfl, rfl, by omega, (by rw [show 1 + (i : Int) = ((i + 1 : Nat) : Int) by omega]; exact atI_nat hgi), _, rfl, _, rfl, z, _, _, rfl, rfl, by omega, atI_nat hgb, rfl, _, rfl, ?_⟩
        by_cases h2 : z.cps.toList.getD (i + 1) 0 = z.cps.toList.getD b 0
        · rw [h2, decide_eq_true rfl]
          refine ⟨b, _, ys, rs, rfl, s3, hp3, ha, hok, hlen, hbn, .inl ⟨by omega, by omega, fun j h3 h4 => ?_, hla⟩⟩
          by_cases h5 : j = i + 1
          · rw [h5]; exact h2
          · exact hal j h3 (by omega)
        · rw [decide_eq_false (show ¬ V.str (⟨#[z.cps.toList.getD (i + 1) 0]⟩ : Str) = V.str ⟨#[z.cps.toList.getD b 0]⟩ from fun y => h2 (by injection y with y; injection y with y; simpa using y))]
          refine ⟨_, rfl, .inl ⟨rfl, _, .of hp3⟩, _, rfl, _, rfl, z, _, _, rfl, rfl, by omega, atI_nat hgb, _, rfl, _, rfl, _, _, rfl, rfl, (by show 2 ≤ sizeLine; decide), fun q zq => ?_⟩
          obtain ⟨H5, e5, S5, A5⟩ := alloc (o := .tup [V.str ⟨#[z.cps.toList.getD b 0]⟩, V.int (1 + (i : Nat) - (b : Nat))]) zq
          rw [e5]
          refine ⟨p0, ys, .ref q, rfl, rfl, S5 _ _ hp3, by omega, ?_⟩
          refine ⟨_, rfl, i + 1, some (.int (1 + (i : Nat))), ys ++ [.ref q], rs ++ [(z.cps.toList.getD b 0, i + 1 - b)], ?_, fun b2 o e => ?_, upd_same, ?_, hok', by rw [List.length_append, List.length_singleton]; omega, by omega, .inl ⟨by omega, Nat.le_refl _, fun j h3 h4 => by rw [show j = i + 1 by omega], fun d j e => by
                      rw [List.getLast?_concat] at e
                      injection e with e
                      injection e with e _
                      rw [← e]
                      exact Ne.symm h2⟩⟩
          · rw [show (((i + 1 : Nat) : Int)) = 1 + (i : Nat) by omega]
            rfl
          · rw [upd_ne (ne_of_none e z0)]
            exact S5 _ _ (s3 _ _ e)
          · have kl : KeepL H3 (upd H5 p0 (.lst (ys ++ [.ref q]))) := fun b3 o e n => by
              rw [upd_ne (fun x => by subst x; rw [hp3] at e; cases e; exact n _ rfl)]
              exact S5 _ _ e
            refine (ha.mono fun x r _ h => rpair_keep _ _ _ _ kl h).append (.cons ⟨q, rfl, ?_⟩ .nil)
            rw [upd_ne (fun x => by subst x; rw [S5 _ _ hp3] at A5; cases A5), A5]
            rw [show (((i + 1 - b : Nat)) : Int) = 1 + (i : Nat) - (b : Nat) by omega]
    · rintro σ H3 ⟨b, v3, ys, rs, rfl, s3, hp3, ha, hok, hlen, hbn, hst⟩
      have hb : b = n := by rcases hst with h | h <;> omega
      rw [hb, hn, List.take_length] at hok
      refine ⟨_, rfl, p0, ys, rfl, .inl ⟨.of hp3, fun p4 z4 => ?_⟩⟩
      obtain ⟨H4, e4, S4, A4⟩ := alloc (o := .tup ys) z4
      rw [e4]
      exact k p4 ys rs H4 (fun b o e => S4 _ _ (s3 _ _ (s1 _ _ e))) A4 (ha.mono fun x r _ h => rpair_keep _ _ _ _ (.of S4) h) hok
end
end T36

set_option Elab.async false
set_option linter.all false
set_option maxRecDepth 100000
set_option maxHeartbeats 4000000
namespace T36
open PySem L2 EK
section
variable {P : Program} {w : World} {K : PySem.W.Frag} {mg : Str → Option Value} {base : Heap}
theorem ne_sign (c d : Nat) : (!decide (V.str (⟨#[c]⟩ : Str) = V.str ⟨#[d]⟩)) = decide (c ≠ d) := by
  by_cases h : c = d
  · subst h
    rw [decide_eq_true rfl, decide_eq_false (fun e => e rfl)]
    rfl
  · rw [decide_eq_true h, decide_eq_false (fun y => h (by injection y with y; injection y with y; simpa using y))]
    rfl
theorem atI_last {l : List Nat} (h : l ≠ []) : atI l (-1) = some (l.getLast h) := by
  have hl : 0 < l.length := List.length_pos_iff.mpr h
  unfold atI ixN
  rw [if_neg (by decide), if_pos (by omega)]
  show l[_]? = _
  rw [show ((-1 : Int) + (l.length : Int)).toNat = l.length - 1 by omega, ← List.getLast?_eq_getElem?, List.getLast?_eq_some_getLast h]
theorem ok_ring {f fCT : Addr} {fd fdCT : FuncData} (F : Fun K "ring_runs" "ring_runs" sRingRuns f fd) (T : TxtC K mg)
    (GCT : FnOk P w K mg base CX0 2 fCT fdCT ["text"] spCkText) (gCT : mg "check_text" = some (.ref fCT)) (kCT : PySem.W.keepIn K (.ref fCT) = true) (bCT : Binds K fdCT ["text"] []) :
    FnOk P w K mg base CX0 3 f fd ["word"] spRing := by
  refine F.ok scRing (fun vs H Q E h => ?_) (fun cdv A outer s H vs Q E hr h => ?_)
  · obtain ⟨z, rfl, _⟩ := h
    rfl
  · obtain ⟨z, rfl, hzs, hT, k⟩ := h
    have nd := scRing.nd
    have hr2 : Room 2 _ := hr
    have hz : sizeLine = 2 ^ 24 := sizeLine_eq
    have hzl : z.length = z.cps.toList.length := Array.length_toList.symm
    have hzs' : z.cps.toList.length ≤ 1000 := by rw [Array.length_toList]; exact hzs
    refine ⟨_, (pss_cons (ps_expr (pe_call GCT hr2 rfl gCT kCT bCT .nil pass0 (pa_cons (pv 0) pa_nil)))
      (pss_cons (ps_set (i := 1) nd rfl (Or.inl rfl) (pe_lenSetS (by rfl) (by rfl) T.len (by rfl) T.set (pv 0)))
      (pss_cons (ps_if (pt_cmpR op_lt (pv 1) pe_int (nomark _)) (pss_one (ps_ret (pv 1))) pss_nil)
      (pss_one (ps_ret (pe_callB (cr_sum rfl) (by rfl) T.sum (by decide +kernel) (pa_cons (pe_lc (own := [("place", 2)]) (g := gName 2) rfl nd (pi_range1 (by rfl) T.range (pa_cons (pe_callB call_len_str (by rfl) T.len (by decide +kernel) (pa_cons (pv 0) pa_nil)) pa_nil)) (blkOk_by (N := NRG) (sc := defScope sRingRuns) (by decide +kernel)) (fun _ _ _ _ _ => (pg_name (i := 2) nd rfl (Or.inl rfl))) (fun _ _ _ _ _ => (pts_one (pt_cmpR op_ne (pe_ix ix_str (pv 0) (pv 2) (fun _ _ => rfl)) (pe_ix ix_str (pv 0) (pe_op op_sub (pv 2) pe_int) (fun _ _ => rfl)) (nomark _)))) (fun _ _ _ _ _ => pe_int)) pa_nil))))))), ?_⟩
    refine ⟨_, rfl, z, rfl, hzs, hT, fun H1 s1 => ?_⟩
    refine ⟨_, rfl, z, rfl, by omega, _, rfl, _, _, rfl, rfl, _, rfl, ?_⟩
    refine ite2 (fun h0 => ?_) (fun h0 => ?_)
    · have h0 : (ddS (signsS z)).length < 2 := by have := of_decide_eq_true h0; omega
      refine ⟨_, rfl, ?_⟩
      have := k H1 s1
      rw [← dd_small h0] at this
      exact this
    · have h0 : ¬ (ddS (signsS z)).length < 2 := fun e => h0 (decide_eq_true (by omega))
      obtain ⟨hne, hc⟩ := dd_great h0
      obtain ⟨n, hn⟩ : ∃ n, n = z.cps.toList.length := ⟨_, rfl⟩
      have hn0 : 0 < n := by rw [hn]; exact List.length_pos_iff.mpr hne
      refine ⟨_, rfl, z, rfl, by omega, _, rfl, by omega, by omega, fun D nD => ?_⟩
      rw [show ((z.length : Int)).toNat = n by omega]
      have hx : ∀ i, i < n → atI z.cps.toList ((0 : Int) + (i : Nat)) = some ((z.cps.toList.getLast hne :: z.cps.toList).getD (i + 1) 0) := fun i hi => by
        rw [show (0 : Int) + (i : Nat) = ((i : Nat) : Int) by omega, List.getD_cons_succ]
        exact atI_nat (by rw [List.getD_eq_getElem?_getD, List.getElem?_eq_getElem (by omega)]; rfl)
      have hy : ∀ i, i < n → atI z.cps.toList ((0 : Int) + (i : Nat) - 1) = some ((z.cps.toList.getLast hne :: z.cps.toList).getD i 0) := fun i hi => by
        cases i with
        | zero => exact atI_last hne
        | succ i =>
          rw [show (0 : Int) + ((i + 1 : Nat)) - 1 = ((i : Nat) : Int) by omega, List.getD_cons_succ]
          exact atI_nat (by rw [List.getD_eq_getElem?_getD, List.getElem?_eq_getElem (by omega)]; rfl)
      refine lcM_range (R' := RInt) (n := n) (fun k => decide ((z.cps.toList.getLast hne :: z.cps.toList).getD k 0 ≠ (z.cps.toList.getLast hne :: z.cps.toList).getD (k + 1) 0)) (fun _ => 1) nD rint_keep (by omega) ?_ ?_
      · intro i H3 C C0 hi s3 c1 c0
        refine ⟨rfl, _, rfl, _, rfl, z, _, _, rfl, rfl, by omega, hx i hi, _, rfl, _, rfl, _, _, rfl, rfl, z, _, _, rfl, rfl, by omega, hy i hi, rfl, _, rfl, ?_⟩
        rw [ne_sign]
        by_cases he : (z.cps.toList.getLast hne :: z.cps.toList).getD i 0 = (z.cps.toList.getLast hne :: z.cps.toList).getD (i + 1) 0
        · rw [decide_eq_false (fun e => e he.symm)]
          exact c0 (decide_eq_false (fun e => e he)) _ fun _ _ e => e
        · rw [decide_eq_true (Ne.symm he)]
          exact c1 (decide_eq_true he) _ _ (fun _ _ e => e) rfl
      · intro ys H3 s3 hD hy
        have ey := rint_map hy
        rw [ey] at hD
        refine ⟨D, _, rfl, .of hD, ?_⟩
        have hcnt := count_adj (z.cps.toList.getLast hne :: z.cps.toList) n (by rw [List.length_cons]; omega)
        rw [List.take_of_length_le (by rw [List.length_cons]; omega), cyc_last _ hne, hc] at hcnt
        have es : ∀ l : List Nat, (l.map fun _ => (1 : Int)).sum = (l.length : Nat) := fun l => by
          induction l with
          | nil => rfl
          | cons a l ih => rw [List.map_cons, List.sum_cons, ih, List.length_cons]; omega
        rw [es, hcnt]
        exact k H3 fun b o e => s3 _ _ (s1 _ _ e)
end
end T36

set_option Elab.async false
set_option linter.all false
set_option maxRecDepth 100000
set_option maxHeartbeats 4000000
/-! RangeKit: tuple(range(a, b, c)); set(t) of a tuple of ints as a value. -/
namespace L2
open PySem PySem.Spec PyProof.Rows
section
variable {X : Cx} {a b c : Expr} {ta : TA}
/-- n ints from i on, c from one to the next -/
def rgC (i c : Int) (n : Nat) : List Int := (List.range n).map fun k => i + (k : Nat) * c
def tTupRg3 (ta : TA) : TE := fun σ H Q => ta σ H fun vs H1 => ∃ (i j c : Int) (n : Nat), vs = [.int i, .int j, .int c] ∧ RgC i j c n ∧ n ≤ 2 ^ 24 ∧ ∀ q, H1 q = none → Q (.ref q) (upd H1 q (.tup ((rgC i c n).map V.int)))
theorem pe_tupRg3 {p pos p2 pos2 : Pos} (hc : X.calm = true) (hg : Gl X "tuple") (hm : X.mg "tuple" = none) (hg2 : Gl X "range") (hm2 : X.mg "range" = none) (ha : PA X [a, b, c] ta)
    (hs : starEach [a, b, c] X.env = (false, eval a X.env) :: starEach [b, c] X.env := by rfl) (hpl : (backTo pos2 (starEach [b, c] X.env)).any (·.1) = false := by rfl)
    (na : starEach [.Call (.Name "range" p2) [a, b, c] [] pos2] X.env = (false, eval (.Call (.Name "range" p2) [a, b, c] [] pos2) X.env) :: starEach [] X.env := by rfl) :
    PE X (.Call (.Name "tuple" p) [.Call (.Name "range" p2) [a, b, c] [] pos2] [] pos) (tTupRg3 ta) := by
  refine ⟨fun pins s σ H Q I h => ?_⟩
  refine Call_ (ld_blt I hg hm boot_tuple (PyProof.Rows.callWith_type1 (args_cons (Call_ (ld_blt I hg2 hm2 boot_range (PyProof.Rows.callWith_type1 (thn (ha.run pos2 pins s σ H _ I h) fun us s1 ⟨vs, H1, I1, r1, q1⟩ => ?_) hs hpl))) na) na))
  obtain ⟨i, j, k, n, rfl, ⟨hc0, hcn, hsm, hsz⟩, hn, q⟩ := q1
  cases r1 with
  | cons ri r2 =>
  cases r2 with
  | cons rj r3 =>
  cases r3 with
  | cons rk r4 =>
  cases r4
  obtain ⟨t1, rfl⟩ := ri
  obtain ⟨t2, rfl⟩ := rj
  obtain ⟨t3, rfl⟩ := rk
  refine call_range_3 hc0 (args_nil ?_) (hp := Or.inl ?_)
  · have hr : IsRange (s1.heap.push { cls := .type "range", data := .fields #[.int i t1, .int j t2, .int k t3] }) s1.heap.objs.size i j k t1 t2 t3 := IsRange.new _ _ _ _ _ _ _
    have I2 : Inv X pins σ H1 { s1 with heap := s1.heap.push { cls := .type "range", data := .fields #[.int i t1, .int j t2, .int k t3] } } := I1.kept (t' := s1.toks) fun b u e => Heap.get?_push_of_some _ e
    refine call_tuple_range (s := { s1 with heap := s1.heap.push { cls := .type "range", data := .fields #[.int i t1, .int j t2, .int k t3] } }) (n := n) (I2.ok.hd hc) hr hsm hsz hn fun h' tk acc hk hi => ?_
    have I3 : Inv X pins σ H1 { s1 with heap := h', toks := tk } := I2.kept hk
    refine ⟨.ref h'.objs.size, upd H1 h'.objs.size (.tup ((rgC i k n).map V.int)), I3.laid (t' := tk) (fun c o e => Heap.get?_push_of_some _ e) (Nat.le_refl _) (show ObjOk X.prog X.w _ _ _ (.tup ((rgC i k n).map V.int)) from ⟨?_, acc.toList, ?_, ?_⟩), rfl, q _ (I3.hok.fresh (Nat.le_refl _))⟩
    · unfold rgC
      rw [List.length_map, List.length_map, List.length_range, sizeLine_eq]
      omega
    · have e : acc.toList.length = n := by rw [Array.length_toList]; exact hi.1
      unfold rgC
      rw [List.map_map, ← e]
      refine vals_of_get acc.toList _ fun m u hj => ?_
      obtain ⟨t, rfl⟩ := hi.2 m u (by rw [← hj, Array.getElem?_toList])
      exact ⟨t, rfl⟩
    · rw [Array.toArray_toList]
      exact IsTup.new _ _
  · exact PyProof.noPylong_small (by omega)
/-- set(t) of a tuple of ints -/
def rSetI (K : PySem.W.Frag) (w : World) : List V → Hp → VK → Prop := fun xs H Q => ∃ (p : Addr) (ns : List Int), xs = [.ref p] ∧ SqT K H p (ns.map V.int) ∧ ns.length ≤ 1000 ∧
  ∀ (q : Addr) (m : Nat), m ≤ ns.length → H q = none → Q (.ref q) (upd H q (SetO w q (fun j => decide (j ∈ ns)) m))
theorem cr_setI (hc : X.calm = true) : CallR X (.type "set") (rSetI X.K X.w) := by
  intro pins s σ H xs us Q I r h
  obtain ⟨p0, ns, rfl, hq, hl, q⟩ := h
  obtain ⟨u, rfl, ru⟩ := vals1 r
  obtain rfl : u = Value.ref p0 := ru
  obtain ⟨its, rv, pt, hz⟩ := I.tuple hq
  have hi : IntsAre its.toArray.toList ns := ints_of_vals rv
  refine call_set_tupI ns (I.ok.hd hc) (show s.heap.IsTuple p0 its.toArray from pt) hi (by unfold scanBound; omega) fun h' tk c R1 hcn k => ?_
  exact ⟨.ref _, upd H s.heap.objs.size (SetO X.w s.heap.objs.size (fun j => decide (j ∈ ns)) c), I.laid (t' := tk) k (Nat.le_refl _) (setO_new R1), rfl, q _ _ hcn (I.hok.fresh (Nat.le_refl _))⟩
end
end L2
namespace L2
open PySem PySem.Spec PyProof.Rows
theorem RgC.up {i j c : Int} (hc : 0 < c) (hc2 : c < 1073741824) (h1 : 0 ≤ i) (h2 : i ≤ 1073741824) (h3 : 0 ≤ j) (h4 : j ≤ 1073741824) : RgC i j c (Builtin.Range.rangeSize i j c).toNat := by
  refine ⟨by omega, by omega, ?_, PyProof.Rows.rangeSize_toNat i j c⟩
  have hn := PyProof.Rows.rangeSize_toNat i j c
  have hl := PyProof.Rows.rangeSize_toNat_le i j c
  unfold Builtin.Range.small
  simp only [Builtin.Range.rangeFitsLong, Bool.and_eq_true, Bool.or_eq_true, decide_eq_true_eq, beq_iff_eq, show c > 0 from hc, if_true]
  omega
/-- zip(t, u) of tuples -/
theorem walk_zipT {K : PySem.W.Frag} {a b : Addr} {xs ys : List V} {n : Nat} (hn : n = min xs.length ys.length) : Walk (RZ.ItzT K a b) n (fun H => SqT K H a xs ∧ SqT K H b ys) (YPair (fun i => xs[i]?) (fun i => ys[i]?)) := by
  subst hn
  refine ⟨fun i _ hi q => ?_, fun _ q => ⟨xs, ys, q.1, q.2, by omega⟩, fun i H v H' _ q y => ?_⟩
  · have h1 : i < xs.length := by omega
    have h2 : i < ys.length := by omega
    exact ⟨xs, ys, xs[i], ys[i], q.1, q.2, by simp [h1], by simp [h2]⟩
  · obtain ⟨T, x, z, h1, h2, h3, h4, h5⟩ := y
    exact ⟨T, x, z, h1, h2, h3, h4 xs q.1, h5 ys q.2⟩
end L2

set_option Elab.async false
set_option linter.all false
set_option maxRecDepth 100000
set_option maxHeartbeats 4000000
namespace T36
open PySem L2 EK
def spLine : Sp := fun vs H Q _ => ∃ (a : Addr) (n : Int), vs = [.ref a] ∧ UrnAt H a n ∧ n ≤ 900000 ∧ ∀ z H', z.cps.toList.length ≤ 60 → isR z = true → UrnAt H' a (n + 100) → KeepB a H H' → Q (.str z) H'
def spRowR : Sp := fun vs H Q _ => ∃ z : Str, vs = [.str z] ∧ z.cps.size ≤ 900 ∧ isR z = true ∧ ∀ H', Same H H' → Q (.bl true) H'
def spWordR : Sp := fun vs H Q _ => ∃ (a : Addr) (n : Int) (z : Str), vs = [.ref a, .str z] ∧ UrnAt H a n ∧ n ≤ 900000 ∧ z.cps.size ≤ 400 ∧ isTx z = true ∧ ∀ H', UrnAt H' a (n + 1) → KeepB a H H' → Q (.bl true) H'
abbrev NLN : List Str := ["_law_urn_here", "_law_signs", "_law_found", "_law_turn"]
abbrev NRR : List Str := ["_law_line_here", "_law_told", "_law_sign", "_law_many", "_law_row", "_law_one", "_law_other"]
abbrev NWR : List Str := ["_law_urn_here", "_law_word", "_law_told", "_law_size", "_law_k", "_law_changes"]
section
variable {P : Program} {w : World} {K : PySem.W.Frag} {mg : Str → Option Value} {base : Heap}
theorem scLine : FnScope NLN ["_law_urn_here"] (defScope sLine) := ⟨rfl, rfl, rfl, by decide +kernel, rfl, by decide +kernel, by decide +kernel⟩
theorem scRowR : FnScope NRR ["_law_line_here"] (defScope sRowRight) := ⟨rfl, rfl, rfl, by decide +kernel, rfl, by decide +kernel, by decide +kernel⟩
theorem scWordR : FnScope NWR ["_law_urn_here", "_law_word"] (defScope sWordRight) := ⟨rfl, rfl, rfl, by decide +kernel, rfl, by decide +kernel, by decide +kernel⟩
def rows6 : List Str := ["a", "ab", "$ab", "$", "$abcz", "zy$"]
theorem good6 : ∀ L ∈ rows6, (decide (0 < L.cps.toList.length) && decide (L.cps.toList.length ≤ 26) && isR L) = true := by decide +kernel
theorem isR_iff {z : Str} : isR z = true ↔ ∀ c ∈ z.cps.toList, c = 36 ∨ c ∈ letS.cps.toList := by
  unfold isR
  rw [List.all_eq_true]
  simp only [Bool.or_eq_true, decide_eq_true_eq]
theorem ix_tupK {X : Cx} {K : PySem.W.Frag} (h : X.K = K := by rfl) : IxR X (rIxT K) := by subst h; exact ix_tup
theorem call_isiK {X : Cx} {K : PySem.W.Frag} (h : X.K = K := by rfl) : CallR X (.builtin "isinstance") (rIsi K) := by subst h; exact call_isi
theorem _root_.L2.RunsOk.small {l : List Nat} {rs : List (Nat × Nat)} (h : RunsOk l rs) : ∀ r ∈ rs, 1 ≤ r.2 ∧ r.2 ≤ l.length := fun r hr => by
  refine ⟨h.pos r hr, ?_⟩
  have e := h.flat
  rw [← e]
  clear e h
  induction rs with
  | nil => cases hr
  | cons x rs ih =>
    rw [List.flatMap_cons, List.length_append, List.length_replicate]
    rcases List.mem_cons.mp hr with rfl | hr
    · omega
    · have := ih hr
      omega
theorem _root_.L2.RunsOk.many {l : List Nat} {rs : List (Nat × Nat)} (h : RunsOk l rs) : rs.length ≤ l.length := by
  have e := h.flat
  have hp := h.pos
  rw [← e]
  clear e h
  induction rs with
  | nil => exact Nat.le_refl _
  | cons r rs ih =>
    rw [List.flatMap_cons, List.length_append, List.length_replicate, List.length_cons]
    have h1 := hp r List.mem_cons_self
    have h2 := ih fun x hx => hp x (List.mem_cons_of_mem _ hx)
    omega
theorem str_ext {x y : Str} (h : x.cps.toList = y.cps.toList) : x = y := by
  rw [← SX.S_tl x, ← SX.S_tl y, h]
theorem isTx_iff {z : Str} : isTx z = true ↔ ∀ c ∈ z.cps.toList, c ∈ letS.cps.toList := by
  unfold isTx
  rw [List.all_eq_true]
  simp only [decide_eq_true_eq]
theorem chg_len (l : List Nat) : ((List.range l.length).filter fun k => decide ((l ++ l).getD k 0 ≠ (l ++ l).getD (k + 1) 0)).length = cyc l := by
  cases l with
  | nil => rfl
  | cons a r =>
    rw [count_adj _ _ (by rw [List.length_append, List.length_cons]; omega)]
    unfold cyc
    congr 1
    rw [List.take_append, List.take_of_length_le (Nat.le_succ _)]
    congr 1
    rw [show (a :: r).length + 1 - (a :: r).length = 1 by omega]
theorem ok_line {f fP fI : Addr} {fd fdP fdI : FuncData} (F : Fun K "_law_line" "_law_line" sLine f fd) (T : TxtC K mg)
    (GP : FnOk P w K mg base CX0 1 fP fdP ["_law_urn_here", "_law_many"] spPull) (gP : mg "_law_pull" = some (.ref fP)) (kP : PySem.W.keepIn K (.ref fP) = true) (bP : Binds K fdP ["_law_urn_here", "_law_many"] [])
    (GI : FnOk P w K mg base CX0 2 fI fdI ["_law_urn_here", "_law_some"] spPick) (gI : mg "_law_pick" = some (.ref fI)) (kI : PySem.W.keepIn K (.ref fI) = true) (bI : Binds K fdI ["_law_urn_here", "_law_some"] []) :
    FnOk P w K mg base CX0 3 f fd ["_law_urn_here"] spLine := by
  refine F.ok scLine (fun vs H Q E h => ?_) (fun cdv A outer s H vs Q E hr h => ?_)
  · obtain ⟨a, n, rfl, _⟩ := h
    rfl
  · obtain ⟨a, n, rfl, hw, hn, k⟩ := h
    have nd := scLine.nd
    have hr2 : Room 2 _ := hr
    have hr1 : Room 1 _ := hr.mono (by decide)
    have hz : sizeLine = 2 ^ 24 := sizeLine_eq
    refine ⟨_, (pss_cons (ps_par (i := 1) (j := 2) (by rfl) nd rfl rfl (by decide) rfl rfl (pa_cons (pe_call GI hr2 rfl gI kI bI .nil pass0 (pa_cons (pv 0) (pa_cons (pe_lst (pa_cons pe_str (pa_cons pe_str (pa_cons pe_str (pa_cons pe_str (pa_cons pe_str (pa_cons pe_str pa_nil))))))) pa_nil))) (pa_cons pe_str pa_nil)) (by rfl))
      (pss_cons (ps_for PassesOwn.never rfl (pi_range1 (by rfl) T.range (pa_cons (pe_call GP hr1 rfl gP kP bP .nil pass0 (pa_cons (pv 0) (pa_cons pe_int pa_nil))) pa_nil)) (pg_name (i := 3) nd rfl (Or.inl rfl)) (pss_one (ps_set (i := 2) nd rfl (Or.inl rfl) (pe_op op_add_str (pv 2) (pe_op op_mulS (pe_call GI hr2 rfl gI kI bI .nil pass0 (pa_cons (pv 0) (pa_cons (pv 1) pa_nil))) (pe_op op_add pe_int (pe_op op_mul (pe_call GP hr1 rfl gP kP bP .nil pass0 (pa_cons (pv 0) (pa_cons pe_int pa_nil))) (pe_call GP hr1 rfl gP kP bP .nil pass0 (pa_cons (pv 0) (pa_cons pe_int pa_nil))))))))))
      (pss_one (ps_ret (pe_slice sl_str (pv 2) po_none (po_some pe_int)))))), ?_⟩
    refine ⟨_, rfl, (by show 6 ≤ sizeLine; decide), fun p1 z1 => ?_⟩
    have A2 : upd H p1 (.lst (rows6.map V.str)) p1 = some (.lst (rows6.map V.str)) := upd_same
    have S2 : ∀ b o, H b = some o → upd H p1 (.lst (rows6.map V.str)) b = some o := fun b o e => by rw [upd_ne (ne_of_none e z1)]; exact e
    obtain ⟨w0, w1, w2, hwa, hwb⟩ := hw
    have hpa : p1 ≠ a := fun e => by rw [e, hwa] at z1; cases z1
    have hw2 : UrnAt (upd H p1 (.lst (rows6.map V.str))) a n := ⟨w0, w1, w2, S2 _ _ hwa, hwb⟩
    refine ⟨a, n, _, rfl, hw2, by omega, .inl ⟨p1, rows6.map V.str, rfl, A2, hpa, (by decide), (by decide), fun y H3 hy hw3 hk3 => ?_⟩⟩
    obtain ⟨L, hL, rfl⟩ := List.mem_map.mp (show y ∈ rows6.map V.str from hy)
    have g6 := good6 L hL
    rw [Bool.and_eq_true, Bool.and_eq_true, decide_eq_true_eq, decide_eq_true_eq] at g6
    obtain ⟨⟨L0, L1⟩, L2'⟩ := g6
    have L2 := isR_iff.mp L2'
    have hk13 : KeepB a H H3 := (KeepB.of S2).trans hk3
    refine ⟨_, _, rfl, ?_⟩
    refine ⟨_, rfl, a, _, _, rfl, hw3, by omega, by decide, by decide, fun d1 H4 d1a d1b hw4 hk4 => ?_⟩
    obtain ⟨n1, rfl⟩ : ∃ j : Nat, d1 = (j : Int) := ⟨d1.toNat, by omega⟩
    refine ⟨_, rfl, by omega, by omega, ?_⟩
    rw [show ((n1 : Int)).toNat = n1 by omega]
    refine for_range (lo := 0) (n := n1) (fun i σ H' => ∃ (x : Str) (v3 : Option V), σ = [some (.ref a), some (.str L), some (.str x), v3] ∧ UrnAt H' a (n + 2 + (3 * i : Nat)) ∧ KeepB a H4 H' ∧ x.cps.toList.length ≤ 4 * i ∧ ∀ c ∈ x.cps.toList, c = 36 ∨ c ∈ letS.cps.toList) ⟨"", none, rfl, hw4.mono (by omega), KeepB.rfl, Nat.le_refl _, fun c hc => (by cases hc)⟩ ?_ ?_
    · rintro i σ H5 hi ⟨x, v3, rfl, hw5, hk5, hx, gx⟩
      refine ⟨_, rfl, _, rfl, _, rfl, a, _, _, rfl, hw5, by omega, .inr ⟨L, rfl, L0, by omega, fun c H6 hc hw6 hk6 => ?_⟩⟩
      refine ⟨_, rfl, a, _, _, rfl, hw6, by omega, by decide, by decide, fun d2 H7 d2a d2b hw7 hk7 => ?_⟩
      refine ⟨_, rfl, a, _, _, rfl, hw7, by omega, by decide, by decide, fun d3 H8 d3a d3b hw8 hk8 => ?_⟩
      have hd : 1 + d2 * d3 = 1 ∨ 1 + d2 * d3 = 1 + d2 := by
        rcases (show d3 = 0 ∨ d3 = 1 by omega) with rfl | rfl
        · exact .inl (by omega)
        · exact .inr (by omega)
      have hd2 : 1 ≤ 1 + d2 * d3 ∧ 1 + d2 * d3 ≤ 4 := by omega
      generalize h5 : 1 + d2 * d3 = e5 at hd2
      have hrl : (repS ⟨#[c]⟩ e5.toNat).cps.toList.length ≤ 4 := by
        rw [repS_len]
        show _ * 1 ≤ 4
        omega
      have hxl : x.length = x.cps.toList.length := Array.length_toList.symm
      have hrl2 : (repS ⟨#[c]⟩ e5.toNat).length = (repS ⟨#[c]⟩ e5.toNat).cps.toList.length := Array.length_toList.symm
      refine ⟨_, _, rfl, rfl, .inl ⟨by omega, by omega⟩, _, _, rfl, rfl, ?_⟩
      dsimp only
      rw [h5]
      refine ⟨_, _, rfl, rfl, by omega, by omega, by show 1 * _ ≤ _; omega, _, _, rfl, rfl, by omega, _, _, rfl, hw8.mono (by omega), ((hk5.trans hk6).trans hk7).trans hk8, ?_, fun y hy => ?_⟩
      · rw [app_list, List.length_append]
        omega
      · rw [app_list] at hy
        rcases List.mem_append.mp hy with h | h
        · exact gx y h
        · rw [repS_list] at h
          obtain ⟨l, hl, hcl⟩ := List.mem_flatten.mp h
          rw [(List.mem_replicate.mp hl).2] at hcl
          rw [List.mem_singleton.mp hcl]
          exact L2 c hc
    · rintro σ H5 ⟨x, v3, rfl, hw5, hk5, hx, gx⟩
      refine ⟨_, rfl, 60, rfl, _, rfl, ?_, ?_⟩
      · rw [show x.length = x.cps.toList.length from Array.length_toList.symm]
        omega
      · refine k _ _ ?_ (isR_iff.mpr fun c hc => gx c (cutS_mem _ _ _ c hc)) (hw5.mono (by omega)) ((hk13.trans hk4).trans hk5)
        rw [show (some 60 : Option Int) = some ((60 : Nat) : Int) from rfl, cutS_take, List.length_take]
        omega
theorem ok_rowR {f fR : Addr} {fd fdR : FuncData} (F : Fun K "_law_row_right" "_law_row_right" sRowRight f fd) (T : TxtC K mg)
    (GR : FnOk P w K mg base CX0 3 fR fdR ["row"] spRuns) (gR : mg "runs" = some (.ref fR)) (kR : PySem.W.keepIn K (.ref fR) = true) (bR : Binds K fdR ["row"] []) :
    FnOk P w K mg base CX0 4 f fd ["_law_line_here"] spRowR := by
  refine F.ok scRowR (fun vs H Q E h => ?_) (fun cdv A outer s H vs Q E hr h => ?_)
  · obtain ⟨z, rfl, _⟩ := h
    rfl
  · obtain ⟨z, rfl, hzs, hR, k⟩ := h
    have nd := scRowR.nd
    have hr3 : Room 3 _ := hr
    have hz : sizeLine = 2 ^ 24 := sizeLine_eq
    have hu : (A.deeper (PyProof.Rows.envOfC "_law_row_right" (defScope sRowRight) s.heap.objs.size f cdv)).units + 64 < cLine := hr.units
    refine ⟨_, (pss_cons (ps_set (i := 1) nd rfl (Or.inl rfl) (pe_call GR hr3 rfl gR kR bR .nil pass0 (pa_cons (pv 0) pa_nil)))
      (pss_cons (ps_if (PW.pt (pw_or (pt_not (pt_val (pe_callB call_isi (by rfl) T.isinstance (by decide +kernel) (pa_cons (pv 1) (pa_cons (pe_bltn (v := .ty "tuple") rfl T.tuple (by decide +kernel) rfl) pa_nil))))) (pw_or1 (pt_cmpR op_ne (pe_join pe_str (pe_lc (own := [("_law_sign", 2), ("_law_many", 3)]) (g := gTup _ 2 (gCons (gName 2) (gCons (gName 3) gNil))) (tt := tYes) rfl nd (pi_tup (pv 1)) (blkOk_by (N := NRR) (sc := defScope sRowRight) (by decide +kernel)) (fun _ _ _ _ _ => (pg_tup rfl (pgs_cons (pg_name (i := 2) nd rfl (Or.inl rfl)) (pgs_cons (pg_name (i := 3) nd rfl (Or.inl rfl)) pgs_nil)))) (fun _ _ _ _ _ => pts_nil) (fun _ _ _ _ _ => (pe_op op_mulS (pv 2) (pv 3))))) (pv 0) (nomark _))))) (pss_one (ps_ret pe_bl)) pss_nil)
      (pss_cons (ps_if (pt_cmpR (op_neD hu) (pe_lc (own := [("_law_row", 4)]) (g := gName 4) rfl nd (pi_tup (pv 1)) (blkOk_by (N := NRR) (sc := defScope sRowRight) (by decide +kernel)) (fun _ _ _ _ _ => (pg_name (i := 4) nd rfl (Or.inl rfl))) (fun _ _ _ _ _ => (pts_one (PW.pt (pw_or (pt_cmpR op_lt (pe_ix (ix_tupK (K := K)) (pv 4) pe_int (fun _ _ => rfl)) pe_int (nomark _)) (pw_or (pt_cmpR op_ne (pe_callB call_len_str (by rfl) T.len (by decide +kernel) (pa_cons (pe_ix (ix_tupK (K := K)) (pv 4) pe_int (fun _ _ => rfl)) pa_nil)) pe_int (nomark _)) (pw_or1 (pt_not (pt_val (pe_callB (call_isiK (K := K)) (by rfl) T.isinstance PyProof.Rows.boot_isinstance (pa_cons (pv 4) (pa_cons (pe_bltn (v := .ty "tuple") rfl T.tuple (by decide +kernel) rfl) pa_nil))))))))))) (fun _ _ _ _ _ => (pv 4))) (pe_lst pa_nil) (nomark _)) (pss_one (ps_ret pe_bl)) pss_nil)
      (pss_one (ps_ret (pe_cmpR (op_eqD hu) (pe_lc (own := [("_law_one", 5), ("_law_other", 6)]) (g := gTup _ 2 (gCons (gName 5) (gCons (gName 6) gNil))) rfl nd (RZ.pi_zipA (by rfl) T.zip (pa_cons (pv 1) (pa_cons (pe_slice sl_tupA (pv 1) (po_some pe_int) po_none) pa_nil))) (blkOk_by (N := NRR) (sc := defScope sRowRight) (by decide +kernel)) (fun _ _ _ _ _ => (pg_tup rfl (pgs_cons (pg_name (i := 5) nd rfl (Or.inl rfl)) (pgs_cons (pg_name (i := 6) nd rfl (Or.inl rfl)) pgs_nil)))) (fun _ _ _ _ _ => (pts_one (pt_cmpR op_eq (pe_ix (ix_tupK (K := K)) (pv 5) pe_int (fun _ _ => rfl)) (pe_ix (ix_tupK (K := K)) (pv 6) pe_int (fun _ _ => rfl)) (nomark _)))) (fun _ _ _ _ _ => pe_int)) (pe_lst pa_nil) (nomark _))))))), ?_⟩
    have hzl : z.length = z.cps.toList.length := Array.length_toList.symm
    have hzs' : z.cps.toList.length ≤ 900 := by rw [Array.length_toList]; exact hzs
    refine ⟨_, rfl, z, rfl, by omega, hR, fun p ys rs H1 s1 hp ha hok => ?_⟩
    have hsm := hok.small
    have hmn := hok.many
    have hlr := ha.length
    refine ⟨_, rfl, _, _, _, _, true, rfl, .ty _, .base (.tup hp), kit_ty (by decide +kernel), _, rfl, ?_⟩
    refine ⟨⟨_, rfl⟩, _, rfl, p, rfl, ⟨_, .of hp⟩, fun D nD => ?_⟩
    refine lcM_tup (K := K) (R := RPair) (R' := fun _ x (s : Str) => x = V.str s) (zs := rs) (fun _ => true) (fun r => repS ⟨#[r.1]⟩ r.2) nD (.of hp) ha (fun _ _ _ _ s h => rpair_keep _ _ _ _ (.of s) h) (fun _ _ _ _ _ r => r) (by omega) ?_ ?_
    · rintro j x r H5 C C0 hj s5 ⟨q, rfl, hq⟩ c1 c0
      have hr2 := hsm r (List.mem_of_getElem? hj)
      refine ⟨q, _, rfl, .of hq, rfl, _, _, rfl, _, _, rfl, rfl, rfl, _, rfl, _, rfl, _, _, rfl, rfl, by omega, by omega, by show 1 * _ ≤ _; omega, ?_⟩
      exact c1 rfl _ _ (fun _ _ e => e) rfl
    intro zs H3 s3 hD hy
    rw [List.filter_eq_self.mpr fun _ _ => rfl] at hy
    have ey := All2.eq_map (f := V.str) hy
    rw [ey] at hD
    have hflat : (Txt.join "" (rs.map fun r => repS ⟨#[r.1]⟩ r.2)).cps.toList = z.cps.toList := by
      rw [join_list, List.map_map, ← hok.flat, List.flatMap_def]
      congr 1
      refine List.map_congr_left fun r _ => ?_
      show (repS ⟨#[r.1]⟩ r.2).cps.toList = _
      rw [repS_list]
      show (List.replicate r.2 [r.1]).flatten = _
      rw [List.flatten_replicate_singleton]
    refine ⟨_, D, _, rfl, rfl, .inl (.of hD), ?_, ?_⟩
    · rw [sum_len, ← join_list, hflat]
      show _ + _ * 0 ≤ _
      omega
    refine ⟨_, rfl, rfl, _, rfl, ?_⟩
    rw [str_ext hflat, decide_eq_true rfl]
    refine ⟨_, rfl, p, rfl, ⟨_, .of (s3 _ _ hp)⟩, fun D2 nD2 => ?_⟩
    have hp3 := s3 _ _ hp
    have ha3 : All2 (RPair H3) ys rs := ha.mono fun x r _ h => rpair_keep _ _ _ _ (.of s3) h
    refine lcM_tup (K := K) (R := RPair) (R' := RInt) (zs := rs) (fun _ => false) (fun _ => 0) nD2 (.of hp3) ha3 (fun _ _ _ _ s h => rpair_keep _ _ _ _ (.of s) h) rint_keep (by omega) ?_ ?_
    · rintro j x r H5 C C0 hj s5 ⟨q, rfl, hq⟩ c1 c0
      have hr2 := hsm r (List.mem_of_getElem? hj)
      refine ⟨rfl, _, rfl, q, _, 1, _, rfl, rfl, .of hq, rfl, _, _, rfl, rfl, _, rfl, ?_⟩
      rw [decide_eq_false (show ¬ ((r.2 : Nat) : Int) < 1 by omega)]
      refine ⟨_, rfl, q, _, 0, _, rfl, rfl, .of hq, rfl, _, rfl, (by show 1 ≤ _; omega), rfl, _, rfl, ?_⟩
      rw [show (!decide (V.int ((⟨#[r.1]⟩ : Str).length : Nat) = V.int 1)) = false from by rw [show (V.int ((⟨#[r.1]⟩ : Str).length : Nat)) = V.int 1 from rfl, decide_eq_true rfl]; rfl]
      refine ⟨_, rfl, _, _, _, _, true, rfl, .ty _, .base (.tup hq), kit_ty (by decide +kernel), _, rfl, ?_⟩
      exact c0 rfl _ fun _ _ e => e
    intro zs2 H5 s5 hD5 hy5
    rw [List.filter_eq_nil_iff.mpr fun _ _ => by simp] at hy5
    cases hy5
    refine ⟨(by show 0 ≤ sizeLine; decide), fun p8 z8 => ?_⟩
    obtain ⟨H8, e8, S8, A8⟩ := alloc (o := .lst []) z8
    rw [e8]
    refine ⟨lI [], lI [], dp_lI (.of (S8 _ _ hD5)), dp_lI (.of A8), shaped_lI _, shaped_lI _, _, rfl, ?_⟩
    rw [eqv_lI, decide_eq_true rfl]
    have hp8 := S8 _ _ (s5 _ _ hp3)
    have ha8 : All2 (RPair H8) ys rs := ha3.mono fun x r _ h => rpair_keep _ _ _ _ (.of fun b o e => S8 _ _ (s5 _ _ e)) h
    refine ⟨_, rfl, _, rfl, 1, rfl, ?_⟩
    dsimp only [tNoPart]
    show rSlA K (V.ref p) (some 1) none H8 _
    refine slA_ok hp8 fun p1 H9 s9 A9 => ?_
    have ecut : cutV ys (some 1) none = ys.drop 1 := by
      unfold cutV
      rw [show (some 1 : Option Int) = some ((1 : Nat) : Int) from rfl, HT.sIx_nat, HT.sIx_none, List.take_of_length_le (by rw [List.length_drop]; omega)]
      by_cases h : 1 ≤ ys.length
      · rw [Nat.min_eq_left h]
      · rw [Nat.min_eq_right (by omega), List.drop_of_length_le (Nat.le_refl _), List.drop_of_length_le (by omega)]
    rw [ecut] at A9
    have ha9 : All2 (RPair H9) ys rs := ha8.mono fun x r _ h => rpair_keep _ _ _ _ (.of s9) h
    refine ⟨p, p1, _, _, rfl, .inr ⟨.of (s9 _ _ hp8), .of A9, fun D4 nD4 => ?_⟩⟩
    refine lc_it (walk_zipT (xs := ys) (ys := ys.drop 1) (n := ys.length - 1) (by rw [List.length_drop]; omega)) (LcP H9 D4 RInt (List.range (ys.length - 1)) (fun _ => false) (fun _ => 1)) (lcP_zero nD4) (fun i H _ q => ⟨.of (q.1 _ _ (s9 _ _ hp8)), .of (q.1 _ _ A9)⟩) ?_ ?_
    · rintro i y H5 H6 hi p5 ⟨T0, x1, y1, rfl, hT, rfl, e1, e2⟩
      have e1 : ys[i]? = some x1 := e1
      have e2 : (ys.drop 1)[i]? = some y1 := e2
      rw [List.getElem?_drop, Nat.add_comm 1 i] at e2
      obtain ⟨r1, hr1, q1, rfl, hq1⟩ := ha9.get e1
      obtain ⟨r2, hr2, q2, rfl, hq2⟩ := ha9.get e2
      have hne : r1.1 ≠ r2.1 := by
        have hi2 : i + 1 < rs.length := by omega
        have := hok.unlike i hi2
        rw [List.getD_eq_getElem?_getD, List.getD_eq_getElem?_getD, hr1, hr2] at this
        exact this
      obtain ⟨H6, f6, S6, A6⟩ := alloc (o := .tup [V.ref q1, V.ref q2]) hT
      rw [f6]
      refine ⟨T0, _, rfl, .of A6, rfl, _, _, rfl, _, _, rfl, rfl, rfl, _, rfl, q1, _, 0, _, rfl, rfl, .of (S6 _ _ (p5.1 _ _ hq1)), rfl, _, rfl, q2, _, 0, _, rfl, rfl, .of (S6 _ _ (p5.1 _ _ hq2)), rfl, rfl, _, rfl, ?_⟩
      rw [decide_eq_false (show ¬ V.str (⟨#[r1.1]⟩ : Str) = V.str ⟨#[r2.1]⟩ from fun y => hne (by injection y with y; injection y with y; simpa using y))]
      exact lcP_skip rint_keep (List.getElem?_range hi) p5 rfl S6
    · rintro H5 ⟨s5', ys5, hD5', ha5⟩
      rw [List.filter_eq_nil_iff.mpr fun _ _ => by simp] at ha5
      cases ha5
      refine ⟨(by show 0 ≤ sizeLine; decide), fun p10 z10 => ?_⟩
      obtain ⟨H10, e10, S10, A10⟩ := alloc (o := .lst []) z10
      rw [e10]
      refine ⟨lI [], lI [], dp_lI (.of (S10 _ _ hD5')), dp_lI (.of A10), shaped_lI _, shaped_lI _, ?_⟩
      rw [eqv_lI, decide_eq_true rfl]
      exact k H10 fun b o e => S10 _ _ (s5' _ _ (s9 _ _ (S8 _ _ (s5 _ _ (s3 _ _ (s1 _ _ e))))))
theorem ok_wordR {f fG fP : Addr} {fd fdG fdP : FuncData} (F : Fun K "_law_word_right" "_law_word_right" sWordRight f fd) (T : TxtC K mg)
    (GP : FnOk P w K mg base CX0 1 fP fdP ["_law_urn_here", "_law_many"] spPull) (gP : mg "_law_pull" = some (.ref fP)) (kP : PySem.W.keepIn K (.ref fP) = true) (bP : Binds K fdP ["_law_urn_here", "_law_many"] [])
    (GG : FnOk P w K mg base CX0 3 fG fdG ["word"] spRing) (gG : mg "ring_runs" = some (.ref fG)) (kG : PySem.W.keepIn K (.ref fG) = true) (bG : Binds K fdG ["word"] []) :
    FnOk P w K mg base CX0 4 f fd ["_law_urn_here", "_law_word"] spWordR := by
  refine F.ok scWordR (fun vs H Q E h => ?_) (fun cdv A outer s H vs Q E hr h => ?_)
  · obtain ⟨a, n, z, rfl, _⟩ := h
    rfl
  · obtain ⟨a, n, z, rfl, hw, hn, hzs, hT, k⟩ := h
    have nd := scWordR.nd
    have hr3 : Room 3 _ := hr
    have hr1 : Room 1 _ := hr.mono (by decide)
    have hz : sizeLine = 2 ^ 24 := sizeLine_eq
    refine ⟨_, (pss_cons (ps_par (i := 2) (j := 3) (by rfl) nd rfl rfl (by decide) rfl rfl (pa_cons (pe_call GG hr3 rfl gG kG bG .nil pass0 (pa_cons (pv 1) pa_nil)) (pa_cons (pe_callB call_len_str (by rfl) T.len (by decide +kernel) (pa_cons (pv 1) pa_nil)) pa_nil)) (by rfl))
      (pss_cons (ps_setLc (i := 5) (own := [("_law_k", 4)]) (g := gName 4) rfl nd rfl rfl (sw_true rfl rfl rfl (by decide +kernel)) (pi_range1 (by rfl) T.range (pa_cons (pv 3) pa_nil)) (blkOk_by (N := NWR) (sc := defScope sWordRight) (by decide +kernel)) (fun _ _ _ _ _ => (pg_name (i := 4) nd rfl (Or.inl rfl))) (fun _ _ _ _ _ => (pts_one (pt_cmpR op_ne (pe_ix ix_str (pe_op op_add_str (pv 1) (pv 1)) (pv 4) (fun _ _ => rfl)) (pe_ix ix_str (pe_op op_add_str (pv 1) (pv 1)) (pe_op op_add (pv 4) pe_int) (fun _ _ => rfl)) (nomark _)))) (fun _ _ _ _ _ => (pv 4)))
      (pss_cons (ps_if (PW.pt (pw_or (pt_cmpR op_ne (pv 2) (pe_callB (call_max2 rfl) (by rfl) T.max (by decide +kernel) (pa_cons (pe_callB call_len_seq (by rfl) T.len (by decide +kernel) (pa_cons (pv 5) pa_nil)) (pa_cons (pe_callTy call_int1 (by rfl) T.int (by decide +kernel) (pa_cons (pe_cmpR op_gt (pv 3) pe_int (nomark _)) pa_nil)) pa_nil))) (nomark _)) (pw_or1 (pt_cmpR op_ne (pe_call GG hr3 rfl gG kG bG .nil pass0 (pa_cons (pe_revS (pv 1)) pa_nil)) (pv 2) (nomark _))))) (pss_one (ps_ret pe_bl)) pss_nil)
      (pss_cons (ps_set (i := 4) nd rfl (Or.inl rfl) (pe_call GP hr1 rfl gP kP bP .nil pass0 (pa_cons (pv 0) (pa_cons (pe_op op_add (pv 3) pe_int) pa_nil))))
      (pss_cons (ps_if (pt_cmpR op_ne (pe_call GG hr3 rfl gG kG bG .nil pass0 (pa_cons (pe_op op_add_str (pe_slice sl_str (pv 1) (po_some (pv 4)) po_none) (pe_slice sl_str (pv 1) po_none (po_some (pv 4)))) pa_nil)) (pv 2) (nomark _)) (pss_one (ps_ret pe_bl)) pss_nil)
      (pss_one (ps_ret (pe_cmpR op_eq (pe_call GG hr3 rfl gG kG bG .nil pass0 (pa_cons (pe_op op_mulS (pv 1) pe_int) pa_nil)) (pe_ifExp (pt_cmpR op_lt (pv 2) pe_int (nomark _)) (pv 2) (pe_op op_mul pe_int (pv 2))) (nomark _))))))))), ?_⟩
    have hzl : z.length = z.cps.toList.length := Array.length_toList.symm
    have hzs' : z.cps.toList.length ≤ 400 := by rw [Array.length_toList]; exact hzs
    have hT' := isTx_iff.mp hT
    have hdd : (z ++ z).cps.toList = z.cps.toList ++ z.cps.toList := app_list z z
    have hddl : (z ++ z).length = 2 * z.cps.toList.length := by
      rw [show (z ++ z).length = (z ++ z).cps.toList.length from Array.length_toList.symm, hdd, List.length_append]
      omega
    refine ⟨_, rfl, z, rfl, by omega, hT, fun H1 s1 => ?_⟩
    refine ⟨_, rfl, z, rfl, by omega, _, _, rfl, ?_⟩
    obtain ⟨n2, hn2⟩ : ∃ m, m = z.cps.toList.length := ⟨_, rfl⟩
    refine ⟨_, rfl, _, rfl, by omega, by omega, fun D nD => ?_⟩
    rw [show ((z.length : Int)).toNat = n2 by omega]
    refine lcM_range (R' := RInt) (n := n2) (fun k => decide ((z.cps.toList ++ z.cps.toList).getD k 0 ≠ (z.cps.toList ++ z.cps.toList).getD (k + 1) 0)) (fun k => (0 : Int) + (k : Nat)) nD rint_keep (by omega) ?_ ?_
    · intro i H3 C C0 hi s3 c1 c0
      have at_ : ∀ m : Nat, m < (z.cps.toList ++ z.cps.toList).length → atI (z ++ z).cps.toList ((m : Nat) : Int) = some ((z.cps.toList ++ z.cps.toList).getD m 0) := fun m hm => by
        rw [hdd]
        refine atI_nat ?_
        rw [List.getElem?_eq_getElem hm, List.getD_eq_getElem?_getD, List.getElem?_eq_getElem hm]
        rfl
      have hle : n2 + 1 ≤ (z.cps.toList ++ z.cps.toList).length := by rw [List.length_append]; omega
      refine ⟨rfl, _, rfl, _, rfl, _, _, rfl, rfl, by omega, _, rfl, z ++ z, _, _, rfl, rfl, by omega, (by rw [show (0 : Int) + (i : Nat) = ((i : Nat) : Int) by omega]; exact at_ i (by omega)), _, rfl, _, rfl, _, _, rfl, rfl, by omega, _, rfl, _, _, rfl, rfl, z ++ z, _, _, rfl, rfl, by omega, (by rw [show (0 : Int) + (i : Nat) + 1 = ((i + 1 : Nat) : Int) by omega]; exact at_ (i + 1) (by omega)), rfl, _, rfl, ?_⟩
      rw [ne_sign]
      by_cases he : (z.cps.toList ++ z.cps.toList).getD i 0 = (z.cps.toList ++ z.cps.toList).getD (i + 1) 0
      · rw [decide_eq_false (fun e => e he)]
        exact c0 (decide_eq_false (fun e => e he)) _ fun _ _ e => e
      · rw [decide_eq_true he]
        exact ⟨_, rfl, c1 (decide_eq_true he) _ _ (fun _ _ e => e) rfl⟩
    intro ys H3 s3 hD hy
    have hcl : ys.length = cyc z.cps.toList := by
      rw [hy.length, List.length_map, hn2]
      exact chg_len _
    have hv : (if (if decide ((0 : Int) < (z.length : Nat)) = true then (1 : Int) else 0) > (ys.length : Nat) then (if decide ((0 : Int) < (z.length : Nat)) = true then (1 : Int) else 0) else (ys.length : Nat)) = (ringM z.cps.toList : Nat) := by
      unfold ringM
      rw [hcl]
      by_cases h0 : z.cps.toList = []
      · rw [if_pos h0, decide_eq_false (by rw [hzl, h0]; decide), h0]
        rfl
      · have : 0 < z.cps.toList.length := List.length_pos_iff.mpr h0
        rw [if_neg h0, decide_eq_true (by omega), if_pos rfl]
        split <;> omega
    refine ⟨_, rfl, _, rfl, D, _, rfl, .inl (.of hD), _, rfl, _, _, rfl, rfl, .inr ⟨_, rfl, _, _, rfl, rfl, _, rfl, ?_⟩⟩
    rw [hv, decide_eq_true rfl]
    refine ⟨_, rfl, z, rfl, by omega, revS z, rfl, ?_, ?_, fun H4 s4 => ⟨_, rfl, rfl, _, rfl, ?_⟩⟩
    · rw [← Array.length_toList, revS_list, List.length_reverse]; omega
    · exact isTx_iff.mpr fun c hc => hT' c (by rw [revS_list] at hc; exact List.mem_reverse.mp hc)
    rw [revS_list, ringM_rev, decide_eq_true rfl]
    have hw4 : UrnAt H4 a n := hw.keep fun o e => s4 _ _ (s3 _ _ (s1 _ _ e))
    refine ⟨_, rfl, _, rfl, _, _, rfl, rfl, a, _, n, rfl, hw4, by omega, by omega, by omega, fun d H5 da db hw5 hk5 => ?_⟩
    obtain ⟨m, rfl⟩ : ∃ j : Nat, d = (j : Int) := ⟨d.toNat, by omega⟩
    have hrot : (cutS z (some (m : Int)) none ++ cutS z none (some (m : Int))).cps.toList = z.cps.toList.drop m ++ z.cps.toList.take m := by rw [app_list, cutS_drop, cutS_take]
    have hl1 := cutS_length z (some (m : Int)) none
    have hl2 := cutS_length z none (some (m : Int))
    refine ⟨_, rfl, _, rfl, _, rfl, z, rfl, by omega, _, rfl, _, rfl, _, rfl, z, rfl, by omega, _, _, rfl, rfl, by omega, _, rfl, ?_, ?_, fun H6 s6 => ⟨_, rfl, rfl, _, rfl, ?_⟩⟩
    · rw [← Array.length_toList, hrot, List.length_append, List.length_drop, List.length_take]; omega
    · refine isTx_iff.mpr fun c hc => hT' c ?_
      rw [hrot] at hc
      rcases List.mem_append.mp hc with h | h
      · exact List.mem_of_mem_drop h
      · exact List.mem_of_mem_take h
    rw [hrot, ringM_swap, List.take_append_drop, decide_eq_true rfl]
    have hrep : (repS z (2 : Int).toNat).cps.toList = z.cps.toList ++ z.cps.toList := by
      rw [repS_list]
      show (List.replicate 2 z.cps.toList).flatten = _
      simp [List.replicate_succ]
    refine ⟨_, rfl, _, _, rfl, rfl, by decide, by decide, ?_, _, rfl, ?_, ?_, fun H7 s7 => ⟨_, rfl, _, _, rfl, rfl, _, rfl, ?_⟩⟩
    · show _ * 2 ≤ _
      omega
    · rw [← Array.length_toList, hrep, List.length_append]; omega
    · refine isTx_iff.mpr fun c hc => hT' c ?_
      rw [hrep] at hc
      rcases List.mem_append.mp hc with h | h <;> exact h
    rw [hrep, ringM_twice]
    have fin : ∀ b, b = true → Q (.bl b) H7 := fun b hb => by
      subst hb
      exact k H7 (hw5.keep fun o e => s7 _ _ (s6 _ _ e)) ((KeepB.of fun b o e => s4 _ _ (s3 _ _ (s1 _ _ e))).trans (hk5.trans (KeepB.of fun b o e => s7 _ _ (s6 _ _ e))))
    by_cases h2 : ringM z.cps.toList < 2
    · rw [if_pos h2, decide_eq_true (show ((ringM z.cps.toList : Nat) : Int) < 2 by omega)]
      exact ⟨_, rfl, rfl, fin _ (decide_eq_true rfl)⟩
    · rw [if_neg h2, decide_eq_false (show ¬ ((ringM z.cps.toList : Nat) : Int) < 2 by omega)]
      refine ⟨_, rfl, _, _, rfl, rfl, .inl ⟨by decide, by decide⟩, rfl, fin _ ?_⟩
      refine decide_eq_true ?_
      rw [show ((2 * ringM z.cps.toList : Nat) : Int) = 2 * (ringM z.cps.toList : Nat) by omega]
end
end T36

set_option Elab.async false
set_option linter.all false
set_option maxRecDepth 100000
set_option maxHeartbeats 4000000
namespace T36
open PySem L2 EK
/-- runs as data -/
def tR (rs : List (Nat × Nat)) : PyData := .tuple (rs.map fun r => PyData.tuple [.str ⟨#[r.1]⟩, .int (r.2 : Nat)])
theorem dp_pairs {K : PySem.W.Frag} {H : Hp} {ys : List V} {rs : List (Nat × Nat)} (h : All2 (RPair H) ys rs) : DpAll K H ys (rs.map fun r => PyData.tuple [.str ⟨#[r.1]⟩, .int (r.2 : Nat)]) := by
  induction h with
  | nil => exact .nil
  | cons h t ih =>
    obtain ⟨q, rfl, hq⟩ := h
    exact .cons (.tup (.of hq) (.cons (.str _) (.cons (.int _) .nil))) ih
theorem dp_tR {K : PySem.W.Frag} {H : Hp} {p : Addr} {ys : List V} {rs : List (Nat × Nat)} (hp : H p = some (.tup ys)) (h : All2 (RPair H) ys rs) : Dp K H (.ref p) (tR rs) := .tup (.of hp) (dp_pairs h)
theorem lay_tR : ∀ rs : List (Nat × Nat), (∀ r ∈ rs, r.1 < 128) → PyData.canLayAll0 (rs.map fun r => PyData.tuple [.str ⟨#[r.1]⟩, .int (r.2 : Nat)]) = true ∧ PyData.depthAll (rs.map fun r => PyData.tuple [.str ⟨#[r.1]⟩, .int (r.2 : Nat)]) ≤ 1
  | [], _ => by simp [PyData.canLayAll0, PyData.depthAll]
  | r :: rs, h => by
    obtain ⟨h1, h2⟩ := lay_tR rs fun x hx => h x (List.mem_cons_of_mem _ hx)
    have h3 : PyData.strOk ⟨#[r.1]⟩ = true := by
      unfold PyData.strOk
      rw [Array.all_eq_true']
      intro c hc
      have : c = r.1 := by simpa using hc
      subst this
      have := h r List.mem_cons_self
      simp
      omega
    simp [PyData.canLayAll0, PyData.canLay0, PyData.depthAll, PyData.depth, h1, h3]
    omega
theorem shaped_tR {rs : List (Nat × Nat)} (h : ∀ r ∈ rs, r.1 < 128) : SeqAt.shaped (tR rs) = true := by
  obtain ⟨h1, h2⟩ := lay_tR rs h
  simp [tR, SeqAt.shaped, PyData.canLay0, PyData.depth, h1]
  omega
theorem eqv_pairs : ∀ rs : List (Nat × Nat), PyData.eqvAll (rs.map fun r => PyData.tuple [.str ⟨#[r.1]⟩, .int (r.2 : Nat)]) (rs.map fun r => PyData.tuple [.str ⟨#[r.1]⟩, .int (r.2 : Nat)]) = true
  | [] => by simp [PyData.eqvAll]
  | r :: rs => by simp [PyData.eqvAll, PyData.eqv, eqv_pairs rs]
theorem eqv_tR (rs : List (Nat × Nat)) : PyData.eqv (tR rs) (tR rs) = true := by
  unfold tR
  simp only [PyData.eqv]
  exact eqv_pairs rs
theorem cut_take (ns : List Int) (j : Nat) : cutV (ns.map V.int) none (some (j : Int)) = (ns.take j).map V.int := by
  unfold cutV
  rw [HT.sIx_nat, HT.sIx_none, List.drop_zero, Nat.sub_zero, List.map_take, List.length_map]
  by_cases h : j ≤ ns.length
  · rw [Nat.min_eq_left h]
  · rw [Nat.min_eq_right (by omega), List.take_of_length_le (by rw [List.length_map]; omega), List.take_of_length_le (by rw [List.length_map]; omega)]
theorem runs_rep {c k : Nat} (hk : 1 ≤ k) : RunsOk (List.replicate k c) [(c, k)] := by
  have := RunsOk.nil.snoc (c := c) hk fun d j e => by cases e
  exact this
theorem ringM_rep {c k : Nat} (hk : 1 ≤ k) : ringM (List.replicate k c) = 1 := by
  obtain ⟨k, rfl⟩ : ∃ j, k = j + 1 := ⟨k - 1, by omega⟩
  unfold ringM
  rw [List.replicate_succ, cyc_cons, List.cons_append, adj_alike fun x hx => ?_]
  · rfl
  · rcases List.mem_append.mp hx with h | h
    · exact (List.mem_replicate.mp h).2
    · exact List.mem_singleton.mp h
def words7 : List Str := ["", "a", "aaa", "ab", "aba", "abab", "abc"]
theorem good_w7 : ∀ z ∈ words7, (isTx z && decide (z.cps.size ≤ 1000)) = true := by decide +kernel
theorem rings7 : words7.map (fun z => ((ringM z.cps.toList : Nat) : Int)) = [0, 1, 1, 2, 2, 4, 3] := by decide +kernel
def spLaw (K : PySem.W.Frag) : Sp := fun vs H Q _ => ∃ (a : Addr) (ns : List Int), vs = [.ref a] ∧ SqL K H a (ns.map V.int) ∧ ns.length ≤ 63 ∧ ∀ H', Q (.bl true) H'
abbrev NL : List Str := ["_law_script", "_law_cell", "_law_urn_here", "_law_turn", "_law_many", "_law_word"]
section
variable {P : Program} {w : World} {K : PySem.W.Frag} {mg : Str → Option Value} {base : Heap} {fU fP fX fL fRR fWR fR fG : Addr} {fdU fdP fdX fdL fdRR fdWR fdR fdG : FuncData}
theorem scLaw : FnScope NL ["_law_script"] (defScope sLaw) := ⟨rfl, rfl, rfl, by decide +kernel, rfl, by decide +kernel, by decide +kernel⟩
theorem ok_law {f : Addr} {fd : FuncData} (F : Fun K "law" "law" sLaw f fd) (T : TxtC K mg)
    (GU : FnOk P w K mg base CX0 1 fU fdU ["_law_cell"] spUrn) (gU : mg "_law_urn" = some (.ref fU)) (kU : PySem.W.keepIn K (.ref fU) = true) (bU : Binds K fdU ["_law_cell"] [])
    (GP : FnOk P w K mg base CX0 1 fP fdP ["_law_urn_here", "_law_many"] spPull) (gP : mg "_law_pull" = some (.ref fP)) (kP : PySem.W.keepIn K (.ref fP) = true) (bP : Binds K fdP ["_law_urn_here", "_law_many"] [])
    (GX : FnOk P w K mg base CX0 3 fX fdX ["_law_urn_here", "_law_most"] spText) (gX : mg "_law_text" = some (.ref fX)) (kX : PySem.W.keepIn K (.ref fX) = true) (bX : Binds K fdX ["_law_urn_here", "_law_most"] [])
    (GL : FnOk P w K mg base CX0 3 fL fdL ["_law_urn_here"] spLine) (gL : mg "_law_line" = some (.ref fL)) (kL : PySem.W.keepIn K (.ref fL) = true) (bL : Binds K fdL ["_law_urn_here"] [])
    (GRR : FnOk P w K mg base CX0 4 fRR fdRR ["_law_line_here"] spRowR) (gRR : mg "_law_row_right" = some (.ref fRR)) (kRR : PySem.W.keepIn K (.ref fRR) = true) (bRR : Binds K fdRR ["_law_line_here"] [])
    (GWR : FnOk P w K mg base CX0 4 fWR fdWR ["_law_urn_here", "_law_word"] spWordR) (gWR : mg "_law_word_right" = some (.ref fWR)) (kWR : PySem.W.keepIn K (.ref fWR) = true) (bWR : Binds K fdWR ["_law_urn_here", "_law_word"] [])
    (GR : FnOk P w K mg base CX0 3 fR fdR ["row"] spRuns) (gR : mg "runs" = some (.ref fR)) (kR : PySem.W.keepIn K (.ref fR) = true) (bR : Binds K fdR ["row"] [])
    (GG : FnOk P w K mg base CX0 3 fG fdG ["word"] spRing) (gG : mg "ring_runs" = some (.ref fG)) (kG : PySem.W.keepIn K (.ref fG) = true) (bG : Binds K fdG ["word"] []) :
    FnOk P w K mg base CX0 5 f fd ["_law_script"] (spLaw K) := by
  refine F.ok scLaw (fun vs H Q E h => ?_) (fun cdv A outer s H vs Q E hr h => ?_)
  · obtain ⟨a, ns, rfl, _⟩ := h
    rfl
  · obtain ⟨a, ns, rfl, hS, hlen, k⟩ := h
    have nd := scLaw.nd
    have hu : (A.deeper (PyProof.Rows.envOfC "law" (defScope sLaw) s.heap.objs.size f cdv)).units + 64 < cLine := hr.units
    have hz : sizeLine = 2 ^ 24 := sizeLine_eq
    have hr1 : Room 1 _ := hr.mono (by decide)
    have hr3 : Room 3 _ := hr.mono (by decide)
    have hr4 : Room 4 _ := hr
    refine ⟨_, (pss_cons (ps_for PassesOwn.never rfl (pi_list (pe_op op_cat (pe_slice sl_list (pv 0) po_none (po_some pe_int)) (pe_lst (pa_cons pe_int pa_nil)))) (pg_name (i := 1) nd rfl (Or.inl rfl)) (pss_cons (ps_set (i := 2) nd rfl (Or.inl rfl) (pe_call GU hr1 rfl gU kU bU .nil pass0 (pa_cons (pv 1) pa_nil)))
      (pss_cons (ps_for PassesOwn.never rfl (pi_range1 (by rfl) T.range (pa_cons pe_int pa_nil)) (pg_name (i := 3) nd rfl (Or.inl rfl)) (pss_one (ps_if (PW.pt (pw_or (pt_not (pt_val (pe_call GRR hr4 rfl gRR kRR bRR .nil pass0 (pa_cons (pe_call GL hr3 rfl gL kL bL .nil pass0 (pa_cons (pv 2) pa_nil)) pa_nil)))) (pw_or1 (pt_not (pt_val (pe_call GWR hr4 rfl gWR kWR bWR .nil pass0 (pa_cons (pv 2) (pa_cons (pe_call GX hr3 rfl gX kX bX .nil pass0 (pa_cons (pv 2) (pa_cons pe_int pa_nil))) pa_nil)))))))) (pss_one (ps_ret pe_bl)) pss_nil)))
      (pss_cons (ps_set (i := 4) nd rfl (Or.inl rfl) (pe_op op_add pe_int (pe_call GP hr1 rfl gP kP bP .nil pass0 (pa_cons (pv 2) (pa_cons pe_int pa_nil)))))
      (pss_cons (ps_if (PW.pt (pw_or (pt_cmpR (op_neD hu) (pe_call GR hr3 rfl gR kR bR .nil pass0 (pa_cons (pe_op op_mulS pe_str (pv 4)) pa_nil)) (pe_tup (pa_cons (pe_tup (pa_cons pe_str (pa_cons (pv 4) pa_nil))) pa_nil)) (nomark _)) (pw_or1 (pt_cmpR op_ne (pe_call GG hr3 rfl gG kG bG .nil pass0 (pa_cons (pe_op op_mulS pe_str (pv 4)) pa_nil)) pe_int (nomark _))))) (pss_one (ps_ret pe_bl)) pss_nil)
      (pss_one (ps_if (pt_cmpR (op_neD hu) (pe_call GR hr3 rfl gR kR bR .nil pass0 (pa_cons (pe_op op_add_str (pe_op op_mulS pe_str (pe_op op_fdiv (pv 4) pe_int)) (pe_op op_mulS pe_str (pe_op op_fdiv (pv 4) pe_int))) pa_nil)) (pe_slice sl_tupA (pe_tup (pa_cons (pe_tup (pa_cons pe_str (pa_cons (pe_op op_fdiv (pv 4) pe_int) pa_nil))) (pa_cons (pe_tup (pa_cons pe_str (pa_cons (pe_op op_fdiv (pv 4) pe_int) pa_nil))) pa_nil))) po_none (po_some (pe_op op_mul pe_int (pe_callTy call_int1 (by rfl) T.int (by decide +kernel) (pa_cons (pe_cmpR op_gt (pv 4) pe_int (nomark _)) pa_nil))))) (nomark _)) (pss_one (ps_ret pe_bl)) pss_nil)))))))
      (pss_cons (ps_if (PW.pt (pw_or (pt_cmpR (op_neD hu) (pe_call GR hr3 rfl gR kR bR .nil pass0 (pa_cons pe_str pa_nil)) (pe_tup pa_nil) (nomark _)) (pw_or1 (pt_cmpR (op_neD hu) (pe_call GR hr3 rfl gR kR bR .nil pass0 (pa_cons pe_str pa_nil)) (pe_tup (pa_cons (pe_tup (pa_cons pe_str (pa_cons pe_int pa_nil))) (pa_cons (pe_tup (pa_cons pe_str (pa_cons pe_int pa_nil))) pa_nil))) (nomark _))))) (pss_one (ps_ret pe_bl)) pss_nil)
      (pss_one (ps_ret (pe_cmpR (op_eqD hu) (pe_lc (own := [("_law_word", 5)]) (g := gName 5) (tt := tYes) rfl nd (pi_tup (pe_tup (pa_cons pe_str (pa_cons pe_str (pa_cons pe_str (pa_cons pe_str (pa_cons pe_str (pa_cons pe_str (pa_cons pe_str pa_nil))))))))) (blkOk_by (N := NL) (sc := defScope sLaw) (by decide +kernel)) (fun _ _ _ _ _ => (pg_name (i := 5) nd rfl (Or.inl rfl))) (fun _ _ _ _ _ => pts_nil) (fun _ _ _ _ _ => (pe_call GG hr3 rfl gG kG bG .nil pass0 (pa_cons (pv 5) pa_nil)))) (pe_lst (pa_cons pe_int (pa_cons pe_int (pa_cons pe_int (pa_cons pe_int (pa_cons pe_int (pa_cons pe_int (pa_cons pe_int pa_nil)))))))) (nomark _)))))), ?_⟩
    refine ⟨_, rfl, 4, rfl, a, _, rfl, hS, fun p0 z0 => ?_⟩
    rw [show (some 4 : Option Int) = some ((4 : Nat) : Int) from rfl, cut_take]
    obtain ⟨H0, e0, S0, A0⟩ := alloc (o := .lst ((ns.take 4).map V.int)) z0
    rw [e0]
    refine ⟨(by show 1 ≤ sizeLine; decide), fun p1 z1 => ?_⟩
    obtain ⟨H1, e1, S1, A1⟩ := alloc (o := .lst [.int 0]) z1
    rw [e1]
    refine ⟨p0, p1, _, _, rfl, rfl, S1 _ _ A0, A1, (by rw [List.length_map, List.length_take]; show _ + 1 ≤ _; omega), fun p2 z2 => ?_⟩
    have em : (ns.take 4).map V.int ++ [V.int 0] = (ns.take 4 ++ [0]).map V.int := by rw [List.map_append]; rfl
    rw [em]
    obtain ⟨H2, e2, S2, A2⟩ := alloc (o := .lst ((ns.take 4 ++ [0]).map V.int)) z2
    rw [e2]
    refine ⟨p2, rfl, ⟨_, .of A2⟩, for_list (K := K) (a := p2) (xs := (ns.take 4 ++ [0]).map V.int) (fun i σ H' => ∃ v1 v2 v3 v4 : Option V, σ = [some (.ref a), v1, v2, v3, v4, none] ∧ H' p2 = some (.lst ((ns.take 4 ++ [0]).map V.int))) ⟨none, none, none, none, rfl, A2⟩ (fun i σ H' _ ⟨_, _, _, _, _, s⟩ => .of s) ?_ ?_⟩
    · rintro i x σ H3 hi ⟨v1, v2, v3, v4, rfl, h2⟩
      obtain ⟨c, hc, rfl⟩ : ∃ c, (ns.take 4 ++ [0])[i]? = some c ∧ V.int c = x := by
        rw [List.getElem?_map] at hi
        cases h : (ns.take 4 ++ [0])[i]? with
        | none => rw [h] at hi; cases hi
        | some t => rw [h] at hi; exact ⟨t, rfl, Option.some.inj hi⟩
      refine ⟨_, rfl, c, rfl, fun wl H4 nwl hw4 s4 => ?_⟩
      have hp2 : p2 ≠ wl := fun e => by rw [← e, h2] at nwl; cases nwl
      refine ⟨_, rfl, by decide, by decide, for_range (lo := 0) (n := 10) (fun i σ H' => ∃ v3 : Option V, σ = [some (.ref a), some (.int c), some (.ref wl), v3, v4, none] ∧ UrnAt H' wl (2000 * (i : Nat)) ∧ H' p2 = some (.lst ((ns.take 4 ++ [0]).map V.int))) ⟨v3, rfl, hw4.mono (by omega), s4 _ _ h2⟩ ?_ ?_⟩
      · rintro i σ H5 hi ⟨v3, rfl, hw5, h5⟩
        refine ⟨_, rfl, wl, _, rfl, hw5, by omega, fun z H6 hz6 hR6 hw6 hk6 => ?_⟩
        refine ⟨z, rfl, by rw [← Array.length_toList]; omega, hR6, fun H7 s7 => ⟨_, rfl, ?_⟩⟩
        have hw7 : UrnAt H7 wl (2000 * (i : Nat) + 100) := hw6.keep fun o e => s7 _ _ e
        refine ⟨_, rfl, _, rfl, wl, _, 30, rfl, hw7, by omega, by omega, fun y H8 hy8 hw8 hk8 => ?_⟩
        refine ⟨wl, _, y, rfl, hw8, by omega, by rw [← Array.length_toList]; have := hy8.len; omega, isTx_iff.mpr hy8.let_, fun H9 hw9 hk9 => ⟨_, rfl, ?_⟩⟩
        exact ⟨_, rfl, hw9.mono (by omega), hk9 _ _ (hk8 _ _ (s7 _ _ (hk6 _ _ h5 hp2)) hp2) hp2⟩
      · rintro σ H5 ⟨v3, rfl, hw5, h5⟩
        refine ⟨_, rfl, wl, _, _, rfl, hw5, by decide, by decide, by decide, fun d H6 d0 d1 hw6 hk6 => ?_⟩
        obtain ⟨m, rfl⟩ : ∃ j : Nat, d = (j : Int) := ⟨d.toNat, by omega⟩
        have hp6 := hk6 _ _ h5 hp2
        refine ⟨_, _, rfl, rfl, ?_⟩
        dsimp only
        rw [show (1 : Int) + (m : Nat) = ((m + 1 : Nat) : Int) by omega]
        have hmb : m + 1 ≤ 300 := by omega
        have hbl : (repS "b" (((m + 1 : Nat) : Int)).toNat).cps.toList = List.replicate (m + 1) 98 := by
          rw [repS_list, Int.toNat_natCast]
          show (List.replicate (m + 1) [98]).flatten = _
          rw [List.flatten_replicate_singleton]
        have hbs : (repS "b" (((m + 1 : Nat) : Int)).toNat).cps.size ≤ 1000 := by rw [← Array.length_toList, hbl, List.length_replicate]; omega
        have hbT : isTx (repS "b" (((m + 1 : Nat) : Int)).toNat) = true := isTx_iff.mpr fun c hc => by
          rw [hbl] at hc
          rw [(List.mem_replicate.mp hc).2]
          decide
        have hbR : isR (repS "b" (((m + 1 : Nat) : Int)).toNat) = true := isR_iff.mpr fun c hc => .inr (isTx_iff.mp hbT c hc)
        refine ⟨_, rfl, _, _, rfl, rfl, by omega, by omega, by show 1 * _ ≤ _; omega, _, rfl, hbs, hbR, fun p ys rs H7 s7 hp ha hok => ?_⟩
        rw [hbl] at hok
        have ers := hok.one (runs_rep (c := 98) (k := m + 1) (by omega))
        refine ⟨_, rfl, (by show 2 ≤ sizeLine; decide), fun q8 z8 => ?_⟩
        obtain ⟨H8, e8, S8, A8⟩ := alloc (o := .tup [.str "b", .int ((m + 1 : Nat) : Int)]) z8
        rw [e8]
        refine ⟨(by show 1 ≤ sizeLine; decide), fun q9 z9 => ?_⟩
        obtain ⟨H9, e9, S9, A9⟩ := alloc (o := .tup [.ref q8]) z9
        rw [e9]
        have ha9 : All2 (RPair H9) ys rs := ha.mono fun x r _ h => rpair_keep _ _ _ _ (.of fun b o e => S9 _ _ (S8 _ _ e)) h
        have hb9 : All2 (RPair H9) [.ref q8] [(98, m + 1)] := .cons ⟨q8, rfl, S9 _ _ A8⟩ .nil
        rw [ers] at ha9
        have hsh : SeqAt.shaped (tR [(98, m + 1)]) = true := shaped_tR fun r hr => by rw [List.mem_singleton.mp hr]; show 98 < 128; decide
        refine ⟨_, _, dp_tR (S9 _ _ (S8 _ _ hp)) ha9, dp_tR A9 hb9, hsh, hsh, _, rfl, ?_⟩
        rw [eqv_tR]
        refine ⟨_, rfl, _, _, rfl, rfl, by omega, by omega, by show 1 * _ ≤ _; omega, _, rfl, hbs, hbT, fun H10 s10 => ⟨rfl, _, rfl, ?_⟩⟩
        rw [hbl, ringM_rep (by omega), show (!decide (V.int ((1 : Nat) : Int) = V.int 1)) = false from by rw [show (V.int ((1 : Nat) : Int)) = V.int 1 from rfl, decide_eq_true rfl]; rfl]
        obtain ⟨h, hh⟩ : ∃ h : Nat, h = (m + 1) / 2 := ⟨_, rfl⟩
        have hhi : ((m + 1 : Nat) : Int) / 2 = (h : Nat) := by omega
        have hal : (repS "a" (((m + 1 : Nat) : Int) / 2).toNat ++ repS "$" (((m + 1 : Nat) : Int) / 2).toNat).cps.toList = List.replicate h 97 ++ List.replicate h 36 := by
          rw [app_list, repS_list, repS_list, hhi, Int.toNat_natCast]
          show (List.replicate h [97]).flatten ++ (List.replicate h [36]).flatten = _
          rw [List.flatten_replicate_singleton, List.flatten_replicate_singleton]
        have l1 : (repS "a" (((m + 1 : Nat) : Int) / 2).toNat).length = h := by
          rw [show (repS "a" (((m + 1 : Nat) : Int) / 2).toNat).length = _ from Array.length_toList.symm, repS_len, hhi, Int.toNat_natCast]
          show h * 1 = h
          omega
        have l2 : (repS "$" (((m + 1 : Nat) : Int) / 2).toNat).length = h := by
          rw [show (repS "$" (((m + 1 : Nat) : Int) / 2).toNat).length = _ from Array.length_toList.symm, repS_len, hhi, Int.toNat_natCast]
          show h * 1 = h
          omega
        refine ⟨_, rfl, _, _, rfl, rfl, ⟨by decide, by decide⟩, _, _, rfl, rfl, by omega, by omega, by show 1 * _ ≤ _; omega, _, rfl, _, _, rfl, rfl, ⟨by decide, by decide⟩, _, _, rfl, rfl, by omega, by omega, by show 1 * _ ≤ _; omega, _, _, rfl, rfl, by omega, _, rfl, ?_, ?_, fun p11 ys11 rs11 H11 s11 hp11 ha11 hok11 => ?_⟩
        · rw [← Array.length_toList, hal, List.length_append, List.length_replicate, List.length_replicate]; omega
        · refine isR_iff.mpr fun c hc => ?_
          rw [hal] at hc
          rcases List.mem_append.mp hc with hc | hc
          · rw [(List.mem_replicate.mp hc).2]; decide
          · rw [(List.mem_replicate.mp hc).2]; decide
        rw [hal] at hok11
        refine ⟨_, rfl, _, _, rfl, rfl, ⟨by decide, by decide⟩, (by show 2 ≤ sizeLine; decide), fun q12 z12 => ?_⟩
        obtain ⟨H12, e12, S12, A12⟩ := alloc (o := .tup [.str "a", .int (((m + 1 : Nat) : Int) / 2)]) z12
        rw [e12]
        refine ⟨_, rfl, _, _, rfl, rfl, ⟨by decide, by decide⟩, (by show 2 ≤ sizeLine; decide), fun q13 z13 => ?_⟩
        obtain ⟨H13, e13, S13, A13⟩ := alloc (o := .tup [.str "$", .int (((m + 1 : Nat) : Int) / 2)]) z13
        rw [e13]
        refine ⟨(by show 2 ≤ sizeLine; decide), fun q14 z14 => ?_⟩
        obtain ⟨H14, e14, S14, A14⟩ := alloc (o := .tup [.ref q12, .ref q13]) z14
        rw [e14]
        refine ⟨_, rfl, _, _, rfl, rfl, .inr ⟨_, rfl, _, _, rfl, rfl, .inl ⟨by decide, by decide⟩, _, rfl, ?_⟩⟩
        dsimp only [tNoPart]
        refine slA_ok A14 fun q15 H15 s15 A15 => ?_
        rw [hhi] at A12 A13
        have hcut : ∃ zs qs, cutV [V.ref q12, V.ref q13] none (some (2 * if decide ((1 : Int) < ((m + 1 : Nat) : Int)) = true then 1 else 0)) = zs ∧ All2 (RPair H15) zs qs ∧ RunsOk (List.replicate h 97 ++ List.replicate h 36) qs ∧ ∀ r ∈ qs, r.1 < 128 := by
          by_cases hm0 : m = 0
          · rw [decide_eq_false (by omega)]
            refine ⟨[], [], rfl, .nil, ?_, fun r hr => (by cases hr)⟩
            have : h = 0 := by omega
            subst this
            exact RunsOk.nil
          · rw [decide_eq_true (by omega)]
            have h12 : H15 q12 = some (.tup [.str "a", .int (h : Nat)]) := s15 _ _ (S14 _ _ (S13 _ _ A12))
            have h13 : H15 q13 = some (.tup [.str "$", .int (h : Nat)]) := s15 _ _ (S14 _ _ A13)
            refine ⟨_, [(97, h), (36, h)], rfl, .cons ⟨q12, rfl, h12⟩ (.cons ⟨q13, rfl, h13⟩ .nil), ?_, fun r hr => ?_⟩
            · refine (runs_rep (c := 97) (by omega)).snoc (by omega) fun d j e => ?_
              injection e with e
              injection e with e _
              rw [← e]
              decide
            · rcases List.mem_cons.mp hr with rfl | hr
              · show 97 < 128; decide
              · rw [List.mem_singleton.mp hr]; show 36 < 128; decide
        obtain ⟨zs, qs, ez, hz15, hqs, hq128⟩ := hcut
        rw [ez] at A15
        have ers2 := hok11.one hqs
        have ha15 : All2 (RPair H15) ys11 rs11 := ha11.mono fun x r _ h => rpair_keep _ _ _ _ (.of fun b o e => s15 _ _ (S14 _ _ (S13 _ _ (S12 _ _ e)))) h
        rw [ers2] at ha15
        refine ⟨_, _, dp_tR (s15 _ _ (S14 _ _ (S13 _ _ (S12 _ _ hp11)))) ha15, dp_tR A15 hz15, shaped_tR hq128, shaped_tR hq128, _, rfl, ?_⟩
        rw [eqv_tR]
        exact ⟨_, _, _, _, rfl, s15 _ _ (S14 _ _ (S13 _ _ (S12 _ _ (s11 _ _ (s10 _ _ (S9 _ _ (S8 _ _ (s7 _ _ hp6))))))))⟩
    · rintro σ H3 ⟨v1, v2, v3, v4, rfl, h2⟩
      refine ⟨_, rfl, by decide, by decide, fun p ys rs H4 s4 hp ha hok => ?_⟩
      have ers : rs = [] := hok.one RunsOk.nil
      subst ers
      refine ⟨(by show 0 ≤ sizeLine; decide), fun q5 z5 => ?_⟩
      obtain ⟨H5, e5, S5, A5⟩ := alloc (o := .tup []) z5
      rw [e5]
      have ha5 : All2 (RPair H5) ys [] := ha.mono fun x r _ h => rpair_keep _ _ _ _ (.of S5) h
      refine ⟨_, _, dp_tR (S5 _ _ hp) ha5, dp_tR A5 .nil, shaped_tR (fun r hr => by cases hr), shaped_tR (fun r hr => by cases hr), _, rfl, ?_⟩
      rw [eqv_tR]
      refine ⟨_, rfl, by decide, by decide, fun p6 ys6 rs6 H6 s6 hp6 ha6 hok6 => ?_⟩
      have h6 : RunsOk [36, 36, 97] [(36, 2), (97, 1)] := by
        have := (runs_rep (c := 36) (k := 2) (by decide)).snoc (c := 97) (k := 1) (by decide) fun d j e => by
          injection e with e
          injection e with e _
          rw [← e]
          decide
        exact this
      have ers6 : rs6 = [(36, 2), (97, 1)] := hok6.one h6
      subst ers6
      refine ⟨(by show 2 ≤ sizeLine; decide), fun q7 z7 => ?_⟩
      obtain ⟨H7, e7, S7, A7⟩ := alloc (o := .tup [.str "$", .int 2]) z7
      rw [e7]
      refine ⟨(by show 2 ≤ sizeLine; decide), fun q8 z8 => ?_⟩
      obtain ⟨H8, e8, S8, A8⟩ := alloc (o := .tup [.str "a", .int 1]) z8
      rw [e8]
      refine ⟨(by show 2 ≤ sizeLine; decide), fun q9 z9 => ?_⟩
      obtain ⟨H9, e9, S9, A9⟩ := alloc (o := .tup [.ref q7, .ref q8]) z9
      rw [e9]
      have ha9 : All2 (RPair H9) ys6 [(36, 2), (97, 1)] := ha6.mono fun x r _ h => rpair_keep _ _ _ _ (.of fun b o e => S9 _ _ (S8 _ _ (S7 _ _ e))) h
      have hb9 : All2 (RPair H9) [.ref q7, .ref q8] [(36, 2), (97, 1)] := .cons ⟨q7, rfl, S9 _ _ (S8 _ _ A7)⟩ (.cons ⟨q8, rfl, S9 _ _ A8⟩ .nil)
      have hsh : SeqAt.shaped (tR [(36, 2), (97, 1)]) = true := shaped_tR fun r hr => by
        rcases List.mem_cons.mp hr with rfl | hr
        · show 36 < 128; decide
        · rw [List.mem_singleton.mp hr]; show 97 < 128; decide
      refine ⟨_, _, dp_tR (S9 _ _ (S8 _ _ (S7 _ _ hp6))) ha9, dp_tR A9 hb9, hsh, hsh, _, rfl, ?_⟩
      rw [eqv_tR]
      refine ⟨(by show 7 ≤ sizeLine; decide), fun q10 z10 => ?_⟩
      obtain ⟨H10, e10, S10, A10⟩ := alloc (o := .tup (words7.map V.str)) z10
      refine ⟨q10, rfl, ⟨_, .of (show upd H9 q10 (.tup (words7.map V.str)) q10 = _ from upd_same)⟩, fun D nD => ?_⟩
      refine lcM_tup (K := K) (R := fun _ x (z : Str) => x = V.str z) (R' := RInt) (zs := words7) (fun _ => true) (fun z => ((ringM z.cps.toList : Nat) : Int)) nD (.of (show upd H9 q10 (.tup (words7.map V.str)) q10 = _ from upd_same)) (All2.of_map _) (fun _ _ _ _ _ r => r) rint_keep (by rw [hz]; decide) ?_ ?_
      · rintro j x z H11 C C0 hj s11 rfl c1 c0
        have g := good_w7 z (List.mem_of_getElem? hj)
        rw [Bool.and_eq_true, decide_eq_true_eq] at g
        exact ⟨rfl, _, rfl, z, rfl, g.2, g.1, fun H12 s12 => c1 rfl _ _ s12 rfl⟩
      intro zs H11 s11 hD hy
      rw [List.filter_eq_self.mpr fun _ _ => rfl, rings7] at hy
      have ey := rint_map hy
      rw [ey] at hD
      refine ⟨(by show 7 ≤ sizeLine; decide), fun q12 z12 => ?_⟩
      obtain ⟨H12, e12, S12, A12⟩ := alloc (o := .lst ([0, 1, 1, 2, 2, 4, 3].map V.int)) z12
      refine ⟨lI [0, 1, 1, 2, 2, 4, 3], lI [0, 1, 1, 2, 2, 4, 3], dp_lI (.of (by rw [upd_ne (ne_of_none hD z12)]; exact hD)), dp_lI (.of (show upd H11 q12 (.lst ([0, 1, 1, 2, 2, 4, 3].map V.int)) q12 = _ from upd_same)), shaped_lI _, shaped_lI _, ?_⟩
      rw [eqv_lI, decide_eq_true rfl]
      exact k _
end
end T36

set_option Elab.async false
set_option linter.all false
set_option maxRecDepth 100000
set_option maxHeartbeats 4000000
/-! ErrEnd: an error class's facts, from what the top has written. -/
namespace EK
open PySem PySem.W L2
def errB (K : Frag) (C fI : Addr) (f : Str) : Bool :=
  xfB K C && (decide (findIn K (.ref C) "__setattr__" = some (some (.builtin "object.__setattr__"))) && (decide (findIn K (.ref C) f = some none) && (decide (typeIn K (.ref fI) = some (.type "function")) && (keepIn K (.ref C) &&
  (decide (typeIn K (.ref C) = some (.type "type")) && (decide (exmOne K (.ref C) (.ref C) = some true) && (decide (subIn K (.ref C) (.type "ValueError") = some true) && (decide (ks_superIn K C C "__init__" = some (some (.builtin "ValueError.__init__"))) &&
  (decide (mroIn K C (.ref C) = some true) && (decide (findIn K (.ref C) "__class__" = some (some (.builtin "object.__class__"))) && decide (mroIn K C (.type "object") = some true)))))))))))
theorem and2 {a b : Bool} (h : (a && b) = true) : a = true ∧ b = true := Bool.and_eq_true_iff.mp h
theorem err_mk {P : Program} {K : Frag} {h : Heap} {mg : Str → Option Value} {x f : Str} {C fI N cda cc : Addr} (X : K.In h) (G : h.Ns mainGlobals mg)
    {nm q qn msg file : Str} {bs bm : List Value} {sn : List Str} {sub : List Value} {ab : Bool} {col : Option Bool} {dd od an cdd cld : Option Addr} {m0 m1 m2 m3 m5 : Option Value} {oc doc pm ct ccl cl : Value} {osl ccs csl : Array (Option Value)} {vs : Array Value} {tf : Tok}
    {p1 p2 a1 a2 a3 a4 a5 a6 b1 b2 b3 b4 : Pos}
    (aC : nsIn K mainGlobals x = some (some (.ref C))) (xL : K.lookup C = some (excClassObj nm q C N bs bm true sn sub ab col dd m0 m1 m2 m3 m5 "ValueError.__new__")) (rv : HandSPX.refsVE bm = true)
    (iC : findIn K (.ref C) "__init__" = some (some (.ref fI)))
    (l1 : K.lookup fI = some ⟨oc, od, .func (ksFn "__init__" qn (eArgs f p1 p2) (eBody f msg a1 a2 a3 a4 a5 a6 b1 b2 b3 b4) (eScope f) .none .none doc pm an (.ref cda) ct cc), osl⟩) (c1 : codeIn K (.ref cda) qn = true)
    (bd : ∀ u v : Value, bindArgs (ksFn "__init__" qn (eArgs f p1 p2) (eBody f msg a1 a2 a3 a4 a5 a6 b1 b2 b3 b4) (eScope f) .none .none doc pm an (.ref cda) ct cc) ⟨[u, v], []⟩ = pure [(("self" : Str), u), (f, v)])
    (sc : ∀ L : Addr, SupCall a1 a2 a3 a4 a5 msg (callEnv (ksFn "__init__" qn (eArgs f p1 p2) (eBody f msg a1 a2 a3 a4 a5 a6 b1 b2 b3 b4) (eScope f) .none .none doc pm an (.ref cda) ct cc) L fI))
    (cd : K.lookup cda = some ⟨ccl, cdd, .fields vs, ccs⟩) (vf : vs[2]? = some (.str file tf)) (pf : ((P.main.file : Str) == file) = true) (cL : K.lookup cc = some ⟨cl, cld, .cell (some (.ref C)), csl⟩)
    (eB : errB K C fI f = true) (ho : nsIn K cStatics "thirdparty.any" = some none) (su : nsIn K mainGlobals "super" = some none) (fok : f ≠ "self" ∧ f ≠ "__class__" ∧ f ≠ "super" ∧ f ≠ "__debug__") (top : (P.main.scope.names.lookup ("super" : Str)).isSome = false) :
    ErrTxt P K mg x f C fI := by
  obtain ⟨h1, eB⟩ := and2 eB
  obtain ⟨h2, eB⟩ := and2 eB
  obtain ⟨h3, eB⟩ := and2 eB
  obtain ⟨h4, eB⟩ := and2 eB
  obtain ⟨h5, eB⟩ := and2 eB
  obtain ⟨h6, eB⟩ := and2 eB
  obtain ⟨h7, eB⟩ := and2 eB
  obtain ⟨h8, eB⟩ := and2 eB
  obtain ⟨h9, eB⟩ := and2 eB
  obtain ⟨h10, eB⟩ := and2 eB
  have T := xfB_ok h1
  exact { gC := mg_of X G aC, cls := ⟨nm, q, N, bs, bm, sn, sub, ab, col, dd, m0, m1, m2, m3, m5, xL, rv⟩, sa := of_decide_eq_true h2, ga := T.ga, gg := T.gg, noN := of_decide_eq_true h3, iC := iC, tC := of_decide_eq_true h4, kC := h5, exC := T.exC,
          tyC := of_decide_eq_true h6, hdC := T.hdC, te := of_decide_eq_true h7, hB := of_decide_eq_true h8, si := of_decide_eq_true h9, ho := ho, su := mg_none_of X G su, mC := of_decide_eq_true h10, fok := fok, top := top,
          fn := ⟨oc, od, qn, msg, doc, pm, an, cda, cc, ct, osl, p1, p2, a1, a2, a3, a4, a5, a6, b1, b2, b3, b4, l1, c1, bd, sc, ⟨ccl, cdd, ccs, vs, file, tf, cd, vf, pf⟩, ⟨cl, cld, csl, cL⟩⟩ }
theorem excC_of {K : Frag} {C fI : Addr} {f : Str} (eB : errB K C fI f = true) (hn : specialIn K (.builtin "object.__class__") "__get__" = some (some (.builtin "getset_descriptor.__get__"))) (ht : takesIn K (.builtin "object.__class__") = some true) : ExcC K C := by
  obtain ⟨h1, eB⟩ := and2 eB
  obtain ⟨h2, eB⟩ := and2 eB
  obtain ⟨h3, eB⟩ := and2 eB
  obtain ⟨h4, eB⟩ := and2 eB
  obtain ⟨h5, eB⟩ := and2 eB
  obtain ⟨h6, eB⟩ := and2 eB
  obtain ⟨h7, eB⟩ := and2 eB
  obtain ⟨h8, eB⟩ := and2 eB
  obtain ⟨h9, eB⟩ := and2 eB
  obtain ⟨h10, eB⟩ := and2 eB
  obtain ⟨h11, h12⟩ := and2 eB
  have T := xfB_ok h1
  exact ⟨T.ga, T.gg, T.exC, T.hdC, of_decide_eq_true h11, hn, ht, of_decide_eq_true h12⟩
/-- which class is which, told apart -/
def kindsB (K : Frag) (E : Addr) (Cs : List Addr) : Bool :=
  (Cs.zipIdx.all fun p => Cs.zipIdx.all fun q => decide (kitOne K (.ref p.1) (.ref q.1) = some (decide (p.2 = q.2)))) && (Cs.all fun C => decide (kitOne K (.ref C) (.ref E) = some true) && decide (kitOne K (.ref C) (.type "ValueError") = some true))
theorem kinds_kt {K : Frag} {E : Addr} {Cs : List Addr} (h : kindsB K E Cs = true) (i j : Nat) (C D : Addr) (h1 : Cs[i]? = some C) (h2 : Cs[j]? = some D) : kitOne K (.ref C) (.ref D) = some (decide (i = j)) := by
  obtain ⟨h, _⟩ := and2 h
  have q := List.all_eq_true.mp h (C, i) (List.mk_mem_zipIdx_iff_getElem?.mpr h1)
  have q := List.all_eq_true.mp q (D, j) (List.mk_mem_zipIdx_iff_getElem?.mpr h2)
  exact of_decide_eq_true q
theorem kinds_ke {K : Frag} {E : Addr} {Cs : List Addr} (h : kindsB K E Cs = true) (C : Addr) (hC : C ∈ Cs) : kitOne K (.ref C) (.ref E) = some true ∧ kitOne K (.ref C) (.type "ValueError") = some true := by
  obtain ⟨_, h⟩ := and2 h
  obtain ⟨a, b⟩ := and2 (List.all_eq_true.mp h C hC)
  exact ⟨of_decide_eq_true a, of_decide_eq_true b⟩
end EK

set_option Elab.async false
set_option linter.all false
set_option maxRecDepth 100000
set_option maxHeartbeats 4000000
namespace T36
open PySem L2 EK
theorem all_mk {l : PySem.W.OpenLaw} {w : World} {K : PySem.W.Frag} {h : Heap} {mg : Str → Option Value} {fa  : Addr} {t1 t2 : Tok} (X : K.In h) (G : h.Ns mainGlobals mg) (hfa : mg "law" = some (.ref fa))
    {fTX : Addr} {odTX anTX : Option Addr} {slTX : Array (Option Value)} {ocTX kVTX dcTX pmTX cdTX ctTX : Value}
    {fRW : Addr} {odRW anRW : Option Addr} {slRW : Array (Option Value)} {ocRW kVRW dcRW pmRW cdRW ctRW : Value}
    {fCT : Addr} {odCT anCT : Option Addr} {slCT : Array (Option Value)} {ocCT kVCT dcCT pmCT cdCT ctCT : Value}
    {fCR : Addr} {odCR anCR : Option Addr} {slCR : Array (Option Value)} {ocCR kVCR dcCR pmCR cdCR ctCR : Value}
    {fR : Addr} {odR anR : Option Addr} {slR : Array (Option Value)} {ocR kVR dcR pmR cdR ctR : Value}
    {fG : Addr} {odG anG : Option Addr} {slG : Array (Option Value)} {ocG kVG dcG pmG cdG ctG : Value}
    {fU : Addr} {odU anU : Option Addr} {slU : Array (Option Value)} {ocU kVU dcU pmU cdU ctU : Value}
    {fP : Addr} {odP anP : Option Addr} {slP : Array (Option Value)} {ocP kVP dcP pmP cdP ctP : Value}
    {fI : Addr} {odI anI : Option Addr} {slI : Array (Option Value)} {ocI kVI dcI pmI cdI ctI : Value}
    {fX : Addr} {odX anX : Option Addr} {slX : Array (Option Value)} {ocX kVX dcX pmX cdX ctX : Value}
    {fL : Addr} {odL anL : Option Addr} {slL : Array (Option Value)} {ocL kVL dcL pmL cdL ctL : Value}
    {fRR : Addr} {odRR anRR : Option Addr} {slRR : Array (Option Value)} {ocRR kVRR dcRR pmRR cdRR ctRR : Value}
    {fWR : Addr} {odWR anWR : Option Addr} {slWR : Array (Option Value)} {ocWR kVWR dcWR pmWR cdWR ctWR : Value}
    {fZ : Addr} {odZ anZ : Option Addr} {slZ : Array (Option Value)} {ocZ kVZ dcZ pmZ cdZ ctZ : Value}
     
    (aTX : PySem.W.nsIn K mainGlobals "is_text" = some (some (.ref fTX))) (lTX : K.lookup fTX = some ⟨ocTX, odTX, .func (PySem.W.fnOf "is_text" "is_text" (defArgs sIsText) (defBody sIsText) (defScope sIsText) .none kVTX dcTX pmTX anTX cdTX ctTX), slTX⟩) (cTX : PySem.W.codeIn K cdTX "is_text" = true) (kTX : PySem.W.keepIn K (.ref fTX) = true)
    (aRW : PySem.W.nsIn K mainGlobals "is_row" = some (some (.ref fRW))) (lRW : K.lookup fRW = some ⟨ocRW, odRW, .func (PySem.W.fnOf "is_row" "is_row" (defArgs sIsRow) (defBody sIsRow) (defScope sIsRow) .none kVRW dcRW pmRW anRW cdRW ctRW), slRW⟩) (cRW : PySem.W.codeIn K cdRW "is_row" = true) (kRW : PySem.W.keepIn K (.ref fRW) = true)
    (aCT : PySem.W.nsIn K mainGlobals "check_text" = some (some (.ref fCT))) (lCT : K.lookup fCT = some ⟨ocCT, odCT, .func (PySem.W.fnOf "check_text" "check_text" (defArgs sCkText) (defBody sCkText) (defScope sCkText) .none kVCT dcCT pmCT anCT cdCT ctCT), slCT⟩) (cCT : PySem.W.codeIn K cdCT "check_text" = true) (kCT : PySem.W.keepIn K (.ref fCT) = true)
    (aCR : PySem.W.nsIn K mainGlobals "check_row" = some (some (.ref fCR))) (lCR : K.lookup fCR = some ⟨ocCR, odCR, .func (PySem.W.fnOf "check_row" "check_row" (defArgs sCkRow) (defBody sCkRow) (defScope sCkRow) .none kVCR dcCR pmCR anCR cdCR ctCR), slCR⟩) (cCR : PySem.W.codeIn K cdCR "check_row" = true) (kCR : PySem.W.keepIn K (.ref fCR) = true)
    (aR : PySem.W.nsIn K mainGlobals "runs" = some (some (.ref fR))) (lR : K.lookup fR = some ⟨ocR, odR, .func (PySem.W.fnOf "runs" "runs" (defArgs sRuns) (defBody sRuns) (defScope sRuns) .none kVR dcR pmR anR cdR ctR), slR⟩) (cR : PySem.W.codeIn K cdR "runs" = true) (kR : PySem.W.keepIn K (.ref fR) = true)
    (aG : PySem.W.nsIn K mainGlobals "ring_runs" = some (some (.ref fG))) (lG : K.lookup fG = some ⟨ocG, odG, .func (PySem.W.fnOf "ring_runs" "ring_runs" (defArgs sRingRuns) (defBody sRingRuns) (defScope sRingRuns) .none kVG dcG pmG anG cdG ctG), slG⟩) (cG : PySem.W.codeIn K cdG "ring_runs" = true) (kG : PySem.W.keepIn K (.ref fG) = true)
    (aU : PySem.W.nsIn K mainGlobals "_law_urn" = some (some (.ref fU))) (lU : K.lookup fU = some ⟨ocU, odU, .func (PySem.W.fnOf "_law_urn" "_law_urn" (defArgs sUrn) (defBody sUrn) (defScope sUrn) .none kVU dcU pmU anU cdU ctU), slU⟩) (cU : PySem.W.codeIn K cdU "_law_urn" = true) (kU : PySem.W.keepIn K (.ref fU) = true)
    (aP : PySem.W.nsIn K mainGlobals "_law_pull" = some (some (.ref fP))) (lP : K.lookup fP = some ⟨ocP, odP, .func (PySem.W.fnOf "_law_pull" "_law_pull" (defArgs sPull) (defBody sPull) (defScope sPull) .none kVP dcP pmP anP cdP ctP), slP⟩) (cP : PySem.W.codeIn K cdP "_law_pull" = true) (kP : PySem.W.keepIn K (.ref fP) = true)
    (aI : PySem.W.nsIn K mainGlobals "_law_pick" = some (some (.ref fI))) (lI : K.lookup fI = some ⟨ocI, odI, .func (PySem.W.fnOf "_law_pick" "_law_pick" (defArgs sPick) (defBody sPick) (defScope sPick) .none kVI dcI pmI anI cdI ctI), slI⟩) (cI : PySem.W.codeIn K cdI "_law_pick" = true) (kI : PySem.W.keepIn K (.ref fI) = true)
    (aX : PySem.W.nsIn K mainGlobals "_law_text" = some (some (.ref fX))) (lX : K.lookup fX = some ⟨ocX, odX, .func (PySem.W.fnOf "_law_text" "_law_text" (defArgs sText) (defBody sText) (defScope sText) .none kVX dcX pmX anX cdX ctX), slX⟩) (cX : PySem.W.codeIn K cdX "_law_text" = true) (kX : PySem.W.keepIn K (.ref fX) = true)
    (aL : PySem.W.nsIn K mainGlobals "_law_line" = some (some (.ref fL))) (lL : K.lookup fL = some ⟨ocL, odL, .func (PySem.W.fnOf "_law_line" "_law_line" (defArgs sLine) (defBody sLine) (defScope sLine) .none kVL dcL pmL anL cdL ctL), slL⟩) (cL : PySem.W.codeIn K cdL "_law_line" = true) (kL : PySem.W.keepIn K (.ref fL) = true)
    (aRR : PySem.W.nsIn K mainGlobals "_law_row_right" = some (some (.ref fRR))) (lRR : K.lookup fRR = some ⟨ocRR, odRR, .func (PySem.W.fnOf "_law_row_right" "_law_row_right" (defArgs sRowRight) (defBody sRowRight) (defScope sRowRight) .none kVRR dcRR pmRR anRR cdRR ctRR), slRR⟩) (cRR : PySem.W.codeIn K cdRR "_law_row_right" = true) (kRR : PySem.W.keepIn K (.ref fRR) = true)
    (aWR : PySem.W.nsIn K mainGlobals "_law_word_right" = some (some (.ref fWR))) (lWR : K.lookup fWR = some ⟨ocWR, odWR, .func (PySem.W.fnOf "_law_word_right" "_law_word_right" (defArgs sWordRight) (defBody sWordRight) (defScope sWordRight) .none kVWR dcWR pmWR anWR cdWR ctWR), slWR⟩) (cWR : PySem.W.codeIn K cdWR "_law_word_right" = true) (kWR : PySem.W.keepIn K (.ref fWR) = true)
    (aZ : PySem.W.nsIn K mainGlobals "law" = some (some (.ref fZ))) (lZ : K.lookup fZ = some ⟨ocZ, odZ, .func (PySem.W.fnOf "law" "law" (defArgs sLaw) (defBody sLaw) (defScope sLaw) .none kVZ dcZ pmZ anZ cdZ ctZ), slZ⟩) (cZ : PySem.W.codeIn K cdZ "law" = true) (kZ : PySem.W.keepIn K (.ref fZ) = true)
    (y1 : PySem.W.nsIn K mainGlobals "LETTERS" = some (some (.str "abcdefghijklmnopqrstuvwxyz" t1))) (y2 : PySem.W.nsIn K mainGlobals "END" = some (some (.str "$" t2)))
    (z1 : PySem.W.nsIn K mainGlobals "isinstance" = some none) (z2 : PySem.W.nsIn K mainGlobals "str" = some none) (z3 : PySem.W.nsIn K mainGlobals "tuple" = some none) (z4 : PySem.W.nsIn K mainGlobals "all" = some none) (z5 : PySem.W.nsIn K mainGlobals "len" = some none) (z6 : PySem.W.nsIn K mainGlobals "range" = some none) (z7 : PySem.W.nsIn K mainGlobals "set" = some none) (z8 : PySem.W.nsIn K mainGlobals "sum" = some none) (z9 : PySem.W.nsIn K mainGlobals "zip" = some none) (z10 : PySem.W.nsIn K mainGlobals "max" = some none) (z11 : PySem.W.nsIn K mainGlobals "int" = some none) (z12 : PySem.W.nsIn K mainGlobals "abs" = some none) :
    ∃ fd : FuncData, (∀ (s : Shared) (v : Value), BindsTo s fd ⟨[v], []⟩ [("_law_script", v)]) ∧ ∀ base : Heap, K.In base → base.Ns mainGlobals mg → FnOk l.prog w K mg base CX0 5 fa fd ["_law_script"] (spLaw K) := by
  have e := hfa.symm.trans (PySem.W.mg_of X G aZ)
  cases e
  have TU : TxtU K mg := ⟨PySem.W.mg_none_of X G z11, PySem.W.mg_none_of X G z12⟩
  have TP : TxtP K mg := ⟨PySem.W.mg_none_of X G z5, PySem.W.mg_none_of X G z6⟩
  have TC : TxtC K mg := ⟨PySem.W.mg_none_of X G z1, PySem.W.mg_none_of X G z2, PySem.W.mg_none_of X G z3, PySem.W.mg_none_of X G z4, PySem.W.mg_none_of X G z5, PySem.W.mg_none_of X G z6, PySem.W.mg_none_of X G z7, PySem.W.mg_none_of X G z8, PySem.W.mg_none_of X G z9, PySem.W.mg_none_of X G z10, PySem.W.mg_none_of X G z11, ⟨_, PySem.W.mg_of X G y1, ⟨_, rfl⟩⟩, ⟨_, PySem.W.mg_of X G y2, ⟨_, rfl⟩⟩⟩
  have FTX := fun_mk (st := sIsText) lTX cTX kTX
  have FRW := fun_mk (st := sIsRow) lRW cRW kRW
  have FCT := fun_mk (st := sCkText) lCT cCT kCT
  have FCR := fun_mk (st := sCkRow) lCR cCR kCR
  have FR := fun_mk (st := sRuns) lR cR kR
  have FG := fun_mk (st := sRingRuns) lG cG kG
  have FU := fun_mk (st := sUrn) lU cU kU
  have FP := fun_mk (st := sPull) lP cP kP
  have FI := fun_mk (st := sPick) lI cI kI
  have FX := fun_mk (st := sText) lX cX kX
  have FL := fun_mk (st := sLine) lL cL kL
  have FRR := fun_mk (st := sRowRight) lRR cRR kRR
  have FWR := fun_mk (st := sWordRight) lWR cWR kWR
  have FZ := fun_mk (st := sLaw) lZ cZ kZ
  have bTX := FTX.binds (ps := ["value"]) fun _ _ _ _ _ _ us hl => match us, hl with | [_], _ => rfl
  have bRW := FRW.binds (ps := ["value"]) fun _ _ _ _ _ _ us hl => match us, hl with | [_], _ => rfl
  have bCT := FCT.binds (ps := ["text"]) fun _ _ _ _ _ _ us hl => match us, hl with | [_], _ => rfl
  have bCR := FCR.binds (ps := ["row"]) fun _ _ _ _ _ _ us hl => match us, hl with | [_], _ => rfl
  have bR := FR.binds (ps := ["row"]) fun _ _ _ _ _ _ us hl => match us, hl with | [_], _ => rfl
  have bG := FG.binds (ps := ["word"]) fun _ _ _ _ _ _ us hl => match us, hl with | [_], _ => rfl
  have bU := FU.binds (ps := ["_law_cell"]) fun _ _ _ _ _ _ us hl => match us, hl with | [_], _ => rfl
  have bP := FP.binds (ps := ["_law_urn_here", "_law_many"]) fun _ _ _ _ _ _ us hl => match us, hl with | [_, _], _ => rfl
  have bI := FI.binds (ps := ["_law_urn_here", "_law_some"]) fun _ _ _ _ _ _ us hl => match us, hl with | [_, _], _ => rfl
  have bX := FX.binds (ps := ["_law_urn_here", "_law_most"]) fun _ _ _ _ _ _ us hl => match us, hl with | [_, _], _ => rfl
  have bL := FL.binds (ps := ["_law_urn_here"]) fun _ _ _ _ _ _ us hl => match us, hl with | [_], _ => rfl
  have bRR := FRR.binds (ps := ["_law_line_here"]) fun _ _ _ _ _ _ us hl => match us, hl with | [_], _ => rfl
  have bWR := FWR.binds (ps := ["_law_urn_here", "_law_word"]) fun _ _ _ _ _ _ us hl => match us, hl with | [_, _], _ => rfl
  have gTX := PySem.W.mg_of X G aTX
  have gRW := PySem.W.mg_of X G aRW
  have gCT := PySem.W.mg_of X G aCT
  have gCR := PySem.W.mg_of X G aCR
  have gR := PySem.W.mg_of X G aR
  have gG := PySem.W.mg_of X G aG
  have gU := PySem.W.mg_of X G aU
  have gP := PySem.W.mg_of X G aP
  have gI := PySem.W.mg_of X G aI
  have gX := PySem.W.mg_of X G aX
  have gL := PySem.W.mg_of X G aL
  have gRR := PySem.W.mg_of X G aRR
  have gWR := PySem.W.mg_of X G aWR
  have gZ := PySem.W.mg_of X G aZ
  refine ⟨PySem.W.fnOf "law" "law" (defArgs sLaw) (defBody sLaw) (defScope sLaw) .none kVZ dcZ pmZ anZ cdZ ctZ, fun s v => .of_eq rfl, fun base _ _ => ?_⟩
  have GTX : FnOk l.prog w K mg base CX0 1 fTX _ ["value"] (spIsText) := ok_isText FTX TC
  have GRW : FnOk l.prog w K mg base CX0 1 fRW _ ["value"] (spIsRow) := ok_isRow FRW TC
  have GCT : FnOk l.prog w K mg base CX0 2 fCT _ ["text"] (spCkText) := ok_ckText FCT GTX gTX kTX bTX
  have GCR : FnOk l.prog w K mg base CX0 2 fCR _ ["row"] (spCkRow) := ok_ckRow FCR GRW gRW kRW bRW
  have GR : FnOk l.prog w K mg base CX0 3 fR _ ["row"] (spRuns) := ok_runs FR TC GCR gCR kCR bCR
  have GG : FnOk l.prog w K mg base CX0 3 fG _ ["word"] (spRing) := ok_ring FG TC GCT gCT kCT bCT
  have GU : FnOk l.prog w K mg base CX0 1 fU _ ["_law_cell"] (spUrn) := ok_urn FU TU
  have GP : FnOk l.prog w K mg base CX0 1 fP _ ["_law_urn_here", "_law_many"] (spPull) := ok_pull FP TU
  have GI : FnOk l.prog w K mg base CX0 2 fI _ ["_law_urn_here", "_law_some"] (spPick) := ok_pick FI TP GP gP kP bP
  have GX : FnOk l.prog w K mg base CX0 3 fX _ ["_law_urn_here", "_law_most"] (spText) := ok_text FX TP GP gP kP bP GI gI kI bI
  have GL : FnOk l.prog w K mg base CX0 3 fL _ ["_law_urn_here"] (spLine) := ok_line FL TC GP gP kP bP GI gI kI bI
  have GRR : FnOk l.prog w K mg base CX0 4 fRR _ ["_law_line_here"] (spRowR) := ok_rowR FRR TC GR gR kR bR
  have GWR : FnOk l.prog w K mg base CX0 4 fWR _ ["_law_urn_here", "_law_word"] (spWordR) := ok_wordR FWR TC GP gP kP bP GG gG kG bG
  exact ok_law FZ TC GU gU kU bU GP gP kP bP GX gX kX bX GL gL kL bL GRR gRR kRR bRR GWR gWR kWR bWR GR gR kR bR GG gG kG bG
theorem walk {l : PySem.W.OpenLaw} {q : Program} {loose : List Str} {XP : (Str → Option Value) → Heap → Prop} {YP : World → Heap → Prop} {d : DefRec} {K : Params → PySem.W.Frag} (hn : l.most = some 63) (hdf : d.params.defaults = [])
    (hY : ∀ (w : World) (h : Heap), YP w h → (K w.params).In h)
    (F : ∀ (w : World) (mg : Str → Option Value) (fa : Addr) (h : Heap), (K w.params).In h → h.Ns mainGlobals mg → mg d.name = some (.ref fa) →
      ∃ fd : FuncData, (∀ (s : Shared) (u : Value), BindsTo s fd ⟨[u], []⟩ [("_law_script", u)]) ∧ ∀ base : Heap, (K w.params).In base → base.Ns mainGlobals mg → FnOk l.prog w (K w.params) mg base CX0 5 fa fd ["_law_script"] (spLaw (K w.params))) :
    PySem.W.WalkO q loose XP YP l.row.toRowW d [] (fun f vs => PySem.call f vs) :=
  L2.walk_of (n := 63) (k := 5) (x := "_law_script") (CX := fun _ => CX0) (sp := fun w => spLaw (K w.params)) hn (by decide) hdf ⟨rfl, by decide, by decide⟩ hY F (fun _ _ a ns hl _ hS => ⟨a, ns, rfl, hS, hl, fun _ => rfl⟩) fun _ _ _ _ _ z => z
end T36
open PySem PySem.W PyProof.Rows
set_option maxRecDepth 100000 in
set_option maxHeartbeats 0 in
theorem PySem.Challenge.cw_turnindex_k36_runs_of_rows_holds : PySem.Challenge.rw_turnindex_k36_runs_of_rows.Holds := by
  w_on; o_law; k_head; (case hw => w_witness2)
  k_fill
  refine T36.walk (l := PySem.Challenge.rw_turnindex_k36_runs_of_rows) rfl rfl (fun w h Y => PySem.W.kIn_of Y) ?F
  case F =>
    intro w mg fa h KX G hmg
    refine' T36.all_mk KX G hmg   ?paTX ?plTX ?pcTX ?pkTX ?paRW ?plRW ?pcRW ?pkRW ?paCT ?plCT ?pcCT ?pkCT ?paCR ?plCR ?pcCR ?pkCR ?paR ?plR ?pcR ?pkR ?paG ?plG ?pcG ?pkG ?paU ?plU ?pcU ?pkU ?paP ?plP ?pcP ?pkP ?paI ?plI ?pcI ?pkI ?paX ?plX ?pcX ?pkX ?paL ?plL ?pcL ?pkL ?paRR ?plRR ?pcRR ?pkRR ?paWR ?plWR ?pcWR ?pkWR ?paZ ?plZ ?pcZ ?pkZ ?y1 ?y2 ?z1 ?z2 ?z3 ?z4 ?z5 ?z6 ?z7 ?z8 ?z9 ?z10 ?z11 ?z12
    (case paTX => k_is); (case plTX => k_is); (case pcTX => k_is); (case pkTX => k_is)
    (case paRW => k_is); (case plRW => k_is); (case pcRW => k_is); (case pkRW => k_is)
    (case paCT => k_is); (case plCT => k_is); (case pcCT => k_is); (case pkCT => k_is)
    (case paCR => k_is); (case plCR => k_is); (case pcCR => k_is); (case pkCR => k_is)
    (case paR => k_is); (case plR => k_is); (case pcR => k_is); (case pkR => k_is)
    (case paG => k_is); (case plG => k_is); (case pcG => k_is); (case pkG => k_is)
    (case paU => k_is); (case plU => k_is); (case pcU => k_is); (case pkU => k_is)
    (case paP => k_is); (case plP => k_is); (case pcP => k_is); (case pkP => k_is)
    (case paI => k_is); (case plI => k_is); (case pcI => k_is); (case pkI => k_is)
    (case paX => k_is); (case plX => k_is); (case pcX => k_is); (case pkX => k_is)
    (case paL => k_is); (case plL => k_is); (case pcL => k_is); (case pkL => k_is)
    (case paRR => k_is); (case plRR => k_is); (case pcRR => k_is); (case pkRR => k_is)
    (case paWR => k_is); (case plWR => k_is); (case pcWR => k_is); (case pkWR => k_is)
    (case paZ => k_is); (case plZ => k_is); (case pcZ => k_is); (case pkZ => k_is)
    (case y1 => k_is)
    (case y2 => k_is)
    (case z1 => k_is); (case z2 => k_is); (case z3 => k_is); (case z4 => k_is); (case z5 => k_is); (case z6 => k_is); (case z7 => k_is); (case z8 => k_is); (case z9 => k_is); (case z10 => k_is); (case z11 => k_is); (case z12 => k_is)
