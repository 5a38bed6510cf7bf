import PyProof.Rows.All
import Wide.All
import OpenK.AllK
import Wide.FinOn
import KE.KExcSuper
import HandS.ForMost
import HandS.Exc
import HandS.ExcInit
import HandS.ExcField
import HandS.ExcValue
import HandS.Style
import HandS.Walk
import HandS.IsInst
import HandS.More
import KE.KExcIs
import PyProof.NeKinds
import KE.KEqDict
import HandS.ExcIs
import HandS.TryMany
import HandS.Lambda
import HandS.EndTab
import HandS.CallLocal
import HandS.DictSubView
import HandS.Sort
import HandS.Gcd
import HandS.Wide
import KE.KDictList
import KE.KMathGC
import HandS.Codes
import HandS.WordsExc
import HandS.Strs
import PyProof.StrWalks
import PyProof.StrBlock2
import PyProof.FitsStr
import HandS.Comp
import HandS.Words
import KE.SortData
import KE.DataMinMax
import KE.KEqSeq
import HandS.TupAny
import HandS.TryOnly
import PyProof.AutoIntOps
import PyProof.Rows.CountFlat
import PyProof.ListStr
import PyProof.CollectStr
import PyProof.Rows.SortShellAny
import PySem.Challenge.RW_turnindex_k10_falling_parts
set_option Elab.async false
set_option linter.all false
set_option maxRecDepth 100000
set_option maxHeartbeats 4000000
/-! ErrKit: an error class of the program: __init__ says super().__init__(text), then keeps its one value. -/
namespace EK
open PySem PySem.W PySem.Calls PyProof.Rows PySem.HandSPX L2
/-! ### the text of such an __init__ -/
def eArgs (f : Str) (p1 p2 : Pos) : Arguments := { posonlyargs := [], args := [{ arg := "self", annotation := none, pos := p1 }, { arg := f, annotation := none, pos := p2 }], vararg := none, kwonlyargs := [], kw_defaults := [], kwarg := none, defaults := [] }
def eBody (f msg : Str) (a1 a2 a3 a4 a5 a6 b1 b2 b3 b4 : Pos) : List Stmt :=
  [.Expr (.Call (.Attribute (.Call (.Name "super" a1) [] [] a2) "__init__" a3) [.Constant (.str msg) 0 a4] [] a5) a6, .Assign [.Attribute (.Name "self" b1) f b2] (.Name f b3) b4]
def eScope (f : Str) : Scope := { kind := .function, names := [(PySem.Str.ofString "self", .local), (f, .local), (PySem.Str.ofString "__class__", .free), (PySem.Str.ofString "super", .globalImplicit)], isGenerator := false, isCoroutine := false, more := [] }

/-- the row super().__init__(msg) of the text, as a call of a method -/
def SupCall (a1 a2 a3 a4 a5 : Pos) (msg : Str) (env : Env) : Prop := ∃ pl : Sem Bool,
  eval (.Call (.Attribute (.Call (.Name "super" a1) [] [] a2) "__init__" a3) [.Constant (.str msg) 0 a4] [] a5) env = (do
    let ov ← attributeBase (.Call (.Name "super" a1) [] [] a2) "__init__" env (eval (.Call (.Name "super" a1) [] [] a2) env)
    standAt a3.atName
    let (g, first) ← holding [ov] (getMethod ov "__init__" pl)
    callWith a5 g first (backTo a5 (starEach [.Constant (.str msg) 0 a4] env)) [])
/-- what the top has written of the class x at C, of its __init__ at fI -/
structure ErrTxt (P : Program) (K : Frag) (mg : Str → Option Value) (x f : Str) (C fI : Addr) : Prop where
  gC : mg x = some (.ref C)
  cls : ∃ nm q N bs bm sn sub ab col dd k0 k1 k2 k3 k5, K.lookup C = some (excClassObj nm q C N bs bm true sn sub ab col dd k0 k1 k2 k3 k5 "ValueError.__new__") ∧ refsVE bm = true
  sa : findIn K (.ref C) "__setattr__" = some (some (.builtin "object.__setattr__"))
  ga : findIn K (.ref C) "__getattribute__" = some (some (.builtin "BaseException.__getattribute__"))
  gg : findIn K (.ref C) "__getattr__" = some none
  noN : findIn K (.ref C) f = some none
  iC : findIn K (.ref C) "__init__" = some (some (.ref fI))
  tC : typeIn K (.ref fI) = some (.type "function")
  kC : keepIn K (.ref C) = true
  exC : subIn K (.ref C) (.type "BaseException") = some true
  tyC : typeIn K (.ref C) = some (.type "type")
  hdC : hasDictIn K C = true
  te : exmOne K (.ref C) (.ref C) = some true
  hB : subIn K (.ref C) (.type "ValueError") = some true
  si : ks_superIn K C C "__init__" = some (some (.builtin "ValueError.__init__"))
  ho : nsIn K cStatics "thirdparty.any" = some none
  su : mg "super" = none
  mC : mroIn K C (.ref C) = some true
  fok : f ≠ "self" ∧ f ≠ "__class__" ∧ f ≠ "super" ∧ f ≠ "__debug__"
  top : (P.main.scope.names.lookup ("super" : Str)).isSome = false
  fn : ∃ (oc : Value) (od : Option Addr) (qn msg : Str) (doc pm : Value) (an : Option Addr) (cda cc : Addr) (ct : Value) (osl : Array (Option Value)) (p1 p2 a1 a2 a3 a4 a5 a6 b1 b2 b3 b4 : Pos),
    K.lookup fI = some ⟨oc, od, .func (ksFn "__init__" qn (eArgs f p1 p2) (eBody f msg a1 a2 a3 a4 a5 a6 b1 b2 b3 b4) (eScope f) .none .none doc pm an (.ref cda) ct cc), osl⟩ ∧ codeIn K (.ref cda) qn = true ∧
    (∀ u v : Value, bindArgs (ksFn "__init__" qn (eArgs f p1 p2) (eBody f msg a1 a2 a3 a4 a5 a6 b1 b2 b3 b4) (eScope f) .none .none doc pm an (.ref cda) ct cc) ⟨[u, v], []⟩ = pure [(("self" : Str), u), (f, v)]) ∧
    (∀ L : Addr, SupCall a1 a2 a3 a4 a5 msg (callEnv (ksFn "__init__" qn (eArgs f p1 p2) (eBody f msg a1 a2 a3 a4 a5 a6 b1 b2 b3 b4) (eScope f) .none .none doc pm an (.ref cda) ct cc) L fI)) ∧
    (∃ (ccl : Value) (cdd : Option Addr) (ccs : Array (Option Value)) (vs : Array Value) (file : Str) (tf : Tok), K.lookup cda = some ⟨ccl, cdd, .fields vs, ccs⟩ ∧ vs[2]? = some (.str file tf) ∧ ((P.main.file : Str) == file) = true) ∧
    ∃ (cl : Value) (cld : Option Addr) (csl : Array (Option Value)), K.lookup cc = some ⟨cl, cld, .cell (some (.ref C)), csl⟩
theorem one_size (v : Value) : [v].length ≤ sizeLine := by
  rw [sizeLine_eq]
  exact (by decide : 1 ≤ 16777216)
/-- what __init__ leaves of the exception at y -/
structure MadeI (h h' : Heap) (y C dx : Addr) (f : Str) (v : Value) : Prop where
  keep : ∀ b o, b ≠ y → h.get? b = some o → h'.get? b = some o
  obj : ∃ t1 : Addr, h'.get? y = some { cls := .ref C, dict := some dx, data := .fields #[.ref t1, .none, .none, .none, .bool false, .none] }
  dbig : h.objs.size ≤ dx
  dne : dx ≠ y
  ns : h'.Ns1 dx (fun z => if z = f then some v else none)
theorem kept_but {K : Frag} {h h' : Heap} {x : Addr} (X : K.In h) (hx : K.lookup x = none) (k : ∀ b o, b ≠ x → h.get? b = some o → h'.get? b = some o) : K.In h' := fun a o e =>
  k a o (fun z => by rw [z, hx] at e; cases e) (X a o e)
section
variable {prog : Program} {w : World} {A : Around} {E : Value → Shared → Prop} {R : Result → Shared → Prop} {s : Shared} {K : Frag} {mg : Str → Option Value} {C fI : Addr} {x f : Str}
/-- the method-wrapper that super().__init__ gives is called -/
theorem call_mw {u e t0 : Addr} {rest : List Value} {nm q : Str} {C N : Addr} {bs bm : List Value} {hdct : Bool} {sn : List Str} {sub : List Value} {ab : Bool} {col : Option Bool} {dd : Option Addr} {k0 k1 k2 k3 k5 : Option Value} {Q : Value → Shared → Prop}
    (hC : s.heap.get? C = some (excClassObj nm q C N bs bm hdct sn sub ab col dd k0 k1 k2 k3 k5 "ValueError.__new__")) (he : s.heap.get? e = some (excO C t0)) (hu : s.heap.get? u = some (kxs_mw "ValueError.__init__" e)) (hrest : rest.length ≤ sizeLine)
    (hq : ∀ h' t1, (∀ b o, b ≠ e → s.heap.get? b = some o → h'.get? b = some o) → h'.get? e = some (excO C t1) → Q .none { s with heap := h' }) :
    wpAny (model prog w) A (call (.ref u) rest) Q E s := by
  obtain ⟨hh, g, d, tk, os⟩ := s
  refine wpAny_call (codeAny_of_tree ?_)
  show wpAny _ A.in1 (callAny (.ref u) ⟨rest, []⟩) _ _ _
  simp only [callAny]
  refine wpAny_bind (wpAny_load hu ?_)
  simp only [kxs_mw, show (Value.type "method-wrapper" == Value.type "method" || Value.type "method-wrapper" == Value.type "builtin_function_or_method" || Value.type "method-wrapper" == Value.type "method-wrapper") = true by decide, if_true]
  refine KFB.if_so (by decide) ?_
  refine wpAny_bind (check_bound_init F.excBase_ValueError.toExcCallFacts hC he rfl ?_)
  refine wpAny_bind (wpAny_pure (wpAny_pure ?_))
  refine ⟨plainId_quiet F.excBase_ValueError.init.plain _, codeAny_builtin F.excBase_ValueError.initEntry ?_⟩
  exact exc_init_tree (cls := .ref C) (t0 := t0) (dv := none) (c2 := .none) (c3 := .none) (b4 := .bool false) he hrest fun h' k o _ => hq h' _ k o
theorem look_self (f : Str) : (eScope f).names.lookup ("self" : Str) = some .local := by
  show List.lookup ("self" : Str) ((("self" : Str), NameKind.local) :: _) = _
  rw [List.lookup_cons]
  simp
theorem look_f {f : Str} (h : f ≠ "self") : (eScope f).names.lookup f = some .local := by
  have e : (f == ("self" : Str)) = false := by simpa using h
  show List.lookup f ((("self" : Str), NameKind.local) :: (f, NameKind.local) :: _) = _
  rw [List.lookup_cons, e, List.lookup_cons]
  simp
theorem look_cls {f : Str} (h : f ≠ "__class__") : (eScope f).names.lookup ("__class__" : Str) = some .free := by
  have e : ((("__class__" : Str)) == f) = false := by simpa using Ne.symm h
  have e2 : ((("__class__" : Str)) == ("self" : Str)) = false := by decide +kernel
  show List.lookup ("__class__" : Str) ((("self" : Str), NameKind.local) :: (f, NameKind.local) :: (("__class__" : Str), NameKind.free) :: _) = _
  rw [List.lookup_cons, e2, List.lookup_cons, e, List.lookup_cons]
  simp
theorem look_super {f : Str} (h : f ≠ "super") : (eScope f).names.lookup ("super" : Str) = some .globalImplicit := by
  have e : ((("super" : Str)) == f) = false := by simpa using Ne.symm h
  have e2 : ((("super" : Str)) == ("self" : Str)) = false := by decide +kernel
  have e3 : ((("super" : Str)) == ("__class__" : Str)) = false := by decide +kernel
  show List.lookup ("super" : Str) ((("self" : Str), NameKind.local) :: (f, NameKind.local) :: (("__class__" : Str), NameKind.free) :: (("super" : Str), NameKind.globalImplicit) :: []) = _
  rw [List.lookup_cons, e2, List.lookup_cons, e, List.lookup_cons, e3, List.lookup_cons]
  simp
theorem bl_self {f : Str} (h : f ≠ "self") (a v : Value) : List.lookup ("self" : Str) ([(("self" : Str), a), (f, v)].reverse) = some a := by
  have e : ((("self" : Str)) == f) = false := by simpa using Ne.symm h
  show List.lookup ("self" : Str) ((f, v) :: (("self" : Str), a) :: []) = _
  rw [List.lookup_cons, e, List.lookup_cons]
  simp
theorem bl_f {f : Str} (a v : Value) : List.lookup f ([(("self" : Str), a), (f, v)].reverse) = some v := by
  show List.lookup f ((f, v) :: (("self" : Str), a) :: []) = _
  rw [List.lookup_cons]
  simp
theorem err_init (T : ErrTxt prog K mg x f C fI) {y t0 : Addr} {v : Value} (X : K.In s.heap) (hlim : s.heap.NoLimit) (hg : s.heap.Ns mainGlobals mg) (hb : ∃ mb, s.heap.Ns builtinsNs mb ∧ ∀ z : Str, z ≠ "__name__" → mb z = bootBuiltins z)
    (hx : s.heap.get? y = some (excO C t0)) (hnx : K.lookup y = none) (hroom : A.depth < recursionLimit)
    (hq : ∀ h' tk dx, MadeI s.heap h' y C dx f v → R (.ok (.ret .none)) { s with heap := h', toks := tk }) :
    codeAny (model prog w) A (.call (.ref fI) ⟨[.ref y, v], []⟩) R s := by
  obtain ⟨oc, od, qn, msg, doc, pm, an, cda, cc, ct, osl, p1, p2, a1, a2, a3, a4, a5, a6, b1, b2, b3, b4, ho, hcd, hB, hS, ⟨ccl, cdd, ccs, vs, file, tf, hcda, hvs, hfile⟩, ⟨cl, cld, csl, hcell⟩⟩ := T.fn
  obtain ⟨nm, q, N, bs, bm, sn, sub, ab, col, dd, k0, k1, k2, k3, k5, hC, hbm⟩ := T.cls
  obtain ⟨mb, hbn, hbv⟩ := hb
  obtain ⟨hf1, hf2, hf3, hf4⟩ := T.fok
  have hcl : clsIn K C = some { name := nm, bases := bs, mro := .ref C :: bm, ns := N, qualname := q, hasDict := true, slotNames := sn, subclasses := sub, abstract := ab, collection := col, hasDel := false } := by unfold clsIn; rw [hC] <;> rfl
  refine ks_codeAny_call_defAt (fd := ksFn "__init__" qn (eArgs f p1 p2) (eBody f msg a1 a2 a3 a4 a5 a6 b1 b2 b3 b4) (eScope f) .none .none doc pm an (.ref cda) ct cc) (body := eBody f msg a1 a2 a3 a4 a5 a6 b1 b2 b3 b4) (binds := [(("self" : Str), Value.ref y), (f, v)]) hroom (X _ _ ho) rfl hlim (codeRec_of X hcd) rfl (BindsTo.of_eq (hB _ _)) ?_ ?_ (fun h₁ hns k => ?_) rfl rfl rfl
  · intro z hz
    rcases List.mem_cons.mp hz with rfl | hz
    · exact fun e => nomatch e
    rcases List.mem_cons.mp hz with rfl | hz
    · exact fun e => nomatch e
    rcases List.mem_cons.mp hz with rfl | hz
    · exact fun e => nomatch e
    rcases List.mem_cons.mp hz with rfl | hz
    · exact fun e => nomatch e
    · cases hz
  · intro z hz
    rcases List.mem_cons.mp hz with rfl | hz
    · exact look_self f
    rcases List.mem_cons.mp hz with rfl | hz
    · exact look_f hf1
    · cases hz
  · have X₁ : K.In h₁ := X.keeps k
    have hyL : s.heap.objs.size ≠ y := Nat.ne_of_gt (Heap.lt_size hx)
    have ks : (callEnv (ksFn "__init__" qn (eArgs f p1 p2) (eBody f msg a1 a2 a3 a4 a5 a6 b1 b2 b3 b4) (eScope f) .none .none doc pm an (.ref cda) ct cc) s.heap.objs.size fI).kindOf "super" = some .globalImplicit := look_super hf3
    obtain ⟨oD, hD⟩ : ∃ oD, h₁.get? C = some oD ∧ ∃ cd : ClassData, oD.data = .cls cd := ⟨_, X₁ _ _ hC, _, rfl⟩
    obtain ⟨hD1, cdD, hD2⟩ := hD
    have IY : ∀ {h : Heap}, h.get? y = some (excO C t0) → InstAt h y (excO C t0) C none := fun e => ⟨e, rfl, rfl, trivial⟩
    have hyC : y ≠ C := fun z => by rw [z, hC] at hnx; cases hnx
    obtain ⟨pl, hpl⟩ := hS s.heap.objs.size
    refine ks_wpAt_execs_cons (ks_wpAt_Expr_any (ks_wpAt_MethodCall ?_ hpl) (by rfl) (by rfl))
    refine ks_wpAt_super_base ks (look_cls hf2) (by decide +kernel) rfl (X₁ _ _ ho) rfl rfl rfl (X₁ _ _ hcda) rfl hvs hfile T.top ?_
    refine ks_loadName_global rfl ks (loadGlobal_builtin (hg.keeps k) T.su (hbn.keeps k) (hbv _ (by decide +kernel)) ⟨by rfl, ?_⟩)
    refine wpAny_loadName_free rfl (look_cls hf2) rfl ⟨_, X₁ _ _ hcell, rfl⟩ ?_
    refine wpAny_loadName_local rfl (look_self f) hns (bl_self hf1 _ _) ?_
    refine ks_wpAny_isType_cls hD1 hD2 ⟨rfl, ?_⟩
    refine ks_wpAny_call_super hD1 hD2 (k _ _ hx) rfl (fun c e => nomatch e) (looks_mroIn X₁ T.mC) (fun h2 hso k2 => ?_)
    have X2 : K.In h2 := X₁.keeps k2
    refine kxs_getMethod kxs_ValueError hso (looks_opaque X2 T.ho) (l₀ := .ref C :: bm) ((looks_clsIn X2 hcl).andThen .now) rfl X2 ?_ ((IY (k2 _ _ (k _ _ hx))).type.andThen (looks_subIn X2 T.hB)) hyC (by decide +kernel) ?_
    · have e := T.si
      unfold ks_superIn at e
      rw [hcl] at e
      exact e
    have k3 : ∀ b o, h2.get? b = some o → (h2.push (kxs_mw "ValueError.__init__" y)).get? b = some o := fun b o e => Heap.get?_push_of_some _ e
    have hu : (h2.push (kxs_mw "ValueError.__init__" y)).get? h2.objs.size = some (kxs_mw "ValueError.__init__" y) := Heap.get?_push_at rfl rfl
    refine kxs_callWith (i := "ValueError.__init__") (x := y) (by rfl) (evalArgs_plain (Calls.spliced_cons (Calls.Constant_str (k := 0) (pos := a4) (Calls.spliced_nil ⟨hu, ?_⟩))))
    refine call_mw (X2.keeps k3 _ _ hC) (k3 _ _ (k2 _ _ (k _ _ hx))) hu (one_size _) fun h4 t1 k4 hy4 => ?_
    have X4 : K.In h4 := kept_but (X2.keeps k3) hnx k4
    have kk : ∀ b o, b ≠ y → h₁.get? b = some o → h4.get? b = some o := fun b o n e => k4 b o n (k3 b o (k2 b o e))
    have n4 : h4.Ns s.heap.objs.size fun z => [(("self" : Str), Value.ref y), (f, v)].reverse.lookup z := by
      obtain ⟨o, es, ep, e1, r⟩ := hns
      exact ⟨o, es, ep, kk _ _ hyL e1, r⟩
    have hfd : (f == ("__debug__" : Str)) = false := by simpa using hf4
    refine wpAt_of_wpAny (wpAny_execs_cons (plainObj_wpAny_Assign_Attribute ?_))
    refine wpAny_Name (wpAny_loadName_local rfl (look_f hf1) n4 (bl_f _ _) ?_) hfd
    refine wpAny_Name (wpAny_loadName_local rfl (look_self f) n4 (bl_self hf1 _ _) ?_) (by decide +kernel)
    refine set_plain X4 (ox := excO C t1) (od := none) ⟨hy4, rfl, rfl, trivial⟩ T.sa ?_
    refine exc_osa X4 hy4 hcl (show refsVE (.ref C :: bm) = true from hbm) rfl T.noN (fun h5 tk5 dx k5 dn dne hx5 hn5 => ?_)
    refine wpAny_execs_nil (hq h5 tk5 dx ⟨fun b o hb e => k5 b o hb (kk b o hb (k b o e)), ⟨_, hx5⟩, ?_, dne, hn5⟩)
    have z1 : s.heap.objs.size < h4.objs.size := n4.lt
    exact Nat.le_of_lt (Nat.lt_of_lt_of_le z1 dn)
/-- an error that was made: the object at e, its own dict at d -/
structure MadeE (h h' : Heap) (e C d : Addr) (f : Str) (v : Value) : Prop where
  keep : ∀ b o, h.get? b = some o → h'.get? b = some o
  new : h.objs.size ≤ e
  obj : ∃ t1 : Addr, h'.get? e = some { cls := .ref C, dict := some d, data := .fields #[.ref t1, .none, .none, .none, .bool false, .none] }
  dbig : h.objs.size ≤ d
  dne : d ≠ e
  ns : h'.Ns1 d (fun z => if z = f then some v else none)
theorem not_in {K : Frag} {h : Heap} {a : Addr} (X : K.In h) (ha : h.objs.size ≤ a) : K.lookup a = none := by
  cases e : K.lookup a with
  | none => rfl
  | some o => exact absurd (Nat.lt_of_lt_of_le (Heap.lt_size (X _ _ e)) ha) (Nat.lt_irrefl _)
theorem err_made (T : ErrTxt prog K mg x f C fI) {v : Value} (X : K.In s.heap) (hlim : s.heap.NoLimit) (hg : s.heap.Ns mainGlobals mg) (hb : ∃ mb, s.heap.Ns builtinsNs mb ∧ ∀ z : Str, z ≠ "__name__" → mb z = bootBuiltins z)
    (hroom : A.depth + 1 < recursionLimit) (hq : ∀ h' tk e d, MadeE s.heap h' e C d f v → R (.ok (.ret (.ref e))) { s with heap := h', toks := tk }) :
    codeAny (model prog w) A (.call (.ref C) ⟨[v], []⟩) R s := by
  obtain ⟨nm, q, N, bs, bm, sn, sub, ab, col, dd, k0, k1, k2, k3, k5, hC, hbm⟩ := T.cls
  obtain ⟨mb, hbn, hbv⟩ := hb
  obtain ⟨hp, g, dr, tk, os⟩ := s
  have k : ∀ b o, hp.get? b = some o → ((hp.push (kdv_tup [v])).push (excO C hp.objs.size)).get? b = some o := fun b o e => Heap.get?_push_of_some _ (Heap.get?_push_of_some _ e)
  have hget : ((hp.push (kdv_tup [v])).push (excO C hp.objs.size)).get? (hp.objs.size + 1) = some (excO C hp.objs.size) := by heap_get
  have hnx : K.lookup (hp.objs.size + 1) = none := not_in X (Nat.le_succ _)
  refine call_own F.excBase_ValueError (fun X => refsVE_contains X bm hbm) (X _ _ hC) (looks_findIn X T.iC) (fun self => bind_fn X self T.tC) (one_size v) ?_
  refine err_init (s := ⟨(hp.push (kdv_tup [v])).push (excO C hp.objs.size), g, dr, tk, os⟩) T (X.keeps k) (hlim.keeps k) (hg.keeps k) ⟨mb, hbn.keeps k, hbv⟩ hget hnx ?_ fun h' tk' dx ⟨k', ⟨t1, hx⟩, dn, dne, hns⟩ => ?_
  · show A.depth + 1 < recursionLimit
    exact hroom
  · have old : ∀ b o, hp.get? b = some o → h'.get? b = some o := fun b o e => k' b o (Nat.ne_of_lt (Nat.lt_succ_of_lt (Heap.lt_size e))) (k b o e)
    have z : hp.objs.size + 1 + 1 ≤ dx := by
      have q := dn
      rw [Heap.size_push, Heap.size_push] at q
      exact q
    exact ⟨rfl, hq h' tk' (hp.objs.size + 1) dx ⟨old, Nat.le_succ _, ⟨t1, hx⟩, Nat.le_trans (Nat.le_trans (Nat.le_succ _) (Nat.le_succ _)) z, dne, hns⟩⟩
end
end EK
namespace L2
open PySem PySem.Spec PyProof.Rows EK
theorem relO_one {f : Str} {v : V} {u : Value} (r : RelV v u) (g : Str) : RelO (List.lookup g [(f, v)]) (if g = f then some u else none) := relO_put (fs := []) (mA := fun _ => none) r (fun _ => True.intro) g
section
variable {X : Cx} {C fI : Addr} {x f : Str}
/-- x(e) as a value: a new error at a, its dict at d -/
def tErrV (C : Addr) (f : Str) (ta : TA) : TE := fun σ H Q => ta σ H fun vs H1 => ∃ v, vs = [v] ∧ ∀ a d, H1 a = none → H1 d = none → d ≠ a → Q (.ref a) (upd (upd H1 d (exd d [(f, v)])) a (exo a C (some d)))
theorem pe_errV {a : Expr} {ta : TA} {p pos : Pos} {k : Nat} (T : ErrTxt X.prog X.K X.mg x f C fI) (hr : Room k X.A) (ha : PA X [a] ta) (hg : Gl X x) (hd : (x == ("__debug__" : Str)) = false := by decide)
    (he : starEach (a :: []) X.env = (false, eval a X.env) :: starEach [] X.env := by rfl) (hpl : (backTo pos (starEach [] X.env)).any (·.1) = false := by rfl) :
    PE X (.Call (.Name x p) [a] [] pos) (tErrV C f ta) := by
  refine ⟨fun pins s σ H Q I h => ?_⟩
  refine wpAny_Call_Name_kw (ld_glob I hg T.gC ?_ hd)
  refine PySem.W.callWith_K (h₀ := X.base) I.ok.mod.kin T.kC (thn (ha.run pos pins s σ H _ I h) fun us s1 hh => ?_) he hpl
  obtain ⟨vs, H1, I1, r1, v, ev, q1⟩ := hh
  subst ev
  refine ⟨I1.kIn, ?_⟩
  cases r1 with
  | cons rv rn =>
    rename_i v' us'
    cases rn
    show wpAny _ _ (call (.ref C) [v']) _ _ _
    have hlim := I1.nolimit
    obtain ⟨hp, g, dr, tk, os⟩ := s1
    obtain ⟨mb, hb1, hb2⟩ := I1.mod.blt
    refine wpAny_call (err_made T I1.kIn hlim (I1.mod.glob.keeps I1.bk) ⟨mb, hb1.keeps I1.bk, hb2⟩ (by have := hr.dp; omega) fun h' tk' e d M => ?_)
    obtain ⟨t1, hoe⟩ := M.obj
    have nd : H1 d = none := I1.hok.fresh M.dbig
    have ne : H1 e = none := I1.hok.fresh M.new
    obtain ⟨G, g1, g2⟩ := restrict h' fun b => decide (b ≠ e)
    have gk : ∀ b, b ≠ e → G.get? b = h'.get? b := fun b hb => g1 b (decide_eq_true hb)
    have ge : G.get? e = none := g2 e (by simp)
    have old : ∀ b o, hp.get? b = some o → G.get? b = some o := fun b o q => (gk b (Nat.ne_of_lt (Nat.lt_of_lt_of_le (Heap.lt_size q) M.new))).trans (M.keep b o q)
    have gs : ∀ b o, G.get? b = some o → h'.get? b = some o := fun b o q => by
      by_cases hbe : b = e
      · rw [hbe, ge] at q
        cases q
      · exact (gk b hbe).symm.trans q
    have J : Inv X pins σ (upd H1 d (exd d [(f, v)])) ⟨G, g, dr, tk', os⟩ := I1.laid (t' := tk') old M.dbig (exd_ok (M.ns.at fun o q => (gk d M.dne).trans q) (relO_one rv))
    have hne : (upd H1 d (exd d [(f, v)])) e = none := by
      rw [upd_ne (Ne.symm M.dne)]
      exact ne
    exact ⟨.ref e, _, J.laidN (t' := tk') gs ge hne (exo_ok hoe), rfl, q1 e d ne nd M.dne⟩
/-- a field of an error, read -/
def tErrF (K : PySem.W.Frag) (f : Str) (te : TE) : TE := fun σ H Q => te σ H fun x H1 => ∃ (a C d : Addr) (fs : List (Str × V)) (v : V), x = .ref a ∧ H1 a = some (exo a C (some d)) ∧ H1 d = some (exd d fs) ∧ XfC K C ∧ PySem.W.findIn K (.ref C) f = some none ∧ fs.lookup f = some v ∧ Q v H1
theorem pe_errF {e : Expr} {te : TE} {pos : Pos} (he : PE X e te) (hb : attributeBase e f X.env (eval e X.env) = eval e X.env := by rfl) : PE X (.Attribute e f pos) (tErrF X.K f te) := by
  refine ⟨fun pins s σ H Q I h => ?_⟩
  refine attr_of hb (thn (he.run pins s σ H _ I h) fun u s1 hh => ?_)
  obtain ⟨y, H1, I1, ry, a, C, d, fs, v, ey, ea, ed, T, hno, l, q⟩ := hh
  subst ey
  obtain rfl : u = Value.ref a := ry
  obtain ⟨t1, ha⟩ := exo_at I1.hok ea
  obtain ⟨mA, hns, hr⟩ := exd_at I1.hok ed
  obtain ⟨od, ho, hl⟩ := lookIn_ns hns
  obtain ⟨u, hu, ru⟩ := RelO.some_of (v := v) (o := mA f) (by rw [← l]; exact hr f)
  have J : PySem.W.InstAt s1.heap a _ C (some od) := ⟨ha, rfl, rfl, ho⟩
  exact HandSPX.exc_get I1.kIn J T.ga T.gg T.exC (PySem.W.findObj_own T.hdC hno rfl (by rw [hl, hu])) (handed_of ru) ⟨v, H1, I1.tok _, ru, q⟩
end
end L2

set_option Elab.async false
set_option linter.all false
set_option maxRecDepth 100000
set_option maxHeartbeats 4000000
/-! EqKit: things that are told equal, whatever they hold; isinstance of errors. -/
namespace L2
open PySem PySem.Spec PyProof.Rows
/-- x and y compare equal, at most n deep: one thing, or lists, tuples of such -/
inductive Sm (K : PySem.W.Frag) (H : Hp) : Nat → V → V → Prop
  | rf {n : Nat} (x : V) (h : ∀ b, x ≠ .flt b) : Sm K H n x x
  | ls {n : Nat} {a b : Addr} {xs ys : List V} (h1 : SqL K H a xs) (h2 : SqL K H b ys) (hl : xs.length = ys.length) (h : ∀ (i : Nat) x y, xs[i]? = some x → ys[i]? = some y → Sm K H n x y) : Sm K H (n + 1) (.ref a) (.ref b)
  | tp {n : Nat} {a b : Addr} {xs ys : List V} (h1 : SqT K H a xs) (h2 : SqT K H b ys) (hl : xs.length = ys.length) (h : ∀ (i : Nat) x y, xs[i]? = some x → ys[i]? = some y → Sm K H n x y) : Sm K H (n + 1) (.ref a) (.ref b)
section
variable {X : Cx} {pins : List (Addr × Obj)} {σ : St} {H : Hp} {s : Shared}
theorem sm_items {xs ys : List V} {us vs : List Value} {A : Around} (rx : Vals xs us) (ry : Vals ys vs)
    (h : ∀ (i : Nat) x y, xs[i]? = some x → ys[i]? = some y → ∀ u v, RelV x u → RelV y v → SeqAt.EqAt A s u v true) :
    ∀ j (h1 : j < us.toArray.size) (h2 : j < vs.toArray.size), SeqAt.EqAt A s us.toArray[j] vs.toArray[j] true := by
  intro j h1 h2
  have l1 := rx.length
  have l2 := ry.length
  have j1 : j < xs.length := by rw [l1]; simpa using h1
  have j2 : j < ys.length := by rw [l2]; simpa using h2
  obtain ⟨u, e1, r1⟩ := rx.get (List.getElem?_eq_getElem j1)
  obtain ⟨v, e2, r2⟩ := ry.get (List.getElem?_eq_getElem j2)
  have f1 : us.toArray[j] = u := by
    have q : us[j]? = some (us[j]'(by simpa using h1)) := List.getElem?_eq_getElem _
    rw [e1] at q
    simpa using (Option.some.inj q).symm
  have f2 : vs.toArray[j] = v := by
    have q : vs[j]? = some (vs[j]'(by simpa using h2)) := List.getElem?_eq_getElem _
    rw [e2] at q
    simpa using (Option.some.inj q).symm
  rw [f1, f2]
  exact h j _ _ (List.getElem?_eq_getElem j1) (List.getElem?_eq_getElem j2) u v r1 r2
theorem all_true {n : Nat} : ((List.range n).all fun _ => true) = true := by
  induction n with
  | zero => rfl
  | succ n ih => simp
theorem sm_at (I : Inv X pins σ H s) : ∀ {n : Nat} {x y : V} {u v : Value} {A : Around}, Sm X.K H n x y → RelV x u → RelV y v → A.units + n < cLine → SeqAt.EqAt A s u v true := by
  intro n x y u v A h
  induction h generalizing u v A with
  | rf x hf =>
    intro r1 r2 _
    cases x with
    | non => cases r1; cases r2; exact .same _
    | bl b => cases r1; cases r2; exact .same _
    | int i =>
      obtain ⟨t, rfl⟩ := r1
      obtain ⟨t', rfl⟩ := r2
      have q := SeqAt.EqAt.int_int (A := A) (s := s) i t i t'
      rw [beq_self_eq_true] at q
      exact q
    | str z =>
      obtain ⟨t, rfl⟩ := r1
      obtain ⟨t', rfl⟩ := r2
      have q := SeqAt.EqAt.str_str (A := A) (s := s) z t z t'
      rw [beq_self_eq_true] at q
      exact q
    | byt b =>
      obtain ⟨t, rfl⟩ := (show ∃ t, u = Value.bytes b t from r1)
      obtain ⟨t', rfl⟩ := (show ∃ t, v = Value.bytes b t from r2)
      exact fun prog w E Q h => PySem.W.eqBool_bytes (by simpa using h)
    | flt b => exact absurd rfl (hf b)
    | ref a => cases r1; cases r2; exact .same _
    | ty n => cases r1; cases r2; exact .same _
  | @ls n a b xs ys h1 h2 hl _ ih =>
    intro r1 r2 hu
    cases r1; cases r2
    by_cases e : a = b
    · rw [e]; exact .same _
    · obtain ⟨us, ru, ⟨o, m, ho, hc, _, hd⟩, _⟩ := I.list h1
      obtain ⟨vs, rv, ⟨o', m', ho', hc', _, hd'⟩, _⟩ := I.list h2
      have hs : us.toArray.size = vs.toArray.size := by simp only [List.size_toArray]; rw [← ru.length, ← rv.length, hl]
      refine .of_refs e ?_
      have q := SeqAt.RcAt.lists (A := A) (s := s) (e := fun _ => true) ⟨o, ho, hc, m, hd⟩ ⟨o', ho', hc', m', hd'⟩ hs (by omega) (sm_items (A := A.in1) ru rv fun i x y e1 e2 u v s1 s2 => ih i x y e1 e2 s1 s2 (by show A.units + 1 + n < cLine; omega))
      rw [all_true] at q
      exact q
  | @tp n a b xs ys h1 h2 hl _ ih =>
    intro r1 r2 hu
    cases r1; cases r2
    by_cases e : a = b
    · rw [e]; exact .same _
    · obtain ⟨us, ru, ⟨o, ho, hc, m, hd⟩, _⟩ := I.tuple h1
      obtain ⟨vs, rv, ⟨o', ho', hc', m', hd'⟩, _⟩ := I.tuple h2
      have hs : us.toArray.size = vs.toArray.size := by simp only [List.size_toArray]; rw [← ru.length, ← rv.length, hl]
      refine .of_refs e ?_
      have q := SeqAt.RcAt.tuples (A := A) (s := s) (e := fun _ => true) ⟨o, ho, hc, m, hd⟩ ⟨o', ho', hc', m', hd'⟩ (by omega) (sm_items (A := A.in1) ru rv fun i x y e1 e2 u v s1 s2 => ih i x y e1 e2 s1 s2 (by show A.units + 1 + n < cLine; omega))
      rw [all_true, hs, beq_self_eq_true] at q
      exact q
/-- what may stand on both sides of a comparison that is told equal -/
inductive SmT (K : PySem.W.Frag) (H : Hp) : V → V → Prop
  | sc (x : V) (h : scal x x = true) : SmT K H x x
  | ls {a b : Addr} {xs ys : List V} (h1 : SqL K H a xs) (h2 : SqL K H b ys) (hl : xs.length = ys.length) (h : ∀ (i : Nat) x y, xs[i]? = some x → ys[i]? = some y → Sm K H 60 x y) : SmT K H (.ref a) (.ref b)
  | tp {a b : Addr} {xs ys : List V} (h1 : SqT K H a xs) (h2 : SqT K H b ys) (hl : xs.length = ys.length) (h : ∀ (i : Nat) x y, xs[i]? = some x → ys[i]? = some y → Sm K H 60 x y) : SmT K H (.ref a) (.ref b)
  | dk {a b : Addr} {kvs : List (Key × V)} (h1 : H a = some (.dK kvs)) (h2 : H b = some (.dK kvs)) (nd : (kvs.map (·.1)).Nodup) (fl : ∀ p ∈ kvs, flatB p.2 = true) : SmT K H (.ref a) (.ref b)
theorem op_neS (hu : X.A.units + 64 < cLine) : OpR X (compareOp .NotEq) (fun x y H Q => SmT X.K H x y ∧ Q (.bl false) H) := by
  intro pins s σ H x y v u Q I rx ry ⟨h, q⟩
  cases h with
  | sc x h => exact op_ne pins s σ H x x v u Q I rx ry ⟨h, by rw [decide_eq_true rfl]; exact q⟩
  | ls h1 h2 hl h =>
    cases rx; cases ry
    obtain ⟨us, ru, ⟨o, m, ho, hc, _, hd⟩, _⟩ := I.list h1
    obtain ⟨vs, rv, ⟨o', m', ho', hc', _, hd'⟩, _⟩ := I.list h2
    have hs : us.toArray.size = vs.toArray.size := by simp only [List.size_toArray]; rw [← ru.length, ← rv.length, hl]
    have z := SeqAt.RcNeAt.lists (A := X.A) (s := s) (e := fun _ => true) ⟨o, ho, hc, m, hd⟩ ⟨o', ho', hc', m', hd'⟩ hs (by omega) (sm_items (A := X.A.in1) ru rv fun i x y e1 e2 u v s1 s2 => sm_at I (h i x y e1 e2) s1 s2 (by show X.A.units + 1 + 60 < cLine; omega))
    rw [all_true] at z
    exact z X.prog X.w _ _ ⟨.bl false, H, I, rfl, q⟩
  | tp h1 h2 hl h =>
    cases rx; cases ry
    obtain ⟨us, ru, ⟨o, ho, hc, m, hd⟩, _⟩ := I.tuple h1
    obtain ⟨vs, rv, ⟨o', ho', hc', m', hd'⟩, _⟩ := I.tuple h2
    have hs : us.toArray.size = vs.toArray.size := by simp only [List.size_toArray]; rw [← ru.length, ← rv.length, hl]
    have z := SeqAt.RcNeAt.tuples (A := X.A) (s := s) (e := fun _ => true) ⟨o, ho, hc, m, hd⟩ ⟨o', ho', hc', m', hd'⟩ (by omega) (sm_items (A := X.A.in1) ru rv fun i x y e1 e2 u v s1 s2 => sm_at I (h i x y e1 e2) s1 s2 (by show X.A.units + 1 + 60 < cLine; omega))
    rw [all_true, hs, beq_self_eq_true] at z
    exact z X.prog X.w _ _ ⟨.bl false, H, I, rfl, q⟩
  | @dk a b kvs h1 h2 nd fl =>
    cases rx; cases ry
    obtain ⟨_, ya, va, ra, da⟩ := (show ObjOk X.prog X.w H s.heap a (.dK kvs) from I.hok a _ h1)
    obtain ⟨_, yb, vb, rb, db⟩ := (show ObjOk X.prog X.w H s.heap b (.dK kvs) from I.hok b _ h2)
    have hl : va.length = vb.length := ra.length.symm.trans rb.length
    exact PySem.W.keq_ne (knd := mixKind X.prog X.w) (r := true) ya yb da db (by omega) (fun _ => hits_all rb ra fun p hp => ⟨val_nodup nd p hp, fl p hp⟩) (fin_bl I q (by simp [hl]))
theorem op_eqS (hu : X.A.units + 64 < cLine) : OpR X (compareOp .Eq) (fun x y H Q => SmT X.K H x y ∧ Q (.bl true) H) := by
  intro pins s σ H x y v u Q I rx ry ⟨h, q⟩
  cases h with
  | sc x h => exact op_eq pins s σ H x x v u Q I rx ry ⟨h, by rw [decide_eq_true rfl]; exact q⟩
  | ls h1 h2 hl h =>
    cases rx; cases ry
    obtain ⟨us, ru, ⟨o, m, ho, hc, _, hd⟩, _⟩ := I.list h1
    obtain ⟨vs, rv, ⟨o', m', ho', hc', _, hd'⟩, _⟩ := I.list h2
    have hs : us.toArray.size = vs.toArray.size := by simp only [List.size_toArray]; rw [← ru.length, ← rv.length, hl]
    have z := SeqAt.RcAt.lists (A := X.A) (s := s) (e := fun _ => true) ⟨o, ho, hc, m, hd⟩ ⟨o', ho', hc', m', hd'⟩ hs (by omega) (sm_items (A := X.A.in1) ru rv fun i x y e1 e2 u v s1 s2 => sm_at I (h i x y e1 e2) s1 s2 (by show X.A.units + 1 + 60 < cLine; omega))
    rw [all_true] at z
    exact z X.prog X.w _ _ ⟨.bl true, H, I, rfl, q⟩
  | tp h1 h2 hl h =>
    cases rx; cases ry
    obtain ⟨us, ru, ⟨o, ho, hc, m, hd⟩, _⟩ := I.tuple h1
    obtain ⟨vs, rv, ⟨o', ho', hc', m', hd'⟩, _⟩ := I.tuple h2
    have hs : us.toArray.size = vs.toArray.size := by simp only [List.size_toArray]; rw [← ru.length, ← rv.length, hl]
    have z := SeqAt.RcAt.tuples (A := X.A) (s := s) (e := fun _ => true) ⟨o, ho, hc, m, hd⟩ ⟨o', ho', hc', m', hd'⟩ (by omega) (sm_items (A := X.A.in1) ru rv fun i x y e1 e2 u v s1 s2 => sm_at I (h i x y e1 e2) s1 s2 (by show X.A.units + 1 + 60 < cLine; omega))
    rw [all_true, hs, beq_self_eq_true] at z
    exact z X.prog X.w _ _ ⟨.bl true, H, I, rfl, q⟩
  | @dk a b kvs h1 h2 nd fl =>
    exact op_eq_dict (by omega) pins s σ H _ _ v u Q I rx ry ⟨a, b, kvs, rfl, rfl, h1, h2, nd, fl, q⟩
/-- isinstance(e, c), e an error that is held as a value -/
def rIsErr (K : PySem.W.Frag) : List V → Hp → VK → Prop := fun xs H Q => ∃ (a C : Addr) (d : Option Addr) (fs : List (Str × V)) (c : V) (u : Value) (b : Bool), xs = [.ref a, c] ∧ H a = some (exo a C d) ∧ (∀ dd, d = some dd → H dd = some (exd dd fs)) ∧ ExcC K C ∧ ClsV c u ∧ PySem.W.kitOne K (.ref C) u = some b ∧ Q (.bl b) H
theorem call_isErr : CallR X (.builtin "isinstance") (rIsErr X.K) := by
  intro pins s σ H xs us Q I r h
  obtain ⟨a, C, d, fs, c, u, b, rfl, ea, ed, T, k, e, q⟩ := h
  obtain ⟨u1, u2, rfl, r1, r2⟩ := vals2 r
  have e2 := k.eq r2
  subst e2
  cases r1
  obtain ⟨t1, ha⟩ := exo_at I.hok ea
  have hcl : (PySem.W.clsIn X.K C).isSome = true := by
    obtain ⟨cd, hc, _⟩ := PySem.W.any_some T.hd
    rw [hc]
    rfl
  cases d with
  | none => exact PySem.W.kia_one (PySem.W.kitx_exc (od := none) hcl T.hg T.hk T.hs T.ha T.hn T.ht T.hm) I.kIn (show PySem.W.InstAt s.heap a _ C none from ⟨ha, rfl, rfl, trivial⟩) e (fun z => nomatch z) fun tk => ⟨.bl b, H, I.tok tk, rfl, q⟩
  | some dd =>
    obtain ⟨mA, ⟨od, es, ep, ho, hr⟩, _⟩ := exd_at I.hok (ed dd rfl)
    exact PySem.W.kia_one (PySem.W.kitx_exc (od := some od) hcl T.hg T.hk T.hs T.ha T.hn T.ht T.hm) I.kIn (show PySem.W.InstAt s.heap a _ C (some od) from ⟨ha, rfl, rfl, ho⟩) e (fun z => nomatch z) fun tk => ⟨.bl b, H, I.tok tk, rfl, q⟩
end
end L2

set_option Elab.async false
set_option linter.all false
set_option maxRecDepth 100000
set_option maxHeartbeats 4000000
namespace T10
open PySem L2
def top (i : Nat) : Stmt := PySem.Challenge.pw_turnindex_k10_falling_parts.main.body.getD i (.Pass ⟨0, 0, 0, 0⟩)
abbrev sWell : Stmt := top 24
abbrev sDraw : Stmt := top 25
abbrev sOne : Stmt := top 26
/-- a well of draws: its own digits left, its number, how often it was asked -/
def WellAt (H : Hp) (a : Addr) (n : Int) : Prop := ∃ w0 w1 w2 : Int, H a = some (.lst [.int w0, .int w1, .int w2]) ∧ 0 ≤ w1 ∧ w1 < 2147483647 ∧ 0 ≤ w2 ∧ w2 ≤ n
def KeepB (a : Addr) (H H' : Hp) : Prop := ∀ b o, H b = some o → b ≠ a → H' b = some o
def spWell : Sp := fun vs H Q _ => ∃ c : Int, vs = [.int c] ∧ ∀ p H', H p = none → WellAt H' p 0 → Same H H' → Q (.ref p) H'
def spDraw : Sp := fun vs H Q _ => ∃ (a : Addr) (m n : Int), vs = [.ref a, .int m] ∧ WellAt H a n ∧ n ≤ 1000000 ∧ 0 < m ∧ m < 1073741824 ∧ ∀ (d : Int) H', 0 ≤ d → d < m → WellAt H' a (n + 1) → KeepB a H H' → Q (.int d) H'
structure TxtD (K : PySem.W.Frag) (mg : Str → Option Value) : Prop where
  int : mg "int" = none
  len : mg "len" = none
theorem well_at (n : Int) (h : 0 ≤ n) (w : n < 7) : ∃ p : Int, atI [V.int 2147483647, V.int 2147483629, V.int 2147483587, V.int 2147483579, V.int 2147483563, V.int 2147483549, V.int 2147483543] n = some (V.int p) ∧ 0 < p ∧ p ≤ 2147483647 := by
  obtain e | e | e | e | e | e | e : n = 0 ∨ n = 1 ∨ n = 2 ∨ n = 3 ∨ n = 4 ∨ n = 5 ∨ n = 6 := by omega
  all_goals (subst e; exact ⟨_, rfl, by decide, by decide⟩)
section
variable {P : Program} {w : World} {K : PySem.W.Frag} {mg : Str → Option Value} {base : Heap}
theorem scWell : FnScope ["_law_cell"] ["_law_cell"] (defScope sWell) := ⟨rfl, rfl, rfl, by decide +kernel, rfl, by decide +kernel, by decide +kernel⟩
theorem ok_well {f : Addr} {fd : FuncData} (F : Fun K "_law_well" "_law_well" sWell f fd) (T : TxtD K mg) : FnOk P w K mg base CX0 1 f fd ["_law_cell"] spWell := by
  refine F.ok scWell (fun vs H Q E h => ?_) (fun cdv A outer s H vs Q E hr h => ?_)
  · obtain ⟨c, rfl, _⟩ := h
    rfl
  · obtain ⟨c, rfl, k⟩ := h
    refine ⟨_, pss_one (ps_ret (pe_lst (pa_cons (pe_op op_mul (pv 0) (pe_callTy call_int1 (by rfl) T.int (by decide +kernel) (pa_cons (pe_cmpR op_ge (pv 0) (pe_op op_pow pe_int pe_int) (nomark _)) pa_nil)))
      (pa_cons (pe_op op_mod (pe_callTy call_int1 (by rfl) T.int (by decide +kernel) (pa_cons (pv 0) pa_nil)) pe_int) (pa_cons pe_int pa_nil))))), ?_⟩
    refine ⟨_, rfl, _, rfl, _, _, rfl, rfl, ⟨by decide, by decide, by decide⟩, _, _, rfl, rfl, .inr ⟨_, rfl, _, _, rfl, rfl, .inr ?_, ?_⟩⟩
    · by_cases h : (10 : Int) ^ (18 : Int).toNat ≤ c
      · rw [decide_eq_true h]; decide
      · rw [decide_eq_false h]; decide
    refine ⟨_, rfl, .inl ⟨_, rfl, _, _, rfl, rfl, (by show (0 : Int) < 2147483647; decide), (by show 3 ≤ sizeLine; decide), fun p hp => ?_⟩⟩
    refine k p _ hp ⟨_, _, _, upd_same, Int.emod_nonneg _ (by decide), Int.emod_lt_of_pos _ (by decide), by decide, by decide⟩ fun b o e => ?_
    rw [upd_ne (ne_of_none e hp)]
    exact e
theorem scDraw : FnScope ["_law_well_here", "_law_many", "_law_digit", "_law_prime", "_law_number"] ["_law_well_here", "_law_many"] (defScope sDraw) := ⟨rfl, rfl, rfl, by decide +kernel, rfl, by decide +kernel, by decide +kernel⟩
theorem ok_draw {f : Addr} {fd : FuncData} (F : Fun K "_law_draw" "_law_draw" sDraw f fd) (T : TxtD K mg) : FnOk P w K mg base CX0 1 f fd ["_law_well_here", "_law_many"] spDraw := by
  refine F.ok scDraw (fun vs H Q E h => ?_) (fun cdv A outer s H vs Q E hr h => ?_)
  · obtain ⟨a, m, n, rfl, _⟩ := h
    rfl
  · obtain ⟨a, m, n, rfl, ⟨w0, w1, w2, ha, h1, h2, h3, h4⟩, hn, hm, hm2, k⟩ := h
    have nd := scDraw.nd
    refine ⟨_, pss_cons (ps_if (pt_cmpR op_gt (pe_ix ix_list (pv 0) pe_int (fun _ _ => rfl)) pe_int (nomark _))
        (pss_cons (ps_set (i := 2) nd rfl (Or.inl rfl) (pe_op op_mod (pe_callTy call_int1 (by rfl) T.int (by decide +kernel) (pa_cons (pe_ix ix_list (pv 0) pe_int (fun _ _ => rfl)) pa_nil)) (pv 1)))
        (pss_cons (ps_asg (pe_op op_fdiv (pe_ix ix_list (pv 0) pe_int (fun _ _ => rfl)) (pv 1)) (pg_sub (pv 0) pe_int set_list))
        (pss_one (ps_ret (pv 2))))) pss_nil)
      (pss_cons (ps_asg (pe_op op_add (pe_ix ix_list (pv 0) pe_int (fun _ _ => rfl)) pe_int) (pg_sub (pv 0) pe_int set_list))
      (pss_cons (ps_set (i := 3) nd rfl (Or.inl rfl) (pe_ix ix_list (pe_lst (pa_cons pe_int (pa_cons pe_int (pa_cons pe_int (pa_cons pe_int (pa_cons pe_int (pa_cons pe_int (pa_cons pe_int pa_nil))))))))
          (pe_op op_mod (pe_callTy call_int1 (by rfl) T.int (by decide +kernel) (pa_cons (pe_ix ix_list (pv 0) pe_int (fun _ _ => rfl)) pa_nil)) pe_int) (fun _ _ => rfl)))
      (pss_cons (ps_set (i := 4) nd rfl (Or.inl rfl) (pe_op op_mod (pe_callTy call_int1 (by rfl) T.int (by decide +kernel) (pa_cons (pe_op op_pow (pe_op op_add (pe_op op_add (pe_ix ix_list (pv 0) pe_int (fun _ _ => rfl)) (pe_op op_mul pe_int (pe_ix ix_list (pv 0) pe_int (fun _ _ => rfl)))) pe_int) pe_int) pa_nil)) (pv 3)))
      (pss_cons (ps_set (i := 4) nd rfl (Or.inl rfl) (pe_op op_mod (pe_callTy call_int1 (by rfl) T.int (by decide +kernel) (pa_cons (pe_op op_mul (pe_op op_add (pv 4) (pe_ix ix_list (pv 0) pe_int (fun _ _ => rfl))) (pe_op op_add (pe_op op_fdiv (pv 4) pe_int) pe_int)) pa_nil)) (pv 3)))
      (pss_one (ps_ret (pe_op op_mod (pe_callTy call_int1 (by rfl) T.int (by decide +kernel) (pa_cons (pe_op op_fdiv (pv 4) pe_int) pa_nil)) (pv 1)))))))), ?_⟩
    refine ⟨_, rfl, a, _, 0, _, rfl, rfl, .of ha, rfl, _, _, rfl, rfl, _, rfl, ?_⟩
    refine ite2 (fun h0 => ?_) (fun h0 => ?_)
    · refine ⟨_, rfl, a, _, 0, _, rfl, rfl, .of ha, rfl, .inl ⟨_, rfl, _, rfl, _, _, rfl, rfl, hm, ?_⟩⟩
      refine ⟨_, rfl, a, _, 0, _, rfl, rfl, .of ha, rfl, _, rfl, _, _, rfl, rfl, ⟨hm, hm2⟩, _, rfl, a, _, 0, 0, rfl, rfl, ha, rfl, _, rfl, ?_⟩
      refine k _ _ (Int.emod_nonneg _ (by omega)) (Int.emod_lt_of_pos _ hm) ⟨_, _, _, upd_same, h1, h2, h3, by omega⟩ fun b o e n => ?_
      rw [upd_ne n]
      exact e
    · refine ⟨_, rfl, a, _, 2, _, rfl, rfl, .of ha, rfl, _, _, rfl, rfl, _, rfl, a, _, 2, 2, rfl, rfl, ha, rfl, ?_⟩
      have ha2 : ∀ {p : Addr} {H' : Hp}, H' = upd H a (.lst ([V.int w0, V.int w1, V.int w2].set 2 (V.int (w2 + 1)))) → H' a = some (.lst [.int w0, .int w1, .int (w2 + 1)]) := fun e => by rw [e]; exact upd_same
      refine ⟨by show 7 ≤ sizeLine; decide, fun p hp => ?_⟩
      have hpa : a ≠ p := ne_of_none (ha2 (p := p) rfl) hp
      have ha3 : (upd (upd H a (.lst ([V.int w0, V.int w1, V.int w2].set 2 (V.int (w2 + 1))))) p (.lst [V.int 2147483647, V.int 2147483629, V.int 2147483587, V.int 2147483579, V.int 2147483563, V.int 2147483549, V.int 2147483543])) a = some (.lst [.int w0, .int w1, .int (w2 + 1)]) := by
        rw [upd_ne hpa]
        exact ha2 (p := p) rfl
      obtain ⟨q, hq, q0, q1⟩ := well_at ((w2 + 1) % 7) (Int.emod_nonneg _ (by decide)) (Int.emod_lt_of_pos _ (by decide))
      refine ⟨_, rfl, a, _, 2, _, rfl, rfl, .of ha3, rfl, .inl ⟨_, rfl, _, _, rfl, rfl, (by show (0 : Int) < 7; decide), p, _, _, _, rfl, rfl, .of upd_same, hq, ?_⟩⟩
      refine ⟨_, rfl, a, _, 1, _, rfl, rfl, .of ha3, rfl, _, rfl, a, _, 2, _, rfl, rfl, .of ha3, rfl, _, _, rfl, rfl, .inl ⟨by decide, by decide⟩, _, _, rfl, rfl, _, _, rfl, rfl, _, _, rfl, rfl, ⟨by decide, by decide, by omega⟩, .inl ⟨_, rfl, _, rfl, _, _, rfl, rfl, q0, ?_⟩⟩
      have g0 := Int.emod_nonneg ((w1 + 7919 * (w2 + 1) + 1) ^ (5 : Int).toNat) (show q ≠ 0 by omega)
      have g1 := Int.emod_lt_of_pos ((w1 + 7919 * (w2 + 1) + 1) ^ (5 : Int).toNat) q0
      refine ⟨_, rfl, _, rfl, a, _, 2, _, rfl, rfl, .of ha3, rfl, _, _, rfl, rfl, _, rfl, _, _, rfl, rfl, ⟨by decide, by decide⟩, _, _, rfl, rfl, _, _, rfl, rfl, .inl ⟨by omega, by omega⟩, .inl ⟨_, rfl, _, rfl, _, _, rfl, rfl, q0, ?_⟩⟩
      refine ⟨_, rfl, _, _, rfl, rfl, ⟨by decide, by decide⟩, .inl ⟨_, rfl, _, rfl, _, _, rfl, rfl, hm, ?_⟩⟩
      refine k _ _ (Int.emod_nonneg _ (by omega)) (Int.emod_lt_of_pos _ hm) ⟨_, _, _, ha3, h1, h2, by omega, by omega⟩ fun b o e n => ?_
      rw [upd_ne (fun z => ?_), upd_ne n]
      · exact e
      · rw [← z, upd_ne n, e] at hp
        cases hp
/-- one of a list of things -/
def spOne : Sp := fun vs H Q _ => ∃ (a l : Addr) (n : Int) (xs : List V), vs = [.ref a, .ref l] ∧ WellAt H a n ∧ n ≤ 1000000 ∧ H l = some (.lst xs) ∧ l ≠ a ∧ 0 < xs.length ∧ xs.length ≤ 1000 ∧ ∀ (x : V) H', x ∈ xs → WellAt H' a (n + 1) → KeepB a H H' → Q x H'
theorem scOne : FnScope ["_law_well_here", "_law_some"] ["_law_well_here", "_law_some"] (defScope sOne) := ⟨rfl, rfl, rfl, by decide +kernel, rfl, by decide +kernel, by decide +kernel⟩
theorem ok_one {f fD : Addr} {fd fdD : FuncData} (F : Fun K "_law_one" "_law_one" sOne f fd) (T : TxtD K mg) (FD : Fun K "_law_draw" "_law_draw" sDraw fD fdD) (gD : mg "_law_draw" = some (.ref fD)) (bD : Binds K fdD ["_law_well_here", "_law_many"] []) :
    FnOk P w K mg base CX0 2 f fd ["_law_well_here", "_law_some"] spOne := by
  have GD : FnOk P w K mg base CX0 1 fD fdD ["_law_well_here", "_law_many"] spDraw := ok_draw FD T
  refine F.ok scOne (fun vs H Q E h => ?_) (fun cdv A outer s H vs Q E hr h => ?_)
  · obtain ⟨a, l, n, xs, rfl, _⟩ := h
    rfl
  · obtain ⟨a, l, n, xs, rfl, hw, hn, hl, hla, h1, h2, k⟩ := h
    refine ⟨_, pss_one (ps_ret (pe_ix ix_list (pv 1) (pe_call GD hr rfl gD FD.kp bD .nil pass0 (pa_cons (pv 0) (pa_cons (pe_callB call_len_seq (by rfl) T.len PySem.boot_len (pa_cons (pv 1) pa_nil)) pa_nil))) (fun _ _ => rfl))), ?_⟩
    refine ⟨_, rfl, _, rfl, _, rfl, l, xs, rfl, .inl (.of hl), a, _, n, rfl, hw, hn, by omega, by omega, fun d H' hd hd2 hw' hk => ?_⟩
    obtain ⟨j, rfl⟩ : ∃ j : Nat, d = (j : Int) := ⟨d.toNat, by omega⟩
    have hj : j < xs.length := by omega
    refine ⟨l, xs, _, xs[j], rfl, rfl, .of (hk l _ hl hla), atI_nat (List.getElem?_eq_getElem hj), ?_⟩
    exact k _ _ (List.getElem_mem hj) hw' hk
end
end T10

set_option Elab.async false
set_option linter.all false
set_option maxRecDepth 100000
set_option maxHeartbeats 4000000
namespace L2
open PySem EK
theorem alloc {H : Hp} {p : Addr} {o : HO} (hp : H p = none) : ∃ H1, upd H p o = H1 ∧ Same H H1 ∧ H1 p = some o :=
  ⟨_, rfl, fun b u e => by rw [upd_ne (ne_of_none e hp)]; exact e, upd_same⟩
/-- an error of the class at C stands at a, its one value v -/
def ErrAt (H : Hp) (a d C : Addr) (f : Str) (v : V) : Prop := H a = some (exo a C (some d)) ∧ H d = some (exd d [(f, v)])
theorem ErrAt.keep {H H' : Hp} {a d C : Addr} {f : Str} {v : V} (e : ErrAt H a d C f v) (s : Same H H') : ErrAt H' a d C f v := ⟨s _ _ e.1, s _ _ e.2⟩
theorem alloc_err {H : Hp} {a d C : Addr} {f : Str} {v : V} (ha : H a = none) (hd : H d = none) (hne : d ≠ a) : ∃ H1, upd (upd H d (exd d [(f, v)])) a (exo a C (some d)) = H1 ∧ Same H H1 ∧ ErrAt H1 a d C f v :=
  ⟨_, rfl, fun b u e => by rw [upd_ne (ne_of_none e ha), upd_ne (ne_of_none e hd)]; exact e, upd_same, by rw [upd_ne hne, upd_same]⟩
theorem look1 (f : Str) (v : V) : List.lookup f [(f, v)] = some v := by rw [lookup_put, if_pos rfl]
theorem _root_.EK.ErrTxt.xf {P : Program} {K : PySem.W.Frag} {mg : Str → Option Value} {x f : Str} {C fI : Addr} (T : ErrTxt P K mg x f C fI) : XfC K C := ⟨T.ga, T.gg, T.exC, T.hdC⟩
end L2

set_option Elab.async false
set_option linter.all false
set_option maxRecDepth 100000
set_option maxHeartbeats 4000000
/-! RaiseKit: an error raised; several clauses, with and without names; what a lambda handed over says. -/
namespace L2
open PySem PySem.Spec PyProof.Rows EK
section
variable {X : Cx} {C fI : Addr} {x f : Str}
/-- x(e), made to be raised: its own dict, new, holds the value -/
def tErrMk (C : Addr) (f : Str) (ta : TA) : St → Hp → XK → Prop := fun σ H Q => ta σ H fun vs H1 => ∃ v, vs = [v] ∧ ∀ d, H1 d = none → Q (.ref C) (some d) (upd H1 d (.xd [(f, v)]))
theorem pmk_err {a : Expr} {ta : TA} {p pos : Pos} {k : Nat} (T : ErrTxt X.prog X.K X.mg x f C fI) (hr : Room k X.A) (ha : PA X [a] ta) (hg : Gl X x) (hd : (x == ("__debug__" : Str)) = false := by decide)
    (he : starEach (a :: []) X.env = (false, eval a X.env) :: starEach [] X.env := by rfl) (hpl : (backTo pos (starEach [] X.env)).any (·.1) = false := by rfl) :
    PMk X (.Call (.Name x p) [a] [] pos) (tErrMk C f ta) := by
  intro pins s σ H Q I h
  refine wpAny_Call_Name_kw (ld_glob I hg T.gC ?_ hd)
  refine PySem.W.callWith_K (h₀ := X.base) I.ok.mod.kin T.kC (thn (ha.run pos pins s σ H _ I h) fun us s1 hh => ?_) he hpl
  obtain ⟨vs, H1, I1, r1, v, ev, q1⟩ := hh
  subst ev
  refine ⟨I1.kIn, ?_⟩
  cases r1 with
  | cons rv rn =>
    rename_i v' us'
    cases rn
    show wpAny _ _ (call (.ref C) [v']) _ _ _
    have hlim := I1.nolimit
    obtain ⟨hp, g, dr, tk, os⟩ := s1
    obtain ⟨mb, hb1, hb2⟩ := I1.mod.blt
    refine wpAny_call (err_made T I1.kIn hlim (I1.mod.glob.keeps I1.bk) ⟨mb, hb1.keeps I1.bk, hb2⟩ (by have := hr.dp; omega) fun h' tk' e d M => ?_)
    show MkP X pins σ Q (.ref e) ⟨h', g, dr, tk', os⟩
    obtain ⟨t1, hoe⟩ := M.obj
    obtain ⟨G, g1, g2⟩ := restrict h' fun b => decide (b ≠ e)
    have gk : ∀ b, b ≠ e → G.get? b = h'.get? b := fun b hb => g1 b (decide_eq_true hb)
    have ge : G.get? e = none := g2 e (by simp)
    have gs : ∀ b o, G.get? b = some o → h'.get? b = some o := fun b o q => by
      by_cases hbe : b = e
      · rw [hbe, ge] at q
        cases q
      · exact (gk b hbe).symm.trans q
    have old : ∀ b o, hp.get? b = some o → G.get? b = some o := fun b o q => (gk b (Nat.ne_of_lt (Nat.lt_of_lt_of_le (Heap.lt_size q) M.new))).trans (M.keep b o q)
    have ob : ObjOk X.prog X.w (upd H1 d (.xd [(f, v)])) G d (.xd [(f, v)]) := ⟨_, M.ns.at (fun o q => (gk d M.dne).trans q), relO_one rv⟩
    have J : Inv X pins σ (upd H1 d (.xd [(f, v)])) ⟨G, g, dr, tk', os⟩ := I1.laid (t' := tk') old M.dbig ob
    have ne : (upd H1 d (.xd [(f, v)])) e = none := by
      rw [upd_ne (Ne.symm M.dne)]
      exact I1.hok.fresh M.new
    exact ⟨e, _, _, ⟨G, g, dr, tk', os⟩, _, .ref C, some d, rfl, J, gs, ge, hoe, ⟨rfl, rfl⟩, rfl, rfl, ne, rfl, I1.bare, raises_own T.exC T.tyC, q1 d (I1.hok.fresh M.dbig)⟩
theorem ps_raiseErr {a : Expr} {ta : TA} {W : WX} {p pos pos2 : Pos} {k : Nat} (hc : X.calm = true) (T : ErrTxt X.prog X.K X.mg x f C fI) (hr : Room k X.A) (tk : Takes X W) (ha : PA X [a] ta) (hg : Gl X x) (hd : (x == ("__debug__" : Str)) = false := by decide)
    (he : starEach (a :: []) X.env = (false, eval a X.env) :: starEach [] X.env := by rfl) (hpl : (backTo pos (starEach [] X.env)).any (·.1) = false := by rfl) :
    PS X (.Raise (some (.Call (.Name x p) [a] [] pos)) none pos2) (fun _ σ H => tErrMk C f ta σ H fun cls d H' => W cls d σ H') := ps_raise hc tk (pmk_err T hr ha hg hd he hpl)
end
/-! ### try with several clauses -/
structure Cl where
  c : Value
  i : Option Nat
  ts : Addr → Value → Option Addr → TS
def Ends.drop (D : Ends) (i : Nat) : Ends := { nx := fun s h => D.nx (s.set i none) h, rt := D.rt, bk := fun s h => D.bk (s.set i none) h, ct := fun s h => D.ct (s.set i none) h }
def Cl.run (k : Cl) (a : Addr) (cls : Value) (d : Option Addr) : TS := fun D σ H => match k.i with
  | none => k.ts a cls d D σ H
  | some i => i < σ.length → k.ts a cls d (D.drop i) (σ.set i (some (.ref a))) H
def wCl (K : PySem.W.Frag) (Wout : WX) (D : Ends) : List Cl → WX
  | [] => Wout
  | k :: r => fun cls d σ H => ∃ b, PySem.W.exmOne K cls k.c = some b ∧ (b = true → ∀ a, H a = none → k.run a cls d D σ H) ∧ (b = false → wCl K Wout D r cls d σ H)
inductive ClOk (X : Cx) : List ExceptHandler → List Cl → Prop
  | nil : ClOk X [] []
  | un {x : Str} {c : Value} {ts : Addr → Value → Option Addr → TS} {b1 : Stmt} {suite : List Stmt} {np pos' : Pos} {hds : List ExceptHandler} {l : List Cl} (hc : Names X x c)
      (hsu : ∀ (a : Addr) (oe : Obj) (cls : Value) (d : Option Addr) (pn : List (Addr × Obj)), Zc cls d oe → (∃ vs, oe.data = .fields vs) → PSs (X.suite a ((a, oe) :: pn)) (b1 :: suite) (ts a cls d)) (r : ClOk X hds l) :
      ClOk X (.ExceptHandler (some (.Name x np)) none (b1 :: suite) pos' :: hds) (⟨c, none, ts⟩ :: l)
  | as {x n : Str} {i : Nat} {c : Value} {ts : Addr → Value → Option Addr → TS} {b1 : Stmt} {suite : List Stmt} {np pos' : Pos} {hds : List ExceptHandler} {l : List Cl} (hi : X.N[i]? = some n) (hln : X.env.kindOf n = some .local) (hc : Names X x c)
      (hsu : ∀ (a : Addr) (oe : Obj) (cls : Value) (d : Option Addr) (pn : List (Addr × Obj)), Zc cls d oe → (∃ vs, oe.data = .fields vs) → PSs (X.suite a ((a, oe) :: pn)) (b1 :: suite) (ts a cls d)) (r : ClOk X hds l) :
      ClOk X (.ExceptHandler (some (.Name x np)) (some n) (b1 :: suite) pos' :: hds) (⟨c, some i, ts⟩ :: l)
section
variable {X : Cx} {body : List Stmt} {hd0 : ExceptHandler} {hds : List ExceptHandler} {l : List Cl} {pos : Pos} {tb : WX → TS} {Wout : WX} {pins : List (Addr × Obj)} {s : Shared} {D : Ends}
/-- behind a suite: its end, the name gone -/
theorem sp_unsuite {a : Addr} {q : Addr × Obj} {f : Flow} (ok : X.Ok) (h : SP (X.suite a (q :: (X.pn ++ pins))) [] D f s) : SP X pins D f s := by
  cases f with
  | next =>
    obtain ⟨t, h1, J, z⟩ := h
    exact ⟨t, h1, J.unsuite ok, z⟩
  | brk =>
    obtain ⟨t, h1, J, z⟩ := h
    exact ⟨t, h1, J.unsuite ok, z⟩
  | cont =>
    obtain ⟨t, h1, J, z⟩ := h
    exact ⟨t, h1, J.unsuite ok, z⟩
  | ret u =>
    obtain ⟨v, t, h1, J, r, z⟩ := h
    exact ⟨v, t, h1, J.unsuite ok, r, z⟩
theorem sp_gone {n : Str} {i : Nat} {f : Flow} {pos' : Pos} (hN : X.N.Nodup) (hi : X.N[i]? = some n) (hln : X.env.kindOf n = some .local) (h : SP X pins (D.drop i) f s) :
    wpAny (model X.prog X.w) X.A (do bindName X.env n .none; unbindBehindTheSuite X.env n pos') (fun _ s7 => SP X pins D f s7) X.xe s := by
  cases f with
  | next =>
    obtain ⟨t, h1, J, z⟩ := h
    exact gone_ok J hN hi hln fun s7 J7 => ⟨_, _, J7, z⟩
  | brk =>
    obtain ⟨t, h1, J, z⟩ := h
    exact gone_ok J hN hi hln fun s7 J7 => ⟨_, _, J7, z⟩
  | cont =>
    obtain ⟨t, h1, J, z⟩ := h
    exact gone_ok J hN hi hln fun s7 J7 => ⟨_, _, J7, z⟩
  | ret u =>
    obtain ⟨v, t, h1, J, r, z⟩ := h
    exact gone_ok J hN hi hln fun s7 J7 => ⟨_, _, _, J7, r, z⟩
theorem names_ld {a : Addr} {oe : Obj} {pn : List (Addr × Obj)} {σ : St} {H : Hp} {x : Str} {c : Value} {np : Pos} (S : Inv (X.suite a ((a, oe) :: pn)) [] σ H s) (hc : Names X x c) {Q : Value → Shared → Prop} {E : Value → Shared → Prop} (q : Q c s) :
    wpAny (model X.prog X.w) (X.A.mark (some (.ref a))) (eval (.Name x np) X.env) Q E s := by
  obtain ⟨h1, h2, h3⟩ := hc
  rcases h3 with h3 | ⟨h3, h4, h5⟩
  · exact ld_glob (X := X.suite a ((a, oe) :: pn)) S h1 h3 q h2
  · exact ld_blt (X := X.suite a ((a, oe) :: pn)) S h1 h3 h4 q h5 h2
theorem ps_tryC (hs : X.stack = X.env :: X.outer) (hf : X.env.frame = some X.env.locals) (hN : X.N.Nodup) (tk : Takes X Wout)
    (hb : ∀ (W : WX) (pn : List (Addr × Obj)) (xe : Value → Shared → Prop), Takes (X.tr pn xe) W → PassesOwn (model X.prog X.w) X.A X.env xe → PSs (X.tr pn xe) body (tb W))
    (hh : ClOk X (hd0 :: hds) l) : PS X (.Try body (hd0 :: hds) [] [] pos) (fun D σ H => tb (wCl X.K Wout D l) D σ H) := by
  refine ⟨fun pins s σ H D I h => ?_⟩
  have ok := I.ok
  have hfr : X.A.frames = some (X.env :: X.outer) := ok.frames.trans (congrArg some hs)
  refine wpAny_Try_except (wpAny_mono ((hb (wCl X.K Wout D l) (X.pn ++ pins) _ (fun u s' xx => ?_) PassesOwn.looking).run [] s σ H D (I.toTry _) h) (fun fl s1 hsp => ?_) fun e s1 he => he)
  · -- an exception has come
    obtain ⟨a, B, sI, pins', σ', H', cls, d, rfl, J0, nb, up, sky, na, os, ag, w⟩ := xx
    have J : Inv X pins σ' H' sI := J0.ofTry ok
    rw [hs] at sky
    show wpAny (model X.prog X.w) X.A (noteFrame (.ref a) X.env) _ _ _
    refine Sky.land Zc.steady hfr hf sky fun h3 fl3 up3 => ?_
    have J3 : Inv X pins σ' H' { s' with heap := h3 } := J.landed nb fl3.1 (up.trans up3) os ag
    obtain ⟨oe3, vs3, he3, hz3, hd3⟩ := fl3.there
    have ff := fl3.2.2.1
    have away : ∀ b ∈ frs (X.env :: X.outer), a ≠ b := fun b hm z => by
      obtain ⟨_, o', e', hnf⟩ := ff.mem hm
      rw [← z, he3] at e'
      cases e'
      exact hnf _ hd3
    have nL : a ≠ X.env.locals := away _ (List.mem_filterMap.mpr ⟨X.env, List.mem_cons_self, hf⟩)
    have nF : a ∉ X.fs := fun hm => by
      obtain ⟨e, he, q⟩ := List.mem_filterMap.mp hm
      exact away a (List.mem_filterMap.mpr ⟨e, List.mem_cons_of_mem _ he, q⟩) rfl
    have S3 := J3.suite he3 hd3 na nL nF
    have LT : PySem.W.Looks (model X.prog X.w) h3 (typeOf (.ref a)) cls := fun A Q E s k q => wpAny_typeOf_ref (k _ _ he3) (by rw [hz3.1]; exact q)
    have test : ∀ {x : Str} {c : Value} {np : Pos}, Names X x c → ∀ {Q : Value → Shared → Prop} {E : Value → Shared → Prop}, Q c { s' with heap := h3 } → wpAny (model X.prog X.w) (X.A.mark (some (.ref a))) (eval (.Name x np) X.env) Q E { s' with heap := h3 } := fun hc => names_ld S3 hc
    have go : ∀ {hs2 : List ExceptHandler} {l2 : List Cl}, ClOk X hs2 l2 → wCl X.K Wout D l2 cls d σ' H' →
        wpAny (model X.prog X.w) X.A (handleBy (.ref a) X.env hs2) (SP X pins D) X.xe { s' with heap := h3 } := by
      intro hs2 l2 hk
      induction hk with
      | nil =>
        intro w
        refine wpAny_handleBy_nil ?_
        obtain ⟨_, _, _, oe, vs, T, oT, ts', he, hz, hd, h1, hr⟩ := id fl3
        unfold PySem.passOn
        refine wpAny_bind (wpAny_field he hd h1 ?_)
        rw [if_neg (show ¬ ((Value.ref T == Value.none) = true) from by simp)]
        have fin : wpAny (model X.prog X.w) X.A (setFlight (.ref a) X.env.frame) (fun _ s4 => wpAny (model X.prog X.w) X.A (throw (.ref a) : Sem Flow) (SP X pins D) X.xe s4) X.xe { s' with heap := h3 } := by
          rw [hf]
          exact HandSPX.setFlight_upZ fl3 fun h4 hh4 up4 => wpAny_throw (tk _ _ ⟨a, B, sI, pins, σ', H', cls, d, rfl, J, nb, (up.trans up3).trans up4, .inr (.inr (by rw [hs]; exact hh4)), na, os, ag, w⟩)
        first
          | exact wpAny_bind (wpAny_pure (wpAny_bind fin))
          | exact wpAny_bind fin
      | @un x c ts b1 suite np pos' hds2 l2 hc hsu r ih =>
        intro ⟨b, hb1, hyes, hno⟩
        refine wpAny_handleBy_cons (codeAny_handlers_test (test hc ((PySem.W.exm_one (M := model X.prog X.w) J3.kIn LT hb1).here ?_))) (by intro q; cases q)
        cases b with
        | false => exact ih (hno rfl)
        | true =>
          refine codeAny_handlers_suite (HandSPX.lands_againZ fl3 fun h4 fl4 up4 => ?_)
          have J4 : Inv X pins σ' H' { s' with heap := h4 } := J.landed nb fl4.1 ((up.trans up3).trans up4) os ag
          obtain ⟨oe4, vs4, he4, hz4, hd4⟩ := fl4.there
          exact wpAny_mono ((hsu a oe4 cls d (X.pn ++ pins) hz4 ⟨_, hd4⟩).run [] _ _ H' _ (J4.suite he4 hd4 na nL nF) (hyes rfl a na)) (fun f s6 hsp => sp_unsuite ok hsp) (fun _ _ z => False.elim z)
      | @as x n i c ts b1 suite np pos' hds2 l2 hi hln hc hsu r ih =>
        intro ⟨b, hb1, hyes, hno⟩
        refine wpAny_handleBy_cons (codeAny_handlers_test (test hc ((PySem.W.exm_one (M := model X.prog X.w) J3.kIn LT hb1).here ?_))) (by intro q; cases q)
        cases b with
        | false => exact ih (hno rfl)
        | true =>
          refine codeAny_handlers_suite_as (HandSPX.lands_againZ fl3 fun h4 fl4 up4 => ?_)
          have J4 : Inv X pins σ' H' { s' with heap := h4 } := J.landed nb fl4.1 ((up.trans up3).trans up4) os ag
          obtain ⟨oe4, vs4, he4, hz4, hd4⟩ := fl4.there
          refine store_ok (X := X.suite a ((a, oe4) :: (X.pn ++ pins))) (v := .ref a) (J4.suite he4 hd4 na nL nF) hN hi (.inl hln) rfl (fun s5 S5 => ?_) (.inr hln)
          have hil : i < σ'.length := by rw [J.len]; exact (List.getElem?_eq_some_iff.mp hi).1
          exact wpAny_mono ((hsu a oe4 cls d (X.pn ++ pins) hz4 ⟨_, hd4⟩).run [] s5 _ H' _ S5 (hyes rfl a na hil)) (fun f s6 hsp => sp_gone hN hi hln (sp_unsuite ok hsp)) (fun _ _ z => False.elim z)
    exact go hh w
  · cases fl with
    | next =>
      obtain ⟨t, h1, J', q⟩ := hsp
      exact wpAny_execs_nil ⟨t, h1, J'.ofTry ok, q⟩
    | brk =>
      obtain ⟨t, h1, J', q⟩ := hsp
      exact ⟨t, h1, J'.ofTry ok, q⟩
    | cont =>
      obtain ⟨t, h1, J', q⟩ := hsp
      exact ⟨t, h1, J'.ofTry ok, q⟩
    | ret u =>
      obtain ⟨v, t, h1, J', r, q⟩ := hsp
      exact ⟨v, t, h1, J'.ofTry ok, r, q⟩
end
end L2

set_option Elab.async false
set_option linter.all false
set_option maxRecDepth 100000
set_option maxHeartbeats 4000000
/-! SaidKit: what a lambda handed over tells, or which of two errors it raises, as a pair. -/
namespace L2
open PySem PySem.Spec PyProof.Rows EK LamX
/-- an error of cls with its dict d: of the class at C, its one value told as (m, value) -/
def errTold (C : Addr) (f m : Str) (Q : VK) : XK := fun cls d H => cls = .ref C ∧ ∃ (dd : Addr) (v : V), d = some dd ∧ H dd = some (.xd [(f, v)]) ∧ ∀ p, H p = none → Q (.ref p) (upd H p (.tup [.str m, v]))
def wSaid (K : PySem.W.Frag) (C1 C2 : Addr) (f1 f2 m1 m2 : Str) (Q : VK) : XK := fun cls d H => ∃ b1, PySem.W.exmOne K cls (.ref C1) = some b1 ∧ (b1 = true → errTold C1 f1 m1 Q cls d H) ∧
  (b1 = false → ∃ b2, PySem.W.exmOne K cls (.ref C2) = some b2 ∧ (b2 = true → errTold C2 f2 m2 Q cls d H) ∧ (b2 = false → False))
def TSaid (K : PySem.W.Frag) (C1 C2 : Addr) (f1 f2 m1 m2 : Str) : (XK → Hp → VK → Prop) → Hp → VK → Prop := fun tl H Q =>
  tl (wSaid K C1 C2 f1 f2 m1 m2 Q) H fun v H1 => [V.str "told", v].length ≤ sizeLine ∧ ∀ p, H1 p = none → Q (.ref p) (upd H1 p (.tup [.str "told", v]))
theorem said_gives {X : Cx} {Ng : List Str} {x a e1 e2 n1 n2 q f1 f2 m1 m2 : Str} {sg : Scope} {g C1 C2 : Addr} {cdg : Value} {j0 j1 j2 : Nat} {p1 p2 p3 p4 p5 p6 p7 p8 a1 a2 a3 a4 a5 a6 a7 b1 b2 b3 b4 b5 b6 b7 c1 c2 : Pos} {k0 k1 k2 : Nat} {mz : Value}
    (hN : Ng.Nodup) (hn1 : Ng[1]? = some n1) (hl1 : sg.names.lookup n1 = some .local) (hn2 : Ng[1]? = some n2)
    (ge1 : sg.names.lookup e1 = some .globalImplicit) (hm1 : X.mg e1 = some (.ref C1)) (de1 : (e1 == ("__debug__" : Str)) = false)
    (ge2 : sg.names.lookup e2 = some .globalImplicit) (hm2 : X.mg e2 = some (.ref C2)) (de2 : (e2 == ("__debug__" : Str)) = false)
    (T1 : XfC X.K C1) (T2 : XfC X.K C2) (no1 : PySem.W.findIn X.K (.ref C1) f1 = some none) (no2 : PySem.W.findIn X.K (.ref C2) f2 = some none) (dn : (n1 == ("__debug__" : Str)) = false) (cn : (n1 == ("__classdict__" : Str)) = false) (sk : sg.kind = .function)
    (h0 : ∀ f : Addr, (L2.start Ng [V.ref f])[0]? = some (some (V.ref f))) (hz1 : ∀ f : Addr, (L2.start Ng [V.ref f])[1]? = some none) :
    GivesTo X Ng x sg g cdg [.Try [.Return (some (.Tuple [.Constant (.str "told") j0 p1, .Call (.Name a p2) [] [] p3] k0 p4)) p5]
      [.ExceptHandler (some (.Name e1 a1)) (some n1) [.Return (some (.Tuple [.Constant (.str m1) j1 a2, .Attribute (.Name n1 a3) f1 a4] k1 a5)) a6] a7,
       .ExceptHandler (some (.Name e2 b1)) (some n2) [.Return (some (.Tuple [.Constant (.str m2) j2 b2, .Attribute (.Name n2 b3) f2 b4] k2 b5)) b6] b7] [] [] p8] a q (TSaid X.K C1 C2 f1 f2 m1 m2) := by
  obtain rfl : n1 = n2 := Option.some.inj (hn1.symm.trans hn2)
  intro f c' s H Q tl act hc h
  have hlen : 1 < (L2.start Ng [V.ref f]).length := by
    have z := hz1 f
    exact (List.getElem?_eq_some_iff.mp z).1
  have gl1 : Gl (cxOf C8.CX0 X.prog X.w X.K X.mg X.base Ng x sg g cdg X.A X.stack s H C8.E0).nox e1 := ge1
  have gl2 : Gl (cxOf C8.CX0 X.prog X.w X.K X.mg X.base Ng x sg g cdg X.A X.stack s H C8.E0).nox e2 := ge2
  refine ⟨_, pss_one (ps_tryC (X := (cxOf C8.CX0 X.prog X.w X.K X.mg X.base Ng x sg g cdg X.A X.stack s H C8.E0).nox)
      (tb := fun W D σ H => ∃ Ech : XK, (∀ cls d σ' H', Ech cls d H' → W cls d σ' H') ∧ σ[0]? = some (some (.ref f)) ∧ H c' = some (CodeO c' q) ∧ tl Ech H (fun v H1 => [V.str "told", v].length ≤ sizeLine ∧ ∀ p, H1 p = none → D.rt (.ref p) (upd H1 p (.tup [.str "told", v]))))
      (l := [⟨.ref C1, some 1, fun a cls d => tRet (tTup (tCons (tC (.str m1)) (tCons (tXf a cls d C1 f1 (tVar 1)) tNil)))⟩, ⟨.ref C2, some 1, fun a cls d => tRet (tTup (tCons (tC (.str m2)) (tCons (tXf a cls d C2 f2 (tVar 1)) tNil)))⟩])
      rfl rfl hN takes0 (fun W pn xe tk _ => ?_)
      (ClOk.as hn1 (by show Env.kindOf _ n1 = some NameKind.local; exact hl1) ⟨gl1, de1, .inl hm1⟩ (fun a oe cls d pn hz hf => pss_one (ps_ret (pe_tup (pa_cons pe_str (pa_cons (pe_xf T1 no1 hz hf (pe_var (i := 1) hn1 (Or.inl hl1) dn cn)) pa_nil)))))
        (ClOk.as hn1 (by show Env.kindOf _ n1 = some NameKind.local; exact hl1) ⟨gl2, de2, .inl hm2⟩ (fun a oe cls d pn hz hf => pss_one (ps_ret (pe_tup (pa_cons pe_str (pa_cons (pe_xf T2 no2 hz hf (pe_var (i := 1) hn1 (Or.inl hl1) dn cn)) pa_nil))))) .nil))), ?_⟩
  · refine ⟨fun pins s' σ H' D I h' => ?_⟩
    obtain ⟨Ech, hW, h1, h2, h3⟩ := h'
    have hp := act W pn xe Ech p2 p3 tk hW
    have hq : PSs ((cxOf C8.CX0 X.prog X.w X.K X.mg X.base Ng x sg g cdg X.A X.stack s H C8.E0).tr pn xe) [.Return (some (.Tuple [.Constant (.str "told") j0 p1, .Call (.Name a p2) [] [] p3] k0 p4)) p5] _ := pss_one (ps_ret (pe_tup (pa_cons pe_str (pa_cons hp pa_nil))))
    exact hq.run pins s' σ H' D I ⟨h1, h2, h3⟩
  · have hset : ∀ (σ : L2.St) (y : V), 1 < σ.length → (σ.set 1 (some y))[1]? = some (some y) := fun σ y h => by rw [List.getElem?_set_self h]
    have two : ∀ x y : V, [x, y].length ≤ sizeLine := fun x y => by show 2 ≤ sizeLine; decide
    refine ⟨wSaid X.K C1 C2 f1 f2 m1 m2 Q, fun cls d σ' H' ⟨b1, e1, y1, z1⟩ => ⟨b1, e1, fun hb a ha hl => ?_, fun hb => ?_⟩, h0 f, hc, h⟩
    · obtain ⟨ec, dd, v, ed, hd, q⟩ := y1 hb
      exact ⟨_, hset _ _ hl, rfl, ec, dd, _, v, ed, hd, look1 _ _, two _ _, q⟩
    · obtain ⟨b2, e2, y2, z2⟩ := z1 hb
      refine ⟨b2, e2, fun hb2 a ha hl => ?_, fun hb2 => z2 hb2⟩
      obtain ⟨ec, dd, v, ed, hd, q⟩ := y2 hb2
      exact ⟨_, hset _ _ hl, rfl, ec, dd, _, v, ed, hd, look1 _ _, two _ _, q⟩
end L2

set_option Elab.async false
set_option linter.all false
set_option maxRecDepth 100000
set_option maxHeartbeats 4000000
/-! SayKit: isinstance of the error that a suite holds; a call of what a slot holds, one of several defs; a said: try: a() / except .. / return word. -/
namespace L2
open PySem PySem.Spec PyProof.Rows EK LamX
def rIsX (K : PySem.W.Frag) (a : Addr) (cls : Value) (d : Option Addr) : List V → Hp → VK → Prop := fun xs H Q => ∃ (C dd : Addr) (fs : List (Str × V)) (c : V) (u : Value) (b : Bool), xs = [.ref a, c] ∧ cls = .ref C ∧ d = some dd ∧ H dd = some (.xd fs) ∧ ExcC K C ∧ ClsV c u ∧ PySem.W.kitOne K (.ref C) u = some b ∧ Q (.bl b) H
theorem call_isX {X : Cx} {a : Addr} {oe : Obj} {cls : Value} {d : Option Addr} {pn : List (Addr × Obj)} (hz : Zc cls d oe) (hf : ∃ vs, oe.data = .fields vs) : CallR (X.suite a ((a, oe) :: pn)) (.builtin "isinstance") (rIsX X.K a cls d) := by
  intro pins s σ H xs us Q I r h
  obtain ⟨C, dd, fs, c, u, b, rfl, rfl, rfl, ed, T, k, e, q⟩ := h
  obtain ⟨u1, u2, rfl, r1, r2⟩ := vals2 r
  have e2 := k.eq r2
  subst e2
  cases r1
  obtain ⟨ha, _⟩ := I.pin (a, oe) (List.mem_append_left _ List.mem_cons_self)
  obtain ⟨vs, hd⟩ := hf
  have hcl : (PySem.W.clsIn X.K C).isSome = true := by
    obtain ⟨cd, hc, _⟩ := PySem.W.any_some T.hd
    rw [hc]
    rfl
  have hx : ObjOk X.prog X.w H s.heap dd (.xd fs) := I.hok dd _ ed
  obtain ⟨mA, ⟨od, es, ep, ho, hr⟩, _⟩ := hx
  have J : PySem.W.InstAt s.heap a oe C (some od) := ⟨ha, hz.1, by unfold PySem.W.notCls; rw [hd] <;> rfl, by rw [hz.2]; exact ho⟩
  exact PySem.W.kia_one (PySem.W.kitx_exc (od := some od) hcl T.hg T.hk T.hs T.ha T.hn T.ht T.hm) I.kIn J e (fun z => nomatch z) fun tk => ⟨.bl b, H, I.tok tk, rfl, q⟩
/-- x(..), x a slot that holds one of several defs of one promise -/
def tCallF (i : Nat) (fs : List Addr) (sp : Sp) (E : XK) (t : TA) : TE := fun σ H Q => ∃ f ∈ fs, σ[i]? = some (some (.ref f)) ∧ t σ H fun vs H1 => sp vs H1 Q E
section
variable {X : Cx} {CX : CXT} {k i : Nat} {sp : Sp} {E : XK} {x : Str} {p pos : Pos} {e : Expr} {es : List Expr} {t : TA}
theorem pe_callF {fs : List Addr} (F : ∀ f ∈ fs, ∃ (fd : FuncData) (ps : List Str), FnOk X.prog X.w X.K X.mg X.base CX k f fd ps sp ∧ PySem.W.keepIn X.K (.ref f) = true ∧ Binds X.K fd ps []) (hr : Room k X.A) (hN : X.N[i]? = some x) (hv : Vis X.env.scope x) (hx : Passes CX X E) (ha : PA X (e :: es) t)
    (hdb : (x == ("__debug__" : Str)) = false := by decide) (hcd : (x == ("__classdict__" : Str)) = false := by decide)
    (he : starEach (e :: es) X.env = (false, eval e X.env) :: starEach es X.env := by rfl) (hpl : (backTo pos (starEach es X.env)).any (·.1) = false := by rfl) : PE X (.Call (.Name x p) (e :: es) [] pos) (tCallF i fs sp E t) := by
  refine ⟨fun pins s σ H Q I h => ?_⟩
  obtain ⟨f, hf, hs, ht⟩ := h
  obtain ⟨fd, ps, G, hk, hb⟩ := F f hf
  refine (pe_callL (i := i) (f := f) (sp := sp) (dvs := []) (E := E) G hr hN hv hk hb .nil hx ha hdb hcd he hpl).run pins s σ H Q I ⟨hs, ?_⟩
  have e0 : (fun (vs : List V) (H1 : Hp) => sp (vs ++ []) H1 Q E) = fun vs H1 => sp vs H1 Q E := by
    funext vs H1
    rw [List.append_nil]
  show t σ H (fun vs H1 => sp (vs ++ []) H1 Q E)
  rw [e0]
  exact ht
end
theorem ite_yes {b : Bool} {P R : Prop} (h : b = true) (p : P) : if b = true then P else R := by rw [if_pos h]; exact p
/-- an error of the class at C, its one value told as [m, value] -/
def errL (C : Addr) (f m : Str) (Q : VK) : XK := fun cls d H => cls = .ref C ∧ ∃ (dd : Addr) (v : V), d = some dd ∧ H dd = some (.xd [(f, v)]) ∧ ∀ p, H p = none → Q (.ref p) (upd H p (.lst [.str m, v]))
/-- the clause: what it makes of the error it catches -/
def ClGives (X : Cx) (C : Addr) (suite : List Stmt) (R : VK → XK) : Prop := ∃ ts : Addr → Value → Option Addr → TS,
  (∀ (a : Addr) (oe : Obj) (cls : Value) (d : Option Addr) (pn : List (Addr × Obj)), Zc cls d oe → (∃ vs, oe.data = .fields vs) → PSs (X.suite a ((a, oe) :: pn)) suite (ts a cls d)) ∧
  ∀ (a : Addr) (cls : Value) (d : Option Addr) (D : Ends) (σ : St) (H : Hp), 2 < σ.length → H a = none → R D.rt cls d H → ts a cls d (D.drop 1) (σ.set 1 (some (.ref a))) H
end L2

set_option Elab.async false
set_option linter.all false
set_option maxRecDepth 100000
set_option maxHeartbeats 4000000
/-! ValKit: d.values(), sum and list of it; math.comb. -/
namespace L2
open PySem PySem.Spec PyProof.Rows
section
variable {X : Cx}
abbrev vwO (p d : Addr) : HO := viewO "dict_values" p d
def rVals : V → List V → Hp → VK → Prop := fun x xs H Q => ∃ (a : Addr) (kvs : List (Key × V)), x = .ref a ∧ xs = [] ∧ H a = some (.dK kvs) ∧ ∀ p, H p = none → Q (.ref p) (upd H p (vwO p a))
theorem mt_values : MtR X "dict.values" rVals := by
  intro pins s σ H x xs v us Q I rx rxs h
  obtain ⟨a, kvs, rfl, rfl, ha, q⟩ := h
  cases rx
  cases rxs
  obtain ⟨_, hsys, vs, rel, dof⟩ := dk_of I.hok ha
  refine call_meetsIn F.slot_dict_values dof.typeIs F.entry_dict_values (F.args_dict_values_1 _) (meets_dict_values (mixKind X.prog X.w) a hsys) ⟨⟨vs, dof⟩, ?_⟩
  exact ⟨.ref s.heap.objs.size, upd H s.heap.objs.size (vwO s.heap.objs.size a), I.laid (t' := s.toks) (fun b u e => Heap.get?_push_of_some _ e) (Nat.le_refl _) (viewO_ok (Heap.get?_push_size _ rfl)), rfl, q _ (I.hok.fresh (Nat.le_refl _))⟩
theorem preSum_ints (ns : List Int) : ∀ j, preSum (fun i => ns.getD i 0) j = (ns.take j).sum := by
  intro j
  induction j with
  | zero => simp [preSum]
  | succ j ih =>
    rw [preSum, ih]
    by_cases h : j < ns.length
    · rw [List.getD_eq_getElem?_getD, List.getElem?_eq_getElem h, List.take_succ_eq_append_getElem h, List.sum_append]
      simp only [Option.getD_some, List.sum_cons, List.sum_nil, Int.add_zero]
    · rw [List.take_of_length_le (by omega), List.take_of_length_le (by omega), List.getD_eq_getElem?_getD, List.getElem?_eq_none (by omega)]
      simp
def rSumV : List V → Hp → VK → Prop := fun xs H Q => ∃ (p a : Addr) (kvs : List (Key × V)) (ns : List Int), xs = [.ref p] ∧ H p = some (vwO p a) ∧ H a = some (.dK kvs) ∧ kvs.map (·.2) = ns.map V.int ∧ Q (.int ns.sum) H
theorem cr_sumV (hc : X.calm = true) : CallR X (.builtin "sum") rSumV := by
  intro pins s σ H xs us Q I r h
  obtain ⟨p, a, kvs, ns, rfl, hp, ha, hv, q⟩ := h
  rw [Vals.ref1 r]
  have vw : s.heap.get? p = some (DSub.viewOb "dict_values" a) := (show ObjOk X.prog X.w H s.heap p (vwO p a) from I.hok p _ hp).1
  obtain ⟨_, hsys, vs, rel, dof⟩ := dk_of I.hok ha
  obtain ⟨ep, dat⟩ := dof.dictAt
  obtain ⟨ob, es, ho, ex, hdat, hko, hpr, hnd⟩ := id dat
  have hlt : a < s.heap.objs.size := Heap.lt_size ho
  have hlv : vs.length = ns.length := by
    have e1 := congrArg List.length hv
    rw [List.length_map, List.length_map] at e1
    rw [← e1]
    exact (KV.length rel).symm
  have hval : ∀ (i : Nat) (v : Value), (∃ k, vs[i]? = some (k, v)) → ∃ t, v = Value.int (ns.getD i 0) t := fun i v ⟨k, hk⟩ => by
    obtain ⟨x, h1, h2⟩ := KV.at' rel hk
    have e1 : (kvs.map (·.2))[i]? = some x := by rw [List.getElem?_map, h1] <;> rfl
    rw [hv, List.getElem?_map] at e1
    obtain ⟨j, hj, e2⟩ := Option.map_eq_some_iff.mp e1
    subst e2
    obtain ⟨t, e3⟩ := h2
    refine ⟨t, ?_⟩
    rw [e3, List.getD_eq_getElem?_getD, hj] <;> rfl
  refine call_sum_walkAnyS (wpAny_pyIter_values (v := p) (d := a) ⟨_, vw, rfl, rfl⟩ dat ?_)
  refine ⟨_, _, _, _, _, _, _, fun i => ns.getD i 0, rfl, (Walks.dictValues (knd := mixKind X.prog X.w) (A := X.A.in1) (I.ok.hd hc) s.heap.objs.size a (Nat.ne_of_lt hlt) vs ep).toS,
    ⟨⟨_, Heap.get?_push_size _ rfl, rfl, rfl⟩, dat.keep fun b u e => Heap.get?_push_of_some _ e⟩, fun b hb => ?_, hval, fun s' t' hm => ?_⟩
  · rcases List.mem_cons.mp hb with e | hb
    · rw [e, Heap.size_push]
      exact Nat.lt_succ_self _
    · rw [List.mem_singleton.mp hb, Heap.size_push]
      exact Nat.lt_succ_of_lt hlt
  · have hk : ∀ b o, s.heap.get? b = some o → s'.heap.get? b = some o := fun b o e =>
      hm.heap b o (fun hI => absurd (Heap.lt_size e) (by rw [List.mem_singleton.mp hI]; exact Nat.lt_irrefl _)) (Heap.get?_push_of_some _ e)
    rw [Moved.eq_with hm]
    refine ⟨.int _, H, I.kept (t' := s'.toks) hk, ⟨t', rfl⟩, ?_⟩
    rw [preSum_ints, hlv, List.take_length]
    exact q
def rListV : List V → Hp → VK → Prop := fun xs H Q => ∃ (p a : Addr) (kvs : List (Key × V)), xs = [.ref p] ∧ H p = some (vwO p a) ∧ H a = some (.dK kvs) ∧ ∀ r, H r = none → Q (.ref r) (upd H r (.lst (kvs.map (·.2))))
theorem vals_at {us : List Value} {xs : List V} (hl : us.length = xs.length) (h : ∀ (i : Nat) (u : Value), us[i]? = some u → ∃ x : V, xs[i]? = some x ∧ RelV x u) : Vals xs us := by
  induction xs generalizing us with
  | nil =>
    cases us with
    | nil => exact .nil
    | cons u us => cases hl
  | cons x xs ih =>
    cases us with
    | nil => cases hl
    | cons u us =>
      obtain ⟨y, e, r⟩ := h 0 u rfl
      cases e
      exact .cons r (ih (by simpa using hl) fun i u hu => by simpa using h (i + 1) u (by simpa using hu))
theorem cr_listV (hc : X.calm = true) : CallR X (.type "list") rListV := by
  intro pins s σ H xs us Q I r h
  obtain ⟨p, a, kvs, rfl, hp, ha, q⟩ := h
  rw [Vals.ref1 r]
  have vw : s.heap.get? p = some (DSub.viewOb "dict_values" a) := (show ObjOk X.prog X.w H s.heap p (vwO p a) from I.hok p _ hp).1
  obtain ⟨hz, hsys, vs, rel, dof⟩ := dk_of I.hok ha
  obtain ⟨ep, dat⟩ := dof.dictAt
  have hl : kvs.length = vs.length := KV.length rel
  refine PySem.W.kdl_call (PySem.W.kdl_values (knd := mixKind X.prog X.w) (kvs := vs) (ep := ep)) (I.ok.hd hc) ⟨⟨_, vw, rfl, rfl⟩, dat⟩ (by omega) fun h' tk acc c hk hS hacc => ?_
  refine ⟨.ref s.heap.objs.size, _, I.laid (t' := tk) (a := s.heap.objs.size) (o := .lst (kvs.map (·.2))) hk (Nat.le_refl _) ⟨by rw [List.length_map]; exact hz, acc.toList, c, vals_at (by rw [Array.length_toList, hacc.1, List.length_map, hl]) fun i u hu => ?_, by rw [Array.toArray_toList]; exact hS⟩, rfl, q _ (I.hok.fresh (Nat.le_refl _))⟩
  obtain ⟨k, e⟩ := hacc.2 i u (by rw [← Array.getElem?_toList]; exact hu)
  obtain ⟨x, h1, h2⟩ := KV.at' rel e
  exact ⟨x, by rw [List.getElem?_map, h1] <;> rfl, h2⟩
def rComb : List V → Hp → VK → Prop := fun vs H Q => ∃ a b : Int, vs = [.int a, .int b] ∧ 0 ≤ a ∧ 0 ≤ b ∧ a < 2 ^ 64 ∧ b ≤ 9000 ∧ Q (.int (PySem.W.mcComb a b)) H
theorem cr_comb : CallR X (.builtin "math.comb") rComb := by
  intro pins s σ H vs us Q I r h
  obtain ⟨a, b, rfl, ha, hb, ha2, hk, q⟩ := h
  obtain ⟨t, u, rfl⟩ := Vals.int2 r
  exact PySem.W.mc_comb ha hb ha2 (.inl hk) fun _ => ⟨.int _, H, I.tok _, ⟨_, rfl⟩, q⟩
end
end L2

set_option Elab.async false
set_option linter.all false
set_option maxRecDepth 100000
set_option maxHeartbeats 4000000
namespace T10
open PySem L2 EK
abbrev sIsText : Stmt := top 6
abbrev sCkText : Stmt := top 8
/-- a thing whose kind is known -/
inductive Pl (H : Hp) : V → Prop
  | non : Pl H .non
  | int (i : Int) : Pl H (.int i)
  | str (z : Str) : Pl H (.str z)
  | bl (b : Bool) : Pl H (.bl b)
  | tup {a : Addr} {xs : List V} (e : H a = some (.tup xs)) : Pl H (.ref a)
  | lst {a : Addr} {xs : List V} (e : H a = some (.lst xs)) : Pl H (.ref a)
  | dct {a : Addr} {kvs : List (Key × V)} (e : H a = some (.dK kvs)) : Pl H (.ref a)
theorem Pl.keep {H H' : Hp} {x : V} (h : Pl H x) (s : Same H H') : Pl H' x := by
  cases h with
  | non => exact .non
  | int i => exact .int i
  | str z => exact .str z
  | bl b => exact .bl b
  | tup e => exact .tup (s _ _ e)
  | lst e => exact .lst (s _ _ e)
  | dct e => exact .dct (s _ _ e)
theorem Pl.keepB {wl : Addr} {H H' : Hp} {x : V} (h : Pl H x) (s : KeepB wl H H') (n : x ≠ .ref wl) : Pl H' x := by
  cases h with
  | non => exact .non
  | int i => exact .int i
  | str z => exact .str z
  | bl b => exact .bl b
  | @tup a xs e => exact .tup (s _ _ e fun z => n (by rw [z]))
  | @lst a xs e => exact .lst (s _ _ e fun z => n (by rw [z]))
  | @dct a xs e => exact .dct (s _ _ e fun z => n (by rw [z]))
def isStrV : V → Bool
  | .str _ => true
  | _ => false
def isIntV : V → Bool
  | .int _ => true
  | .bl _ => true
  | _ => false
def isBlV : V → Bool
  | .bl _ => true
  | _ => false
theorem Pl.isStr {K : PySem.W.Frag} {H : Hp} {x : V} (h : Pl H x) : ∃ t, TyX K H x t ∧ PySem.W.kitOne K t (.type "str") = some (isStrV x) := by
  cases h with
  | non => exact ⟨_, .base .non, kit_ty (r := false) (by decide +kernel)⟩
  | int i => exact ⟨_, .base (.int i), kit_ty (r := false) (by decide +kernel)⟩
  | str z => exact ⟨_, .base (.str z), kit_ty (r := true) (by decide +kernel)⟩
  | bl b => exact ⟨_, .base (.bl b), kit_ty (r := false) (by decide +kernel)⟩
  | tup e => exact ⟨_, .base (.tup e), kit_ty (r := false) (by decide +kernel)⟩
  | lst e => exact ⟨_, .base (.lst e), kit_ty (r := false) (by decide +kernel)⟩
  | dct e => exact ⟨_, .base (.dK e), kit_ty (r := false) (by decide +kernel)⟩
theorem Pl.isInt {K : PySem.W.Frag} {H : Hp} {x : V} (h : Pl H x) : ∃ t, TyX K H x t ∧ PySem.W.kitOne K t (.type "int") = some (isIntV x) := by
  cases h with
  | non => exact ⟨_, .base .non, kit_ty (r := false) (by decide +kernel)⟩
  | int i => exact ⟨_, .base (.int i), kit_ty (r := true) (by decide +kernel)⟩
  | str z => exact ⟨_, .base (.str z), kit_ty (r := false) (by decide +kernel)⟩
  | bl b => exact ⟨_, .base (.bl b), kit_ty (r := true) (by decide +kernel)⟩
  | tup e => exact ⟨_, .base (.tup e), kit_ty (r := false) (by decide +kernel)⟩
  | lst e => exact ⟨_, .base (.lst e), kit_ty (r := false) (by decide +kernel)⟩
  | dct e => exact ⟨_, .base (.dK e), kit_ty (r := false) (by decide +kernel)⟩
theorem Pl.isBl {K : PySem.W.Frag} {H : Hp} {x : V} (h : Pl H x) : ∃ t, TyX K H x t ∧ PySem.W.kitOne K t (.type "bool") = some (isBlV x) := by
  cases h with
  | non => exact ⟨_, .base .non, kit_ty (r := false) (by decide +kernel)⟩
  | int i => exact ⟨_, .base (.int i), kit_ty (r := false) (by decide +kernel)⟩
  | str z => exact ⟨_, .base (.str z), kit_ty (r := false) (by decide +kernel)⟩
  | bl b => exact ⟨_, .base (.bl b), kit_ty (r := true) (by decide +kernel)⟩
  | tup e => exact ⟨_, .base (.tup e), kit_ty (r := false) (by decide +kernel)⟩
  | lst e => exact ⟨_, .base (.lst e), kit_ty (r := false) (by decide +kernel)⟩
  | dct e => exact ⟨_, .base (.dK e), kit_ty (r := false) (by decide +kernel)⟩
def numB (x : V) (m : Int) : Bool := match x with
  | .int i => decide (m ≤ i)
  | _ => false
def letS : Str := "abcdefghijklmnopqrstuvwxyz"
def isT (z : Str) : Bool := z.cps.toList.all fun c => decide (c ∈ letS.cps.toList)
structure TxtC (K : PySem.W.Frag) (mg : Str → Option Value) : Prop where
  isinstance : mg "isinstance" = none
  int : mg "int" = none
  bool : mg "bool" = none
  str : mg "str" = none
  all : mg "all" = none
  letters : ∃ u, mg "LETTERS" = some u ∧ RelV (.str letS) u
def spWhat (g : Str → Bool) : Sp := fun vs H Q _ => ∃ x, vs = [x] ∧ Pl H x ∧ ((∃ z, x = .str z ∧ z.cps.size ≤ 100000 ∧ ∀ H', Same H H' → Q (.bl (g z)) H') ∨ (isStrV x = false ∧ Q (.bl false) H))
def goodT (g : Str → Bool) (x : V) : Prop := ∃ z, x = .str z ∧ z.cps.size ≤ 100000 ∧ g z = true
def badT (g : Str → Bool) (x : V) : Prop := isStrV x = false ∨ ∃ z, x = .str z ∧ z.cps.size ≤ 100000 ∧ g z = false
/-- x is refused: an error of the class at C, x its value under the name f -/
def noX (C : Addr) (f : Str) (H : Hp) (x : V) (E : XK) : Prop := ∀ H' d, Same H H' → H' d = none → E (.ref C) (some d) (upd H' d (.xd [(f, x)]))
theorem noX.keep {C : Addr} {f : Str} {H H1 : Hp} {x : V} {E : XK} (h : noX C f H x E) (s : Same H H1) : noX C f H1 x E := fun H2 d s2 hd => h H2 d (s.trans s2) hd
def spCk (C : Addr) (g : Str → Bool) : Sp := fun vs H Q E => ∃ x, vs = [x] ∧ Pl H x ∧ ((∃ z, x = .str z ∧ z.cps.size ≤ 100000 ∧ g z = true ∧ ∀ H', Same H H' → Q .non H') ∨ (badT g x ∧ noX C "text" H x E))
section
variable {P : Program} {w : World} {K : PySem.W.Frag} {mg : Str → Option Value} {base : Heap} {C iC CN iN : Addr}
theorem scIsText : FnScope ["value", "sign"] ["value"] (defScope sIsText) := ⟨rfl, rfl, rfl, by decide +kernel, rfl, by decide +kernel, by decide +kernel⟩
theorem ok_isText {f : Addr} {fd : FuncData} (F : Fun K "is_text" "is_text" sIsText f fd) (T : TxtC K mg) : FnOk P w K mg base CX0 1 f fd ["value"] (spWhat isT) := by
  refine F.ok scIsText (fun vs H Q E h => ?_) (fun cdv A outer s H vs Q E hr h => ?_)
  · obtain ⟨x, rfl, _⟩ := h
    rfl
  · obtain ⟨x, rfl, hp, k⟩ := h
    have nd := scIsText.nd
    refine ⟨_, (pss_one (ps_ret (pe_and (pe_callB call_isi (by rfl) T.isinstance (by decide +kernel) (pa_cons (pv 0) (pa_cons (pe_bltn (v := .ty "str") rfl T.str (by decide +kernel) rfl) pa_nil))) (pe_one (pe_callB (cr_all rfl) (by rfl) T.all (by decide +kernel) (pa_cons (pe_lc (own := [("sign", 1)]) (g := gName 1) (tt := tYes) rfl nd (pi_str (pv 0)) (blkOk_by (N := ["value", "sign"]) (sc := defScope sIsText) (by decide +kernel)) (fun _ _ _ _ _ => (pg_name (i := 1) nd rfl (Or.inl rfl))) (fun _ _ _ _ _ => pts_nil) (fun _ _ _ _ _ => (pe_cmpR op_in_sign (pv 1) (C8.pe_gc (by rfl) T.letters) (by rfl)))) pa_nil)))))), ?_⟩
    obtain ⟨t, ht, hk⟩ := hp.isStr (K := K)
    rcases k with ⟨z, rfl, hz, k⟩ | ⟨hs, k⟩
    · refine ⟨_, rfl, _, _, _, _, _, rfl, .ty _, ht, hk, _, rfl, _, rfl, z, rfl, fun D hD => lc_it (walk_str (z := z)) (fun i H' => Same H H' ∧ H' D = some (.lst (((z.cps.toList.take i).map fun c => decide (c ∈ letS.cps.toList)).map V.bl))) ⟨fun b o e => by rw [upd_ne (ne_of_none e hD)]; exact e, upd_same⟩ (fun _ _ _ _ => trivial) ?_ ?_⟩
      · rintro i y H1 H2 hi ⟨s1, d1⟩ ⟨rfl, c, hc, rfl⟩
        have hc' : z.cps.toList[i]? = some c := by rw [Array.getElem?_toList]; exact hc
        refine ⟨rfl, ?_⟩
        refine ⟨_, rfl, c, _, rfl, rfl, _, d1, ?_, fun b o e => ?_, ?_⟩
        · rw [List.length_map, List.length_map, List.length_take]
          have hl : z.cps.toList.length = z.cps.size := Array.length_toList
          have : i < 100000 := by omega
          exact Nat.lt_of_le_of_lt (Nat.min_le_left _ _) (Nat.lt_trans this (by decide))
        · rw [upd_ne (ne_of_none e hD)]
          exact s1 _ _ e
        · rw [upd_same, List.take_succ, hc', List.map_append, List.map_append]
          rfl
      · rintro H1 ⟨s1, d1⟩
        rw [← Array.length_toList, List.take_length] at d1
        refine ⟨D, _, rfl, .of d1, ?_⟩
        have e : ((z.cps.toList.map fun c => decide (c ∈ letS.cps.toList)).all id) = isT z := by
          unfold isT
          rw [List.all_map]
          rfl
        rw [e]
        exact k H1 s1
    · rw [hs] at hk
      exact ⟨_, rfl, _, _, _, _, _, rfl, .ty _, ht, hk, _, rfl, k⟩
theorem scCkText : FnScope ["text"] ["text"] (defScope sCkText) := ⟨rfl, rfl, rfl, by decide +kernel, rfl, by decide +kernel, by decide +kernel⟩
theorem ok_CkText {f fU : Addr} {fd fdU : FuncData} (F : Fun K "check_text" "check_text" sCkText f fd) (TX : ErrTxt P K mg "NoText" "text" C iC)
    (GU : FnOk P w K mg base CX0 1 fU fdU ["value"] (spWhat isT)) (gU : mg "is_text" = some (.ref fU)) (kU : PySem.W.keepIn K (.ref fU) = true) (bU : Binds K fdU ["value"] []) :
    FnOk P w K mg base (L2.CX P w) 3 f fd ["text"] (spCk C isT) := by
  refine F.okX scCkText (fun vs H Q E h => ?_) (fun cdv A outer s H vs Q E hr h => ?_)
  · obtain ⟨x, rfl, _⟩ := h
    rfl
  · obtain ⟨x, rfl, hp, k⟩ := h
    have nd := scCkText.nd
    have hr2 : Room 1 _ := hr.mono (by decide)
    refine ⟨_, pss_one (ps_if (pt_not (pt_val (pe_call GU hr2 rfl gU kU bU .nil pass0 (pa_cons (pv 0) pa_nil)))) (pss_one (ps_raiseErr rfl TX hr (takes_of rfl rfl rfl rfl) (pa_cons (pv 0) pa_nil) rfl)) pss_nil), ?_⟩
    rcases k with ⟨z, rfl, hz, hb, k⟩ | ⟨hs | ⟨z, rfl, hz, hb⟩, k⟩
    · exact ⟨_, rfl, _, rfl, hp, .inl ⟨z, rfl, hz, fun H1 s1 => ⟨_, rfl, by rw [hb]; exact k H1 s1⟩⟩⟩
    · exact ⟨_, rfl, _, rfl, hp, .inr ⟨hs, _, rfl, _, rfl, x, rfl, fun d hd => k _ d (.refl _) hd⟩⟩
    · exact ⟨_, rfl, _, rfl, hp, .inl ⟨z, rfl, hz, fun H1 s1 => ⟨_, rfl, by rw [hb]; exact ⟨_, rfl, _, rfl, fun d hd => k _ d s1 hd⟩⟩⟩⟩
end
end T10

set_option Elab.async false
set_option linter.all false
set_option maxRecDepth 100000
set_option maxHeartbeats 4000000
/-! LynMath: words that are less than their other turns, and the parts into which a text falls. -/
namespace Lyn
/-- how a word is less than another one -/
theorem lt_cases {a b : List Nat} (h : a < b) : (∃ y t, b = a ++ y :: t) ∨ ∃ p x y s t, a = p ++ x :: s ∧ b = p ++ y :: t ∧ x < y := by
  induction a generalizing b with
  | nil =>
    cases b with
    | nil => exact absurd h (List.lt_irrefl [])
    | cons y t => exact .inl ⟨y, t, rfl⟩
  | cons c a ih =>
    cases b with
    | nil => exact absurd h (List.not_lt_nil _)
    | cons d b =>
      rcases List.cons_lt_cons_iff.mp h with g | ⟨rfl, g⟩
      · exact .inr ⟨[], c, d, a, b, rfl, rfl, g⟩
      · rcases ih g with ⟨y, t, rfl⟩ | ⟨p, x, y, s, t, rfl, rfl, hxy⟩
        · exact .inl ⟨y, t, rfl⟩
        · exact .inr ⟨c :: p, x, y, s, t, rfl, rfl, hxy⟩
theorem app_lt (p : List Nat) {a b : List Nat} : p ++ a < p ++ b ↔ a < b := by
  induction p with
  | nil => exact Iff.rfl
  | cons c p ih =>
    rw [List.cons_append, List.cons_append, List.cons_lt_cons_iff]
    constructor
    · rintro (h | ⟨_, h⟩)
      · exact absurd h (Nat.lt_irrefl c)
      · exact ih.mp h
    · exact fun h => .inr ⟨rfl, ih.mpr h⟩
theorem lt_dif {p s t : List Nat} {x y : Nat} (h : x < y) : p ++ x :: s < p ++ y :: t := (app_lt p).mpr (List.cons_lt_cons_iff.mpr (.inl h))
theorem lt_pre {a t : List Nat} {y : Nat} : a < a ++ y :: t := by
  have := (app_lt a (a := []) (b := y :: t)).mpr (List.nil_lt_cons y t)
  rwa [List.append_nil] at this
theorem trich (a b : List Nat) : a < b ∨ a = b ∨ b < a := by
  by_cases h1 : a < b
  · exact .inl h1
  · by_cases h2 : b < a
    · exact .inr (.inr h2)
    · exact .inr (.inl (List.le_antisymm (List.not_lt.mp h2) (List.not_lt.mp h1)))
theorem lt_asymm {a b : List Nat} (h : a < b) (g : b < a) : False := List.lt_irrefl a (List.lt_trans h g)
/-- of the same length, less at the front is less -/
theorem same_len {u y a b : List Nat} (hl : u.length = y.length) (h : u ++ a < y ++ b) : u < y ∨ u = y := by
  rcases trich u y with h1 | h1 | h1
  · exact .inl h1
  · exact .inr h1
  · rcases lt_cases h1 with ⟨c, t, e⟩ | ⟨p, x, z, s, t, rfl, rfl, hxz⟩
    · rw [e, List.length_append, List.length_cons] at hl
      omega
    · refine absurd (lt_dif (p := p) (s := s ++ b) (t := t ++ a) hxz) fun g => lt_asymm h ?_
      simpa using g
/-- less than all its proper ends -/
def L (w : List Nat) : Prop := w ≠ [] ∧ ∀ k, 0 < k → k < w.length → w < w.drop k
/-- less than all its other turns -/
def R (w : List Nat) : Prop := w ≠ [] ∧ ∀ k, 0 < k → k < w.length → w < w.drop k ++ w.take k
theorem L.far {w : List Nat} (h : L w) {k : Nat} (h0 : 0 < k) (hk : k < w.length) (u v : List Nat) : w ++ u < w.drop k ++ v := by
  rcases lt_cases (h.2 k h0 hk) with ⟨y, t, e⟩ | ⟨p, x, y, s, t, e1, e2, hxy⟩
  · have := congrArg List.length e
    rw [List.length_drop, List.length_append] at this
    omega
  · rw [e2]
    conv => lhs; rw [e1]
    rw [List.append_assoc, List.append_assoc]
    exact lt_dif hxy
theorem L.turns {w : List Nat} (h : L w) : R w := ⟨h.1, fun k h0 hk => by
  have := h.far h0 hk [] (w.take k)
  rwa [List.append_nil] at this⟩
theorem R.ends {w : List Nat} (h : R w) : L w := by
  refine ⟨h.1, fun k h0 hk => ?_⟩
  rcases trich w (w.drop k) with g | g | g
  · exact g
  · have := congrArg List.length g
    rw [List.length_drop] at this
    omega
  · exfalso
    have hR := h.2 k h0 hk
    have e0 : w = w.take k ++ w.drop k := (List.take_append_drop k w).symm
    have lu : (w.take k).length = k := by rw [List.length_take]; omega
    have lx : (w.drop k).length = w.length - k := List.length_drop
    generalize w.take k = u at *
    generalize w.drop k = x at *
    rcases lt_cases g with ⟨y, t, e⟩ | ⟨p, a, b, s, t, e1, e2, hab⟩
    · -- x is ahead of w
      have hlen := congrArg List.length e
      rw [List.length_append] at hlen
      have h1 : x ++ (y :: t) < x ++ u := by rw [← e]; exact hR
      have h2 := (app_lt x).mp h1
      have hR2 := h.2 x.length (by omega) (by omega)
      rw [e, List.drop_left' rfl, List.take_left' rfl, ← e, e0] at hR2
      rcases same_len (by omega) hR2 with z | z
      · exact lt_asymm h2 z
      · rw [z] at h2
        exact List.lt_irrefl _ h2
    · refine lt_asymm hR ?_
      rw [e2]
      conv => lhs; rw [e1]
      rw [List.append_assoc]
      exact lt_dif hab
theorem L.one (c : Nat) : L [c] := ⟨by simp, fun k h0 hk => by simp at hk; omega⟩
theorem L.join {u v : List Nat} (hu : L u) (hv : L v) (h : u < v) : L (u ++ v) := by
  have key : u ++ v < v := by
    rcases lt_cases h with ⟨y, t, e⟩ | ⟨p, x, y, s, t, e1, e2, hxy⟩
    · have lu : 0 < u.length := List.length_pos_iff.mpr hu.1
      have := hv.2 u.length lu (by rw [e, List.length_append, List.length_cons]; omega)
      have e2 : v.drop u.length = y :: t := by rw [e]; exact List.drop_left' rfl
      rw [e2] at this
      conv => rhs; rw [e]
      exact (app_lt u).mpr this
    · rw [e2, e1, List.append_assoc]
      exact lt_dif hxy
  refine ⟨by simp [hu.1], fun k h0 hk => ?_⟩
  rw [List.length_append] at hk
  rw [List.drop_append]
  by_cases h1 : k < u.length
  · rw [show k - u.length = 0 by omega, List.drop_zero]
    exact hu.far h0 h1 v v
  · rw [List.drop_of_length_le (by omega : u.length ≤ k), List.nil_append]
    by_cases h2 : k - u.length = 0
    · rw [h2, List.drop_zero]
      exact key
    · exact List.lt_trans key (hv.2 _ (by omega) (by omega))
/-- none less than the next -/
def Ch : List (List Nat) → Prop
  | [] => True
  | [_] => True
  | a :: b :: r => ¬ a < b ∧ Ch (b :: r)
theorem Ch.tail {a : List Nat} : ∀ {l : List (List Nat)}, Ch (a :: l) → Ch l
  | [], _ => True.intro
  | _ :: _, h => h.2
def put (u : List Nat) : List (List Nat) → List (List Nat)
  | [] => [u]
  | v :: vs => if u < v then put (u ++ v) vs else u :: v :: vs
theorem put_ok : ∀ (ws : List (List Nat)) (u : List Nat), L u → (∀ w ∈ ws, L w) → Ch ws → (∀ w ∈ put u ws, L w) ∧ Ch (put u ws) ∧ (put u ws).flatten = u ++ ws.flatten
  | [], u, hu, _, _ => ⟨fun w hw => by rw [List.mem_singleton.mp hw]; exact hu, True.intro, by simp [put]⟩
  | v :: vs, u, hu, hws, hc => by
    unfold put
    by_cases h : u < v
    · rw [if_pos h]
      obtain ⟨a, b, c⟩ := put_ok vs (u ++ v) (hu.join (hws v List.mem_cons_self) h) (fun w hw => hws w (List.mem_cons_of_mem _ hw)) hc.tail
      exact ⟨a, b, by rw [c, List.flatten_cons, List.append_assoc]⟩
    · rw [if_neg h]
      refine ⟨fun w hw => ?_, ⟨h, hc⟩, by rw [List.flatten_cons]⟩
      rcases List.mem_cons.mp hw with rfl | hw
      · exact hu
      · exact hws w hw
theorem parts_exist : ∀ T : List Nat, ∃ ws : List (List Nat), (∀ w ∈ ws, L w) ∧ Ch ws ∧ ws.flatten = T
  | [] => ⟨[], ⟨fun w hw => absurd hw (List.not_mem_nil), True.intro, rfl⟩⟩
  | c :: T => by
    obtain ⟨ws, h1, h2, h3⟩ := parts_exist T
    obtain ⟨a, b, d⟩ := put_ok ws [c] (.one c) h1 h2
    exact ⟨_, a, b, by rw [d, h3]; rfl⟩
theorem rest_less : ∀ (ws : List (List Nat)) (w : List Nat), L w → (∀ v ∈ ws, L v) → Ch (w :: ws) → ws.flatten < w ++ ws.flatten
  | [], w, hw, _, _ => by
    cases w with
    | nil => exact absurd rfl hw.1
    | cons c w => exact List.nil_lt_cons _ _
  | v :: vs, w, hw, hws, hc => by
    have hv := hws v List.mem_cons_self
    have ih := rest_less vs v hv (fun x hx => hws x (List.mem_cons_of_mem _ hx)) hc.2
    rw [List.flatten_cons]
    generalize vs.flatten = F at *
    have inner : ∀ (n k : Nat), w.length - k ≤ n → 0 < k → k < w.length → v < w.drop k → F < w.drop k ++ (v ++ F) := by
      intro n
      induction n with
      | zero => intro k h1 h2 h3; omega
      | succ n ihn =>
        intro k h1 h2 h3 h4
        rcases lt_cases h4 with ⟨y, t, e⟩ | ⟨p, x, y, s, t, e1, e2, hxy⟩
        · have lv : 0 < v.length := List.length_pos_iff.mpr hv.1
          have el := congrArg List.length e
          rw [List.length_drop, List.length_append, List.length_cons] at el
          have ed : w.drop (k + v.length) = y :: t := by rw [← List.drop_drop, e]; exact List.drop_left' rfl
          have hvw : v < w.drop (k + v.length) := by
            have hlt : ¬ w < v := hc.1
            have h5 := hw.2 (k + v.length) (by omega) (by omega)
            rcases trich v w with z | z | z
            · exact List.lt_trans z h5
            · rw [z]; rw [z] at h5; exact h5
            · exact absurd z hlt
          have := ihn (k + v.length) (by omega) (by omega) (by omega) hvw
          rw [ed] at this
          rw [e]
          refine List.lt_trans ih ?_
          rw [List.append_assoc]
          exact (app_lt v).mpr this
        · refine List.lt_trans ih ?_
          rw [e2]
          conv => lhs; rw [e1]
          rw [List.append_assoc, List.append_assoc]
          exact lt_dif hxy
    rcases trich v w with z | z | z
    · rcases lt_cases z with ⟨y, t, e⟩ | ⟨p, x, y, s, t, e1, e2, hxy⟩
      · have lv : 0 < v.length := List.length_pos_iff.mpr hv.1
        have lw : v.length < w.length := by rw [e, List.length_append, List.length_cons]; omega
        have ed : w.drop v.length = y :: t := by rw [e]; exact List.drop_left' rfl
        have := inner w.length v.length (by omega) lv lw (List.lt_trans z (hw.2 _ lv lw))
        rw [ed] at this
        conv => rhs; rw [e]
        rw [List.append_assoc]
        exact (app_lt v).mpr this
      · rw [e2]
        conv => lhs; rw [e1]
        rw [List.append_assoc, List.append_assoc]
        exact lt_dif hxy
    · rw [z] at ih ⊢
      exact (app_lt w).mpr ih
    · exact absurd z hc.1
/-! ### the places at which the parts begin -/
def scan : List Nat → List Nat → Nat → List Nat
  | [], _, _ => []
  | c :: s, best, p => if c :: s < best then p :: scan s (c :: s) (p + 1) else scan s best (p + 1)
def offs : List (List Nat) → Nat → List Nat
  | [], _ => []
  | v :: vs, p => p :: offs vs (p + v.length)
theorem scan_in (F best : List Nat) : ∀ (x : List Nat) (p : Nat), (∀ k, k < x.length → ¬ x.drop k ++ F < best) → scan (x ++ F) best p = scan F best (p + x.length)
  | [], p, _ => rfl
  | c :: x, p, h => by
    have h0 : ¬ c :: (x ++ F) < best := h 0 (by simp)
    show (if c :: (x ++ F) < best then _ else _) = _
    rw [if_neg h0]
    show scan (x ++ F) best (p + 1) = _
    rw [scan_in F best x (p + 1) fun k hk => h (k + 1) (by simpa using hk)]
    rw [List.length_cons]
    congr 1
    omega
theorem scan_ws : ∀ (ws : List (List Nat)) (w : List Nat) (p : Nat), L w → (∀ v ∈ ws, L v) → Ch (w :: ws) → scan ws.flatten (w ++ ws.flatten) p = offs ws p
  | [], _, _, _, _, _ => rfl
  | v :: vs, w, p, hw, hws, hc => by
    have hl := rest_less (v :: vs) w hw hws hc
    have hv := hws v List.mem_cons_self
    rw [List.flatten_cons] at hl ⊢
    match v, hv with
    | [], hv => exact absurd rfl hv.1
    | c :: v', hv =>
      have hl' : c :: (v' ++ vs.flatten) < w ++ (c :: v' ++ vs.flatten) := hl
      show (if c :: (v' ++ vs.flatten) < w ++ (c :: v' ++ vs.flatten) then _ else _) = _
      rw [if_pos hl']
      show _ = p :: offs vs (p + (v'.length + 1))
      congr 1
      show scan (v' ++ vs.flatten) ((c :: v') ++ vs.flatten) (p + 1) = _
      rw [scan_in _ _ v' (p + 1) fun k hk g => lt_asymm g ((hv.far (k := k + 1) (by omega) (by simpa using hk) vs.flatten vs.flatten)), scan_ws vs (c :: v') _ hv (fun x hx => hws x (List.mem_cons_of_mem _ hx)) hc.2]
      congr 1
      omega
/-- the begins among the first i places -/
def begs (T : List Nat) : Nat → List Nat
  | 0 => []
  | i + 1 => match (begs T i).getLast? with
    | none => begs T i ++ [i]
    | some b => if T.drop i < T.drop b then begs T i ++ [i] else begs T i
theorem begs_scan (T : List Nat) : ∀ (d i b : Nat), T.length - i = d → i ≤ T.length → (begs T i).getLast? = some b → begs T T.length = begs T i ++ scan (T.drop i) (T.drop b) i := by
  intro d
  induction d with
  | zero =>
    intro i b h1 h2 _
    have : i = T.length := by omega
    subst this
    rw [List.drop_length]
    simp [scan]
  | succ d ih =>
    intro i b h1 h2 hb
    have hi : i < T.length := by omega
    have ed : T.drop i = T[i] :: T.drop (i + 1) := List.drop_eq_getElem_cons hi
    have hs : begs T (i + 1) = if T.drop i < T.drop b then begs T i ++ [i] else begs T i := by
      show (match (begs T i).getLast? with | none => _ | some b => _) = _
      rw [hb]
    by_cases h : T.drop i < T.drop b
    · rw [if_pos h] at hs
      have := ih (i + 1) i (by omega) (by omega) (by rw [hs]; simp)
      rw [this, hs, List.append_assoc]
      congr 1
      conv => rhs; rw [ed]
      show _ = if T[i] :: T.drop (i + 1) < T.drop b then _ else _
      rw [← ed, if_pos h]
      rfl
    · rw [if_neg h] at hs
      have := ih (i + 1) b (by omega) (by omega) (by rw [hs]; exact hb)
      rw [this, hs]
      congr 1
      conv => rhs; rw [ed]
      show _ = if T[i] :: T.drop (i + 1) < T.drop b then _ else _
      rw [← ed, if_neg h]
theorem begs_offs {ws : List (List Nat)} {T : List Nat} (h : ∀ w ∈ ws, L w) (hc : Ch ws) (e : ws.flatten = T) : begs T T.length = offs ws 0 := by
  subst e
  match ws, h, hc with
  | [], _, _ => rfl
  | w :: vs, h, hc =>
    have hw := h w List.mem_cons_self
    match w, hw, hc, h with
    | [], hw, _, _ => exact absurd rfl hw.1
    | c :: w', hw, hc, h =>
      have hT : ((c :: w') :: vs).flatten = c :: (w' ++ vs.flatten) := rfl
      rw [begs_scan _ (((c :: w') :: vs).flatten.length - 1) 1 0 rfl (by rw [hT, List.length_cons]; omega) rfl]
      show 0 :: scan (w' ++ vs.flatten) ((c :: w') ++ vs.flatten) 1 = 0 :: offs vs (0 + (w'.length + 1))
      rw [scan_in _ _ w' 1 fun k hk g => lt_asymm g ((hw.far (k := k + 1) (by omega) (by simpa using hk) vs.flatten vs.flatten)), scan_ws vs (c :: w') _ hw (fun x hx => h x (List.mem_cons_of_mem _ hx)) hc]
      congr 2
      omega
/-- the parts between the begins -/
theorem cut_offs (T : List Nat) : ∀ (ws : List (List Nat)) (p : Nat), T.drop p = ws.flatten → p ≤ T.length → ((offs ws p).zip ((offs ws p).drop 1 ++ [T.length])).map (fun q => (T.take q.2).drop q.1) = ws
  | [], _, _, _ => rfl
  | v :: vs, p, h, hp => by
    have hl := congrArg List.length h
    rw [List.length_drop, List.flatten_cons, List.length_append] at hl
    have hv : T.drop (p + v.length) = vs.flatten := by
      rw [← List.drop_drop, h, List.flatten_cons]
      exact List.drop_left' rfl
    have ih := cut_offs T vs (p + v.length) hv (by omega)
    show (((p :: offs vs (p + v.length)).zip (offs vs (p + v.length) ++ [T.length])).map _) = _
    have first : (T.take (p + v.length)).drop p = v := by
      rw [List.drop_take, h, List.flatten_cons, show p + v.length - p = v.length by omega]
      exact List.take_left' rfl
    match vs, ih, hv, h, hl with
    | [], _, hv, h, hl =>
      have : p + v.length = T.length := by simp at hl; omega
      show [(T.take T.length).drop p] = [v]
      rw [← this, first]
    | x :: xs, ih, _, _, _ =>
      show (T.take (p + v.length)).drop p :: _ = v :: _
      rw [first]
      congr 1
end Lyn

set_option Elab.async false
set_option linter.all false
set_option maxRecDepth 100000
set_option maxHeartbeats 4000000
/-! SetTup: len(set(t)), t a tuple of texts. -/
namespace L2
open PySem PySem.Spec PyProof.Rows
/-- the unlike ones, in the order of their first -/
def ddS (l : List Str) : List Str := l.foldl (fun acc x => if x ∈ acc then acc else acc ++ [x]) []
theorem ddS_snoc (l : List Str) (x : Str) : ddS (l ++ [x]) = if x ∈ ddS l then ddS l else ddS l ++ [x] := by
  unfold ddS
  rw [List.foldl_append]
  rfl
theorem ddS_mem (l : List Str) (y : Str) : y ∈ ddS l ↔ y ∈ l := by
  have gen : ∀ (m acc : List Str), y ∈ m.foldl (fun acc x => if x ∈ acc then acc else acc ++ [x]) acc ↔ y ∈ acc ∨ y ∈ m := by
    intro m
    induction m with
    | nil => intro acc; simp
    | cons a m ih =>
      intro acc
      rw [List.foldl_cons, ih]
      by_cases h : a ∈ acc
      · rw [if_pos h]
        constructor
        · rintro (q | q)
          · exact .inl q
          · exact .inr (List.mem_cons_of_mem _ q)
        · rintro (q | q)
          · exact .inl q
          · rcases List.mem_cons.mp q with q | q
            · exact .inl (q ▸ h)
            · exact .inr q
      · rw [if_neg h, List.mem_append, List.mem_singleton, List.mem_cons]
        constructor
        · rintro ((q | q) | q)
          · exact .inl q
          · exact .inr (.inl q)
          · exact .inr (.inr q)
        · rintro (q | q | q)
          · exact .inl (.inl q)
          · exact .inl (.inr q)
          · exact .inr q
  have := gen l []
  simpa [ddS] using this
theorem ddS_len (l : List Str) : (ddS l).length ≤ l.length := by
  have gen : ∀ (m acc : List Str), (m.foldl (fun acc x => if x ∈ acc then acc else acc ++ [x]) acc).length ≤ acc.length + m.length := by
    intro m
    induction m with
    | nil => intro acc; exact Nat.le_refl _
    | cons a m ih =>
      intro acc
      rw [List.foldl_cons]
      refine Nat.le_trans (ih _) ?_
      split
      · rw [List.length_cons]; omega
      · rw [List.length_append, List.length_singleton, List.length_cons]; omega
  have := gen l []
  simpa [ddS] using this
section
variable {pr : Program} {w : World} {B : Around} {RR : Result → Shared → Prop} {it : Addr} {fq ww : List Addr} {GG : Array GenState → Array GenState → Prop} {m : Nat} {PP : Nat → Value → Prop} {TT : Nat → Shared → Prop}
theorem loop_texts (U : WalksS pr w B.in1 it fq ww GG m PP TT) (so : Addr) (hso : so ∉ fq) (ys : List Str) (hys : ys.length = m) (few : m < 64) (hv : ∀ i v, PP i v → ∃ t, v = .str (ys.getD i Str.empty) t) :
    ∀ (left i : Nat) (s : Shared), m - i = left → i ≤ m → TT i s → s.heap.SetOf (strKind pr w) so (fun q => decide (q ∈ ys.take i)) (ddS (ys.take i)).length →
      (∀ s', Moved (so :: ww) GG s s' → s'.heap.SetOf (strKind pr w) so (fun q => decide (q ∈ ys)) (ddS ys).length → RR (.ok (.ret .none)) s') →
      codeAny (model pr w) B (.builtin "set.update.loop" ⟨[.ref so, .ref it], []⟩) RR s := by
  have now : so ∉ ww := fun h => hso (U.sub _ h)
  have sub2 : ∀ b ∈ ww, b ∈ so :: ww := fun b hb => List.mem_cons_of_mem _ hb
  intro left
  induction left with
  | zero =>
    intro i s hl hi ht hS hR
    obtain rfl : i = m := by omega
    rw [← hys, List.take_length] at hS
    refine codeAny_builtin F.entry_set_update_loop ?_
    rw [Around.under_plainId F.plain_set_update_loop _]
    refine wpAny_bind (U.done s _ _ ht fun s' mv => ?_)
    obtain ⟨o, es, ep, tb, ho, rest⟩ := hS
    exact wpAny_pure (hR s' (mv.mono sub2) ⟨o, es, ep, tb, mv.heap so _ now ho, rest⟩)
  | succ left ih =>
    intro i s hl hi ht hS hR
    have him : i < m := by omega
    refine codeAny_builtin F.entry_set_update_loop ?_
    rw [Around.under_plainId F.plain_set_update_loop _]
    refine wpAny_bind (U.item i s _ _ him ht fun v s' hP ht' mv => ?_)
    obtain ⟨t, rfl⟩ := hv i v hP
    have hS' : s'.heap.SetOf (strKind pr w) so (fun q => decide (q ∈ ys.take i)) (ddS (ys.take i)).length := by
      obtain ⟨o, es, ep, tb, ho, rest⟩ := hS
      exact ⟨o, es, ep, tb, mv.heap so _ now ho, rest⟩
    have hlen := ddS_len (ys.take i)
    rw [List.length_take] at hlen
    refine wpAny_bind (wpAny_holding ?_)
    unfold setAdd
    refine wpAny_holding ?_
    refine wpAny_bind ((strKind pr w).pyHash (k := ys.getD i Str.empty) (strKind_is _ _ _ _) ?_)
    refine wpAny_setAddHashed_of (knd := strKind pr w) (s := { s' with toks := s'.toks + 1 }) (strKind_is _ _ _ _) rfl hS' (by unfold scanBound; omega) fun h' sb hS2 => ?_
    have ey : ys.take (i + 1) = ys.take i ++ [ys.getD i Str.empty] := by
      rw [List.take_succ, List.getD_eq_getElem?_getD, List.getElem?_eq_getElem (by omega)]
      rfl
    have hS3 : h'.SetOf (strKind pr w) so (fun q => decide (q ∈ ys.take (i + 1))) (ddS (ys.take (i + 1))).length := by
      rw [ey]
      refine SetOf_congr hS2 (fun q => ?_) ?_
      · by_cases h1 : q ∈ ys.take i
        · simp [h1]
        · simp [h1]
      · rw [ddS_snoc]
        by_cases h1 : ys.getD i Str.empty ∈ ys.take i
        · rw [if_pos ((ddS_mem _ _).mpr h1), if_pos (by simpa using h1)]
        · rw [if_neg (fun z => h1 ((ddS_mem _ _).mp z)), if_neg (by simpa using h1), List.length_append]
          rfl
    refine wpAny_pure ⟨plainId_quiet F.plain_set_update_loop _, ih (i + 1) _ (by omega) him (U.frame _ s' _ _ ht' (Nat.le_succ _) fun b hb o e => ?_) hS3 fun s2 mv2 hS4 => ?_⟩
    · rw [sb.2 b (fun z : b = so => hso (by rw [← z]; exact hb))]
      exact e
    · refine hR s2 (Moved.trans U.gtrans ((mv.mono sub2).then_heap (Nat.le_succ _) fun b o hb e => ?_) mv2) hS4
      rw [sb.2 b (fun z : b = so => hb (by rw [z]; exact List.mem_cons_self))]
      exact e
end
section
variable {pr : Program} {w : World} {B : Around} {EE : Value → Shared → Prop} {s : Shared}
abbrev setOb (led : Bool) : Obj := { cls := .type "set", dict := none, data := .set #[] 0 (.fresh 0 0 led) }
theorem call_set_texts {tu : Addr} {its : Array Value} {ys : List Str} {QQ : Value → Shared → Prop} (hd : B.handled = none) (ht : s.heap.IsTuple tu its) (hy : StrsAre its.toList ys) (few : ys.length < 64)
    (fin : ∀ (h' : Heap) (tk : Nat), h'.SetOf (strKind pr w) s.heap.objs.size (fun q => decide (q ∈ ys)) (ddS ys).length → (∀ b o, b < s.heap.objs.size → s.heap.get? b = some o → h'.get? b = some o) → QQ (.ref s.heap.objs.size) { s with heap := h', toks := tk }) :
    wpAny (model pr w) B (call (.type "set") [.ref tu]) QQ EE s := by
  obtain ⟨cc, tl, mro⟩ := F.called_set.mro
  have md := F.called_set.made
  have sb := F.called_set.sub
  refine wpAny_call (codeAny_of_tree ?_)
  show wpAny _ _ (callAny (.type "set") _) _ _ _
  refine wpAny_pure ⟨Code.quiet_builtin _ (by decide +kernel), codeAny_builtin F.entry_type_call ?_⟩
  rw [Around.under_plain (weight_type_call_type "set" [.ref tu] []) rfl]
  have q1 := F.called_set.notType
  have q2 := F.called_set.canCreate
  have q3 := F.typeCall_set_1 (.ref tu)
  repeat (any_goals (first | assumption | wp_step))
  refine codeAny_mono (code_set_new_1 (.ref tu) (E := EE) (Q₁ := fun ob s1 => ∃ led : Bool, ob = .ref s.heap.objs.size ∧ s1 = { s with heap := s.heap.push (setOb led) }) fun led => ⟨led, rfl, rfl⟩) fun r s1 hr => ?_
  cases r with
  | error e => exact hr
  | ok fl =>
    cases fl with
    | ret ob =>
      obtain ⟨led, rfl, rfl⟩ := hr
      have gS : (s.heap.push (setOb led)).get? s.heap.objs.size = some (setOb led) := Heap.get?_push_size _ rfl
      have tS : Shared.TypeIs { s with heap := s.heap.push (setOb led) } (.ref s.heap.objs.size) "set" := ⟨_, gS, rfl⟩
      have i1 := F.called_set.init.lookup
      have i2 := F.called_set.init.bind (.ref s.heap.objs.size)
      repeat (any_goals (first | assumption | wp_step))
      refine codeAny_mono (codeAny_call_builtin (R := wants (fun r s2 => r = .none ∧ ∃ h' tk, s2 = { s with heap := h', toks := tk } ∧ h'.SetOf (strKind pr w) s.heap.objs.size (fun q => decide (q ∈ ys)) (ddS ys).length ∧ (∀ b o, b < s.heap.objs.size → s.heap.get? b = some o → h'.get? b = some o)) EE) F.called_set.init.plain F.entry_set_init (check_set_init_1 tS ?_)) fun r2 s2 hr2 => ?_
      · obtain ⟨ot, got, ct, nt, dt⟩ := ht
        obtain ⟨otc, otd, otx, ots⟩ := ot
        simp only at ct dt
        subst ct
        subst dt
        have got2 : (s.heap.push (setOb led)).get? tu = some { cls := .type "tuple", dict := otd, data := .seq its nt, slots := ots } := Heap.get?_push_of_some _ got
        have u1 := F.sub_tuple_set
        have u2 := F.sub_tuple_frozenset
        have u3 : (Value.type "tuple" == Value.type "dict") = false := by decide
        have tup1 : (s.heap.push (setOb led)).IsTuple tu its := ⟨_, got2, rfl, nt, rfl⟩
        unfold Builtin.«set.__init__» noKeywords Builtin.Frozenset.updateFrom
        generalize hPI : pyIter = PI
        wp_walk
        subst hPI
        refine wpAny_pyIter_tuple tup1 ?_
        refine wpAny_bind (wpAny_runValue ?_)
        have lt1 : tu < s.heap.objs.size := Heap.lt_size got
        have hd3 : B.in1.in1.in1.handled = none := by simp [hd]
        have ne1 : tu ≠ (s.heap.push (setOb led)).objs.size := by
          rw [Heap.size_push]
          exact Nat.ne_of_lt (Nat.lt_succ_of_lt lt1)
        have so1 : s.heap.objs.size ∉ [(s.heap.push (setOb led)).objs.size, tu] := by
          rw [Heap.size_push]
          simp only [List.mem_cons, List.mem_singleton, List.not_mem_nil, or_false, not_or]
          exact ⟨Nat.ne_of_lt (Nat.lt_succ_self _), Nat.ne_of_gt lt1⟩
        have len1 : ys.length = its.size := by rw [← StrsAre.len_eq hy, Array.length_toList]
        refine loop_texts ((Walks.tuple hd3 _ tu ne1 its).toS) s.heap.objs.size so1 ys len1 (by omega) (fun i v e => SS.strs_at hy i v (by rw [Array.getElem?_toList]; exact e)) (its.size - 0) 0 _ (by omega) (Nat.zero_le _)
          ⟨⟨_, Heap.get?_push_size _ rfl, rfl, rfl⟩, tup1.push _⟩ ?start ?done
        case start =>
          have g2 : ((s.heap.push (setOb led)).push { cls := .type "tuple_iterator", data := .fields #[.ref tu, .int 0 0] }).get? s.heap.objs.size = some (setOb led) := Heap.get?_push_of_some _ gS
          exact SetOf_congr ((setObjOf_fresh (knd := strKind pr w) led).setOf g2 (by unfold scanBound; omega)) (fun q => by simp) rfl
        case done =>
          intro s' mv hS
          obtain ⟨h', g', d', tk', os'⟩ := s'
          have eg : g' = s.gens := mv.gens
          have ed : d' = s.drawn := mv.drawn
          have eo : os' = s.os := mv.os
          subst eg
          subst ed
          subst eo
          refine wpAny_pure ?_
          show wpAny _ _ (ret Value.none) _ _ _
          refine wpAny_pure ⟨rfl, h', tk', rfl, hS, fun b o hb e => ?_⟩
          have n1 : b ≠ s.heap.objs.size := Nat.ne_of_lt hb
          have n2 : b ≠ (s.heap.push (setOb led)).objs.size := by
            rw [Heap.size_push]
            exact Nat.ne_of_lt (Nat.lt_succ_of_lt hb)
          exact mv.heap b o (by simp only [List.mem_cons, List.mem_singleton, List.not_mem_nil, or_false, not_or]; exact ⟨n1, n2⟩) (Heap.get?_push_of_some _ (Heap.get?_push_of_some _ e))
      · cases r2 with
        | error e => exact hr2
        | ok fl2 =>
          cases fl2 with
          | ret r =>
            obtain ⟨rfl, h', tk, rfl, hS, hk⟩ := hr2
            repeat (any_goals (first | assumption | wp_step))
            exact fin _ _ hS hk
          | _ => exact hr2.elim
    | _ => exact hr.elim
end
section
variable {X : Cx}
def tLenSetT (K : PySem.W.Frag) (ta : TE) : TE := fun σ H Q => ta σ H fun x H1 => ∃ (l : Addr) (ys : List Str), x = V.ref l ∧ SqT K H1 l (ys.map V.str) ∧ ys.length < 64 ∧ Q (.int ((ddS ys).length : Nat)) H1
theorem pe_lenSetT {a : Expr} {ta : TE} {p p2 q pos : Pos} (hc : X.calm = true) (hg : Gl X "len") (hm : X.mg "len" = none) (hg2 : Gl X "set") (hm2 : X.mg "set" = none) (ha : PE X a ta)
    (na : starEach [a] X.env = (false, eval a X.env) :: starEach [] X.env := by rfl) : PE X (.Call (.Name "len" p) [.Call (.Name "set" p2) [a] [] q] [] pos) (tLenSetT X.K ta) := by
  refine ⟨fun pins s σ H Q I h => ?_⟩
  refine Call_ (ld_blt I hg hm boot_len ?_)
  refine callWith_builtin1 (args_cons ?_ rfl) rfl rfl
  refine Call_ (ld_blt I hg2 hm2 boot_set ?_)
  refine callWith_type1 (args_cons (thn (ha.run pins s σ H _ I h) fun v s1 ⟨x, H1, I1, r1, q1⟩ => args_nil ?_) na) na rfl
  obtain ⟨l, ys, rfl, hq, few, q1⟩ := q1
  cases r1
  obtain ⟨its, r, pl, hz⟩ := I1.tuple hq
  have small := ddS_len ys
  refine call_set_texts (I1.ok.hd hc) pl (ys := ys) (by simpa using strsAre_of r) few fun h' tk hS hk => ?_
  refine args_nil ?_
  obtain ⟨o, es, ep, t, ho, hex, hd, _, _, _, hf, hn⟩ := hS
  have I2 : Inv X pins σ H1 { s1 with heap := h', toks := tk } := I1.kept fun b o e => hk b o (Heap.lt_size e) e
  exact call_len_set ho hex hd hf (by rw [hn] <;> omega) ⟨.int ((ddS ys).length : Nat), H1, I2.tok _, ⟨_, by rw [hn]⟩, q1⟩
end
end L2

set_option Elab.async false
set_option linter.all false
set_option maxRecDepth 100000
set_option maxHeartbeats 4000000
/-! SetStr: len(set(z)), z a text. -/
namespace L2
open PySem PySem.Spec PyProof.Rows
def signsS (x : Str) : List Str := x.cps.toList.map fun c => ⟨#[c]⟩
section
variable {pr : Program} {w : World} {B : Around} {RR : Result → Shared → Prop} {it : Addr} {fq ww : List Addr} {GG : Array GenState → Array GenState → Prop} {m : Nat} {PP : Nat → Value → Prop} {TT : Nat → Shared → Prop}
theorem loop_signs (U : WalksS pr w B.in1 it fq ww GG m PP TT) (so : Addr) (hso : so ∉ fq) (ys : List Str) (hys : ys.length = m) (few : m < 4000) (hv : ∀ i v, PP i v → ∃ t, v = .str (ys.getD i Str.empty) t) :
    ∀ (left i : Nat) (s : Shared), m - i = left → i ≤ m → TT i s → s.heap.SetOf (strKind pr w) so (fun q => decide (q ∈ ys.take i)) (ddS (ys.take i)).length →
      (∀ s', Moved (so :: ww) GG s s' → s'.heap.SetOf (strKind pr w) so (fun q => decide (q ∈ ys)) (ddS ys).length → RR (.ok (.ret .none)) s') →
      codeAny (model pr w) B (.builtin "set.update.loop" ⟨[.ref so, .ref it], []⟩) RR s := by
  have now : so ∉ ww := fun h => hso (U.sub _ h)
  have sub2 : ∀ b ∈ ww, b ∈ so :: ww := fun b hb => List.mem_cons_of_mem _ hb
  intro left
  induction left with
  | zero =>
    intro i s hl hi ht hS hR
    obtain rfl : i = m := by omega
    rw [← hys, List.take_length] at hS
    refine codeAny_builtin F.entry_set_update_loop ?_
    rw [Around.under_plainId F.plain_set_update_loop _]
    refine wpAny_bind (U.done s _ _ ht fun s' mv => ?_)
    obtain ⟨o, es, ep, tb, ho, rest⟩ := hS
    exact wpAny_pure (hR s' (mv.mono sub2) ⟨o, es, ep, tb, mv.heap so _ now ho, rest⟩)
  | succ left ih =>
    intro i s hl hi ht hS hR
    have him : i < m := by omega
    refine codeAny_builtin F.entry_set_update_loop ?_
    rw [Around.under_plainId F.plain_set_update_loop _]
    refine wpAny_bind (U.item i s _ _ him ht fun v s' hP ht' mv => ?_)
    obtain ⟨t, rfl⟩ := hv i v hP
    have hS' : s'.heap.SetOf (strKind pr w) so (fun q => decide (q ∈ ys.take i)) (ddS (ys.take i)).length := by
      obtain ⟨o, es, ep, tb, ho, rest⟩ := hS
      exact ⟨o, es, ep, tb, mv.heap so _ now ho, rest⟩
    have hlen := ddS_len (ys.take i)
    rw [List.length_take] at hlen
    refine wpAny_bind (wpAny_holding ?_)
    unfold setAdd
    refine wpAny_holding ?_
    refine wpAny_bind ((strKind pr w).pyHash (k := ys.getD i Str.empty) (strKind_is _ _ _ _) ?_)
    refine wpAny_setAddHashed_of (knd := strKind pr w) (s := { s' with toks := s'.toks + 1 }) (strKind_is _ _ _ _) rfl hS' (by unfold scanBound; omega) fun h' sb hS2 => ?_
    have ey : ys.take (i + 1) = ys.take i ++ [ys.getD i Str.empty] := by
      rw [List.take_succ, List.getD_eq_getElem?_getD, List.getElem?_eq_getElem (by omega)]
      rfl
    have hS3 : h'.SetOf (strKind pr w) so (fun q => decide (q ∈ ys.take (i + 1))) (ddS (ys.take (i + 1))).length := by
      rw [ey]
      refine SetOf_congr hS2 (fun q => ?_) ?_
      · by_cases h1 : q ∈ ys.take i
        · simp [h1]
        · simp [h1]
      · rw [ddS_snoc]
        by_cases h1 : ys.getD i Str.empty ∈ ys.take i
        · rw [if_pos ((ddS_mem _ _).mpr h1), if_pos (by simpa using h1)]
        · rw [if_neg (fun z => h1 ((ddS_mem _ _).mp z)), if_neg (by simpa using h1), List.length_append]
          rfl
    refine wpAny_pure ⟨plainId_quiet F.plain_set_update_loop _, ih (i + 1) _ (by omega) him (U.frame _ s' _ _ ht' (Nat.le_succ _) fun b hb o e => ?_) hS3 fun s2 mv2 hS4 => ?_⟩
    · rw [sb.2 b (fun z : b = so => hso (by rw [← z]; exact hb))]
      exact e
    · refine hR s2 (Moved.trans U.gtrans ((mv.mono sub2).then_heap (Nat.le_succ _) fun b o hb e => ?_) mv2) hS4
      rw [sb.2 b (fun z : b = so => hb (by rw [z]; exact List.mem_cons_self))]
      exact e
end
section
variable {pr : Program} {w : World} {B : Around} {EE : Value → Shared → Prop} {s : Shared}
theorem call_set_sign {x : Str} {tx : Tok} {QQ : Value → Shared → Prop} (hd : B.handled = none) (few : x.cps.size < 4000)
    (fin : ∀ (h' : Heap) (tk : Nat), h'.SetOf (strKind pr w) s.heap.objs.size (fun q => decide (q ∈ signsS x)) (ddS (signsS x)).length → (∀ b o, b < s.heap.objs.size → s.heap.get? b = some o → h'.get? b = some o) → QQ (.ref s.heap.objs.size) { s with heap := h', toks := tk }) :
    wpAny (model pr w) B (call (.type "set") [.str x tx]) QQ EE s := by
  obtain ⟨cc, tl, mro⟩ := F.called_set.mro
  have md := F.called_set.made
  have sb := F.called_set.sub
  refine wpAny_call (codeAny_of_tree ?_)
  show wpAny _ _ (callAny (.type "set") _) _ _ _
  refine wpAny_pure ⟨Code.quiet_builtin _ (by decide +kernel), codeAny_builtin F.entry_type_call ?_⟩
  rw [Around.under_plain (weight_type_call_type "set" [.str x tx] []) rfl]
  have q1 := F.called_set.notType
  have q2 := F.called_set.canCreate
  have q3 := F.typeCall_set_1 (.str x tx)
  repeat (any_goals (first | assumption | wp_step))
  refine codeAny_mono (code_set_new_1 (.str x tx) (E := EE) (Q₁ := fun ob s1 => ∃ led : Bool, ob = .ref s.heap.objs.size ∧ s1 = { s with heap := s.heap.push (setOb led) }) fun led => ⟨led, rfl, rfl⟩) fun r s1 hr => ?_
  cases r with
  | error e => exact hr
  | ok fl =>
    cases fl with
    | ret ob =>
      obtain ⟨led, rfl, rfl⟩ := hr
      have gS : (s.heap.push (setOb led)).get? s.heap.objs.size = some (setOb led) := Heap.get?_push_size _ rfl
      have tS : Shared.TypeIs { s with heap := s.heap.push (setOb led) } (.ref s.heap.objs.size) "set" := ⟨_, gS, rfl⟩
      have i1 := F.called_set.init.lookup
      have i2 := F.called_set.init.bind (.ref s.heap.objs.size)
      repeat (any_goals (first | assumption | wp_step))
      refine codeAny_mono (codeAny_call_builtin (R := wants (fun r s2 => r = .none ∧ ∃ h' tk, s2 = { s with heap := h', toks := tk } ∧ h'.SetOf (strKind pr w) s.heap.objs.size (fun q => decide (q ∈ signsS x)) (ddS (signsS x)).length ∧ (∀ b o, b < s.heap.objs.size → s.heap.get? b = some o → h'.get? b = some o)) EE) F.called_set.init.plain F.entry_set_init (check_set_init_1 tS ?_)) fun r2 s2 hr2 => ?_
      · have u1 : (Value.type "str" == Value.type "dict") = false := by decide
        have u2 := F.sub_str_set
        have u3 := F.sub_str_frozenset
        unfold Builtin.«set.__init__» noKeywords Builtin.Frozenset.updateFrom
        generalize hPI : pyIter = PI
        wp_walk
        subst hPI
        refine wpAny_pyIter_str fun o St W st0 => ?_
        refine wpAny_bind (wpAny_runValue ?_)
        have hd3 : B.in1.in1.in1.handled = none := by simp [hd]
        have so1 : s.heap.objs.size ∉ [(s.heap.push (setOb led)).objs.size] := by
          rw [Heap.size_push]
          simp only [List.mem_cons, List.mem_singleton, List.not_mem_nil, or_false, not_or]
          exact Nat.ne_of_lt (Nat.lt_succ_self _)
        have len1 : (signsS x).length = x.cps.size := by rw [signsS, List.length_map, Array.length_toList]
        refine loop_signs ((W _ hd3).toS) s.heap.objs.size so1 (signsS x) len1 (by omega) (fun i v ⟨c, u, e1, e2⟩ => ⟨u, by rw [e2, signsS, List.getD_eq_getElem?_getD, List.getElem?_map, Array.getElem?_toList, e1]; rfl⟩) (x.cps.size - 0) 0 _ (by omega) (Nat.zero_le _)
          st0 ?start ?done
        case start =>
          have g2 : ((s.heap.push (setOb led)).push o).get? s.heap.objs.size = some (setOb led) := Heap.get?_push_of_some _ gS
          exact SetOf_congr ((setObjOf_fresh (knd := strKind pr w) led).setOf g2 (by unfold scanBound; omega)) (fun q => by simp) rfl
        case done =>
          intro s' mv hS
          obtain ⟨h', g', d', tk', os'⟩ := s'
          have eg : g' = s.gens := mv.gens
          have ed : d' = s.drawn := mv.drawn
          have eo : os' = s.os := mv.os
          subst eg
          subst ed
          subst eo
          refine wpAny_pure ?_
          show wpAny _ _ (ret Value.none) _ _ _
          refine wpAny_pure ⟨rfl, h', tk', rfl, hS, fun b o hb e => ?_⟩
          have n1 : b ≠ s.heap.objs.size := Nat.ne_of_lt hb
          have n2 : b ≠ (s.heap.push (setOb led)).objs.size := by
            rw [Heap.size_push]
            exact Nat.ne_of_lt (Nat.lt_succ_of_lt hb)
          exact mv.heap b o (by simp only [List.mem_cons, List.mem_singleton, List.not_mem_nil, or_false, not_or]; exact ⟨n1, n2⟩) (Heap.get?_push_of_some _ (Heap.get?_push_of_some _ e))
      · cases r2 with
        | error e => exact hr2
        | ok fl2 =>
          cases fl2 with
          | ret r =>
            obtain ⟨rfl, h', tk, rfl, hS, hk⟩ := hr2
            repeat (any_goals (first | assumption | wp_step))
            exact fin _ _ hS hk
          | _ => exact hr2.elim
    | _ => exact hr.elim
end
section
variable {X : Cx}
def tLenSetS (ta : TE) : TE := fun σ H Q => ta σ H fun x H1 => ∃ z : Str, x = V.str z ∧ z.cps.size < 4000 ∧ Q (.int ((ddS (signsS z)).length : Nat)) H1
theorem pe_lenSetS {a : Expr} {ta : TE} {p p2 q pos : Pos} (hc : X.calm = true) (hg : Gl X "len") (hm : X.mg "len" = none) (hg2 : Gl X "set") (hm2 : X.mg "set" = none) (ha : PE X a ta)
    (na : starEach [a] X.env = (false, eval a X.env) :: starEach [] X.env := by rfl) : PE X (.Call (.Name "len" p) [.Call (.Name "set" p2) [a] [] q] [] pos) (tLenSetS ta) := by
  refine ⟨fun pins s σ H Q I h => ?_⟩
  refine Call_ (ld_blt I hg hm boot_len ?_)
  refine callWith_builtin1 (args_cons ?_ rfl) rfl rfl
  refine Call_ (ld_blt I hg2 hm2 boot_set ?_)
  refine callWith_type1 (args_cons (thn (ha.run pins s σ H _ I h) fun v s1 ⟨x, H1, I1, r1, q1⟩ => args_nil ?_) na) na rfl
  obtain ⟨z, rfl, few, q1⟩ := q1
  obtain ⟨tk0, rfl⟩ := r1
  have small := ddS_len (signsS z)
  have sl : (signsS z).length = z.cps.size := by rw [signsS, List.length_map, Array.length_toList]
  refine call_set_sign (I1.ok.hd hc) few fun h' tk hS hk => ?_
  refine args_nil ?_
  obtain ⟨o, es, ep, t, ho, hex, hd, _, _, _, hf, hn⟩ := hS
  have I2 : Inv X pins σ H1 { s1 with heap := h', toks := tk } := I1.kept fun b o e => hk b o (Heap.lt_size e) e
  exact call_len_set ho hex hd hf (by rw [hn]; omega) ⟨.int ((ddS (signsS z)).length : Nat), H1, I2.tok _, ⟨_, by rw [hn]⟩, q1⟩
end
end L2

set_option Elab.async false
set_option linter.all false
set_option maxRecDepth 100000
set_option maxHeartbeats 4000000
/-! StrKit: z * k and z[::-1] of texts. -/
namespace L2
open PySem PySem.Spec PyProof.Rows
/-- a text so many times -/
def repS (z : Str) (n : Nat) : Str := ⟨(List.replicate n z.cps.toList).flatten.toArray⟩
theorem foldl_app {α : Type} (xs : List (Array α)) (acc : Array α) : (xs.foldl (· ++ ·) acc).toList = acc.toList ++ (xs.map Array.toList).flatten := by
  induction xs generalizing acc with
  | nil => simp
  | cons x xs ih => rw [List.foldl_cons, ih, Array.toList_append, List.map_cons, List.flatten_cons, List.append_assoc]
theorem repS_list (z : Str) (n : Nat) : (repS z n).cps.toList = (List.replicate n z.cps.toList).flatten := rfl
theorem repS_len (z : Str) (n : Nat) : (repS z n).cps.toList.length = n * z.cps.toList.length := by
  rw [repS_list, List.length_flatten, List.map_replicate, List.sum_replicate_nat]
theorem mul_repS (z : Str) (k : Int) : Txt.mul z k = repS z k.toNat := by
  unfold Txt.mul repS
  by_cases h1 : k < 1
  · rw [if_pos h1, show k.toNat = 0 by omega]
    rfl
  · rw [if_neg h1]
    by_cases h2 : (k == 1 || z.length == 0) = true
    · rw [if_pos h2]
      rcases Bool.or_eq_true_iff.mp h2 with h | h
      · have : k = 1 := by simpa using h
        subst this
        obtain ⟨cs⟩ := z
        simp
      · have : z.length = 0 := by simpa using h
        have e : z.cps = #[] := Array.eq_empty_of_size_eq_zero this
        obtain ⟨cs⟩ := z
        simp only at e
        subst e
        simp
    · rw [if_neg h2]
      congr 1
      apply Array.ext'
      rw [foldl_app, List.map_replicate]
      simp
section
variable {X : Cx}
theorem op_mulS : OpR X (binaryOp .Mult) (fun x y H Q => ∃ z k, x = .str z ∧ y = .int k ∧ -(2 ^ 62) ≤ k ∧ k ≤ 2 ^ 24 ∧ z.cps.toList.length * k.toNat ≤ 2 ^ 24 ∧ Q (.str (repS z k.toNat)) H) := by
  intro pins s σ H x y v u Q I rx ry h
  obtain ⟨z, k, rfl, rfl, h1, h2, h3, q⟩ := h
  obtain ⟨t, rfl⟩ := rx
  obtain ⟨t', rfl⟩ := ry
  have hz : z.length = z.cps.toList.length := Array.length_toList.symm
  refine SB.mul ⟨?_, fun h4 h5 => ?_, fun h4 h5 => ?_⟩ fun t' tk => ⟨.str (repS z k.toNat), H, I.tok _, ⟨t', by rw [mul_repS]⟩, q⟩
  · have : ¬ k < -(2 ^ 63 : Int) := by omega
    have h : ¬ k ≥ (2 ^ 63 : Int) := by omega
    rw [decide_eq_false this, decide_eq_false h]
    rfl
  · have hk : 0 < k := by omega
    have : ((z.length : Nat) : Int) * k ≤ 2 ^ 24 := by
      rw [hz]
      have := Int.ofNat_le.mpr h3
      rw [Int.natCast_mul, Int.toNat_of_nonneg (by omega)] at this
      exact this
    have := Int.le_ediv_of_mul_le hk (Int.le_trans this (by decide : (2 : Int) ^ 24 ≤ 2 ^ 63 - 1))
    omega
  · unfold Builtin.Str.tooLong
    have : z.length * k.toNat ≤ 2 ^ 24 := by rw [hz]; exact h3
    simp only [sizeLine_eq]
    have h : ¬ z.length * k.toNat > 2 ^ 24 := by omega
    simp [h]
/-- z[::-1] -/
def revS (z : Str) : Str := ⟨z.cps.toList.reverse.toArray⟩
theorem revS_list (z : Str) : (revS z).cps.toList = z.cps.toList.reverse := rfl
def tRevS (te : TE) : TE := fun σ H Q => te σ H fun x H1 => ∃ z, x = .str z ∧ z.length ≤ sizeLine ∧ Q (.str (revS z)) H1
theorem pe_revS {e : Expr} {te : TE} {k : Nat} {p1 p2 p3 pos : Pos} (he : PE X e te) : PE X (.Subscript e (.Slice none none (some (.UnaryOp .USub (.Constant (.int 1) k p1) p2)) p3) pos) (tRevS te) := by
  refine ⟨fun pins s σ H Q I h => ?_⟩
  refine Subscript_ (thn (he.run pins s σ H _ I h) fun v s1 ⟨x, H1, I1, r1, q1⟩ => ?_)
  obtain ⟨z, ex, hz, q⟩ := q1
  subst ex
  obtain ⟨tz, rfl⟩ := r1
  have hst : PO X (some (.UnaryOp .USub (.Constant (.int 1) k p1) p2)) (tPart (tUn (rU fun i => .int (-i)) (tC (.int 1)))) := po_some (pe_un un_neg pe_int)
  refine wpAny_Slice (thn (po_none.run pins s1 σ H1 (fun o H2 => o = none ∧ H2 = H1) I1 ⟨rfl, rfl⟩) fun vl s2 ⟨l, H2, I2, pl, el, e2⟩ => ?_)
  subst el e2
  refine thn (po_none.run pins s2 σ H2 (fun o H3 => o = none ∧ H3 = H2) I2 ⟨rfl, rfl⟩) fun vu s3 ⟨u, H3, I3, pu, eu, e3⟩ => ?_
  subst eu e3
  refine thn (hst.run pins s3 σ H3 (fun o H4 => o = some (-1) ∧ H4 = H3) I3 ⟨1, rfl, -1, rfl, rfl, rfl⟩) fun vs s4 ⟨o, H4, I4, ps, eo, e4⟩ => ?_
  subst eo e4
  have I5 : Inv X pins σ H4 { s4 with heap := s4.heap.push { cls := .type "slice", data := .fields #[vl, vu, vs] } } := I4.kept (t' := s4.toks) fun b ob q => Heap.get?_push_of_some _ q
  show wpAny (model X.prog X.w) X.A (subscriptTail e (.Slice none none (some (.UnaryOp .USub (.Constant (.int 1) k p1) p2)) p3) (.str z tz) (.ref s4.heap.objs.size)) (EP X pins σ Q) X.xe { s4 with heap := s4.heap.push { cls := .type "slice", data := .fields #[vl, vu, vs] } }
  obtain ⟨l, rfl, e1⟩ := IsPart.raw pl
  obtain ⟨u, rfl, e2⟩ := IsPart.raw pu
  obtain ⟨st, rfl, e3⟩ := IsPart.raw ps
  have el : l = none := by cases l <;> simp_all
  have eu : u = none := by cases u <;> simp_all
  subst el eu
  refine tail_any (ops := [.str z tz, .ref s4.heap.objs.size]) (typeIs_str _ _ _) (F.slot_str_getitem.lookup) ?_ (by with_unfolding_all rfl)
  refine wpAny_getItem_str_slice (l := none) (u := none) (st := st) ⟨_, Heap.get?_push_size _ rfl, rfl, rfl⟩ (by rw [e3]; rfl) ?_
  have hp : ((Builtin.Str.strSliceIndices none none (-1) z.length).filterMap (z.cps[·]?)) = z.cps.toList.reverse := by
    unfold Builtin.Str.strSliceIndices
    show ((PySem.sliceRange ((z.length : Int) - 1) (-1) (-1)).filterMap (z.cps[·]?)) = _
    rw [PySem.W.krv_sliceRange, PySem.W.krv_range, List.filterMap_reverse]
    exact congrArg List.reverse (PySem.W.krv_all z.cps)
  have hl : (revS z).length ≤ sizeLine := by
    have : (revS z).length = z.length := by
      show (z.cps.toList.reverse.toArray).size = z.cps.size
      rw [List.size_toArray, List.length_reverse, Array.length_toList]
    omega
  unfold sliceMade slicePicked
  rw [e3]
  show Made.post (if ((-1 : Int) == 1 && _) = true then _ else Made.str ⟨((Builtin.Str.strSliceIndices none none (-1) z.length).filterMap (z.cps[·]?)).toArray⟩) _ _
  rw [hp, if_neg (by simp)]
  exact ⟨hl, .str (revS z), H4, I5.tok _, ⟨_, rfl⟩, q⟩
end
end L2

set_option Elab.async false
set_option linter.all false
set_option maxRecDepth 100000
set_option maxHeartbeats 4000000
/-! LcKit: comprehensions whose items are known one by one. -/
namespace L2
open PySem
/-- all but the lists stay -/
def KeepL (H H' : Hp) : Prop := ∀ b o, H b = some o → (∀ l, o ≠ .lst l) → H' b = some o
theorem KeepL.of {H H' : Hp} (s : ∀ b o, H b = some o → H' b = some o) : KeepL H H' := fun b o e _ => s b o e
theorem KeepL.trans {H H1 H2 : Hp} (s : KeepL H H1) (t : KeepL H1 H2) : KeepL H H2 := fun b o e n => t b o (s b o e n) n
inductive All2 {α β : Type} (R : α → β → Prop) : List α → List β → Prop
  | nil : All2 R [] []
  | cons {x : α} {z : β} {xs : List α} {zs : List β} (h : R x z) (t : All2 R xs zs) : All2 R (x :: xs) (z :: zs)
section
variable {α β : Type} {R : α → β → Prop}
theorem All2.length {xs : List α} {zs : List β} (h : All2 R xs zs) : xs.length = zs.length := by
  induction h with
  | nil => rfl
  | cons _ _ ih => rw [List.length_cons, List.length_cons, ih]
theorem All2.get {xs : List α} {zs : List β} (h : All2 R xs zs) {i : Nat} {x : α} (e : xs[i]? = some x) : ∃ z, zs[i]? = some z ∧ R x z := by
  induction h generalizing i with
  | nil => cases e
  | cons h t ih =>
    cases i with
    | zero => cases e; exact ⟨_, rfl, h⟩
    | succ i => exact ih e
theorem All2.getR {xs : List α} {zs : List β} (h : All2 R xs zs) {i : Nat} {z : β} (e : zs[i]? = some z) : ∃ x, xs[i]? = some x ∧ R x z := by
  induction h generalizing i with
  | nil => cases e
  | cons h t ih =>
    cases i with
    | zero => cases e; exact ⟨_, rfl, h⟩
    | succ i => exact ih e
theorem All2.append {xs ys : List α} {zs ws : List β} (h : All2 R xs zs) (g : All2 R ys ws) : All2 R (xs ++ ys) (zs ++ ws) := by
  induction h with
  | nil => exact g
  | cons h t ih => exact .cons h ih
theorem All2.mono {S : α → β → Prop} {xs : List α} {zs : List β} (h : All2 R xs zs) (m : ∀ x z, z ∈ zs → R x z → S x z) : All2 S xs zs := by
  induction h with
  | nil => exact .nil
  | cons h t ih => exact .cons (m _ _ List.mem_cons_self h) (ih fun x z hz r => m x z (List.mem_cons_of_mem _ hz) r)
theorem All2.drop {xs : List α} {zs : List β} (h : All2 R xs zs) : ∀ k : Nat, All2 R (xs.drop k) (zs.drop k)
  | 0 => h
  | k + 1 => by
    cases h with
    | nil => exact .nil
    | cons h t => exact t.drop k
theorem All2.take {xs : List α} {zs : List β} (h : All2 R xs zs) : ∀ k : Nat, All2 R (xs.take k) (zs.take k)
  | 0 => .nil
  | k + 1 => by
    cases h with
    | nil => exact .nil
    | cons h t => exact .cons h (t.take k)
theorem All2.map {γ : Type} {f : γ → α} {g : γ → β} : ∀ {cs : List γ}, (∀ c ∈ cs, R (f c) (g c)) → All2 R (cs.map f) (cs.map g)
  | [], _ => .nil
  | c :: cs, h => .cons (h c List.mem_cons_self) (All2.map fun d hd => h d (List.mem_cons_of_mem _ hd))
theorem All2.mem {xs : List α} {zs : List β} (h : All2 R xs zs) {x : α} (e : x ∈ xs) : ∃ z, z ∈ zs ∧ R x z := by
  obtain ⟨i, hi⟩ := List.mem_iff_getElem?.mp e
  obtain ⟨z, hz, r⟩ := h.get hi
  exact ⟨z, List.mem_of_getElem? hz, r⟩
/-- values that are told by what they are -/
theorem All2.eq_map {f : β → α} {xs : List α} {zs : List β} (h : All2 (fun x z => x = f z) xs zs) : xs = zs.map f := by
  induction h with
  | nil => rfl
  | cons h t ih => rw [List.map_cons, h, ih]
theorem All2.of_map {f : β → α} : ∀ zs : List β, All2 (fun x z => x = f z) (zs.map f) zs
  | [] => .nil
  | z :: zs => .cons rfl (All2.of_map zs)
end
theorem filter_take_succ {β γ : Type} {zs : List β} {i : Nat} {z : β} (e : zs[i]? = some z) (t : β → Bool) (f : β → γ) : ((zs.take (i + 1)).filter t).map f = ((zs.take i).filter t).map f ++ (if t z = true then [f z] else []) := by
  rw [List.take_succ, e, List.filter_append, List.map_append]
  congr 1
  by_cases h : t z = true
  · rw [if_pos h]
    simp [h]
  · rw [if_neg h]
    simp [h]
section
variable {K : PySem.W.Frag} {g : TG} {tt : TT} {te : TE} {vs : List Nat} {σ : St} {H1 : Hp} {D : Addr} {Qd : Hp → Prop} {α β : Type} {zs : List α} {R : Hp → V → α → Prop} {R' : Hp → V → β → Prop}
theorem sqT_same {H H' : Hp} {a : Addr} {xs : List V} (e : ∀ b o, H b = some o → H' b = some o) (h : SqT K H a xs) : SqT K H' a xs :=
  h.elim (fun h => .inl (h.elim (fun h => .inl (e _ _ h)) fun ⟨o, h⟩ => .inr ⟨o, e _ _ h⟩)) fun h => .inr h
theorem sqL_same {H H' : Hp} {a : Addr} {xs : List V} (e : ∀ b o, H b = some o → H' b = some o) (h : SqL K H a xs) : SqL K H' a xs :=
  h.elim (fun h => .inl (h.elim (fun h => .inl (e _ _ h)) fun ⟨o, h⟩ => .inr ⟨o, e _ _ h⟩)) fun h => .inr h
/-- one turn's wish -/
def LcP (H1 : Hp) (D : Addr) (R' : Hp → V → β → Prop) (zs : List α) (t : α → Bool) (f : α → β) (i : Nat) (H : Hp) : Prop := (∀ b o, H1 b = some o → H b = some o) ∧ ∃ ys, H D = some (.lst ys) ∧ All2 (R' H) ys (((zs.take i).filter t).map f)
theorem lcP_put {t : α → Bool} {f : α → β} {i : Nat} {z : α} {H H4 : Hp} {y : V} (hD : H1 D = none) (mR' : ∀ H H' x z, KeepL H H' → R' H x z → R' H' x z) (hz : zs.length < sizeLine) (e : zs[i]? = some z) (p : LcP H1 D R' zs t f i H) (ht : t z = true)
    (s : ∀ b o, H b = some o → H4 b = some o) (r : R' H4 y (f z)) : ∃ acc, H4 D = some (.lst acc) ∧ acc.length < sizeLine ∧ LcP H1 D R' zs t f (i + 1) (upd H4 D (.lst (acc ++ [y]))) := by
  obtain ⟨s1, ys, hd, a⟩ := p
  have kl : KeepL H4 (upd H4 D (.lst (ys ++ [y]))) := fun b o e n => by
    rw [upd_ne (fun q => by subst q; rw [s _ _ hd] at e; cases e; exact n _ rfl)]
    exact e
  have hlen := a.length
  rw [List.length_map] at hlen
  have h1 : ((zs.take i).filter t).length ≤ zs.length := Nat.le_trans (List.length_filter_le _ _) (by rw [List.length_take]; omega)
  refine ⟨ys, s _ _ hd, by omega, fun b o e => ?_, _, upd_same, ?_⟩
  · rw [upd_ne (ne_of_none e hD)]
    exact s _ _ (s1 _ _ e)
  · rw [filter_take_succ e, if_pos ht]
    exact (a.mono fun x z _ r => mR' _ _ _ _ kl (mR' _ _ _ _ (.of s) r)).append (.cons (mR' _ _ _ _ kl r) .nil)
theorem lcP_skip {t : α → Bool} {f : α → β} {i : Nat} {z : α} {H H3 : Hp} (mR' : ∀ H H' x z, KeepL H H' → R' H x z → R' H' x z) (e : zs[i]? = some z) (p : LcP H1 D R' zs t f i H) (ht : t z = false)
    (s : ∀ b o, H b = some o → H3 b = some o) : LcP H1 D R' zs t f (i + 1) H3 := by
  obtain ⟨s1, ys, hd, a⟩ := p
  refine ⟨fun b o e => s _ _ (s1 _ _ e), ys, s _ _ hd, ?_⟩
  rw [filter_take_succ e, if_neg (by rw [ht]; simp), List.append_nil]
  exact a.mono fun x z _ r => mR' _ _ _ _ (.of s) r
theorem lcP_zero {t : α → Bool} {f : α → β} (hD : H1 D = none) : LcP H1 D R' zs t f 0 (upd H1 D (.lst [])) := ⟨fun b o e => by rw [upd_ne (ne_of_none e hD)]; exact e, [], upd_same, .nil⟩
/-- over a list whose items are known -/
theorem lcM_list {a : Addr} {xs : List V} (t : α → Bool) (f : α → β) (hD : H1 D = none) (hS : SqL K H1 a xs) (hx : All2 (R H1) xs zs) (mR : ∀ H H' x z, (∀ b o, H b = some o → H' b = some o) → R H x z → R H' x z) (mR' : ∀ H H' x z, KeepL H H' → R' H x z → R' H' x z) (hz : zs.length < sizeLine)
    (step : ∀ (i : Nat) (x : V) (z : α) (H : Hp) (C : V → Hp → Prop) (C0 : Hp → Prop), zs[i]? = some z → (∀ b o, H1 b = some o → H b = some o) → R H x z →
      (t z = true → ∀ y H4, (∀ b o, H b = some o → H4 b = some o) → R' H4 y (f z) → C y H4) → (t z = false → ∀ H3, (∀ b o, H b = some o → H3 b = some o) → C0 H3) →
      g x (wipe σ vs) H fun σ2 H2 => wipe σ2 vs = wipe σ vs ∧ tt σ2 H2 fun b H3 => if b = true then te σ2 H3 C else C0 H3)
    (fin : ∀ ys H, (∀ b o, H1 b = some o → H b = some o) → H D = some (.lst ys) → All2 (R' H) ys ((zs.filter t).map f) → Qd H) :
    ∃ W : Nat → Nat → Hp → Prop, (∃ m, W 0 m (upd H1 D (.lst []))) ∧ ∀ i m H, W i m H →
      ((Itl K a).stop i H ∧ Qd H) ∨ ((Itl K a).go i H ∧ ∃ Nx : Hp → Prop, (∀ H', Nx H' → ∃ m', m' < m ∧ W (i + 1) m' H') ∧ ∀ x H', (Itl K a).yld i H x H' → g x (wipe σ vs) H' fun σ2 H2 => wipe σ2 vs = wipe σ vs ∧ tt σ2 H2 fun b H3 =>
        if b = true then te σ2 H3 fun y H4 => ∃ acc, H4 D = some (.lst acc) ∧ acc.length < sizeLine ∧ Nx (upd H4 D (.lst (acc ++ [y]))) else Nx H3) := by
  have el := hx.length
  refine lc_list (xs := xs) (LcP H1 D R' zs t f) (lcP_zero hD) (fun i H _ p => sqL_same p.1 hS) (fun i x H hi p => ?_) (fun H p => ?_)
  · obtain ⟨z, e, r⟩ := hx.get hi
    exact step i x z H _ _ e p.1 (mR _ _ _ _ p.1 r) (fun ht y H4 s r => lcP_put hD mR' hz e p ht s r) (fun ht H3 s => lcP_skip mR' e p ht s)
  · obtain ⟨s1, ys, hd, a2⟩ := p
    rw [el, List.take_length] at a2
    exact fin ys H s1 hd a2
/-- over a tuple -/
theorem lcM_tup {a : Addr} {xs : List V} (t : α → Bool) (f : α → β) (hD : H1 D = none) (hS : SqT K H1 a xs) (hx : All2 (R H1) xs zs) (mR : ∀ H H' x z, (∀ b o, H b = some o → H' b = some o) → R H x z → R H' x z) (mR' : ∀ H H' x z, KeepL H H' → R' H x z → R' H' x z) (hz : zs.length < sizeLine)
    (step : ∀ (i : Nat) (x : V) (z : α) (H : Hp) (C : V → Hp → Prop) (C0 : Hp → Prop), zs[i]? = some z → (∀ b o, H1 b = some o → H b = some o) → R H x z →
      (t z = true → ∀ y H4, (∀ b o, H b = some o → H4 b = some o) → R' H4 y (f z) → C y H4) → (t z = false → ∀ H3, (∀ b o, H b = some o → H3 b = some o) → C0 H3) →
      g x (wipe σ vs) H fun σ2 H2 => wipe σ2 vs = wipe σ vs ∧ tt σ2 H2 fun b H3 => if b = true then te σ2 H3 C else C0 H3)
    (fin : ∀ ys H, (∀ b o, H1 b = some o → H b = some o) → H D = some (.lst ys) → All2 (R' H) ys ((zs.filter t).map f) → Qd H) :
    ∃ W : Nat → Nat → Hp → Prop, (∃ m, W 0 m (upd H1 D (.lst []))) ∧ ∀ i m H, W i m H →
      ((Itt K a).stop i H ∧ Qd H) ∨ ((Itt K a).go i H ∧ ∃ Nx : Hp → Prop, (∀ H', Nx H' → ∃ m', m' < m ∧ W (i + 1) m' H') ∧ ∀ x H', (Itt K a).yld i H x H' → g x (wipe σ vs) H' fun σ2 H2 => wipe σ2 vs = wipe σ vs ∧ tt σ2 H2 fun b H3 =>
        if b = true then te σ2 H3 fun y H4 => ∃ acc, H4 D = some (.lst acc) ∧ acc.length < sizeLine ∧ Nx (upd H4 D (.lst (acc ++ [y]))) else Nx H3) := by
  have el := hx.length
  refine lc_tup (xs := xs) (LcP H1 D R' zs t f) (lcP_zero hD) (fun i H _ p => sqT_same p.1 hS) (fun i x H hi p => ?_) (fun H p => ?_)
  · obtain ⟨z, e, r⟩ := hx.get hi
    exact step i x z H _ _ e p.1 (mR _ _ _ _ p.1 r) (fun ht y H4 s r => lcP_put hD mR' hz e p ht s r) (fun ht H3 s => lcP_skip mR' e p ht s)
  · obtain ⟨s1, ys, hd, a2⟩ := p
    rw [el, List.take_length] at a2
    exact fin ys H s1 hd a2
/-- over a range -/
theorem lcM_range {lo : Int} {n : Nat} (t : Nat → Bool) (f : Nat → β) (hD : H1 D = none) (mR' : ∀ H H' x z, KeepL H H' → R' H x z → R' H' x z) (hz : n < sizeLine)
    (step : ∀ (i : Nat) (H : Hp) (C : V → Hp → Prop) (C0 : Hp → Prop), i < n → (∀ b o, H1 b = some o → H b = some o) →
      (t i = true → ∀ y H4, (∀ b o, H b = some o → H4 b = some o) → R' H4 y (f i) → C y H4) → (t i = false → ∀ H3, (∀ b o, H b = some o → H3 b = some o) → C0 H3) →
      g (.int (lo + i)) (wipe σ vs) H fun σ2 H2 => wipe σ2 vs = wipe σ vs ∧ tt σ2 H2 fun b H3 => if b = true then te σ2 H3 C else C0 H3)
    (fin : ∀ ys H, (∀ b o, H1 b = some o → H b = some o) → H D = some (.lst ys) → All2 (R' H) ys (((List.range n).filter t).map f) → Qd H) :
    ∃ W : Nat → Nat → Hp → Prop, (∃ m, W 0 m (upd H1 D (.lst []))) ∧ ∀ i m H, W i m H →
      ((Itr lo n).stop i H ∧ Qd H) ∨ ((Itr lo n).go i H ∧ ∃ Nx : Hp → Prop, (∀ H', Nx H' → ∃ m', m' < m ∧ W (i + 1) m' H') ∧ ∀ x H', (Itr lo n).yld i H x H' → g x (wipe σ vs) H' fun σ2 H2 => wipe σ2 vs = wipe σ vs ∧ tt σ2 H2 fun b H3 =>
        if b = true then te σ2 H3 fun y H4 => ∃ acc, H4 D = some (.lst acc) ∧ acc.length < sizeLine ∧ Nx (upd H4 D (.lst (acc ++ [y]))) else Nx H3) := by
  refine lc_range (LcP H1 D R' (List.range n) t f) (lcP_zero hD) (fun i H hi p => ?_) (fun H p => ?_)
  · have e : (List.range n)[i]? = some i := List.getElem?_range hi
    exact step i H _ _ hi p.1 (fun ht y H4 s r => lcP_put hD mR' (by rw [List.length_range]; exact hz) e p ht s r) (fun ht H3 s => lcP_skip mR' e p ht s)
  · obtain ⟨s1, ys, hd, a2⟩ := p
    have e2 : (List.range n).take n = List.range n := List.take_of_length_le (by rw [List.length_range]; exact Nat.le_refl _)
    rw [e2] at a2
    exact fin ys H s1 hd a2
end
end L2

set_option Elab.async false
set_option linter.all false
set_option maxRecDepth 100000
set_option maxHeartbeats 4000000
/-! DataKit: sorted, min of data at any depth and length, as rules of the layer. -/
namespace L2
open PySem PySem.Spec PyProof.Rows
section
variable {X : Cx} {pins : List (Addr × Obj)} {σ : St} {H : Hp} {s : Shared}
theorem each_vals (I : Inv X pins σ H s) : ∀ {bs : List (V × PyData)} {us : List Value}, Vals (bs.map (·.1)) us → (∀ b ∈ bs, Dp X.K H b.1 b.2) → PySem.W.EachIs (fun v b => RelV b.1 v) us bs ∧ PySem.W.EachIs (fun v b => ∃ as, Reads s.heap v b.2 as) us bs
  | [], _, r, _ => by
    cases r
    exact ⟨.nil, .nil⟩
  | b :: bs, _, r, h => by
    cases r with
    | cons r1 r2 =>
      obtain ⟨e1, e2⟩ := each_vals I r2 fun c hc => h c (List.mem_cons_of_mem _ hc)
      exact ⟨.cons r1 e1, .cons (Dp.reads I _ _ _ (h b List.mem_cons_self) r1) e2⟩
theorem vals_each : ∀ {us : List Value} {bs : List (V × PyData)}, PySem.W.EachIs (fun v b => RelV b.1 v) us bs → Vals (bs.map (·.1)) us
  | _, _, .nil => .nil
  | _, _, .cons r t => .cons r (vals_each t)
/-- sorted(xs) of data that are alike -/
def rSortedD (K : PySem.W.Frag) : List V → Hp → VK → Prop := fun vs H Q => ∃ (a : Addr) (bs : List (V × PyData)), vs = [V.ref a] ∧ SqL K H a (bs.map (·.1)) ∧ (∀ b ∈ bs, Dp K H b.1 b.2) ∧ PySem.W.AllAlike (bs.map (·.2)) ∧ PySem.W.Sortable (bs.map (·.2)) ∧ (∀ b ∈ bs, b.2.depth ≤ 50) ∧
  ∀ p, H p = none → Q (.ref p) (upd H p (.lst ((bs.mergeSort (PySem.W.dataLe false (·.2))).map (·.1))))
theorem cr_sortedD (hu : X.A.units + 64 < cLine) : CallR X (.builtin "sorted") (rSortedD X.K) := by
  intro pins s σ H vs us Q I r h
  obtain ⟨a, bs, rfl, hs, hd, hal, hk, hdep, q⟩ := h
  obtain ⟨its, rv, hl, hz⟩ := I.list hs
  obtain ⟨u, rfl, ru⟩ := vals1 r
  obtain rfl : u = Value.ref a := ru
  obtain ⟨e1, e2⟩ := each_vals I rv hd
  rw [List.length_map] at hz
  refine PySem.W.sorted_data (enc := fun b : V × PyData => b.2) hl.isList e1 e2 hal hk hz (fun b hb => by have := hdep b hb; omega) fun out hlen ho => ?_
  obtain ⟨n, hn⟩ := sortedAll_at s.heap its out.toArray
  have rv2 := vals_each ho
  exact ⟨.ref (s.heap.objs.size + 1), _, I.laid (t' := s.toks) (a := s.heap.objs.size + 1) (o := .lst ((bs.mergeSort (PySem.W.dataLe false (·.2))).map (·.1))) (fun b o e => sortedAll_old e) (Nat.le_succ _) ⟨by rw [rv2.length, hlen]; exact hz, out, n, rv2, hn⟩, rfl, q _ (I.hok.fresh (Nat.le_succ _))⟩
/-- min(xs) of texts, one at least -/
def minS (x : Str) (xs : List Str) : Str := xs.foldl (fun a y => if decide (y.cps.toList < a.cps.toList) = true then y else a) x
theorem minD_strs (x : Str) : ∀ xs : List Str, PySem.W.minD (.str x) (xs.map PyData.str) = .str (minS x xs) := by
  intro xs
  induction xs generalizing x with
  | nil => rfl
  | cons y ys ih =>
    show PySem.W.minD (if PySem.W.dataLt (.str y) (.str x) = true then .str y else .str x) (ys.map PyData.str) = .str (minS (if decide (y.cps.toList < x.cps.toList) = true then y else x) ys)
    rw [PySem.W.dataLt_str]
    split
    · exact ih y
    · exact ih x
theorem reads_strs {h : Heap} : ∀ {xs : List Str} {us : List Value}, Vals (xs.map V.str) us → ∃ as, ReadsAll h us (xs.map PyData.str) as
  | [], _, r => by
    cases r
    exact ⟨_, .nil⟩
  | x :: xs, _, r => by
    cases r with
    | cons r1 r2 =>
      obtain ⟨t, rfl⟩ := r1
      obtain ⟨as, z⟩ := reads_strs (h := h) r2
      exact ⟨_, .cons (.str x t) z⟩
theorem depth_strs : ∀ xs : List Str, PyData.depthAll (xs.map PyData.str) ≤ 1
  | [] => by simp [PyData.depthAll]
  | x :: xs => by
    have := depth_strs xs
    simp only [List.map_cons, PyData.depthAll, PyData.depth]
    omega
def rMinS (K : PySem.W.Frag) : List V → Hp → VK → Prop := fun vs H Q => ∃ (a : Addr) (x : Str) (xs : List Str), vs = [V.ref a] ∧ SqL K H a ((x :: xs).map V.str) ∧ Q (.str (minS x xs)) H
theorem cr_minS (hc : X.calm = true) (hu : X.A.units + 64 < cLine) : CallR X (.builtin "min") (rMinS X.K) := by
  intro pins s σ H vs us Q I r h
  obtain ⟨a, x, xs, rfl, hs, q⟩ := h
  obtain ⟨its, rv, hl, hz⟩ := I.list hs
  obtain ⟨u, rfl, ru⟩ := vals1 r
  obtain rfl : u = Value.ref a := ru
  obtain ⟨as, hr⟩ := reads_strs (h := s.heap) rv
  have hdep := depth_strs (x :: xs)
  refine PySem.W.min_list_data (x := .str x) (xs := xs.map PyData.str) (I.ok.hd hc) hl.isList (by simpa using hr) ⟨fun y hy z hz => ?_, fun y hy => ?_⟩ (by have : PyData.depthAll (PyData.str x :: xs.map PyData.str) ≤ 1 := hdep; omega) fun i v h' tk bs hv hrd hk => ?_
  · obtain ⟨y', _, rfl⟩ := List.mem_map.mp (show y ∈ (x :: xs).map PyData.str from hy)
    obtain ⟨z', _, rfl⟩ := List.mem_map.mp (show z ∈ (x :: xs).map PyData.str from hz)
    simp [PySem.W.alike]
  · obtain ⟨y', _, rfl⟩ := List.mem_map.mp (show y ∈ (x :: xs).map PyData.str from hy)
    exact fun z => nomatch z
  · rw [minD_strs] at hrd
    cases hrd with
    | str _ t => exact ⟨.str (minS x xs), H, I.kept (t' := tk) hk, ⟨t, rfl⟩, q⟩
end
end L2

set_option Elab.async false
set_option linter.all false
set_option maxRecDepth 100000
set_option maxHeartbeats 4000000
/-! StrL: texts by the lists of their codes. -/
namespace L2
open PySem PySem.Spec PyProof.Rows
def strL (l : List Nat) : Str := ⟨l.toArray⟩
def strV (l : List Nat) : V := .str (strL l)
theorem strL_list (l : List Nat) : (strL l).cps.toList = l := by simp [strL]
theorem strL_size (l : List Nat) : (strL l).cps.size = l.length := by simp [strL]
theorem strL_len (l : List Nat) : (strL l).length = l.length := by show l.toArray.size = _; simp
theorem strL_of (z : Str) : z = strL z.cps.toList := by
  cases z
  simp [strL]
theorem strL_add (a b : List Nat) : strL a ++ strL b = strL (a ++ b) := by
  show (⟨a.toArray ++ b.toArray⟩ : Str) = ⟨(a ++ b).toArray⟩
  simp
theorem strL_inj {a b : List Nat} : strL a = strL b ↔ a = b := by
  constructor
  · intro h
    have := congrArg (fun z : Str => z.cps.toList) h
    simpa [strL] using this
  · rintro rfl
    rfl
theorem strV_inj {a b : List Nat} : V.str (strL a) = V.str (strL b) ↔ a = b := by
  constructor
  · intro h
    injection h with h
    exact strL_inj.mp h
  · rintro rfl
    rfl
theorem strL_dec (a b : List Nat) : decide (V.str (strL a) = V.str (strL b)) = decide (a = b) := by
  by_cases h : a = b
  · rw [decide_eq_true h, decide_eq_true (strV_inj.mpr h)]
  · rw [decide_eq_false h, decide_eq_false fun z => h (strV_inj.mp z)]
theorem cutN (l : List Nat) (a b : Nat) : cutS (strL l) (some (a : Int)) (some (b : Int)) = strL ((l.take b).drop a) := by
  rw [strL_of (cutS _ _ _)]
  congr 1
  show (((strL l).cps.toList.drop (HT.sIx (strL l).length 0 (some (a : Int)))).take (HT.sIx (strL l).length (strL l).length (some (b : Int)) - HT.sIx (strL l).length 0 (some (a : Int)))).toArray.toList = _
  rw [HT.sIx_nat, HT.sIx_nat, strL_list, strL_len]
  simp only [List.toList_toArray]
  rw [List.drop_take]
  by_cases h1 : a ≤ l.length
  · rw [Nat.min_eq_left h1]
    by_cases h2 : b ≤ l.length
    · rw [Nat.min_eq_left h2]
    · rw [Nat.min_eq_right (by omega), List.take_of_length_le (by rw [List.length_drop]; omega), List.take_of_length_le (by rw [List.length_drop]; omega)]
  · rw [List.drop_of_length_le (by omega : l.length ≤ min a l.length), List.drop_of_length_le (by omega : l.length ≤ a)]
    simp
theorem cutL (l : List Nat) (k : Nat) : cutS (strL l) (some (k : Int)) none = strL (l.drop k) := by
  rw [strL_of (cutS _ _ _)]
  congr 1
  show (((strL l).cps.toList.drop (HT.sIx (strL l).length 0 (some (k : Int)))).take (HT.sIx (strL l).length (strL l).length none - HT.sIx (strL l).length 0 (some (k : Int)))).toArray.toList = _
  rw [HT.sIx_none, HT.sIx_nat, strL_list, strL_len]
  simp only [List.toList_toArray]
  rw [List.take_of_length_le (by rw [List.length_drop]; omega), Nat.min_def]
  split
  · rfl
  · rw [List.drop_of_length_le (Nat.le_refl _), List.drop_of_length_le (by omega)]
theorem takeL (l : List Nat) (k : Nat) : cutS (strL l) none (some (k : Int)) = strL (l.take k) := by
  rw [strL_of (cutS _ _ _)]
  congr 1
  show (((strL l).cps.toList.drop (HT.sIx (strL l).length 0 none)).take (HT.sIx (strL l).length (strL l).length (some (k : Int)) - HT.sIx (strL l).length 0 none)).toArray.toList = _
  rw [HT.sIx_none, HT.sIx_nat, strL_list, strL_len]
  simp only [List.toList_toArray, List.drop_zero, Nat.sub_zero]
  rw [Nat.min_def]
  split
  · rfl
  · rw [List.take_of_length_le (Nat.le_refl _), List.take_of_length_le (by omega)]
theorem repL (l : List Nat) (k : Nat) : repS (strL l) k = strL (List.replicate k l).flatten := by
  show (⟨(List.replicate k (strL l).cps.toList).flatten.toArray⟩ : Str) = _
  rw [strL_list]
  rfl
theorem joinL_nil0 : ∀ ys : List (List Nat), TL.joinL [] ys = ys.flatten
  | [] => rfl
  | [p] => by rw [List.flatten_cons, List.flatten_nil, List.append_nil]; rfl
  | p :: q :: r => (show p ++ TL.joinL [] (q :: r) = _ from by rw [joinL_nil0 (q :: r)]; rfl)
theorem joinV (ws : List (List Nat)) : Txt.join "" (ws.map strL) = strL ws.flatten := by
  have e : ws.map strL = ws.map SX.S := List.map_congr_left fun w _ => by
    have := SX.S_tl (strL w)
    rw [strL_list] at this
    exact this.symm
  rw [e, show ("" : Str) = SX.S [] from rfl, SX.join_S, joinL_nil0, strL_of (SX.S _)]
theorem sum_lenV (ws : List (List Nat)) : ((ws.map strL).map (·.length)).sum = ws.flatten.length := by
  rw [List.length_flatten, List.map_map]
  exact congrArg List.sum (List.map_congr_left fun w _ => strL_len w)
theorem ones_flat : ∀ l : List Nat, (l.map fun c => [c]).flatten = l
  | [] => rfl
  | c :: l => by rw [List.map_cons, List.flatten_cons, ones_flat l]; rfl
theorem mapV (ws : List (List Nat)) : (ws.map strL).map V.str = ws.map strV := by
  rw [List.map_map]
  rfl
theorem cut_tail1 (xs : List V) : cutV xs (some 1) none = xs.drop 1 := by
  unfold cutV
  rw [HT.sIx_none, show (some (1 : Int)) = some ((1 : Nat) : Int) from rfl, HT.sIx_nat]
  by_cases h : xs.length ≤ 1
  · rw [Nat.min_eq_right h, List.drop_length, List.drop_of_length_le h, List.take_nil]
  · rw [Nat.min_eq_left (by omega), List.take_of_length_le (by rw [List.length_drop]; omega)]
end L2

set_option Elab.async false
set_option linter.all false
set_option maxRecDepth 100000
set_option maxHeartbeats 4000000
/-! SortKit: a list put in order, as a plain function that evaluates. -/
namespace L2
open PySem
section
variable {α : Type} (le : α → α → Bool)
def ins (a : α) : List α → List α
  | [] => [a]
  | b :: r => if le a b = true then a :: b :: r else b :: ins a r
def isort : List α → List α
  | [] => []
  | a :: r => ins le a (isort r)
theorem ins_perm (a : α) : ∀ l, (ins le a l).Perm (a :: l)
  | [] => .refl _
  | b :: r => by
    unfold ins
    split
    · exact .refl _
    · exact ((ins_perm a r).cons b).trans (.swap a b r)
theorem isort_perm : ∀ l, (isort le l).Perm l
  | [] => .refl _
  | a :: r => (ins_perm le a _).trans ((isort_perm r).cons a)
variable (trans : ∀ x y z, le x y = true → le y z = true → le x z = true) (total : ∀ x y, (le x y || le y x) = true)
include trans total
theorem ins_sorted (a : α) : ∀ {l : List α}, l.Pairwise (fun x y => le x y = true) → (ins le a l).Pairwise (fun x y => le x y = true)
  | [], _ => List.pairwise_singleton _ _
  | b :: r, h => by
    obtain ⟨h1, h2⟩ := List.pairwise_cons.mp h
    unfold ins
    split
    · rename_i q
      refine List.pairwise_cons.mpr ⟨fun c hc => ?_, h⟩
      rcases List.mem_cons.mp hc with rfl | hc
      · exact q
      · exact trans _ _ _ q (h1 c hc)
    · rename_i q
      refine List.pairwise_cons.mpr ⟨fun c hc => ?_, ins_sorted a h2⟩
      have hc2 := (ins_perm le a r).mem_iff.mp hc
      rcases List.mem_cons.mp hc2 with rfl | hc2
      · have t := total c b
        rw [Bool.or_eq_true] at t
        exact t.resolve_left q
      · exact h1 c hc2
theorem isort_sorted : ∀ l : List α, (isort le l).Pairwise (fun x y => le x y = true)
  | [] => List.Pairwise.nil
  | a :: r => ins_sorted le trans total a (isort_sorted r)
omit trans total in
theorem sorted_uniq : ∀ {l m : List α}, (∀ x ∈ l, ∀ y ∈ l, le x y = true → le y x = true → x = y) → l.Perm m → l.Pairwise (fun x y => le x y = true) → m.Pairwise (fun x y => le x y = true) → l = m
  | [], m, _, p, _, _ => by rw [List.nil_perm.mp p]
  | a :: l, m, an, p, h1, h2 => by
    cases m with
    | nil => exact absurd p.length_eq (by simp)
    | cons b m =>
      obtain ⟨s1, s2⟩ := List.pairwise_cons.mp h1
      obtain ⟨t1, t2⟩ := List.pairwise_cons.mp h2
      have e : a = b := by
        have ha : a ∈ b :: m := p.mem_iff.mp List.mem_cons_self
        have hb : b ∈ a :: l := p.mem_iff.mpr List.mem_cons_self
        rcases List.mem_cons.mp ha with e | ha
        · exact e
        rcases List.mem_cons.mp hb with e | hb2
        · exact e.symm
        exact an _ List.mem_cons_self _ hb (s1 b hb2) (t1 a ha)
      subst e
      rw [sorted_uniq (fun x hx y hy => an x (List.mem_cons_of_mem _ hx) y (List.mem_cons_of_mem _ hy)) p.cons_inv s2 t2]
theorem msort_isort (l : List α) (an : ∀ x ∈ l, ∀ y ∈ l, le x y = true → le y x = true → x = y) : l.mergeSort le = isort le l := by
  refine sorted_uniq le (fun x hx y hy => an x ((List.mergeSort_perm l le).mem_iff.mp hx) y ((List.mergeSort_perm l le).mem_iff.mp hy)) ((List.mergeSort_perm l le).trans (isort_perm le l).symm) ?_ (isort_sorted le trans total l)
  exact List.pairwise_mergeSort (fun a b c => trans a b c) (fun a b => total a b) l
end
/-- a sign and its place, as data -/
def skey (cs : List Nat) (i : Nat) : PyData := .tuple [.str ⟨#[cs.getD i 0]⟩, .int i]
/-- a pair of an address and its place, by sign and place -/
def dle {β : Type} (k : β → PyData) : β → β → Bool := PySem.W.dataLe false k
theorem dle_trans {β : Type} (k : β → PyData) (x y z : β) (h1 : dle k x y = true) (h2 : dle k y z = true) : dle k x z = true := (PySem.W.sortLe_total (PyProof.Rows.listOrd PyProof.Rows.itemOrd) false fun b => PySem.W.keyToks (k b)).trans x y z h1 h2
theorem dle_total {β : Type} (k : β → PyData) (x y : β) : (dle k x y || dle k y x) = true := by
  rw [Bool.or_eq_true]
  exact (PySem.W.sortLe_total (PyProof.Rows.listOrd PyProof.Rows.itemOrd) false fun b => PySem.W.keyToks (k b)).total x y
theorem dle_anti {β : Type} {k : β → PyData} {x y : β} (h1 : dle k x y = true) (h2 : dle k y x = true) : PySem.W.keyToks (k x) = PySem.W.keyToks (k y) := by
  have e1 : (!(PyProof.Rows.listOrd PyProof.Rows.itemOrd).blt (PySem.W.keyToks (k y)) (PySem.W.keyToks (k x))) = true := h1
  have e2 : (!(PyProof.Rows.listOrd PyProof.Rows.itemOrd).blt (PySem.W.keyToks (k x)) (PySem.W.keyToks (k y))) = true := h2
  rw [Bool.not_eq_true'] at e1 e2
  exact (PyProof.Rows.listOrd PyProof.Rows.itemOrd).total _ _ e2 e1
/-- the places in the order of their signs -/
def ordI (cs : List Nat) : List Nat := isort (dle (skey cs)) (List.range cs.length)
theorem skey_inj {cs ds : List Nat} {i j : Nat} (h : PySem.W.keyToks (skey cs i) = PySem.W.keyToks (skey ds j)) : i = j := by
  have e1 : ∀ (es : List Nat) (n : Nat), PySem.W.keyToks (skey es n) = [.inl 1, .inr [es.getD n 0], .inl 1, .inl n, .inl 0] := fun es n => by
    simp [skey, PySem.W.keyToks, PySem.W.keyToksAll]
  rw [e1, e1] at h
  injection h with _ h
  injection h with _ h
  injection h with _ h
  injection h with h _
  injection h with h
  exact Int.ofNat.inj h
/-- the pairs at their places, put in order: as ordI says -/
theorem sort_pairs (cs : List Nat) (bs : List (V × PyData)) (f : Nat → Addr) (e : bs = (List.range cs.length).map fun i => (V.ref (f i), skey cs i)) :
    (bs.mergeSort (PySem.W.dataLe false (·.2))).map (·.1) = (ordI cs).map fun i => V.ref (f i) := by
  have h1 := List.map_mergeSort (f := fun i : Nat => (V.ref (f i), skey cs i)) (r := dle (skey cs)) (s := PySem.W.dataLe false (·.2)) (l := List.range cs.length) fun a _ b _ => rfl
  rw [e, ← h1, List.map_map, msort_isort (dle (skey cs)) (dle_trans _) (dle_total _) _ fun x _ y _ h1 h2 => skey_inj (dle_anti h1 h2)]
  rfl
example : ordI [98, 97, 36, 97] = [2, 1, 3, 0] := by decide +kernel
end L2

set_option Elab.async false
set_option linter.all false
set_option maxRecDepth 100000
set_option maxHeartbeats 4000000
/-! IntsKit: tuples and lists of ints as data. -/
namespace L2
open PySem
def tI (ns : List Int) : PyData := .tuple (ns.map PyData.int)
def lI (ns : List Int) : PyData := .list (ns.map PyData.int)
theorem dp_ints {K : PySem.W.Frag} {H : Hp} : ∀ ns : List Int, DpAll K H (ns.map V.int) (ns.map PyData.int)
  | [] => .nil
  | n :: r => .cons (.int n) (dp_ints r)
theorem dp_tI {K : PySem.W.Frag} {H : Hp} {a : Addr} {ns : List Int} (h : SqT K H a (ns.map V.int)) : Dp K H (.ref a) (tI ns) := .tup h (dp_ints ns)
theorem dp_lI {K : PySem.W.Frag} {H : Hp} {a : Addr} {ns : List Int} (h : SqL K H a (ns.map V.int)) : Dp K H (.ref a) (lI ns) := .lst h (dp_ints ns)
theorem shaped_lI (ns : List Int) : SeqAt.shaped (lI ns) = true := PySem.W.ke_shaped_ints ns
theorem shaped_tI (ns : List Int) : SeqAt.shaped (tI ns) = true := by
  simp [tI, SeqAt.shaped, PyData.canLay0, PyData.depth, PySem.W.ke_canLayAll0, PySem.W.ke_depthAll]
theorem eqvAll_ints : ∀ ns ms : List Int, PyData.eqvAll (ns.map PyData.int) (ms.map PyData.int) = decide (ns = ms)
  | [], [] => by simp [PyData.eqvAll]
  | [], _ :: _ => by simp [PyData.eqvAll]
  | _ :: _, [] => by simp [PyData.eqvAll]
  | n :: r, k :: q => by
    simp only [List.map_cons, PyData.eqvAll, PyData.eqv, eqvAll_ints r q]
    by_cases h : n = k <;> simp [h]
theorem eqv_tI (ns ms : List Int) : PyData.eqv (tI ns) (tI ms) = decide (ns = ms) := by
  unfold tI
  simp only [PyData.eqv]
  exact eqvAll_ints ns ms
theorem eqv_lI (ns ms : List Int) : PyData.eqv (lI ns) (lI ms) = decide (ns = ms) := by
  unfold lI
  simp only [PyData.eqv]
  exact eqvAll_ints ns ms
theorem depth_tI (ns : List Int) : (tI ns).depth = 1 := by simp [tI, PyData.depth, PySem.W.ke_depthAll]
theorem flat_ints (ns : List Int) : (ns.map V.int).all flatV = true := by
  rw [List.all_map, List.all_eq_true]
  intro n _
  rfl
theorem inV_ints (k : Int) (ns : List Int) : inV (.int k) (ns.map V.int) = ns.any (· == k) := by
  unfold inV
  rw [List.any_map]
  rfl
/-- a tuple of ints -/
def RTup (H : Hp) (x : V) (ns : List Int) : Prop := ∃ p, x = .ref p ∧ H p = some (.tup (ns.map V.int))
theorem rtup_keep (H H' : Hp) (x : V) (ns : List Int) (k : KeepL H H') (r : RTup H x ns) : RTup H' x ns := by
  obtain ⟨p, rfl, e⟩ := r
  exact ⟨p, rfl, k _ _ e fun _ z => by cases z⟩
theorem rtup_same (H H' : Hp) (x : V) (ns : List Int) (s : ∀ b o, H b = some o → H' b = some o) (r : RTup H x ns) : RTup H' x ns := rtup_keep H H' x ns (.of s) r
def RInt (_ : Hp) (x : V) (n : Int) : Prop := x = .int n
theorem rint_keep (H H' : Hp) (x : V) (n : Int) (_ : KeepL H H') (r : RInt H x n) : RInt H' x n := r
theorem rint_map {H : Hp} {ys : List V} {ns : List Int} (h : All2 (RInt H) ys ns) : ys = ns.map V.int := All2.eq_map (f := V.int) h
/-- tuples of ints by their order -/
def leT (a b : List Int) : Bool := dle tI a b
def sortT (xs : List (List Int)) : List (List Int) := isort leT xs
theorem toks_tI (ns : List Int) : ∃ r, PySem.W.keyToks (tI ns) = r := ⟨_, rfl⟩
end L2
namespace L2
open PySem
theorem toksAll_inj : ∀ {ns ms : List Int}, PySem.W.keyToksAll (ns.map PyData.int) = PySem.W.keyToksAll (ms.map PyData.int) → ns = ms
  | [], [], _ => rfl
  | [], m :: r, h => by simp [PySem.W.keyToksAll] at h
  | n :: r, [], h => by simp [PySem.W.keyToksAll] at h
  | n :: r, m :: q, h => by
    simp only [List.map_cons, PySem.W.keyToksAll, PySem.W.keyToks, List.cons_append, List.nil_append] at h
    injection h with _ h
    injection h with h1 h2
    injection h1 with h1
    rw [h1, toksAll_inj h2]
theorem toks_inj {ns ms : List Int} (h : PySem.W.keyToks (tI ns) = PySem.W.keyToks (tI ms)) : ns = ms := by
  unfold tI at h
  simp only [PySem.W.keyToks] at h
  exact toksAll_inj h
theorem zip_snd {α β : Type} {R : α → β → Prop} {xs : List α} {zs : List β} (h : All2 R xs zs) : (xs.zip zs).map (·.2) = zs ∧ (∀ q ∈ xs.zip zs, R q.1 q.2) ∧ (xs.zip zs).map (·.1) = xs := by
  induction h with
  | nil => exact ⟨rfl, fun q hq => (by cases hq), rfl⟩
  | cons h t ih =>
    refine ⟨?_, fun q hq => ?_, ?_⟩
    · rw [List.zip_cons_cons, List.map_cons, ih.1]
    · rw [List.zip_cons_cons] at hq
      rcases List.mem_cons.mp hq with rfl | hq
      · exact h
      · exact ih.2.1 q hq
    · rw [List.zip_cons_cons, List.map_cons, ih.2.2]
theorem all2_of_pairs {α β : Type} {R : α → β → Prop} : ∀ {qs : List (α × β)}, (∀ q ∈ qs, R q.1 q.2) → All2 R (qs.map (·.1)) (qs.map (·.2))
  | [], _ => .nil
  | q :: qs, h => .cons (h q List.mem_cons_self) (all2_of_pairs fun p hp => h p (List.mem_cons_of_mem _ hp))
def prD (q : V × List Int) : V × PyData := (q.1, tI q.2)
theorem sorted_tups {R : V → List Int → Prop} {xs : List V} {zs : List (List Int)} (h : All2 R xs zs) : All2 R ((((xs.zip zs).map prD).mergeSort (PySem.W.dataLe false (·.2))).map (·.1)) (sortT zs) := by
  obtain ⟨e2, hR, _⟩ := zip_snd h
  have h1 := List.map_mergeSort (f := prD) (r := dle fun q : V × List Int => tI q.2) (s := PySem.W.dataLe false (·.2)) (l := xs.zip zs) fun a _ b _ => rfl
  rw [← h1, List.map_map]
  have hp := List.mergeSort_perm (xs.zip zs) (dle fun q : V × List Int => tI q.2)
  have hs : ((xs.zip zs).mergeSort (dle fun q : V × List Int => tI q.2)).Pairwise (fun x y => dle (fun q : V × List Int => tI q.2) x y = true) := List.pairwise_mergeSort (fun a b c => dle_trans _ a b c) (fun a b => dle_total _ a b) _
  have e3 : ((xs.zip zs).mergeSort (dle fun q : V × List Int => tI q.2)).map (·.2) = sortT zs := by
    refine sorted_uniq leT (fun x _ y _ a b => toks_inj (dle_anti a b)) ?_ ?_ (isort_sorted leT (dle_trans tI) (dle_total tI) zs)
    · have q := (hp.map (·.2)).trans (by rw [e2])
      exact q.trans (isort_perm leT zs).symm
    · rw [List.pairwise_map]
      exact hs
  rw [← e3]
  exact all2_of_pairs fun q hq => hR q (hp.mem_iff.mp hq)
theorem alike_ints : ∀ ns ms : List Int, PySem.W.alikeAll (ns.map PyData.int) (ms.map PyData.int) = true
  | [], [] => rfl
  | [], _ :: _ => rfl
  | _ :: _, [] => rfl
  | n :: r, m :: q => by simp [PySem.W.alikeAll, PySem.W.alike, alike_ints r q]
/-- sorted(xs) of tuples of ints, none empty -/
theorem sortedT_ok {K : PySem.W.Frag} {H : Hp} {a : Addr} {xs : List V} {zs : List (List Int)} {Q : VK} (hS : H a = some (.lst xs)) (h : All2 (RTup H) xs zs) (hne : ∀ z ∈ zs, z ≠ [])
    (k : ∀ p ys, H p = none → All2 (RTup H) ys (sortT zs) → Q (.ref p) (upd H p (.lst ys))) : rSortedD K [V.ref a] H Q := by
  obtain ⟨e2, hR, e1⟩ := zip_snd h
  have em : ((xs.zip zs).map prD).map (·.1) = xs := by
    rw [List.map_map]
    exact e1
  have ed : ((xs.zip zs).map prD).map (·.2) = zs.map tI := by
    rw [List.map_map]
    conv => rhs; rw [← e2, List.map_map]
    rfl
  refine ⟨a, (xs.zip zs).map prD, rfl, by rw [em]; exact .of hS, fun b hb => ?_, ?_, ?_, fun b hb => ?_, fun p hp => k p _ hp (sorted_tups h)⟩
  · obtain ⟨q, hq, rfl⟩ := List.mem_map.mp hb
    obtain ⟨p, e, hp⟩ := hR q hq
    show Dp K H q.1 (tI q.2)
    rw [e]
    exact dp_tI (.of hp)
  · rw [ed]
    intro d hd d' hd'
    obtain ⟨n, _, rfl⟩ := List.mem_map.mp hd
    obtain ⟨m, _, rfl⟩ := List.mem_map.mp hd'
    simp only [tI, PySem.W.alike]
    exact alike_ints n m
  · rw [ed]
    refine .inl fun d hd => ?_
    obtain ⟨n, hn, rfl⟩ := List.mem_map.mp hd
    cases n with
    | nil => exact absurd rfl (hne _ hn)
    | cons n r => exact ⟨.int n, r.map PyData.int, rfl⟩
  · obtain ⟨q, hq, rfl⟩ := List.mem_map.mp hb
    show (tI q.2).depth ≤ 50
    rw [depth_tI]
    decide
end L2
namespace L2
open PySem
theorem catA_ok {K : PySem.W.Frag} {H : Hp} {a b : Addr} {xs ys : List V} {Q : VK} (ha : H a = some (.tup xs)) (hb : H b = some (.tup ys)) (hl : xs.length + ys.length ≤ sizeLine) (k : ∀ p H', Same H H' → H' p = some (.tup (xs ++ ys)) → Q (.ref p) H') : rCatA K (.ref a) (.ref b) H Q :=
  ⟨a, b, xs, ys, rfl, rfl, .of ha, .of hb, hl, fun e => k _ _ (.refl _) (by rw [e]; exact hb), fun _ e => k _ _ (.refl _) (by rw [e, List.append_nil]; exact ha), fun _ _ p hp => k _ _ (fun c u e => by rw [upd_ne (ne_of_none e hp)]; exact e) upd_same⟩
theorem cutV_whole (xs : List V) (lo hi : Option Int) (h : HT.sIx xs.length 0 lo = 0 ∧ HT.sIx xs.length xs.length hi = xs.length) : cutV xs lo hi = xs := by
  unfold cutV
  rw [h.1, h.2]
  simp
theorem slA_ok {K : PySem.W.Frag} {H : Hp} {a : Addr} {xs : List V} {lo hi : Option Int} {Q : VK} (ha : H a = some (.tup xs)) (k : ∀ p H', Same H H' → H' p = some (.tup (cutV xs lo hi)) → Q (.ref p) H') : rSlA K (.ref a) lo hi H Q :=
  ⟨a, xs, rfl, .of ha, fun e => k _ _ (.refl _) (by rw [cutV_whole xs lo hi e]; exact ha), fun _ p hp => k _ _ (fun c u e => by rw [upd_ne (ne_of_none e hp)]; exact e) upd_same⟩
end L2
namespace L2
open PySem PySem.Spec PyProof.Rows
section
variable {X : Cx}
/-- xs + ys of lists that may be read only -/
def rCatS (K : PySem.W.Frag) : R2 := fun x y H Q => ∃ l b xs zs, x = .ref l ∧ y = .ref b ∧ SqL K H l xs ∧ SqL K H b zs ∧ xs.length + zs.length ≤ sizeLine ∧ ∀ p, H p = none → Q (.ref p) (upd H p (.lst (xs ++ zs)))
theorem op_catS : OpR X (binaryOp .Add) (rCatS X.K) := by
  intro pins s σ H x y v u Q I rx ry h
  obtain ⟨l, b, xs, zs, rfl, rfl, ha, hb, hz, q⟩ := h
  cases rx
  cases ry
  obtain ⟨its, r1, p1, _⟩ := I.list ha
  obtain ⟨its2, r2, p2, _⟩ := I.list hb
  obtain ⟨⟨cls, dd, data, sl⟩, n, ho, hc, hdn, hd⟩ := p1
  obtain ⟨⟨cls2, dd2, data2, sl2⟩, n2, ho2, hc2, hdn2, hd2⟩ := p2
  simp only at hc hdn hd hc2 hdn2 hd2
  subst hc hdn hd hc2 hdn2 hd2
  have l1 := r1.length
  have l2 := r2.length
  refine concat_meets ⟨_, ho, rfl⟩ ⟨_, ho2, rfl⟩ noFill_list_add seq_list_add PySem.F.slot_list_add PySem.F.entry_list_add (PySem.F.args_list_add_2 _ _)
    (list_addW l b its.toArray its2.toArray n n2 none none sl sl2 (by rw [List.size_toArray, List.size_toArray]; omega)) ⟨ho, ho2, ?_⟩
  have ea : its.toArray ++ its2.toArray = (its ++ its2).toArray := by simp
  rw [ea]
  exact ⟨.ref _, _, I.lnew (t' := s.toks) (r1.append r2) (by rw [List.length_append]; omega), rfl, q _ I.fresh⟩
end
end L2

set_option Elab.async false
set_option linter.all false
set_option maxRecDepth 100000
set_option maxHeartbeats 4000000
/-! NumKit: math.factorial; x *= y, x //= y of great numbers. -/
namespace L2
open PySem PySem.Spec PyProof.Rows
theorem iteY {b : Bool} {P R : Prop} (h : b = true) (p : P) : if b = true then P else R := by rw [if_pos h]; exact p
theorem iteN {b : Bool} {P R : Prop} (h : b = false) (r : R) : if b = true then P else R := by rw [if_neg (by rw [h]; decide)]; exact r
section
variable {X : Cx}
def facI (n : Int) : Int := ((Builtin.Math.factorialNat n.toNat : Nat) : Int)
def rFact : List V → Hp → VK → Prop := fun vs H Q => ∃ a : Int, vs = [.int a] ∧ 0 ≤ a ∧ a ≤ 20000 ∧ Q (.int (facI a)) H
theorem call_fact : CallR X (.builtin "math.factorial") rFact := by
  intro pins s σ H vs us Q I r h
  obtain ⟨a, rfl, h0, h1, q⟩ := h
  obtain ⟨u, rfl, ru⟩ := vals1 r
  obtain ⟨t, rfl⟩ := ru
  exact PySem.W.mc_factorial h0 h1 fun _ => ⟨.int _, H, I.tok _, ⟨_, rfl⟩, q⟩
def ipMulW : TIp := fun x y H Q => ∃ i j, x = .int i ∧ y = .int j ∧ CMulW i j ∧ Q (.int (i * j)) H
theorem ip_mulW : PIp X .Mult ipMulW := by
  intro pins s σ H x y v u Q I r1 r2 h
  obtain ⟨i, j, rfl, rfl, hc, q⟩ := h
  obtain ⟨t, rfl⟩ := r1
  obtain ⟨t', rfl⟩ := r2
  exact AutoIntOps.imul_0 (show EP X pins σ Q (.int (i * j) s.toks) { s with toks := s.toks + 1 } from ⟨.int _, H, I.tok _, ⟨_, rfl⟩, q⟩) hc.ok
def ipFdivW : TIp := fun x y H Q => ∃ i j, x = .int i ∧ y = .int j ∧ CDivW i j ∧ Q (.int (i / j)) H
theorem ip_fdivW : PIp X .FloorDiv ipFdivW := by
  intro pins s σ H x y v u Q I r1 r2 h
  obtain ⟨i, j, rfl, rfl, hc, q⟩ := h
  obtain ⟨t, rfl⟩ := r1
  obtain ⟨t', rfl⟩ := r2
  have h1 : (0 : Int) < j := hc.1
  refine AutoIntOps.ifloordiv_1 (by simp; omega) (by rw [PyProof.noPylong_of_log2 hc.2]; simp) (show EP X pins σ Q (.int (i.fdiv j) s.toks) { s with toks := s.toks + 1 } from ⟨.int (i / j), H, I.tok _, ?_, q⟩)
  rw [Int.fdiv_eq_ediv_of_nonneg i (by omega)]
  exact ⟨_, rfl⟩
end
end L2

set_option Elab.async false
set_option linter.all false
set_option maxRecDepth 100000
set_option maxHeartbeats 4000000
namespace T10
open PySem PySem.Spec PyProof.Rows L2 EK
abbrev sFall : Stmt := top 19
abbrev sFallR : Stmt := top 20
abbrev sBeg : Stmt := top 21
def natsV (l : List Nat) : List V := l.map fun n : Nat => V.int (n : Int)
def wsV (ws : List (List Nat)) : List V := ws.map fun w => .str (strL w)
structure TxtF (K : PySem.W.Frag) (mg : Str → Option Value) : Prop where
  len : mg "len" = none
  range : mg "range" = none
  zip : mg "zip" = none
  tuple : mg "tuple" = none
def spBeg : Sp := fun vs H Q _ => ∃ T : List Nat, vs = [.str (strL T)] ∧ T.length ≤ 1000 ∧ ∀ a H', Same H H' → H a = none → H' a = some (.lst (natsV (Lyn.begs T T.length))) → Q (.ref a) H'
/-- the parts: each less than its other turns, none less than the next -/
structure Parts (T : List Nat) (ws : List (List Nat)) : Prop where
  all : ∀ w ∈ ws, Lyn.L w
  ch : Lyn.Ch ws
  flat : ws.flatten = T
def spFall (C : Addr) : Sp := fun vs H Q E => ∃ x, vs = [x] ∧ Pl H x ∧ ((∃ T ws, x = .str (strL T) ∧ isT (strL T) = true ∧ T.length ≤ 1000 ∧ Parts T ws ∧ ∀ p H', Same H H' → H p = none → H' p = some (.tup (wsV ws)) → Q (.ref p) H') ∨ (badT isT x ∧ noX C "text" H x E))
def spFallR (C : Addr) : Sp := fun vs H Q E => ∃ x, vs = [x] ∧ Pl H x ∧ badT isT x ∧ noX C "text" H x E
theorem offs_len : ∀ (ws : List (List Nat)) (p : Nat), (Lyn.offs ws p).length = ws.length
  | [], _ => rfl
  | v :: vs, p => by
    show (Lyn.offs vs (p + v.length)).length + 1 = vs.length + 1
    rw [offs_len vs]
theorem begs_lt (T : List Nat) : ∀ i b, b ∈ Lyn.begs T i → b < i
  | 0, b, h => by cases h
  | i + 1, b, h => by
    have ih := begs_lt T i
    unfold Lyn.begs at h
    split at h
    · rcases List.mem_append.mp h with h | h
      · exact Nat.lt_succ_of_lt (ih b h)
      · rw [List.mem_singleton.mp h]
        exact Nat.lt_succ_self i
    · split at h
      · rcases List.mem_append.mp h with h | h
        · exact Nat.lt_succ_of_lt (ih b h)
        · rw [List.mem_singleton.mp h]
          exact Nat.lt_succ_self i
      · exact Nat.lt_succ_of_lt (ih b h)
theorem begs_len (T : List Nat) : ∀ i, (Lyn.begs T i).length ≤ i
  | 0 => Nat.le_refl _
  | i + 1 => by
    have ih := begs_len T i
    unfold Lyn.begs
    split
    · rw [List.length_append]
      exact Nat.succ_le_succ ih
    · split
      · rw [List.length_append]
        exact Nat.succ_le_succ ih
      · omega
theorem natsV_last {l : List Nat} {b : Nat} (h : l.getLast? = some b) : atI (natsV l) (-1) = some (.int (b : Int)) := by
  have hl : l ≠ [] := fun z => by rw [z] at h; cases h
  have h0 : 0 < l.length := List.length_pos_iff.mpr hl
  unfold atI ixN natsV
  rw [List.length_map, if_neg (by omega), if_pos (by omega)]
  show (l.map _)[((-1 : Int) + (l.length : Nat)).toNat]? = _
  rw [show ((-1 : Int) + (l.length : Nat)).toNat = l.length - 1 by omega, List.getElem?_map, ← List.getLast?_eq_getElem?, h]
  rfl
theorem yes_i {σ : L2.St} {H : Hp} {Q : Bool → Hp → Prop} (h : Q true H) : tYes σ H Q := h
section
variable {P : Program} {w : World} {K : PySem.W.Frag} {mg : Str → Option Value} {base : Heap} {C iC : Addr}
theorem scBeg : FnScope ["text", "begins", "place"] ["text"] (defScope sBeg) := ⟨rfl, rfl, rfl, by decide +kernel, rfl, by decide +kernel, by decide +kernel⟩
theorem scFall : FnScope ["text", "begins", "ends", "begin", "end"] ["text"] (defScope sFall) := ⟨rfl, rfl, rfl, by decide +kernel, rfl, by decide +kernel, by decide +kernel⟩
theorem scFallR : FnScope ["text"] ["text"] (defScope sFallR) := ⟨rfl, rfl, rfl, by decide +kernel, rfl, by decide +kernel, by decide +kernel⟩
theorem ok_Beg {f : Addr} {fd : FuncData} (F : Fun K "_begins" "_begins" sBeg f fd) (T : TxtF K mg) : FnOk P w K mg base CX0 1 f fd ["text"] spBeg := by
  refine F.ok scBeg (fun vs H Q E h => ?_) (fun cdv A outer s H vs Q E hr h => ?_)
  · obtain ⟨t, rfl, _⟩ := h
    rfl
  · obtain ⟨t, rfl, hT, k⟩ := h
    have nd := scBeg.nd
    have hz : sizeLine = 2 ^ 24 := sizeLine_eq
    refine ⟨_, (pss_cons (ps_set (i := 1) nd rfl (Or.inl rfl) (pe_lst pa_nil))
      (pss_cons (ps_for PassesOwn.never rfl (pi_range1 (by rfl) T.range (pa_cons (pe_callB call_len_str (by rfl) T.len (by decide +kernel) (pa_cons (pv 0) pa_nil)) pa_nil)) (pg_name (i := 2) nd rfl (Or.inl rfl)) (pss_one (ps_if (PW.pt (pw_or (pt_cmpR op_eq (pe_callB call_len_seq (by rfl) T.len (by decide +kernel) (pa_cons (pv 1) pa_nil)) pe_int (nomark _)) (pw_or1 (pt_cmpR op_lt_str (pe_slice sl_str (pv 0) (po_some (pv 2)) po_none) (pe_slice sl_str (pv 0) (po_some (pe_ix ix_list (pv 1) (pe_un un_neg pe_int) (fun _ _ => rfl))) po_none) (nomark _))))) (pss_one (ps_expr (pe_bm PySem.F.plainAttrs_list PySem.F.slot_list_append PySem.F.type_list_append mt_append (pv 1) (pa_cons (pv 2) pa_nil)))) pss_nil)))
      (pss_one (ps_ret (pv 1))))), ?_⟩
    have wl : (strL t).length ≤ sizeLine := by rw [strL_len, hz]; omega
    refine ⟨(by show 0 ≤ sizeLine; omega), fun B zB => ?_⟩
    obtain ⟨H1, e1, S1, A1⟩ := alloc (o := .lst []) zB
    rw [e1]
    refine ⟨_, rfl, strL t, rfl, wl, ((t.length : Nat) : Int), (by show [V.int (((strL t).length : Nat) : Int)] = _; rw [strL_len]), by omega, by omega, ?_⟩
    have hn : ((t.length : Nat) : Int).toNat = t.length := by omega
    refine for_range (lo := 0) (n := ((t.length : Nat) : Int).toNat) (fun i σ H' => ∃ v2 : Option V, σ = [some (.str (strL t)), some (.ref B), v2] ∧ Same H H' ∧ H' B = some (.lst (natsV (Lyn.begs t i)))) ⟨none, rfl, S1, A1⟩ ?_ ?_
    · rintro i σ H2 hi ⟨v2, rfl, s2, hB⟩
      have hi2 : i < t.length := by omega
      rw [Int.zero_add]
      have bl := begs_len t i
      have bl2 : (natsV (Lyn.begs t i)).length = (Lyn.begs t i).length := by unfold natsV; rw [List.length_map]
      have put : Lyn.begs t (i + 1) = Lyn.begs t i ++ [i] → ∃ v2 : Option V, [some (V.str (strL t)), some (.ref B), some (.int (i : Int))] = [some (.str (strL t)), some (.ref B), v2] ∧ Same H (upd H2 B (.lst (natsV (Lyn.begs t i) ++ [.int (i : Int)]))) ∧ (upd H2 B (.lst (natsV (Lyn.begs t i) ++ [.int (i : Int)]))) B = some (.lst (natsV (Lyn.begs t (i + 1)))) := fun e => by
        refine ⟨_, rfl, fun b o h => ?_, ?_⟩
        · rw [upd_ne (ne_of_none h zB)]
          exact s2 _ _ h
        · rw [upd_same, e]
          unfold natsV
          rw [List.map_append]
          rfl
      refine ⟨_, rfl, B, _, rfl, .inl (.of hB), rfl, _, rfl, ?_⟩
      rw [bl2]
      cases hl : (Lyn.begs t i).getLast? with
      | none =>
        have he : Lyn.begs t i = [] := List.getLast?_eq_none_iff.mp hl
        refine iteY (decide_eq_true (by rw [he]; rfl)) ?_
        have e : Lyn.begs t (i + 1) = Lyn.begs t i ++ [i] := by
          show (match (Lyn.begs t i).getLast? with | none => _ | some b => _) = _
          rw [hl]
        refine ⟨_, rfl, .inl ⟨rfl, _, .of hB⟩, _, rfl, B, _, _, rfl, rfl, hB, by omega, put e⟩
      | some b =>
        have hb : b < i := begs_lt t i b (List.mem_of_getLast? hl)
        have hne : (Lyn.begs t i).length ≠ 0 := fun z => by rw [List.length_eq_zero_iff.mp z] at hl; cases hl
        refine iteN (decide_eq_false (fun z => hne (by injection z with z; omega))) ?_
        refine ⟨_, rfl, _, rfl, _, rfl, strL t, rfl, wl, ?_⟩
        rw [cutL]
        refine ⟨_, rfl, _, rfl, _, rfl, B, _, -1, _, rfl, rfl, .of hB, natsV_last hl, _, rfl, strL t, rfl, wl, ?_⟩
        rw [cutL]
        refine ⟨_, _, rfl, rfl, _, rfl, ?_⟩
        rw [strL_list, strL_list]
        have e : Lyn.begs t (i + 1) = if t.drop i < t.drop b then Lyn.begs t i ++ [i] else Lyn.begs t i := by
          show (match (Lyn.begs t i).getLast? with | none => _ | some b => _) = _
          rw [hl]
        by_cases hlt : t.drop i < t.drop b
        · rw [if_pos hlt] at e
          refine iteY (decide_eq_true hlt) ?_
          refine ⟨_, rfl, .inl ⟨rfl, _, .of hB⟩, _, rfl, B, _, _, rfl, rfl, hB, by omega, put e⟩
        · rw [if_neg hlt] at e
          refine iteN (decide_eq_false hlt) ?_
          exact ⟨_, rfl, s2, by rw [e]; exact hB⟩
    · rintro σ H2 ⟨v2, rfl, s2, hB⟩
      rw [hn] at hB
      exact ⟨_, rfl, k B H2 s2 zB hB⟩
theorem ok_Fall {f fCT fB : Addr} {fd fdCT fdB : FuncData} (F : Fun K "falling" "falling" sFall f fd) (T : TxtF K mg)
    (GCT : FnOk P w K mg base (L2.CX P w) 3 fCT fdCT ["text"] (spCk C isT)) (gCT : mg "check_text" = some (.ref fCT)) (kCT : PySem.W.keepIn K (.ref fCT) = true) (bCT : Binds K fdCT ["text"] [])
    (GB : FnOk P w K mg base CX0 1 fB fdB ["text"] spBeg) (gB : mg "_begins" = some (.ref fB)) (kB : PySem.W.keepIn K (.ref fB) = true) (bB : Binds K fdB ["text"] []) :
    FnOk P w K mg base (L2.CX P w) 4 f fd ["text"] (spFall C) := by
  refine F.okX scFall (fun vs H Q E h => ?_) (fun cdv A outer s H vs Q E hr h => ?_)
  · obtain ⟨x, rfl, _⟩ := h
    rfl
  · obtain ⟨x, rfl, hp, k⟩ := h
    have nd := scFall.nd
    have hz : sizeLine = 2 ^ 24 := sizeLine_eq
    have hrCT : Room 3 _ := hr
    have hrB : Room 1 _ := hr.mono (by decide)
    refine ⟨_, (pss_cons (ps_expr (pe_call GCT hrCT rfl gCT kCT bCT .nil (passes_call (takes_of rfl rfl rfl rfl) fun _ _ _ _ h => h) (pa_cons (pv 0) pa_nil)))
      (pss_cons (ps_set (i := 1) nd rfl (Or.inl rfl) (pe_call GB hrB rfl gB kB bB .nil pass0 (pa_cons (pv 0) pa_nil)))
      (pss_cons (ps_set (i := 2) nd rfl (Or.inl rfl) (pe_op op_cat (pe_slice sl_list (pv 1) (po_some pe_int) po_none) (pe_lst (pa_cons (pe_callB call_len_str (by rfl) T.len (by decide +kernel) (pa_cons (pv 0) pa_nil)) pa_nil))))
      (pss_one (ps_ret (pe_callTy call_tuple_of (by rfl) T.tuple (by decide +kernel) (pa_cons (pe_lc (own := [("begin", 3), ("end", 4)]) (g := gTup _ 2 (gCons (gName 3) (gCons (gName 4) gNil))) (tt := tYes) rfl nd (pi_zip (by rfl) T.zip (pa_cons (pv 1) (pa_cons (pv 2) pa_nil))) (blkOk_by (N := ["text", "begins", "ends", "begin", "end"]) (sc := defScope sFall) (by decide +kernel)) (fun _ _ _ _ _ => (pg_tup rfl (pgs_cons (pg_name (i := 3) nd rfl (Or.inl rfl)) (pgs_cons (pg_name (i := 4) nd rfl (Or.inl rfl)) pgs_nil)))) (fun _ _ _ _ _ => pts_nil) (fun _ _ _ _ _ => (pe_slice sl_str (pv 0) (po_some (pv 3)) (po_some (pv 4))))) pa_nil))))))), ?_⟩
    rcases k with ⟨t, ws, rfl, ht, hl, hP, k⟩ | ⟨hb, k⟩
    · have wl : (strL t).length ≤ sizeLine := by rw [strL_len, hz]; omega
      refine ⟨_, rfl, _, rfl, hp, .inl ⟨_, rfl, by rw [strL_size]; omega, ht, fun H1 s1 => ?_⟩⟩
      refine ⟨_, rfl, t, rfl, hl, fun a H2 s2 na A2 => ?_⟩
      rw [Lyn.begs_offs hP.all hP.ch hP.flat] at A2
      refine ⟨_, rfl, _, rfl, a, _, rfl, .of A2, fun p0 z0 => ?_⟩
      rw [cut_tail1]
      obtain ⟨H3, e3, S3, A3⟩ := alloc (o := .lst ((natsV (Lyn.offs ws 0)).drop 1)) z0
      rw [e3]
      refine ⟨_, rfl, strL t, rfl, wl, (by show 1 ≤ sizeLine; omega), fun p1 z1 => ?_⟩
      obtain ⟨H4, e4, S4, A4⟩ := alloc (o := .lst [V.int ((strL t).length : Nat)]) z1
      rw [e4]
      have hlen : (natsV (Lyn.offs ws 0)).length = ws.length := by unfold natsV; rw [List.length_map, offs_len]
      have hwl : ws.length ≤ t.length := by
        rw [← offs_len ws 0, ← Lyn.begs_offs hP.all hP.ch hP.flat]
        exact begs_len t _
      refine ⟨p0, p1, _, _, rfl, rfl, S4 _ _ A3, A4, (by rw [List.length_drop, hlen]; show _ + 1 ≤ _; omega), fun p2 z2 => ?_⟩
      have ee : (natsV (Lyn.offs ws 0)).drop 1 ++ [V.int ((strL t).length : Nat)] = natsV ((Lyn.offs ws 0).drop 1 ++ [t.length]) := by
        unfold natsV
        rw [strL_len, List.map_append, List.map_drop]
        rfl
      rw [ee]
      obtain ⟨H5, e5, S5, A5⟩ := alloc (o := .lst (natsV ((Lyn.offs ws 0).drop 1 ++ [t.length]))) z2
      rw [e5]
      have s25 : Same H2 H5 := (S3.trans S4).trans S5
      have hcut := Lyn.cut_offs t ws 0 (by rw [List.drop_zero, hP.flat]) (Nat.zero_le _)
      refine ⟨_, rfl, _, rfl, a, p2, _, _, rfl, .of (s25 _ _ A2), .of A5, fun D nD => ?_⟩
      refine lc_it (walk_zip (xs := natsV (Lyn.offs ws 0)) (ys := natsV ((Lyn.offs ws 0).drop 1 ++ [t.length])) (n := ws.length) ?_) (LcP H5 D (fun _ x z => x = V.str (strL z)) ws (fun _ => true) id) (lcP_zero nD) (fun i H _ p => ⟨.of (p.1 _ _ (s25 _ _ A2)), .of (p.1 _ _ A5)⟩) ?_ ?_
      · rw [hlen]
        unfold natsV
        rw [List.length_map, List.length_append, List.length_drop, offs_len]
        show _ = min _ (_ + 1)
        omega
      · rintro i z H6 H7 hi p6 ⟨T0, x1, y1, rfl, hT, rfl, e1, e2⟩
        have e1 : (natsV (Lyn.offs ws 0))[i]? = some x1 := e1
        have e2 : (natsV ((Lyn.offs ws 0).drop 1 ++ [t.length]))[i]? = some y1 := e2
        unfold natsV at e1 e2
        rw [List.getElem?_map] at e1 e2
        obtain ⟨u, hu, rfl⟩ := Option.map_eq_some_iff.mp e1
        obtain ⟨v, hv, rfl⟩ := Option.map_eq_some_iff.mp e2
        have hg : ws[i]? = some ((t.take v).drop u) := by
          conv => lhs; rw [← hcut]
          rw [List.getElem?_map, (List.getElem?_zip_eq_some (z := (u, v))).mpr ⟨hu, hv⟩]
          rfl
        obtain ⟨H7, f7, S7, A7⟩ := alloc (o := .tup [V.int (u : Int), V.int (v : Int)]) hT
        rw [f7]
        refine ⟨T0, _, rfl, .of A7, rfl, _, _, rfl, _, _, rfl, rfl, rfl, ?_⟩
        refine yes_i ?_
        refine iteY rfl ?_
        refine ⟨_, rfl, _, rfl, _, rfl, _, rfl, _, rfl, strL t, rfl, wl, ?_⟩
        rw [cutN]
        exact lcP_put nD (fun _ _ _ _ _ r => r) (by omega) hg p6 rfl S7 rfl
      · intro H6 p6
        obtain ⟨s6, ys, hD, ha6⟩ := p6
        rw [List.take_length, List.filter_eq_self.mpr fun _ _ => rfl, List.map_id] at ha6
        have ey := ha6.eq_map
        refine ⟨D, _, rfl, .inl ⟨.of hD, fun l hl => ?_⟩⟩
        rw [ey]
        refine k l _ (fun b o e => ?_) ?_ upd_same
        · rw [upd_ne (ne_of_none (s6 _ _ (s25 _ _ (s2 _ _ (s1 _ _ e)))) hl)]
          exact s6 _ _ (s25 _ _ (s2 _ _ (s1 _ _ e)))
        · by_cases e : H l = none
          · exact e
          · exfalso
            cases hx : H l with
            | none => exact e hx
            | some o => rw [s6 _ _ (s25 _ _ (s2 _ _ (s1 _ _ hx)))] at hl; cases hl
    · exact ⟨_, rfl, _, rfl, hp, .inr ⟨hb, k⟩⟩
theorem ok_FallR {f fCT : Addr} {fd fdCT : FuncData} (F : Fun K "falling_row" "falling_row" sFallR f fd)
    (GCT : FnOk P w K mg base (L2.CX P w) 3 fCT fdCT ["text"] (spCk C isT)) (gCT : mg "check_text" = some (.ref fCT)) (kCT : PySem.W.keepIn K (.ref fCT) = true) (bCT : Binds K fdCT ["text"] []) :
    FnOk P w K mg base (L2.CX P w) 4 f fd ["text"] (spFallR C) := by
  refine F.okX scFallR (fun vs H Q E h => ?_) (fun cdv A outer s H vs Q E hr h => ?_)
  · obtain ⟨x, rfl, _⟩ := h
    rfl
  · obtain ⟨x, rfl, hp, hb, k⟩ := h
    have nd := scFallR.nd
    have hrCT : Room 3 _ := hr
    refine ⟨_, (pss_cons (ps_expr (pe_call GCT hrCT rfl gCT kCT bCT .nil (passes_call (takes_of rfl rfl rfl rfl) fun _ _ _ _ h => h) (pa_cons (pv 0) pa_nil))) (pss_one ps_never)), ?_⟩
    exact ⟨_, rfl, _, rfl, hp, .inr ⟨hb, k⟩⟩
end
end T10

set_option Elab.async false
set_option linter.all false
set_option maxRecDepth 100000
set_option maxHeartbeats 4000000
namespace T10
open PySem PySem.Spec PyProof.Rows L2 EK
abbrev sText : Stmt := top 27
theorem WellAt.mono {H : Hp} {a : Addr} {n m : Int} (h : WellAt H a n) (hm : n ≤ m) : WellAt H a m := by
  obtain ⟨w0, w1, w2, e, h1, h2, h3, h4⟩ := h
  exact ⟨w0, w1, w2, e, h1, h2, h3, by omega⟩
theorem WellAt.keep {H H' : Hp} {a : Addr} {n : Int} (h : WellAt H a n) (s : ∀ o, H a = some o → H' a = some o) : WellAt H' a n := by
  obtain ⟨w0, w1, w2, e, h1⟩ := h
  exact ⟨w0, w1, w2, s _ e, h1⟩
theorem KeepB.of {a : Addr} {H H' : Hp} (s : ∀ b o, H b = some o → H' b = some o) : KeepB a H H' := fun b o e _ => s b o e
theorem KeepB.rfl {a : Addr} {H : Hp} : KeepB a H H := fun _ _ e _ => e
theorem KeepB.trans {a : Addr} {H H1 H2 : Hp} (s : KeepB a H H1) (t : KeepB a H1 H2) : KeepB a H H2 := fun b o e n => t b o (s b o e n) n
def sgL (cs : List Nat) : List V := cs.map fun c => .str (strL [c])
def spText : Sp := fun vs H Q _ => ∃ (a : Addr) (n : Int) (m : Nat) (L : List Nat), vs = [.ref a, .int m, .str (strL L)] ∧ WellAt H a n ∧ n ≤ 900000 ∧ m ≤ 300 ∧ 0 < L.length ∧ L.length ≤ 26 ∧ ∀ t H', t.length ≤ m → (∀ c ∈ t, c ∈ L) → WellAt H' a (n + 400) → KeepB a H H' → Q (.str (strL t)) H'
/-- drawn signs, one by one -/
def PkL (H1 : Hp) (a D : Addr) (n : Int) (L : List Nat) (i : Nat) (H : Hp) : Prop := WellAt H a (n + (i : Nat)) ∧ KeepB a H1 H ∧ ∃ cs : List Nat, H D = some (.lst (sgL cs)) ∧ cs.length = i ∧ ∀ c ∈ cs, c ∈ L
theorem pk_zero {H1 : Hp} {a D : Addr} {n : Int} {L : List Nat} (hw : WellAt H1 a n) (nD : H1 D = none) : PkL H1 a D n L 0 (upd H1 D (.lst [])) := by
  have s : ∀ b o, H1 b = some o → upd H1 D (.lst []) b = some o := fun b o e => by rw [upd_ne (ne_of_none e nD)]; exact e
  exact ⟨(hw.keep (s a)).mono (by omega), .of s, [], upd_same, rfl, fun y hy => (by cases hy)⟩
theorem pk_step {H1 H3 H4 : Hp} {a D : Addr} {n n0 : Int} {L : List Nat} {i : Nat} {c : Nat} (nD : H1 D = none) (hw : WellAt H1 a n0) (p : PkL H1 a D n L i H3) (hk : KeepB a H3 H4) (hu : WellAt H4 a (n + (i : Nat) + 1)) (hi : i ≤ 1000000) (hc : c ∈ L) :
    ∃ acc, H4 D = some (.lst acc) ∧ acc.length < sizeLine ∧ PkL H1 a D n L (i + 1) (upd H4 D (.lst (acc ++ [.str (strL [c])]))) := by
  obtain ⟨_, k1, cs, hd, hl, hg⟩ := p
  have hDa : D ≠ a := fun e => by
    obtain ⟨_, _, _, e2, _⟩ := hw
    rw [e, e2] at nD
    cases nD
  have hz : sizeLine = 2 ^ 24 := sizeLine_eq
  refine ⟨_, hk _ _ hd hDa, by unfold sgL; rw [List.length_map]; omega, (hu.mono (by omega)).keep fun o e => by rw [upd_ne (Ne.symm hDa)]; exact e, fun b o e hb => ?_, cs ++ [c], by rw [upd_same]; unfold sgL; rw [List.map_append]; rfl, by rw [List.length_append, hl]; rfl, fun z hz => ?_⟩
  · rw [upd_ne (ne_of_none e nD)]
    exact hk _ _ (k1 _ _ e hb) hb
  · rcases List.mem_append.mp hz with h | h
    · exact hg z h
    · rw [List.mem_singleton.mp h]
      exact hc
theorem sg_strs (cs : List Nat) : sgL cs = ((cs.map fun c => [c]).map strL).map V.str := by
  unfold sgL
  rw [List.map_map, List.map_map]
  rfl
theorem rep_mem {t L : List Nat} {k : Nat} (h : ∀ c ∈ t, c ∈ L) : ∀ c ∈ (List.replicate k t).flatten, c ∈ L := fun c hc => by
  obtain ⟨l, hl, hcl⟩ := List.mem_flatten.mp hc
  rw [(List.mem_replicate.mp hl).2] at hcl
  exact h c hcl
section
variable {P : Program} {w : World} {K : PySem.W.Frag} {mg : Str → Option Value} {base : Heap} {C iC : Addr}
theorem scText : FnScope ["_law_well_here", "_law_most", "_law_letters", "_law_size", "_law_way", "_law_some", "_law_found", "_law_k"] ["_law_well_here", "_law_most", "_law_letters"] (defScope sText) := ⟨rfl, rfl, rfl, by decide +kernel, rfl, by decide +kernel, by decide +kernel⟩
theorem ok_Text {f fDR : Addr} {fd fdDR : FuncData} (F : Fun K "_law_text" "_law_text" sText f fd) (T : TxtF K mg)
    (GDR : FnOk P w K mg base CX0 1 fDR fdDR ["_law_well_here", "_law_many"] spDraw) (gDR : mg "_law_draw" = some (.ref fDR)) (kDR : PySem.W.keepIn K (.ref fDR) = true) (bDR : Binds K fdDR ["_law_well_here", "_law_many"] []) :
    FnOk P w K mg base CX0 2 f fd ["_law_well_here", "_law_most", "_law_letters"] spText := by
  refine F.ok scText (fun vs H Q E h => ?_) (fun cdv A outer s H vs Q E hr h => ?_)
  · obtain ⟨a, n, m, L, rfl, _⟩ := h
    rfl
  · obtain ⟨a, n, m, L, rfl, hw, hn, hm, L0, L1, k⟩ := h
    have nd := scText.nd
    have hz : sizeLine = 2 ^ 24 := sizeLine_eq
    have hrDR : Room 1 _ := hr
    refine ⟨_, (pss_cons (ps_par (i := 3) (j := 4) (by rfl) nd rfl rfl (by decide) rfl rfl (pa_cons (pe_call GDR hrDR rfl gDR kDR bDR .nil pass0 (pa_cons (pv 0) (pa_cons (pe_op op_add (pv 1) pe_int) pa_nil))) (pa_cons (pe_call GDR hrDR rfl gDR kDR bDR .nil pass0 (pa_cons (pv 0) (pa_cons pe_int pa_nil))) pa_nil)) (by rfl))
      (pss_cons (ps_setLc (i := 5) (own := [("_law_k", 7)]) (g := gName 7) (tt := tYes) rfl nd rfl rfl (sw_true rfl rfl rfl (by decide +kernel)) (pi_range1 (by rfl) T.range (pa_cons (pe_ifExp (pt_cmpR op_gt (pv 4) pe_int (nomark _)) (pv 3) (pe_op op_add pe_int (pe_call GDR hrDR rfl gDR kDR bDR .nil pass0 (pa_cons (pv 0) (pa_cons pe_int pa_nil))))) pa_nil)) (blkOk_by (N := ["_law_well_here", "_law_most", "_law_letters", "_law_size", "_law_way", "_law_some", "_law_found", "_law_k"]) (sc := defScope sText) (by decide +kernel)) (fun _ _ _ _ _ => (pg_name (i := 7) nd rfl (Or.inl rfl))) (fun _ _ _ _ _ => pts_nil) (fun _ _ _ _ _ => (pe_ix ix_str (pv 2) (pe_call GDR hrDR rfl gDR kDR bDR .nil pass0 (pa_cons (pv 0) (pa_cons (pe_callB call_len_str (by rfl) T.len (by decide +kernel) (pa_cons (pv 2) pa_nil)) pa_nil))) (fun _ _ => rfl))))
      (pss_cons (ps_set (i := 6) nd rfl (Or.inl rfl) (pe_join pe_str (pv 5)))
      (pss_one (ps_ret (pe_ifExp (pt_cmpR op_gt (pv 4) pe_int (nomark _)) (pv 6) (pe_slice sl_str (pe_op op_mulS (pv 6) (pe_op op_add (pv 3) pe_int)) po_none (po_some (pv 3))))))))), ?_⟩
    have wl : (strL L).length ≤ sizeLine := by rw [strL_len, hz]; omega
    refine ⟨_, rfl, _, rfl, _, _, rfl, rfl, a, _, _, rfl, hw, by omega, by omega, by omega, fun d1 H4 d1a d1b hw4 hk4 => ?_⟩
    refine ⟨_, rfl, a, _, _, rfl, hw4, by omega, by decide, by decide, fun d2 H5 d2a d2b hw5 hk5 => ?_⟩
    have hk15 : KeepB a H H5 := hk4.trans hk5
    obtain ⟨sz, rfl⟩ : ∃ j : Nat, d1 = (j : Int) := ⟨d1.toNat, by omega⟩
    have hsz : sz ≤ m := by omega
    refine ⟨_, _, rfl, ?_⟩
    refine ⟨_, rfl, _, _, rfl, rfl, _, rfl, ?_⟩
    by_cases hway : 0 < d2
    · refine iteY (decide_eq_true hway) ?_
      refine ⟨_, rfl, _, rfl, by omega, by omega, fun D nD => ?_⟩
      have en : ((sz : Int)).toNat = sz := by omega
      rw [en]
      refine lc_range (lo := 0) (n := sz) (PkL H5 a D (n + 2) L) (pk_zero (hw5.mono (by omega)) nD) ?_ ?_
      · rintro i H7 hi p7
        refine ⟨rfl, ?_⟩
        refine yes_i ?_
        refine iteY rfl ?_
        refine ⟨_, rfl, _, rfl, _, rfl, strL L, rfl, wl, a, _, _, rfl, p7.1, by omega, by rw [strL_len]; omega, by rw [strL_len]; omega, fun d3 H9 d3a d3b hw9 hk9 => ?_⟩
        rw [strL_len] at d3b
        obtain ⟨j, rfl⟩ : ∃ j : Nat, d3 = (j : Int) := ⟨d3.toNat, by omega⟩
        have hj : j < L.length := by omega
        refine ⟨strL L, _, L[j], rfl, rfl, wl, (by rw [strL_list]; exact atI_nat (List.getElem?_eq_getElem hj)), ?_⟩
        exact pk_step nD hw5 p7 hk9 hw9 (by omega) (List.getElem_mem hj)
      · rintro H7 ⟨hw7, hk7, cs, hD, hcl, hcg⟩
        rw [sg_strs] at hD
        refine ⟨⟨_, rfl⟩, _, rfl, "", D, (cs.map fun c => [c]).map strL, rfl, rfl, .inl (.of hD), ?_, ?_⟩
        · rw [sum_lenV, ones_flat]
          show cs.length + _ * 0 ≤ _
          omega
        rw [joinV, ones_flat]
        refine ⟨_, rfl, _, _, rfl, rfl, _, rfl, ?_⟩
        refine iteY (decide_eq_true hway) ?_
        exact ⟨_, rfl, k cs H7 (by omega) hcg (hw7.mono (by omega)) (hk15.trans hk7)⟩
    · refine iteN (decide_eq_false hway) ?_
      refine ⟨_, rfl, a, _, _, rfl, hw5, by omega, by decide, by decide, fun d4 H6 d4a d4b hw6 hk6 => ?_⟩
      obtain ⟨c4, rfl⟩ : ∃ j : Nat, d4 = (j : Int) := ⟨d4.toNat, by omega⟩
      refine ⟨_, _, rfl, rfl, _, rfl, by omega, by omega, fun D nD => ?_⟩
      have en : ((1 : Int) + (c4 : Int)).toNat = 1 + c4 := by omega
      rw [en]
      refine lc_range (lo := 0) (n := 1 + c4) (PkL H6 a D (n + 3) L) (pk_zero (hw6.mono (by omega)) nD) ?_ ?_
      · rintro i H7 hi p7
        refine ⟨rfl, ?_⟩
        refine yes_i ?_
        refine iteY rfl ?_
        refine ⟨_, rfl, _, rfl, _, rfl, strL L, rfl, wl, a, _, _, rfl, p7.1, by omega, by rw [strL_len]; omega, by rw [strL_len]; omega, fun d3 H9 d3a d3b hw9 hk9 => ?_⟩
        rw [strL_len] at d3b
        obtain ⟨j, rfl⟩ : ∃ j : Nat, d3 = (j : Int) := ⟨d3.toNat, by omega⟩
        have hj : j < L.length := by omega
        refine ⟨strL L, _, L[j], rfl, rfl, wl, (by rw [strL_list]; exact atI_nat (List.getElem?_eq_getElem hj)), ?_⟩
        exact pk_step nD hw6 p7 hk9 hw9 (by omega) (List.getElem_mem hj)
      · rintro H7 ⟨hw7, hk7, cs, hD, hcl, hcg⟩
        rw [sg_strs] at hD
        refine ⟨⟨_, rfl⟩, _, rfl, "", D, (cs.map fun c => [c]).map strL, rfl, rfl, .inl (.of hD), ?_, ?_⟩
        · rw [sum_lenV, ones_flat]
          show cs.length + _ * 0 ≤ _
          omega
        rw [joinV, ones_flat]
        refine ⟨_, rfl, _, _, rfl, rfl, _, rfl, ?_⟩
        refine iteN (decide_eq_false hway) ?_
        refine ⟨_, rfl, _, rfl, _, _, rfl, rfl, _, _, rfl, rfl, by omega, by omega, ?_, ?_⟩
        · rw [strL_list]
          have e : ((sz : Int) + 1).toNat = sz + 1 := by omega
          rw [e]
          exact Nat.le_trans (Nat.mul_le_mul (show _ ≤ 5 by omega) (show sz + 1 ≤ 301 by omega)) (by decide)
        refine ⟨_, rfl, _, rfl, _, rfl, ?_, ?_⟩
        · rw [repL, strL_len, List.length_flatten, List.map_replicate, List.sum_replicate_nat]
          have e : ((sz : Int) + 1).toNat = sz + 1 := by omega
          rw [e]
          have := Nat.mul_le_mul (show sz + 1 ≤ 301 by omega) (show cs.length ≤ 5 by omega)
          omega
        rw [repL, takeL]
        refine k _ H7 ?_ (fun c hc => rep_mem hcg c (List.mem_of_mem_take hc)) (hw7.mono (by omega)) ((hk15.trans hk6).trans hk7)
        rw [List.length_take]
        omega
end
end T10

set_option Elab.async false
set_option linter.all false
set_option maxRecDepth 100000
set_option maxHeartbeats 4000000
/-! LynTurn: the turns of a word, the least of them. -/
namespace Lyn
def rot (w : List Nat) (k : Nat) : List Nat := w.drop k ++ w.take k
def rotg (w : List Nat) (k : Nat) : List Nat := (List.range w.length).map fun i => w.getD ((i + k) % w.length) 0
theorem rotg_len (w : List Nat) (k : Nat) : (rotg w k).length = w.length := by simp [rotg]
theorem rotg_at {w : List Nat} {k i : Nat} (h : i < w.length) : (rotg w k).getD i 0 = w.getD ((i + k) % w.length) 0 := by
  unfold rotg
  rw [List.getD_eq_getElem?_getD, List.getElem?_map, List.getElem?_range h]
  rfl
theorem rot_rotg {w : List Nat} {k : Nat} (h : k ≤ w.length) : rot w k = rotg w k := by
  apply List.ext_getElem?
  intro i
  unfold rot rotg
  by_cases hi : i < w.length
  · rw [List.getElem?_map, List.getElem?_range hi, List.getElem?_append, List.length_drop]
    by_cases h1 : i < w.length - k
    · rw [if_pos h1, List.getElem?_drop, Nat.add_comm k i, List.getElem?_eq_getElem (by omega)]
      show _ = some (w.getD ((i + k) % w.length) 0)
      rw [Nat.mod_eq_of_lt (by omega), List.getD_eq_getElem?_getD, List.getElem?_eq_getElem (by omega)]
      rfl
    · rw [if_neg h1, List.getElem?_take, if_pos (by omega)]
      have e : (i + k) % w.length = i - (w.length - k) := by
        rw [Nat.mod_eq_sub_mod (by omega), Nat.mod_eq_of_lt (by omega)]
        omega
      rw [List.getElem?_eq_getElem (by omega)]
      show _ = some (w.getD ((i + k) % w.length) 0)
      rw [e, List.getD_eq_getElem?_getD, List.getElem?_eq_getElem (by omega)]
      rfl
  · rw [List.getElem?_eq_none (by rw [List.length_append, List.length_drop, List.length_take]; omega), List.getElem?_eq_none (by rw [List.length_map, List.length_range]; omega)]
theorem rotg_rotg (w : List Nat) (j k : Nat) : rotg (rotg w j) k = rotg w (j + k) := by
  by_cases h0 : w.length = 0
  · have : w = [] := List.length_eq_zero_iff.mp h0
    subst this
    rfl
  · apply List.ext_getElem?
    intro i
    have hl : (rotg w j).length = w.length := rotg_len w j
    by_cases hi : i < w.length
    · conv => lhs; unfold rotg
      conv => rhs; unfold rotg
      rw [List.getElem?_map, List.getElem?_map, List.getElem?_range hi]
      rw [show (List.map (fun i => w.getD ((i + j) % w.length) 0) (List.range w.length)).length = w.length by simp, List.getElem?_range hi]
      show some ((rotg w j).getD ((i + k) % w.length) 0) = some (w.getD ((i + (j + k)) % w.length) 0)
      rw [rotg_at (Nat.mod_lt _ (by omega)), Nat.mod_add_mod]
      congr 3
      omega
    · rw [List.getElem?_eq_none (by rw [rotg_len, rotg_len]; omega), List.getElem?_eq_none (by rw [rotg_len]; omega)]
theorem rotg_mod (w : List Nat) (k : Nat) : rotg w (k % w.length) = rotg w k := by
  unfold rotg
  refine List.map_congr_left fun i _ => ?_
  rw [Nat.add_mod_mod]
theorem rotg_zero (w : List Nat) : rotg w 0 = w := by
  rw [← rot_rotg (Nat.zero_le _)]
  simp [rot]
theorem rotg_full (w : List Nat) : rotg w w.length = w := by
  rw [← rot_rotg (Nat.le_refl _)]
  simp [rot]
def turns (w : List Nat) : List (List Nat) := (List.range w.length).map (rot w)
theorem turns_mem {w x : List Nat} : x ∈ turns w ↔ ∃ k, k < w.length ∧ x = rotg w k := by
  unfold turns
  rw [List.mem_map]
  constructor
  · rintro ⟨k, hk, rfl⟩
    have hk := List.mem_range.mp hk
    exact ⟨k, hk, rot_rotg (by omega)⟩
  · rintro ⟨k, hk, rfl⟩
    exact ⟨k, List.mem_range.mpr hk, rot_rotg (by omega)⟩
theorem count_two {w : List Nat} {k : Nat} (h0 : 0 < k) (hk : k < w.length) (e : rotg w k = w) : (turns w).count w ≠ 1 := by
  obtain ⟨n, hn⟩ : ∃ n, w.length = n + 1 := ⟨w.length - 1, by omega⟩
  unfold turns
  rw [hn, List.range_succ_eq_map, List.map_cons, List.map_map, List.count_cons]
  have e0 : rot w 0 = w := by simp [rot]
  rw [e0]
  have : 0 < List.count w (List.map (rot w ∘ Nat.succ) (List.range n)) := by
    rw [List.count_pos_iff, List.mem_map]
    exact ⟨k - 1, List.mem_range.mpr (by omega), by
      show rot w (k - 1 + 1) = w
      rw [show k - 1 + 1 = k by omega, rot_rotg (by omega), e]⟩
  simp
  omega
/-- the least turn of a word that is no power -/
theorem least_R {w m : List Nat} (hw : w ≠ []) (hc : (turns w).count w = 1) (hm : m ∈ turns w) (hle : ∀ x ∈ turns w, ¬ x < m) : R m := by
  obtain ⟨j, hj, rfl⟩ := turns_mem.mp hm
  have hl := rotg_len w j
  refine ⟨fun z => ?_, fun k h0 hk => ?_⟩
  · rw [z] at hl
    simp at hl
    omega
  · rw [hl] at hk
    have e : (rotg w j).drop k ++ (rotg w j).take k = rotg (rotg w j) k := rot_rotg (by omega)
    rw [e]
    have e2 := rotg_rotg w j k
    have hin : rotg (rotg w j) k ∈ turns w := turns_mem.mpr ⟨(j + k) % w.length, Nat.mod_lt _ (by omega), by rw [rotg_mod, e2]⟩
    rcases trich (rotg w j) (rotg (rotg w j) k) with z | z | z
    · exact z
    · exfalso
      refine count_two h0 hk ?_ hc
      have hback : rotg (rotg w j) (w.length - j) = w := by
        rw [rotg_rotg, show j + (w.length - j) = w.length by omega, rotg_full]
      have : rotg (rotg (rotg w j) k) (w.length - j) = rotg w k := by
        rw [rotg_rotg, rotg_rotg, show j + (k + (w.length - j)) = k + w.length by omega, ← rotg_mod w (k + w.length), Nat.add_mod_right, rotg_mod]
      rw [← this, ← z, hback]
    · exact absurd z (hle _ hin)
def minL (x : List Nat) (xs : List (List Nat)) : List Nat := xs.foldl (fun a y => if y < a then y else a) x
theorem minL_ok : ∀ (xs : List (List Nat)) (x : List Nat), minL x xs ∈ x :: xs ∧ ∀ y ∈ x :: xs, ¬ y < minL x xs
  | [], x => ⟨List.mem_cons_self, fun y hy => by rw [List.mem_singleton.mp hy]; exact List.lt_irrefl x⟩
  | z :: xs, x => by
    show minL (if z < x then z else x) xs ∈ _ ∧ _
    show _ ∧ ∀ y ∈ x :: z :: xs, ¬ y < minL (if z < x then z else x) xs
    obtain ⟨h1, h2⟩ := minL_ok xs (if z < x then z else x)
    have hb := h2 _ List.mem_cons_self
    constructor
    · rcases List.mem_cons.mp h1 with e | e
      · rw [e]
        split
        · exact List.mem_cons_of_mem _ List.mem_cons_self
        · exact List.mem_cons_self
      · exact List.mem_cons_of_mem _ (List.mem_cons_of_mem _ e)
    · intro y hy hlt
      rcases List.mem_cons.mp hy with rfl | hy
      · by_cases hz : z < y
        · rw [if_pos hz] at hb hlt
          exact hb (List.lt_trans hz hlt)
        · rw [if_neg hz] at hb hlt
          exact hb hlt
      · rcases List.mem_cons.mp hy with rfl | hy
        · by_cases hz : y < x
          · rw [if_pos hz] at hb hlt
            exact hb hlt
          · rw [if_neg hz] at hb hlt
            rcases trich x y with t | t | t
            · exact hb (List.lt_trans t hlt)
            · rw [t] at hb
              rw [t] at hlt
              exact hb hlt
            · exact hz t
        · exact h2 y (List.mem_cons_of_mem _ hy) hlt
/-- sorted, then turned about: none less than the next -/
theorem ch_of : ∀ {ws : List (List Nat)}, ws.Pairwise (fun a b => ¬ a < b) → Ch ws
  | [], _ => True.intro
  | [_], _ => True.intro
  | a :: b :: r, h => by
    cases h with
    | cons h1 h2 => exact ⟨h1 b List.mem_cons_self, ch_of h2⟩
theorem Ch.at : ∀ {ws : List (List Nat)}, Ch ws → ∀ (i : Nat) (a b : List Nat), ws[i]? = some a → ws[i + 1]? = some b → ¬ a < b
  | [], _, i, a, b, h, _ => by simp at h
  | [_], _, i, a, b, _, h => by simp at h
  | x :: y :: r, hc, 0, a, b, h1, h2 => by
    cases h1
    cases h2
    exact hc.1
  | x :: y :: r, hc, i + 1, a, b, h1, h2 => hc.2.at i a b (by simpa using h1) (by simpa using h2)
end Lyn

set_option Elab.async false
set_option linter.all false
set_option maxRecDepth 100000
set_option maxHeartbeats 4000000
/-! LstKit: list.count of texts, list[::-1]. -/
namespace L2
open PySem PySem.Spec PyProof.Rows
section
variable {X : Cx} {pins : List (Addr × Obj)} {σ : L2.St} {H : Hp} {s : Shared}
theorem strs_vals : ∀ {ys : List Str} {us : List Value}, Vals (ys.map V.str) us → StrsAre us ys
  | [], _, h => by
    cases h
    exact .nil
  | y :: ys, _, h => by
    cases h with
    | cons rv rn =>
      obtain ⟨t, rfl⟩ := rv
      exact .cons y t (strs_vals rn)
theorem countIn_strs (k : Str) : ∀ ys : List Str, countIn (.str k) (ys.map PyData.str) = ((ys.count k : Nat) : Int)
  | [] => rfl
  | y :: ys => by
    rw [List.map_cons, countIn, countIn_strs k ys, List.count_cons]
    by_cases h : y = k
    · simp [same, h]; omega
    · simp [same, h]
def rCntS (K : PySem.W.Frag) : V → List V → Hp → VK → Prop := fun x xs H Q => ∃ (p : Addr) (ys : List Str) (k : Str), x = .ref p ∧ xs = [.str k] ∧ SqL K H p (ys.map V.str) ∧ Q (.int (ys.count k : Nat)) H
theorem mt_countS : MtR X "list.count" (rCntS X.K) := by
  intro pins s σ H x xs v us Q I rx rxs h
  obtain ⟨p, ys, k, rfl, rfl, hs, q⟩ := h
  cases rx
  obtain ⟨u, rfl, ru⟩ := rxs.one
  obtain ⟨t, rfl⟩ := ru
  obtain ⟨its, rv, ht, hlen⟩ := I.list hs
  refine count_list_strs ht.isList (strs_vals rv) ?_
  rw [countIn_strs]
  exact ⟨.int (ys.count k : Nat), H, I.tok _, ⟨s.toks, rfl⟩, q⟩
end
end L2

set_option Elab.async false
set_option linter.all false
set_option maxRecDepth 100000
set_option maxHeartbeats 4000000
/-! ListStr: list(text). -/
namespace L2
open PySem PySem.Spec PyProof.Rows
section
variable {X : Cx}
def rListS : List V → Hp → VK → Prop := fun xs H Q => ∃ z : Str, xs = [.str z] ∧ z.cps.size ≤ 1000 ∧ ∀ p, H p = none → Q (.ref p) (upd H p (.lst (z.cps.toList.map fun c => V.str ⟨#[c]⟩)))
theorem call_listS (hc : X.calm = true) : CallR X (.type "list") rListS := by
  intro pins s σ H xs us Q I r h
  obtain ⟨z, rfl, hz, q⟩ := h
  obtain ⟨u, rfl, ru⟩ := vals1 r
  obtain ⟨t, rfl⟩ := ru
  have hsz : sizeLine = 2 ^ 24 := sizeLine_eq
  refine call_list_str (I.ok.hd hc) z t (fun h' tk acc c' hk hS hi => ?_) (by omega)
  refine ⟨.ref s.heap.objs.size, _, I.laid (t' := tk) (a := s.heap.objs.size) (o := .lst (z.cps.toList.map fun c => V.str ⟨#[c]⟩)) hk (Nat.le_refl _) ⟨by rw [List.length_map, Array.length_toList]; omega, acc.toList, c', vals_at (by rw [Array.length_toList, hi.1, List.length_map, Array.length_toList]) fun i u hu => ?_, by rw [Array.toArray_toList]; exact hS⟩, rfl, q _ (I.hok.fresh (Nat.le_refl _))⟩
  obtain ⟨c, v, e1, e2⟩ := hi.2 i u (by rw [← Array.getElem?_toList]; exact hu)
  exact ⟨.str ⟨#[c]⟩, by rw [List.getElem?_map, Array.getElem?_toList, e1]; rfl, ⟨v, e2⟩⟩
end
end L2

set_option Elab.async false
set_option linter.all false
set_option maxRecDepth 100000
set_option maxHeartbeats 4000000
/-! SortSgn: sorted(text); sorted(texts), of any length. -/
namespace L2
open PySem PySem.Spec PyProof.Rows
def sgn (z : Str) : List Str := z.cps.toList.map fun c => ⟨#[c]⟩
section
variable {prog : Program} {w : World} {A : Around} {E : Value → Shared → Prop} {s : Shared}
theorem strs_of : ∀ {vs : List Value} {ys : List Str}, vs.length = ys.length → (∀ (j : Nat) v, vs[j]? = some v → ∃ y u, ys[j]? = some y ∧ v = .str y u) → StrsAre vs ys
  | [], [], _, _ => .nil
  | [], _ :: _, h, _ => by cases h
  | _ :: _, [], h, _ => by cases h
  | v :: vs, y :: ys, h, k => by
    obtain ⟨y', u, e, rfl⟩ := k 0 v rfl
    obtain rfl : y = y' := Option.some.inj e
    exact .cons _ _ (strs_of (Nat.succ.inj h) fun j v hv => k (j + 1) v hv)
theorem sgn_are {x : Str} {acc : Array Value} (hi : ItemsOf (SignAt x) acc x.cps.size) : StrsAre acc.toList (sgn x) := by
  refine strs_of ?_ fun j v hv => ?_
  · rw [sgn, List.length_map, Array.length_toList, Array.length_toList]
    exact hi.1
  · rw [Array.getElem?_toList] at hv
    obtain ⟨c, u, e, rfl⟩ := hi.2 j v hv
    exact ⟨_, u, by rw [sgn, List.getElem?_map, Array.getElem?_toList, e]; rfl, rfl⟩
theorem sorted_text {x : Str} {t : Tok} {R : Value → Shared → Prop} (hh : A.handled = none) (sz : x.cps.size ≤ 1000)
    (k : ∀ (h h' : Heap) (tk : Nat) (p : Addr) (out : List Value) (n : Nat) (ss : List Str), (∀ b o, s.heap.get? b = some o → h.get? b = some o) → (∀ b o, h.get? b = some o → h'.get? b = some o) → h.objs.size ≤ p → h'.get? p = some (seqObj "list" out.toArray n) → StrsAre out ss → ss.Perm (sgn x) → sortedS ss = true → R (.ref p) { s with heap := h', toks := tk }) :
    wpAny (model prog w) A (call (.builtin "sorted") [.str x t]) R E s := by
  have hsz : sizeLine = 2 ^ 24 := sizeLine_eq
  refine Calls.call_function_entry PyProof.Rows.kind_sorted PyProof.Rows.plain_sorted PyProof.Rows.entry_sorted (PyProof.Rows.args_sorted1 _) ?_
  unfold Builtin.«sorted»
  refine wpAny_bind (m := checkCount "sorted" 1 1 _) (wpAny_pure ?_)
  refine wpAny_bind (wpAny_collect_str (by simp [hh]) x t (fun s' acc kp g1 d1 o1 hi => ?_) (by omega))
  have hl : acc.toList.length = x.cps.size := by rw [Array.length_toList]; exact hi.1
  have hlz : acc.toList.length ≤ sizeLine := by omega
  have hS : StrsAre acc.toList (sgn x) := sgn_are hi
  refine wpAny_bind (wpAny_newList ?_ hlz)
  obtain ⟨h, g, dr, tk, os⟩ := s'
  subst g1 d1 o1
  have hoL : (h.push (seqObj "list" acc.toList.toArray 0)).get? h.objs.size = some (seqObj "list" acc.toList.toArray 0) := Heap.get?_push_size _ rfl
  have kp' : ∀ b o, s.heap.get? b = some o → h.get? b = some o := kp
  show wpAny _ _ _ _ _ { heap := h.push (seqObj "list" acc.toList.toArray 0), gens := s.gens, drawn := s.drawn, toks := tk, os := s.os }
  refine wpAny_bind (wpAny_holding (wpAny_call_entry slot_list_sort ⟨_, hoL, rfl⟩ entry_list_sort (list_sort_treeKAny strKind_oneLt hoL hS.keysOf (fun v₁ v₂ rest e => keyKind_strs (by rw [← e]; exact hS)) hlz fun st' a1 a2 => ⟨_, rfl, ?_⟩) (args_list_sort _)))
  obtain ⟨ss', h1, h2, h3⟩ := sorted_out_str hS a1 a2
  obtain ⟨ep, gp⟩ := PyProof.Rows.sortedHeap_at (vs := acc.toList) (out := (arrOf st').map (·.2)) hoL
  refine wpAny_pure ⟨_, rfl, k h _ tk h.objs.size _ ep ss' kp' (fun b o e => ?_) (Nat.le_refl _) gp h1 h2 h3⟩
  have lt := Heap.lt_size e
  rw [PyProof.Rows.sortedHeap_old (Nat.ne_of_lt lt) (by rw [Heap.size_push]; exact Nat.lt_succ_of_lt lt)]
  exact Heap.get?_push_of_some _ e
end
section
variable {X : Cx}
def rSortedStr : List V → Hp → VK → Prop := fun vs H Q => ∃ z : Str, vs = [V.str z] ∧ z.cps.size ≤ 1000 ∧ ∀ (ys : List Str) (p : Addr), ys.Perm (sgn z) → sortedS ys = true → H p = none → Q (.ref p) (upd H p (.lst (ys.map V.str)))
theorem cr_sortedStr (hc : X.calm = true) : CallR X (.builtin "sorted") rSortedStr := by
  intro pins s σ H vs us Q I r h
  obtain ⟨z, rfl, hz, q⟩ := h
  obtain ⟨u, rfl, ru⟩ := vals1 r
  obtain ⟨t, rfl⟩ := ru
  have hsz : sizeLine = 2 ^ 24 := sizeLine_eq
  refine sorted_text (I.ok.hd hc) hz fun h h' tk p out n ss kp0 kp le gp h1 h2 h3 => ?_
  have hlen : (ss.map V.str).length ≤ sizeLine := by
    rw [List.length_map, h2.length_eq, sgn, List.length_map, Array.length_toList]
    omega
  have J : Inv X pins σ H { s with heap := h } := I.kept kp0
  exact ⟨.ref p, upd H p (.lst (ss.map V.str)), J.laid (t' := tk) kp le ⟨hlen, out, n, vals_of_strs h1, gp⟩, rfl, q ss p h2 h3 (J.hok.fresh le)⟩
/-- sorted(texts), of any length -/
def rSortedSA (K : PySem.W.Frag) : List V → Hp → VK → Prop := fun vs H Q => ∃ (a : Addr) (xs : List Str), vs = [V.ref a] ∧ SqL K H a (xs.map V.str) ∧
  ∀ (ys : List Str) (p : Addr), ys.Perm xs → sortedS ys = true → H p = none → Q (.ref p) (upd H p (.lst (ys.map V.str)))
theorem cr_sortedSA : CallR X (.builtin "sorted") (rSortedSA X.K) := by
  intro pins s σ H vs us Q I r h
  obtain ⟨a, xs, rfl, hs, q⟩ := h
  obtain ⟨its, rv, hl, hz⟩ := I.list hs
  rw [Vals.ref1 r]
  refine PyProof.Rows.sorted_strsAny hl.isList rv.strs (by rw [← rv.length]; exact hz) fun out ys h1 h2 h3 => ?_
  obtain ⟨ep, he'⟩ := PyProof.Rows.sortedAll_at s.heap its out
  have hlen : (ys.map V.str).length ≤ sizeLine := by rw [List.length_map, h2.length_eq]; rw [List.length_map] at hz; exact hz
  exact ⟨.ref _, upd H (s.heap.objs.size + 1) (.lst (ys.map V.str)), I.laid (t' := s.toks) (fun _ _ => PyProof.Rows.sortedAll_old) (Nat.le_succ _) ⟨hlen, out.toList, ep, vals_of_strs h1, he'⟩, rfl, q ys _ h2 h3 (I.hok.fresh (Nat.le_succ _))⟩
end
end L2

set_option Elab.async false
set_option linter.all false
set_option maxRecDepth 100000
set_option maxHeartbeats 4000000
/-! LsKit: lists of texts as data. -/
namespace L2
open PySem PySem.Spec PyProof.Rows
def lS (ts : List Str) : PyData := .list (ts.map PyData.str)
theorem dp_strs {K : PySem.W.Frag} {H : Hp} : ∀ ts : List Str, DpAll K H (ts.map V.str) (ts.map PyData.str)
  | [] => .nil
  | t :: ts => .cons (.str t) (dp_strs ts)
theorem dp_lS {K : PySem.W.Frag} {H : Hp} {a : Addr} {ts : List Str} (h : SqL K H a (ts.map V.str)) : Dp K H (.ref a) (lS ts) := .lst h (dp_strs ts)
theorem lay_strs : ∀ ts : List Str, (∀ t ∈ ts, PyData.strOk t = true) → PyData.canLayAll0 (ts.map PyData.str) = true
  | [], _ => by simp [PyData.canLayAll0]
  | t :: ts, h => by simp [PyData.canLayAll0, PyData.canLay0, lay_strs ts fun u hu => h u (List.mem_cons_of_mem _ hu), h t List.mem_cons_self]
theorem depth_strs0 : ∀ ts : List Str, PyData.depthAll (ts.map PyData.str) = 0
  | [] => by simp [PyData.depthAll]
  | t :: ts => by simp [PyData.depthAll, PyData.depth, depth_strs0 ts]
theorem shaped_lS (ts : List Str) (h : ∀ t ∈ ts, PyData.strOk t = true) : SeqAt.shaped (lS ts) = true := by
  simp [lS, SeqAt.shaped, PyData.canLay0, PyData.depth, lay_strs ts h, depth_strs0]
theorem eqvAll_strs : ∀ ts : List Str, PyData.eqvAll (ts.map PyData.str) (ts.map PyData.str) = true
  | [] => by simp [PyData.eqvAll]
  | t :: ts => by simp [PyData.eqvAll, PyData.eqv, eqvAll_strs ts]
theorem same_lS (ts : List Str) : PyData.eqv (lS ts) (lS ts) = true := by
  unfold lS
  simp only [PyData.eqv]
  exact eqvAll_strs ts
theorem strOk_sgn {c : Nat} (h : c < 128) : PyData.strOk (⟨#[c]⟩ : Str) = true := by
  have : ∀ c, c < 128 → PyData.strOk (⟨#[c]⟩ : Str) = true := by decide +kernel
  exact this c h
theorem shaped_sgn {z : Str} (h : ∀ c ∈ z.cps.toList, c < 128) : SeqAt.shaped (lS (sgn z)) = true := shaped_lS _ fun t ht => by
  obtain ⟨c, hc, rfl⟩ := List.mem_map.mp ht
  exact strOk_sgn (h c hc)
theorem shaped_perm {z : Str} {ys : List Str} (p : ys.Perm (sgn z)) (h : ∀ c ∈ z.cps.toList, c < 128) : SeqAt.shaped (lS ys) = true := shaped_lS _ fun t ht => by
  obtain ⟨c, hc, rfl⟩ := List.mem_map.mp (p.mem_iff.mp ht)
  exact strOk_sgn (h c hc)
theorem perm_pair {α : Type} {a b : α} {ys : List α} (p : ys.Perm [a, b]) : ys = [a, b] ∨ ys = [b, a] := by
  match ys, p.length_eq with
  | [u, v], _ =>
    have hu : u ∈ [a, b] := p.mem_iff.mp List.mem_cons_self
    rcases List.mem_cons.mp hu with rfl | hu
    · have q : [v].Perm [b] := p.cons_inv
      rw [List.perm_singleton.mp q]
      exact .inl rfl
    · rw [List.mem_singleton.mp hu] at p ⊢
      have q : [v].Perm [a] := (p.trans (List.Perm.swap b a [])).cons_inv
      rw [List.perm_singleton.mp q]
      exact .inr rfl
end L2

set_option Elab.async false
set_option linter.all false
set_option maxRecDepth 100000
set_option maxHeartbeats 4000000
namespace T10
open PySem PySem.Spec PyProof.Rows L2 EK
abbrev sIL : Stmt := top 28
abbrev sPR : Stmt := top 29
abbrev sLT : Stmt := top 30
def spIL : Sp := fun vs H Q _ => ∃ w, vs = [.str (strL w)] ∧ Lyn.L w ∧ w.length ≤ 1000 ∧ ∀ H', Same H H' → Q (.bl true) H'
def spPR : Sp := fun vs H Q _ => ∃ t, vs = [.str (strL t)] ∧ isT (strL t) = true ∧ t.length ≤ 1000 ∧ ∀ H', Same H H' → Q (.bl true) H'
/-- a part, or none -/
def spLT : Sp := fun vs H Q _ => ∃ w : List Nat, vs = [.str (strL w)] ∧ w ≠ [] ∧ w.length ≤ 1000 ∧ ∀ H' m, Same H H' → (m = [] ∨ Lyn.L m ∧ ∃ k, m = Lyn.rot w k) → m.length ≤ w.length → Q (.str (strL m)) H'
structure TxtG (K : PySem.W.Frag) (mg : Str → Option Value) : Prop where
  len : mg "len" = none
  range : mg "range" = none
  isinstance : mg "isinstance" = none
  tuple : mg "tuple" = none
  all : mg "all" = none
  min : mg "min" = none
theorem flat_ge {v : List Nat} : ∀ {ws : List (List Nat)}, v ∈ ws → v.length ≤ ws.flatten.length
  | x :: xs, h => by
    rw [List.flatten_cons, List.length_append]
    rcases List.mem_cons.mp h with rfl | h
    · omega
    · have := flat_ge h
      omega
theorem ix_tupK {X : Cx} {K : PySem.W.Frag} (h : X.K = K := by rfl) : IxR X (rIxT K) := by subst h; exact ix_tup
theorem minS_L (x : List Nat) : ∀ xs : List (List Nat), minS (strL x) (xs.map strL) = strL (Lyn.minL x xs) := by
  intro xs
  induction xs generalizing x with
  | nil => rfl
  | cons y ys ih =>
    show minS (if decide ((strL y).cps.toList < (strL x).cps.toList) = true then strL y else strL x) (ys.map strL) = strL (Lyn.minL (if y < x then y else x) ys)
    rw [strL_list, strL_list]
    by_cases h : y < x
    · rw [if_pos (decide_eq_true h), if_pos h, ih]
    · rw [if_neg (by simpa using h), if_neg h, ih]
theorem count_L (w : List Nat) : ∀ xs : List (List Nat), (xs.map strL).count (strL w) = xs.count w
  | [] => rfl
  | x :: xs => by
    rw [List.map_cons, List.count_cons, List.count_cons, count_L w xs]
    congr 1
    by_cases h : x = w
    · simp [h]
    · have : strL x ≠ strL w := fun z => h (strL_inj.mp z)
      simp [h, this]
section
variable {P : Program} {w : World} {K : PySem.W.Frag} {mg : Str → Option Value} {base : Heap} {C iC : Addr}
theorem scIL : FnScope ["_law_word", "_law_k"] ["_law_word"] (defScope sIL) := ⟨rfl, rfl, rfl, by decide +kernel, rfl, by decide +kernel, by decide +kernel⟩
theorem scPR : FnScope ["_law_text_here", "_law_told", "_law_k", "_law_piece"] ["_law_text_here"] (defScope sPR) := ⟨rfl, rfl, rfl, by decide +kernel, rfl, by decide +kernel, by decide +kernel⟩
theorem scLT : FnScope ["_law_word", "_law_turns", "_law_k"] ["_law_word"] (defScope sLT) := ⟨rfl, rfl, rfl, by decide +kernel, rfl, by decide +kernel, by decide +kernel⟩
theorem ok_IL {f : Addr} {fd : FuncData} (F : Fun K "_law_is_least" "_law_is_least" sIL f fd) (T : TxtG K mg) : FnOk P w K mg base CX0 1 f fd ["_law_word"] spIL := by
  refine F.ok scIL (fun vs H Q E h => ?_) (fun cdv A outer s H vs Q E hr h => ?_)
  · obtain ⟨w, rfl, _⟩ := h
    rfl
  · obtain ⟨w, rfl, hL, hl, k⟩ := h
    have nd := scIL.nd
    have hz : sizeLine = 2 ^ 24 := sizeLine_eq
    have hu : (A.deeper (PyProof.Rows.envOfC "_law_is_least" (defScope sIL) s.heap.objs.size f cdv)).units + 64 < cLine := hr.units
    refine ⟨_, (pss_one (ps_ret (pe_and (pe_cmpR (op_eqD hu) (pe_lc (own := [("_law_k", 1)]) (g := gName 1) rfl nd (pi_range2 (by rfl) T.range (pa_cons pe_int (pa_cons (pe_callB call_len_str (by rfl) T.len (by decide +kernel) (pa_cons (pv 0) pa_nil)) pa_nil))) (blkOk_by (N := ["_law_word", "_law_k"]) (sc := defScope sIL) (by decide +kernel)) (fun _ _ _ _ _ => (pg_name (i := 1) nd rfl (Or.inl rfl))) (fun _ _ _ _ _ => (pts_one (pt_cmpR op_le_str (pe_op op_add_str (pe_slice sl_str (pv 0) (po_some (pv 1)) po_none) (pe_slice sl_str (pv 0) po_none (po_some (pv 1)))) (pv 0) (nomark _)))) (fun _ _ _ _ _ => pe_int)) (pe_lst pa_nil) (nomark _)) (pe_one (pe_cmpR op_ne (pv 0) pe_str (nomark _)))))), ?_⟩
    have wl : (strL w).length ≤ sizeLine := by rw [strL_len, hz]; omega
    refine ⟨_, rfl, strL w, rfl, wl, 1, ((w.length : Nat) : Int), (by show [V.int 1, V.int (((strL w).length : Nat) : Int)] = _; rw [strL_len]), by omega, fun D nD => ?_⟩
    refine lcM_range (lo := 1) (n := (((w.length : Nat) : Int) - 1).toNat) (R' := RInt) (fun _ => false) (fun _ => (1 : Int)) nD rint_keep (by omega) ?_ ?_
    · intro i G C C0 hi s yes no
      have hi2 : i + 1 < w.length := by omega
      refine ⟨rfl, ?_⟩
      have ek : (1 : Int) + (i : Int) = ((i + 1 : Nat) : Int) := by omega
      rw [ek]
      refine ⟨_, rfl, _, rfl, _, rfl, strL w, rfl, wl, ?_⟩
      rw [cutL]
      refine ⟨_, rfl, _, rfl, _, rfl, strL w, rfl, wl, ?_⟩
      rw [takeL]
      refine ⟨_, _, rfl, rfl, (by rw [strL_len, strL_len, List.length_drop, List.length_take]; omega), ?_⟩
      rw [strL_add]
      refine ⟨_, rfl, _, _, rfl, rfl, _, rfl, ?_⟩
      rw [strL_list, strL_list]
      have hr := hL.turns.2 (i + 1) (by omega) hi2
      refine iteN (by rw [decide_eq_true hr]; rfl) ?_
      exact no rfl _ fun _ _ q => q
    · intro ys H2 s2 hD hall
      rw [List.filter_eq_nil_iff.mpr fun _ _ => by simp] at hall
      cases hall
      refine ⟨(by show 0 ≤ sizeLine; omega), fun p zp => ?_⟩
      obtain ⟨H3, e3, S3, A3⟩ := alloc (o := .lst []) zp
      rw [e3]
      refine ⟨lI [], lI [], dp_lI (.of (S3 _ _ hD)), dp_lI (.of A3), shaped_lI _, shaped_lI _, ?_⟩
      rw [eqv_lI, decide_eq_true rfl]
      refine ⟨_, rfl, _, rfl, rfl, ?_⟩
      have : (!decide (V.str (strL w) = V.str "")) = true := by
        rw [decide_eq_false]
        · rfl
        · intro z
          exact hL.1 (strV_inj.mp (show V.str (strL w) = V.str (strL []) from z))
      rw [this]
      exact k H3 fun b o e => S3 _ _ (s2 _ _ e)
theorem ok_PR {f fF fIL : Addr} {fd fdF fdIL : FuncData} (F : Fun K "_law_parts_right" "_law_parts_right" sPR f fd) (T : TxtG K mg)
    (GF : FnOk P w K mg base (L2.CX P w) 4 fF fdF ["text"] (spFall C)) (gF : mg "falling" = some (.ref fF)) (kF : PySem.W.keepIn K (.ref fF) = true) (bF : Binds K fdF ["text"] [])
    (GIL : FnOk P w K mg base CX0 1 fIL fdIL ["_law_word"] spIL) (gIL : mg "_law_is_least" = some (.ref fIL)) (kIL : PySem.W.keepIn K (.ref fIL) = true) (bIL : Binds K fdIL ["_law_word"] []) :
    FnOk P w K mg base CX0 5 f fd ["_law_text_here"] spPR := by
  refine F.ok scPR (fun vs H Q E h => ?_) (fun cdv A outer s H vs Q E hr h => ?_)
  · obtain ⟨t, rfl, _⟩ := h
    rfl
  · obtain ⟨t, rfl, ht, hl, k⟩ := h
    have nd := scPR.nd
    have hz : sizeLine = 2 ^ 24 := sizeLine_eq
    have hrF : Room 4 _ := hr
    have hrIL : Room 1 _ := hr.mono (by decide)
    have hu : (A.deeper (PyProof.Rows.envOfC "_law_parts_right" (defScope sPR) s.heap.objs.size f cdv)).units + 64 < cLine := hr.units
    refine ⟨_, (pss_cons (ps_set (i := 1) nd rfl (Or.inr rfl) (pe_call GF hrF rfl gF kF bF .nil passL (pa_cons (pv 0) pa_nil)))
      (pss_cons (ps_if (PW.pt (pw_or (pt_not (pt_val (pe_callB call_isi (by rfl) T.isinstance (by decide +kernel) (pa_cons (pv 1) (pa_cons (pe_bltn (v := .ty "tuple") rfl T.tuple (by decide +kernel) rfl) pa_nil))))) (pw_or1 (pt_cmpR op_ne (pe_join pe_str (pv 1)) (pv 0) (nomark _))))) (pss_one (ps_ret pe_bl)) pss_nil)
      (pss_cons (ps_if (pt_cmpR (op_neD hu) (pe_lc (own := [("_law_k", 2)]) (g := gName 2) rfl nd (pi_range1 (by rfl) T.range (pa_cons (pe_op op_sub (pe_callB call_len_seq (by rfl) T.len (by decide +kernel) (pa_cons (pv 1) pa_nil)) pe_int) pa_nil)) (blkOk_by (N := ["_law_text_here", "_law_told", "_law_k", "_law_piece"]) (sc := defScope sPR) (by decide +kernel)) (fun _ _ _ _ _ => (pg_name (i := 2) nd rfl (Or.inl rfl))) (fun _ _ _ _ _ => (pts_one (pt_cmpR op_lt_str (pe_ix (ix_tupK (K := K)) (pv 1) (pv 2) (fun _ _ => rfl)) (pe_ix (ix_tupK (K := K)) (pv 1) (pe_op op_add (pv 2) pe_int) (fun _ _ => rfl)) (nomark _)))) (fun _ _ _ _ _ => pe_int)) (pe_lst pa_nil) (nomark _)) (pss_one (ps_ret pe_bl)) pss_nil)
      (pss_one (ps_ret (pe_callB (cr_all rfl) (by rfl) T.all (by decide +kernel) (pa_cons (pe_lc (own := [("_law_piece", 3)]) (g := gName 3) (tt := tYes) rfl nd (pi_tup (pv 1)) (blkOk_by (N := ["_law_text_here", "_law_told", "_law_k", "_law_piece"]) (sc := defScope sPR) (by decide +kernel)) (fun _ _ _ _ _ => (pg_name (i := 3) nd rfl (Or.inl rfl))) (fun _ _ _ _ _ => pts_nil) (fun _ _ _ _ _ => (pe_call GIL hrIL rfl gIL kIL bIL .nil pass0 (pa_cons (pv 3) pa_nil)))) pa_nil))))))), ?_⟩
    obtain ⟨ws, w1, w2, w3⟩ := Lyn.parts_exist t
    have hws : ∀ v ∈ ws, v.length ≤ 1000 := fun v hv => by
      have : v.length ≤ ws.flatten.length := by
        exact flat_ge hv
      rw [w3] at this
      omega
    have hwl : ws.length ≤ 1000 := by
      have := begs_len t t.length
      rw [Lyn.begs_offs w1 w2 w3, offs_len] at this
      omega
    refine ⟨_, rfl, _, rfl, .str _, .inl ⟨t, ws, rfl, ht, hl, ⟨w1, w2, w3⟩, fun p H1 s1 zp hp => ?_⟩⟩
    refine ⟨_, rfl, _, _, _, _, _, rfl, .ty _, .base (.tup hp), kit_ty (r := true) (by decide +kernel), _, rfl, ?_⟩
    refine iteN rfl ?_
    have hp2 : H1 p = some (.tup ((ws.map strL).map V.str)) := by rw [hp]; unfold wsV; rw [mapV]; rfl
    refine ⟨⟨_, rfl⟩, _, rfl, "", p, ws.map strL, rfl, rfl, .inr (.of hp2), ?_, ?_⟩
    · rw [sum_lenV, w3, List.length_map]
      show t.length + _ * 0 ≤ _
      omega
    rw [joinV, w3]
    refine ⟨_, rfl, rfl, _, rfl, ?_⟩
    refine iteN (by rw [decide_eq_true rfl]; rfl) ?_
    refine ⟨_, rfl, p, _, rfl, .inr (.of hp), _, _, rfl, rfl, _, rfl, ?_, ?_, fun D nD => ?_⟩
    · unfold wsV; rw [List.length_map]; omega
    · unfold wsV; rw [List.length_map]; omega
    have lenV : (wsV ws).length = ws.length := by unfold wsV; rw [List.length_map]
    rw [lenV]
    refine lcM_range (lo := 0) (n := (((ws.length : Nat) : Int) - 1).toNat) (R' := RInt) (fun _ => false) (fun _ => (1 : Int)) nD rint_keep (by omega) ?_ ?_
    · intro i G C C0 hi s yes no
      have hi2 : i + 1 < ws.length := by omega
      rw [Int.zero_add]
      refine ⟨rfl, ?_⟩
      have g1 : (wsV ws)[i]? = some (.str (strL ws[i])) := by unfold wsV; rw [List.getElem?_map, List.getElem?_eq_getElem (by omega)]; rfl
      have g2 : (wsV ws)[i + 1]? = some (.str (strL ws[i + 1])) := by unfold wsV; rw [List.getElem?_map, List.getElem?_eq_getElem (by omega)]; rfl
      have ei : (i : Int) + 1 = ((i + 1 : Nat) : Int) := by omega
      refine ⟨_, rfl, _, rfl, p, _, (i : Int), _, rfl, rfl, .of (s _ _ hp), atI_nat g1, _, rfl, _, rfl, _, _, rfl, rfl, p, _, ((i : Int) + 1), _, rfl, rfl, .of (s _ _ hp), (by rw [ei]; exact atI_nat g2), _, _, rfl, rfl, _, rfl, ?_⟩
      rw [strL_list, strL_list]
      have := w2.at i ws[i] ws[i + 1] (List.getElem?_eq_getElem (by omega)) (List.getElem?_eq_getElem hi2)
      refine iteN (decide_eq_false this) ?_
      exact no rfl _ fun _ _ q => q
    · intro ys H2 s2 hD hall
      rw [List.filter_eq_nil_iff.mpr fun _ _ => by simp] at hall
      cases hall
      refine ⟨(by show 0 ≤ sizeLine; omega), fun p3 zp3 => ?_⟩
      obtain ⟨H3, e3, S3, A3⟩ := alloc (o := .lst []) zp3
      rw [e3]
      refine ⟨lI [], lI [], dp_lI (.of (S3 _ _ hD)), dp_lI (.of A3), shaped_lI _, shaped_lI _, ?_⟩
      rw [eqv_lI, decide_eq_true rfl]
      refine ⟨_, rfl, ?_⟩
      refine iteN rfl ?_
      have hp3 : H3 p = some (.tup (wsV ws)) := S3 _ _ (s2 _ _ hp)
      refine ⟨_, rfl, p, rfl, ⟨_, .of hp3⟩, fun D2 nD2 => ?_⟩
      refine lcM_tup (K := K) (a := p) (xs := wsV ws) (zs := ws) (R := fun _ x z => x = V.str (strL z)) (R' := fun _ x z => x = V.bl z) (fun _ => true) (fun _ => true) nD2 (.of hp3) ?_ (fun _ _ _ _ _ r => r) (fun _ _ _ _ _ r => r) (by omega) ?_ ?_
      · unfold wsV
        exact All2.of_map ws
      · intro i x z G C C0 hz' s rx yes no
        have rx : x = V.str (strL z) := rx
        subst rx
        have hzm := List.mem_of_getElem? hz'
        refine ⟨rfl, ?_⟩
        refine yes_i ?_
        refine iteY rfl ?_
        refine ⟨_, rfl, z, rfl, w1 z hzm, hws z hzm, fun H5 s5 => ?_⟩
        exact yes rfl _ _ s5 rfl
      · intro ys H4 s4 hD4 hall4
        have e := hall4.eq_map
        rw [e] at hD4
        refine ⟨D2, _, rfl, .of hD4, ?_⟩
        have : ((List.map (fun _ => true) (List.filter (fun _ => true) ws)).all id) = true := by simp
        rw [this]
        exact k H4 fun b o e => s4 _ _ (S3 _ _ (s2 _ _ (s1 _ _ e)))
theorem ok_LT {f : Addr} {fd : FuncData} (F : Fun K "_law_least_turn" "_law_least_turn" sLT f fd) (T : TxtG K mg) : FnOk P w K mg base CX0 1 f fd ["_law_word"] spLT := by
  refine F.ok scLT (fun vs H Q E h => ?_) (fun cdv A outer s H vs Q E hr h => ?_)
  · obtain ⟨w, rfl, _⟩ := h
    rfl
  · obtain ⟨w, rfl, hne, hl, k⟩ := h
    have nd := scLT.nd
    have hz : sizeLine = 2 ^ 24 := sizeLine_eq
    have hu : (A.deeper (PyProof.Rows.envOfC "_law_least_turn" (defScope sLT) s.heap.objs.size f cdv)).units + 64 < cLine := hr.units
    refine ⟨_, (pss_cons (ps_setLc (i := 1) (own := [("_law_k", 2)]) (g := gName 2) (tt := tYes) rfl nd rfl rfl (sw_true rfl rfl rfl (by decide +kernel)) (pi_range1 (by rfl) T.range (pa_cons (pe_callB call_len_str (by rfl) T.len (by decide +kernel) (pa_cons (pv 0) pa_nil)) pa_nil)) (blkOk_by (N := ["_law_word", "_law_turns", "_law_k"]) (sc := defScope sLT) (by decide +kernel)) (fun _ _ _ _ _ => (pg_name (i := 2) nd rfl (Or.inl rfl))) (fun _ _ _ _ _ => pts_nil) (fun _ _ _ _ _ => (pe_op op_add_str (pe_slice sl_str (pv 0) (po_some (pv 2)) po_none) (pe_slice sl_str (pv 0) po_none (po_some (pv 2))))))
      (pss_one (ps_ret (pe_ifExp (pt_cmpR op_eq (pe_bm PySem.F.plainAttrs_list PySem.F.slot_list_count PySem.F.type_list_count mt_countS (pv 1) (pa_cons (pv 0) pa_nil)) pe_int (nomark _)) (pe_callB (cr_minS rfl hu) (by rfl) T.min (by decide +kernel) (pa_cons (pv 1) pa_nil)) pe_str)))), ?_⟩
    have wl : (strL w).length ≤ sizeLine := by rw [strL_len, hz]; omega
    refine ⟨_, rfl, strL w, rfl, wl, ((w.length : Nat) : Int), (by show [V.int (((strL w).length : Nat) : Int)] = _; rw [strL_len]), by omega, by omega, fun D nD => ?_⟩
    refine lcM_range (lo := 0) (n := ((w.length : Nat) : Int).toNat) (R' := fun _ x z => x = V.str (strL z)) (fun _ => true) (Lyn.rot w) nD (fun _ _ _ _ _ r => r) (by omega) ?_ ?_
    · intro i G C C0 hi s yes no
      have hi2 : i < w.length := by omega
      rw [Int.zero_add]
      refine ⟨rfl, ?_⟩
      refine yes_i ?_
      refine iteY rfl ?_
      refine ⟨_, rfl, _, rfl, _, rfl, strL w, rfl, wl, ?_⟩
      rw [cutL]
      refine ⟨_, rfl, _, rfl, _, rfl, strL w, rfl, wl, ?_⟩
      rw [takeL]
      refine ⟨_, _, rfl, rfl, (by rw [strL_len, strL_len, List.length_drop, List.length_take]; omega), ?_⟩
      rw [strL_add]
      exact yes rfl _ _ (fun _ _ q => q) rfl
    · intro ys H2 s2 hD hall
      have e := hall.eq_map
      rw [List.filter_eq_self.mpr fun _ _ => rfl, show ((w.length : Nat) : Int).toNat = w.length by omega] at e
      have e2 : ys = ((Lyn.turns w).map strL).map V.str := by
        rw [e, List.map_map (f := strL)]
        rfl
      rw [e2] at hD
      refine ⟨_, rfl, .inl ⟨rfl, _, .of hD⟩, _, rfl, D, _, strL w, rfl, rfl, .of hD, rfl, _, rfl, ?_⟩
      rw [count_L]
      by_cases hc : (Lyn.turns w).count w = 1
      · refine iteY (decide_eq_true (by rw [hc]; rfl)) ?_
        obtain ⟨x, xs, hx⟩ : ∃ x xs, Lyn.turns w = x :: xs := by
          cases h : Lyn.turns w with
          | nil =>
            have := congrArg List.length h
            unfold Lyn.turns at this
            rw [List.length_map, List.length_range] at this
            exact absurd (List.length_eq_zero_iff.mp this) hne
          | cons x xs => exact ⟨x, xs, rfl⟩
        rw [hx] at hD
        refine ⟨_, rfl, D, strL x, xs.map strL, rfl, .of hD, ?_⟩
        rw [minS_L]
        obtain ⟨m1, m2⟩ := Lyn.minL_ok xs x
        rw [← hx] at m1 m2
        have hR := Lyn.least_R hne hc m1 m2
        obtain ⟨j, hj, ej⟩ := Lyn.turns_mem.mp m1
        refine k H2 _ s2 (.inr ⟨hR.ends, j, ?_⟩) ?_
        · rw [ej, Lyn.rot_rotg (by omega)]
        · rw [ej, Lyn.rotg_len]
          exact Nat.le_refl _
      · refine iteN (decide_eq_false (fun z => hc (by injection z with z; omega))) ?_
        exact k H2 [] s2 (.inl rfl) (Nat.zero_le _)
end
end T10

set_option Elab.async false
set_option linter.all false
set_option maxRecDepth 100000
set_option maxHeartbeats 4000000
namespace T10
open PySem PySem.Spec PyProof.Rows L2 EK
abbrev sLaw : Stmt := top 31
theorem cut_ints (ns : List Int) (lo hi : Option Int) : ∃ ms : List Int, cutV (ns.map V.int) lo hi = ms.map V.int ∧ ms.length ≤ ns.length := by
  have h := cutV_length (ns.map V.int) lo hi
  have e : ∃ ms : List Int, cutV (ns.map V.int) lo hi = ms.map V.int := by
    unfold cutV
    rw [← List.map_drop, ← List.map_take]
    exact ⟨_, rfl⟩
  obtain ⟨ms, e⟩ := e
  rw [e, List.length_map, List.length_map] at h
  exact ⟨ms, e, h⟩
theorem ints_at {ns : List Int} {i : Nat} {x : V} (h : (ns.map V.int)[i]? = some x) : ∃ n, ns[i]? = some n ∧ x = .int n := by
  rw [List.getElem?_map] at h
  obtain ⟨n, hn, e⟩ := Option.map_eq_some_iff.mp h
  exact ⟨n, hn, e.symm⟩
def spLaw (K : PySem.W.Frag) : Sp := fun vs H Q _ => ∃ (a : Addr) (ns : List Int), vs = [.ref a] ∧ SqL K H a (ns.map V.int) ∧ ns.length ≤ 63 ∧ ∀ H', Q (.bl true) H'
def tTryC (tb : WX → TS) (K : PySem.W.Frag) (Wout : WX) (l : List Cl) : TS := fun D σ H => tb (wCl K Wout D l) D σ H
theorem ps_tryD {X : Cx} {body : List Stmt} {hd0 : ExceptHandler} {hds : List ExceptHandler} {l : List Cl} {pos : Pos} {tb : WX → TS} {Wout : WX} (hs : X.stack = X.env :: X.outer) (hf : X.env.frame = some X.env.locals) (hN : X.N.Nodup) (tk : Takes X Wout)
    (hb : ∀ (W : WX) (pn : List (Addr × Obj)) (xe : Value → Shared → Prop), Takes (X.tr pn xe) W → PassesOwn (model X.prog X.w) X.A X.env xe → PSs (X.tr pn xe) body (tb W))
    (hh : ClOk X (hd0 :: hds) l) : PS X (.Try body (hd0 :: hds) [] [] pos) (tTryC tb X.K Wout l) := ps_tryC hs hf hN tk hb hh
theorem op_neSK {X : Cx} {K : PySem.W.Frag} (hu : X.A.units + 64 < cLine) (h : X.K = K := by rfl) : OpR X (compareOp .NotEq) (fun x y H Q => SmT K H x y ∧ Q (.bl false) H) := by subst h; exact op_neS hu
theorem sm_strs {K : PySem.W.Frag} {H : Hp} (ws : List (List Nat)) : ∀ (i : Nat) (x y : V), (wsV ws)[i]? = some x → (wsV ws)[i]? = some y → Sm K H 60 x y := fun i x y h1 h2 => by
  rw [h1] at h2
  cases h2
  unfold wsV at h1
  rw [List.getElem?_map] at h1
  obtain ⟨z, _, rfl⟩ := Option.map_eq_some_iff.mp h1
  exact .rf _ fun b z => by cases z
theorem isT_of {t : List Nat} (h : ∀ c ∈ t, c = 97 ∨ c = 98 ∨ c = 122) : isT (strL t) = true := by
  unfold isT
  rw [strL_list, List.all_eq_true]
  intro c hc
  rcases h c hc with rfl | rfl | rfl <;> decide +kernel
theorem abz_mem {k : Nat} {c : Nat} (h : c ∈ [97, 98, 122].take k) : c = 97 ∨ c = 98 ∨ c = 122 := by
  have := List.mem_of_mem_take h
  simpa using this
theorem rising_pair : ∀ (l : List Str) (p : Str), PyProof.Rows.risingS p l = true → (p :: l).Pairwise fun a b => ¬ b.cps.toList < a.cps.toList
  | [], p, _ => List.pairwise_singleton _ _
  | x :: r, p, h => by
    have h : (!ltCps x.cps.toList p.cps.toList && PyProof.Rows.risingS x r) = true := h
    rw [Bool.and_eq_true, Bool.not_eq_true', PyProof.Rows.ltCps_eq, decide_eq_false_iff_not] at h
    have ih := rising_pair r x h.2
    refine List.Pairwise.cons (fun y hy => ?_) ih
    rcases List.mem_cons.mp hy with rfl | hy
    · exact h.1
    · cases ih with
      | cons h1 h2 =>
        have := h1 y hy
        intro hlt
        rcases Lyn.trich x.cps.toList y.cps.toList with z | z | z
        · exact h.1 (List.lt_trans z hlt)
        · rw [z] at h
          exact h.1 hlt
        · exact this z
theorem sorted_pair {l : List Str} (h : PyProof.Rows.sortedS l = true) : l.Pairwise fun a b => ¬ b.cps.toList < a.cps.toList := by
  cases l with
  | nil => exact List.Pairwise.nil
  | cons x r => exact rising_pair r x h
theorem strs_lists (ys : List Str) : ys = (ys.map fun y => y.cps.toList).map strL := by
  rw [List.map_map]
  exact (List.map_id' ys).symm.trans (List.map_congr_left fun y _ => strL_of y)
/-- a word that least_turn may tell -/
def Good (m : List Nat) : Prop := (m = [] ∨ Lyn.L m) ∧ m.length ≤ 7 ∧ ∀ c ∈ m, c = 97 ∨ c = 98 ∨ c = 122
def PkW (H1 : Hp) (a D : Addr) (n : Int) (i : Nat) (H : Hp) : Prop := WellAt H a (n + (400 * i : Nat)) ∧ KeepB a H1 H ∧ ∃ ms : List (List Nat), H D = some (.lst (wsV ms)) ∧ ms.length = i ∧ ∀ m ∈ ms, Good m
theorem pkw_zero {H1 : Hp} {a D : Addr} {n : Int} (hw : WellAt H1 a n) (nD : H1 D = none) : PkW H1 a D n 0 (upd H1 D (.lst [])) := by
  have s : ∀ b o, H1 b = some o → upd H1 D (.lst []) b = some o := fun b o e => by rw [upd_ne (ne_of_none e nD)]; exact e
  exact ⟨(hw.keep (s a)).mono (by omega), .of s, [], upd_same, rfl, fun y hy => (by cases hy)⟩
theorem pkw_step {H1 H3 H4 : Hp} {a D : Addr} {n n0 : Int} {i : Nat} {m : List Nat} (nD : H1 D = none) (hw : WellAt H1 a n0) (p : PkW H1 a D n i H3) (hk : KeepB a H3 H4) (hu : WellAt H4 a (n + (400 * i : Nat) + 400)) (hi : i ≤ 1000) (hm : Good m) :
    ∃ acc, H4 D = some (.lst acc) ∧ acc.length < sizeLine ∧ PkW H1 a D n (i + 1) (upd H4 D (.lst (acc ++ [.str (strL m)]))) := by
  obtain ⟨_, k1, ms, hd, hl, hg⟩ := p
  have hDa : D ≠ a := fun e => by
    obtain ⟨_, _, _, e2, _⟩ := hw
    rw [e, e2] at nD
    cases nD
  have hz : sizeLine = 2 ^ 24 := sizeLine_eq
  refine ⟨_, hk _ _ hd hDa, by unfold wsV; rw [List.length_map]; omega, (hu.mono (by omega)).keep fun o e => by rw [upd_ne (Ne.symm hDa)]; exact e, fun b o e hb => ?_, ms ++ [m], by rw [upd_same]; unfold wsV; rw [List.map_append]; rfl, by rw [List.length_append, hl]; rfl, fun z hz => ?_⟩
  · rw [upd_ne (ne_of_none e nD)]
    exact hk _ _ (k1 _ _ e hb) hb
  · rcases List.mem_append.mp hz with h | h
    · exact hg z h
    · rw [List.mem_singleton.mp h]
      exact hm
/-- what is no text -/
def oddsV (q1 q2 q3 : Addr) : List V := [.non, .int 5, .str "A", .str "a$", .ref q1, .ref q2, .ref q3, .bl (decide (V.int 1 = V.int 1))]
theorem odd_ok {K : PySem.W.Frag} {H : Hp} {q1 q2 q3 : Addr} {x : V} (h1 : H q1 = some (.lst [.str "a"])) (h2 : H q2 = some (.tup [])) (h3 : H q3 = some (.dK [])) (h : x ∈ oddsV q1 q2 q3) : Pl H x ∧ badT isT x ∧ SmT K H x x := by
  unfold oddsV at h
  simp only [List.mem_cons, List.not_mem_nil, or_false] at h
  rcases h with rfl | rfl | rfl | rfl | rfl | rfl | rfl | rfl
  · exact ⟨.non, .inl rfl, .sc _ rfl⟩
  · exact ⟨.int _, .inl rfl, .sc _ rfl⟩
  · exact ⟨.str _, .inr ⟨_, rfl, by decide, by decide +kernel⟩, .sc _ (by decide +kernel)⟩
  · exact ⟨.str _, .inr ⟨_, rfl, by decide, by decide +kernel⟩, .sc _ (by decide +kernel)⟩
  · refine ⟨.lst h1, .inl rfl, .ls (.of h1) (.of h1) rfl fun i x y e1 e2 => ?_⟩
    rw [e1] at e2
    cases e2
    refine .rf _ fun b z => ?_
    subst z
    match i, e1 with
    | 0, e1 => cases e1
    | i + 1, e1 => simp at e1
  · refine ⟨.tup h2, .inl rfl, .tp (.of h2) (.of h2) rfl fun i x y e1 e2 => ?_⟩
    simp at e1
  · exact ⟨.dct h3, .inl rfl, .dk h3 h3 (by simp) (by simp)⟩
  · exact ⟨.bl _, .inl rfl, .sc _ (by decide +kernel)⟩
section
variable {P : Program} {w : World} {K : PySem.W.Frag} {mg : Str → Option Value} {base : Heap} {C iC : Addr}
theorem scLaw : FnScope ["_law_script", "_law_cell", "_law_well_here", "_law_letters", "_law_text_here", "_law_words", "_law_odd", "_law_way", "e", "_law_k", "_law_word"] ["_law_script"] (defScope sLaw) := ⟨rfl, rfl, rfl, by decide +kernel, rfl, by decide +kernel, by decide +kernel⟩
structure TxtL (K : PySem.W.Frag) (mg : Str → Option Value) : Prop where
  range : mg "range" = none
  tuple : mg "tuple" = none
  sorted : mg "sorted" = none
theorem ok_law {f fW fDR fO fT fPR fLT fF fFR : Addr} {fd fdW fdDR fdO fdT fdPR fdLT fdF fdFR : FuncData} (F : Fun K "law" "law" sLaw f fd) (T : TxtL K mg) (TX : ErrTxt P K mg "NoText" "text" C iC)
    (GW : FnOk P w K mg base CX0 1 fW fdW ["_law_cell"] spWell) (gW : mg "_law_well" = some (.ref fW)) (kW : PySem.W.keepIn K (.ref fW) = true) (bW : Binds K fdW ["_law_cell"] [])
    (GDR : FnOk P w K mg base CX0 1 fDR fdDR ["_law_well_here", "_law_many"] spDraw) (gDR : mg "_law_draw" = some (.ref fDR)) (kDR : PySem.W.keepIn K (.ref fDR) = true) (bDR : Binds K fdDR ["_law_well_here", "_law_many"] [])
    (GO : FnOk P w K mg base CX0 2 fO fdO ["_law_well_here", "_law_some"] spOne) (gO : mg "_law_one" = some (.ref fO)) (kO : PySem.W.keepIn K (.ref fO) = true) (bO : Binds K fdO ["_law_well_here", "_law_some"] [])
    (GT : FnOk P w K mg base CX0 2 fT fdT ["_law_well_here", "_law_most", "_law_letters"] spText) (gT : mg "_law_text" = some (.ref fT)) (kT : PySem.W.keepIn K (.ref fT) = true) (bT : Binds K fdT ["_law_well_here", "_law_most", "_law_letters"] [])
    (GPR : FnOk P w K mg base CX0 5 fPR fdPR ["_law_text_here"] spPR) (gPR : mg "_law_parts_right" = some (.ref fPR)) (kPR : PySem.W.keepIn K (.ref fPR) = true) (bPR : Binds K fdPR ["_law_text_here"] [])
    (GLT : FnOk P w K mg base CX0 1 fLT fdLT ["_law_word"] spLT) (gLT : mg "_law_least_turn" = some (.ref fLT)) (kLT : PySem.W.keepIn K (.ref fLT) = true) (bLT : Binds K fdLT ["_law_word"] [])
    (GF : FnOk P w K mg base (L2.CX P w) 4 fF fdF ["text"] (spFall C)) (gF : mg "falling" = some (.ref fF)) (kF : PySem.W.keepIn K (.ref fF) = true) (bF : Binds K fdF ["text"] [])
    (GFR : FnOk P w K mg base (L2.CX P w) 4 fFR fdFR ["text"] (spFallR C)) (gFR : mg "falling_row" = some (.ref fFR)) (kFR : PySem.W.keepIn K (.ref fFR) = true) (bFR : Binds K fdFR ["text"] []) :
    FnOk P w K mg base CX0 6 f fd ["_law_script"] (spLaw K) := by
  refine F.ok scLaw (fun vs H Q E h => ?_) (fun cdv A outer s H vs Q E hr h => ?_)
  · obtain ⟨a, ns, rfl, _⟩ := h
    rfl
  · obtain ⟨a, ns, rfl, hS, hlen, k⟩ := h
    have nd := scLaw.nd
    have hz : sizeLine = 2 ^ 24 := sizeLine_eq
    have hrPR : Room 5 _ := hr
    have hrF : Room 4 _ := hr.mono (by decide)
    have hrO : Room 2 _ := hr.mono (by decide)
    have hrT : Room 2 _ := hr.mono (by decide)
    have hrW : Room 1 _ := hr.mono (by decide)
    have hrDR : Room 1 _ := hr.mono (by decide)
    have hrLT : Room 1 _ := hr.mono (by decide)
    have hu : (A.deeper (PyProof.Rows.envOfC "law" (defScope sLaw) s.heap.objs.size f cdv)).units + 64 < cLine := hr.units
    refine ⟨_, (pss_cons (ps_if (PW.pt (pw_or (pt_cmpR (op_neS hu) (pe_call GF hrF rfl gF kF bF .nil passL (pa_cons pe_str pa_nil)) (pe_tup pa_nil) (nomark _)) (pw_or (pt_cmpR (op_neS hu) (pe_call GF hrF rfl gF kF bF .nil passL (pa_cons pe_str pa_nil)) (pe_tup (pa_cons pe_str (pa_cons pe_str (pa_cons pe_str pa_nil)))) (nomark _)) (pw_or1 (pt_cmpR (op_neS hu) (pe_call GF hrF rfl gF kF bF .nil passL (pa_cons pe_str pa_nil)) (pe_tup (pa_cons pe_str (pa_cons pe_str (pa_cons pe_str pa_nil)))) (nomark _)))))) (pss_one (ps_ret pe_bl)) pss_nil)
      (pss_cons (ps_for PassesOwn.never rfl (pi_list (pe_op op_cat (pe_slice sl_list (pv 0) po_none (po_some pe_int)) (pe_lst (pa_cons pe_int pa_nil)))) (pg_name (i := 1) nd rfl (Or.inl rfl)) (pss_cons (ps_set (i := 2) nd rfl (Or.inr rfl) (pe_call GW hrW rfl gW kW bW .nil pass0 (pa_cons (pv 1) pa_nil)))
      (pss_cons (ps_set (i := 3) nd rfl (Or.inr rfl) (pe_slice sl_str pe_str po_none (po_some (pe_op op_add pe_int (pe_call GDR hrDR rfl gDR kDR bDR .nil pass0 (pa_cons (pv 2) (pa_cons pe_int pa_nil)))))))
      (pss_cons (ps_set (i := 4) nd rfl (Or.inl rfl) (pe_call GT hrT rfl gT kT bT .nil pass0 (pa_cons (pv 2) (pa_cons pe_int (pa_cons (pv 3) pa_nil)))))
      (pss_cons (ps_if (pt_not (pt_val (pe_call GPR hrPR rfl gPR kPR bPR .nil pass0 (pa_cons (pv 4) pa_nil)))) (pss_one (ps_ret pe_bl)) pss_nil)
      (pss_cons (ps_if (PW.pt (pw_and (pt_cmpR op_eq (pe_call GDR hrDR rfl gDR kDR bDR .nil pass0 (pa_cons (pv 2) (pa_cons pe_int pa_nil))) pe_int (nomark _)) (pw_and1 (pt_not (pt_val (pe_call GPR hrPR rfl gPR kPR bPR .nil pass0 (pa_cons (pe_op op_mulS (pe_op op_add_str (pe_op op_add_str (pv 4) pe_str) (pe_slice sl_str (pv 4) po_none (po_some pe_int))) pe_int) pa_nil))))))) (pss_one (ps_ret pe_bl)) pss_nil)
      (pss_cons (ps_setLc (i := 5) (own := [("_law_k", 9)]) (g := gName 9) (tt := tYes) rfl nd rfl rfl (sw_true rfl rfl rfl (by decide +kernel)) (pi_range1 (by rfl) T.range (pa_cons (pe_call GDR hrDR rfl gDR kDR bDR .nil pass0 (pa_cons (pv 2) (pa_cons pe_int pa_nil))) pa_nil)) (blkOk_by (N := ["_law_script", "_law_cell", "_law_well_here", "_law_letters", "_law_text_here", "_law_words", "_law_odd", "_law_way", "e", "_law_k", "_law_word"]) (sc := defScope sLaw) (by decide +kernel)) (fun _ _ _ _ _ => (pg_name (i := 9) nd rfl (Or.inl rfl))) (fun _ _ _ _ _ => pts_nil) (fun _ _ _ _ _ => (pe_call GLT hrLT rfl gLT kLT bLT .nil pass0 (pa_cons (pe_op op_add_str pe_str (pe_call GT hrT rfl gT kT bT .nil pass0 (pa_cons (pv 2) (pa_cons pe_int (pa_cons (pv 3) pa_nil))))) pa_nil))))
      (pss_cons (ps_set (i := 5) nd rfl (Or.inl rfl) (pe_revL (pe_callB cr_sortedSA (by rfl) T.sorted (by decide +kernel) (pa_cons (pe_lc (own := [("_law_word", 10)]) (g := gName 10) rfl nd (pi_list (pv 5)) (blkOk_by (N := ["_law_script", "_law_cell", "_law_well_here", "_law_letters", "_law_text_here", "_law_words", "_law_odd", "_law_way", "e", "_law_k", "_law_word"]) (sc := defScope sLaw) (by decide +kernel)) (fun _ _ _ _ _ => (pg_name (i := 10) nd rfl (Or.inl rfl))) (fun _ _ _ _ _ => (pts_one (pt_cmpR op_ne (pv 10) pe_str (nomark _)))) (fun _ _ _ _ _ => (pv 10))) pa_nil))))
      (pss_cons (ps_if (pt_cmpR (op_neS hu) (pe_call GF hrF rfl gF kF bF .nil passL (pa_cons (pe_join pe_str (pv 5)) pa_nil)) (pe_callTy call_tuple_of (by rfl) T.tuple (by decide +kernel) (pa_cons (pv 5) pa_nil)) (nomark _)) (pss_one (ps_ret pe_bl)) pss_nil)
      (pss_cons (ps_set (i := 6) nd rfl (Or.inl rfl) (pe_call GO hrO rfl gO kO bO .nil pass0 (pa_cons (pv 2) (pa_cons (pe_lst (pa_cons pe_non (pa_cons pe_int (pa_cons pe_str (pa_cons pe_str (pa_cons (pe_lst (pa_cons pe_str pa_nil)) (pa_cons (pe_tup pa_nil) (pa_cons pe_dnewK (pa_cons (pe_cmpR op_eq pe_int pe_int (nomark _)) pa_nil))))))))) pa_nil))))
      (pss_one (ps_for PassesOwn.never rfl (pi_range1 (by rfl) T.range (pa_cons pe_int pa_nil)) (pg_name (i := 7) nd rfl (Or.inl rfl)) (pss_one (ps_tryD (l := [⟨.ref C, some 8, _⟩]) rfl rfl nd takes0 (fun W pn xe tk _ => (pss_cons (ps_if (pt_cmpR op_eq (pv 7) pe_int (nomark _)) (pss_one (ps_expr (pe_callS GF hrF rfl gF kF bF (fun σ => passAt tk σ) (pa_cons (pv 6) pa_nil)))) (pss_one (ps_expr (pe_callS GFR hrF rfl gFR kFR bFR (fun σ => passAt tk σ) (pa_cons (pv 6) pa_nil))))) (pss_one (ps_ret pe_bl)))) (ClOk.as rfl rfl ⟨rfl, by decide, .inl TX.gC⟩ (fun a oe cls d pn hz hf => (pss_one (ps_if (pt_cmpR (op_neSK (K := K) hu) (pe_xf TX.xf TX.noN hz hf (pv 8)) (pv 6) (nomark _)) (pss_one (ps_ret pe_bl)) pss_nil))) .nil)))))))))))))))
      (pss_one (ps_ret pe_bl)))), ?_⟩
    -- three known texts
    refine ⟨_, rfl, .str _, .inl ⟨[], [], rfl, rfl, by decide, ⟨fun w hw => absurd hw List.not_mem_nil, True.intro, rfl⟩, fun p1 G1 s1 z1 h1 => ?_⟩⟩
    refine ⟨(by show 0 ≤ sizeLine; omega), fun p2 z2 => ?_⟩
    obtain ⟨G2, g2, U2, B2⟩ := alloc (o := .tup []) z2
    rw [g2]
    refine ⟨.tp (.of (U2 _ _ h1)) (.of B2) rfl (sm_strs []), _, rfl, ?_⟩
    refine iteN rfl ?_
    refine ⟨_, rfl, .str _, .inl ⟨[97, 97, 97], [[97], [97], [97]], rfl, by decide +kernel, by decide, ⟨fun w hw => ?_, ⟨by decide, by decide, True.intro⟩, rfl⟩, fun p3 G3 s3 z3 h3 => ?_⟩⟩
    · simp only [List.mem_cons, List.not_mem_nil, or_false, or_self] at hw
      rw [hw]
      exact .one 97
    refine ⟨(by show 3 ≤ sizeLine; omega), fun p4 z4 => ?_⟩
    obtain ⟨G4, g4, U4, B4⟩ := alloc (o := .tup [.str "a", .str "a", .str "a"]) z4
    rw [g4]
    refine ⟨.tp (.of (U4 _ _ h3)) (.of (show G4 p4 = some (.tup (wsV [[97], [97], [97]])) from B4)) rfl (sm_strs [[97], [97], [97]]), _, rfl, ?_⟩
    refine iteN rfl ?_
    refine ⟨_, rfl, .str _, .inl ⟨[99, 98, 97], [[99], [98], [97]], rfl, by decide +kernel, by decide, ⟨fun w hw => ?_, ⟨by decide, by decide, True.intro⟩, rfl⟩, fun p5 G5 s5 z5 h5 => ?_⟩⟩
    · simp only [List.mem_cons, List.not_mem_nil, or_false] at hw
      rcases hw with rfl | rfl | rfl <;> exact .one _
    refine ⟨(by show 3 ≤ sizeLine; omega), fun p6 z6 => ?_⟩
    obtain ⟨G6, g6, U6, B6⟩ := alloc (o := .tup [.str "c", .str "b", .str "a"]) z6
    rw [g6]
    refine ⟨.tp (.of (U6 _ _ h5)) (.of (show G6 p6 = some (.tup (wsV [[99], [98], [97]])) from B6)) rfl (sm_strs [[99], [98], [97]]), _, rfl, ?_⟩
    refine iteN rfl ?_
    have hS6 : SqL K G6 a (ns.map V.int) := sqL_same (fun b o e => U6 _ _ (s5 _ _ (U4 _ _ (s3 _ _ (U2 _ _ (s1 _ _ e)))))) hS
    obtain ⟨ms, hms, hml⟩ := cut_ints ns none (some 10)
    refine ⟨_, rfl, _, rfl, a, _, rfl, hS6, fun p0 z0 => ?_⟩
    rw [hms]
    obtain ⟨K1, e1, S1, A1⟩ := alloc (o := .lst (ms.map V.int)) z0
    rw [e1]
    refine ⟨(by show 1 ≤ sizeLine; decide), fun p1' z1' => ?_⟩
    obtain ⟨K2, e2, S2, A2⟩ := alloc (o := .lst [.int 0]) z1'
    rw [e2]
    refine ⟨p0, p1', _, _, rfl, rfl, S2 _ _ A1, A2, ?_, fun p2' z2' => ?_⟩
    · rw [List.length_map]
      exact Nat.le_trans (Nat.add_le_add_right (Nat.le_trans hml hlen) 1) (by show 64 ≤ sizeLine; decide)
    have em : ms.map V.int ++ [V.int 0] = (ms ++ [0]).map V.int := by rw [List.map_append]; rfl
    rw [em]
    obtain ⟨K3, e3, S3, A3⟩ := alloc (o := .lst ((ms ++ [0]).map V.int)) z2'
    rw [e3]
    refine ⟨p2', rfl, ⟨_, .of A3⟩, for_list (K := K) (a := p2') (xs := (ms ++ [0]).map V.int) (fun i σ H' => ∃ v1 v2 v3 v4 v5 v6 v7 v9 v10 : Option V, σ = [some (.ref a), v1, v2, v3, v4, v5, v6, v7, none, v9, v10] ∧ Same K3 H') ⟨none, none, none, none, none, none, none, none, none, rfl, .refl _⟩ (fun i σ H' _ ⟨_, _, _, _, _, _, _, _, _, _, s⟩ => .of (s _ _ A3)) ?_ ?_⟩
    · rintro i y σ H4 hi ⟨v1, v2, v3, v4, v5, v6, v7, v9, v10, rfl, s4⟩
      obtain ⟨z, _, rfl⟩ := ints_at hi
      refine ⟨_, rfl, z, rfl, fun wl H5 nwl hw sw => ?_⟩
      have newW : ∀ {b o}, H4 b = some o → b ≠ wl := fun e => ne_of_none e nwl
      refine ⟨_, rfl, wl, 3, 0, rfl, hw, by decide, by decide, by decide, fun d H6 h0 h6 hw6 kb6 => ?_⟩
      obtain ⟨dn, rfl⟩ : ∃ p : Nat, d = (p : Int) := ⟨d.toNat, by omega⟩
      have abzL : ("abz" : Str) = strL [97, 98, 122] := rfl
      refine ⟨_, _, rfl, rfl, _, rfl, _, rfl, (by show 3 ≤ sizeLine; omega), ?_⟩
      rw [abzL, show (1 : Int) + (dn : Int) = ((1 + dn : Nat) : Int) by omega, takeL]
      obtain ⟨L, hL⟩ : ∃ L, [97, 98, 122].take (1 + dn) = L := ⟨_, rfl⟩
      rw [hL]
      have hLm : ∀ c ∈ L, c = 97 ∨ c = 98 ∨ c = 122 := fun c hc => abz_mem (k := 1 + dn) (by rw [hL]; exact hc)
      have hLl : 0 < L.length ∧ L.length ≤ 3 := by
        rw [← hL, List.length_take]
        show 0 < min _ 3 ∧ min _ 3 ≤ 3
        omega
      refine ⟨_, rfl, _, rfl, wl, 0 + 1, 40, L, rfl, hw6, by decide, by decide, hLl.1, by omega, fun t H7 ht htm hw7 kb7 => ?_⟩
      have htT : ∀ c ∈ t, c = 97 ∨ c = 98 ∨ c = 122 := fun c hc => hLm c (htm c hc)
      refine ⟨_, rfl, t, rfl, isT_of htT, by omega, fun H8 s8 => ?_⟩
      refine ⟨_, rfl, ?_⟩
      refine iteN rfl ?_
      have hw8 := hw7.keep (s8 wl)
      have kb8 : KeepB wl H5 H8 := (kb6.trans kb7).trans (.of s8)
      refine ⟨_, rfl, wl, 4, _, rfl, hw8, by decide, by decide, by decide, fun d2 H9 h02 h92 hw9 kb9 => ?_⟩
      have kb59 : KeepB wl H5 H9 := kb8.trans kb9
      refine ⟨rfl, _, rfl, ?_⟩
      by_cases hd2 : d2 = 0
      refine iteY (decide_eq_true (by rw [hd2])) ?_
      have l1 : (strL t).length = t.length := strL_len t
      refine ⟨_, rfl, _, _, rfl, rfl, (by show _ + 1 ≤ _; omega), _, rfl, _, rfl, _, rfl, by omega, ?_⟩
      rw [show (some (3 : Int)) = some ((3 : Nat) : Int) from rfl, takeL, show ("b" : Str) = strL [98] from rfl, strL_add]
      refine ⟨_, _, rfl, rfl, (by rw [strL_len, strL_len, List.length_append, List.length_take]; show _ + 1 + _ ≤ _; omega), ?_⟩
      rw [strL_add]
      refine ⟨_, _, rfl, rfl, by decide, by decide, (by rw [strL_list, List.length_append, List.length_append, List.length_take]; show (t.length + 1 + _) * 6 ≤ _; omega), ?_⟩
      rw [repL]
      have hmem : ∀ c ∈ t ++ [98] ++ t.take 3, c = 97 ∨ c = 98 ∨ c = 122 := fun c hc => by
        rcases List.mem_append.mp hc with hc | hc
        · rcases List.mem_append.mp hc with hc | hc
          · exact htT c hc
          · rw [List.mem_singleton.mp hc]
            exact .inr (.inl rfl)
        · exact htT c (List.mem_of_mem_take hc)
      refine ⟨_, rfl, isT_of fun c hc => ?_, ?_, fun G sG => ?_⟩
      · obtain ⟨l, hl, hcl⟩ := List.mem_flatten.mp hc
        rw [(List.mem_replicate.mp hl).2] at hcl
        exact hmem c hcl
      · rw [List.length_flatten, List.map_replicate, List.sum_replicate_nat, List.length_append, List.length_append, List.length_take]
        show 6 * (t.length + 1 + _) ≤ _
        omega
      refine ⟨_, rfl, ?_⟩
      refine iteN rfl ?_
      have hwG := hw9.keep (sG wl)
      have kbG : KeepB wl H5 G := kb59.trans (.of sG)
      clear hmem l1
      rotate_left 1
      refine iteN (decide_eq_false (fun z => hd2 (by injection z))) ?_
      obtain ⟨G, sG, hwG, kbG⟩ : ∃ G, G = H9 ∧ WellAt G wl _ ∧ KeepB wl H5 G := ⟨H9, rfl, hw9, kb59⟩
      rw [← sG]
      clear sG
      all_goals
        refine ⟨_, rfl, wl, 6, _, rfl, hwG, by decide, by decide, by decide, fun d3 H10 h03 h103 hw10 kb10 => ?_⟩
        have kb510 : KeepB wl H5 H10 := kbG.trans kb10
        refine ⟨_, rfl, by omega, by omega, fun D nD => ?_⟩
        refine lc_range (lo := 0) (n := d3.toNat) (PkW H10 wl D 500) (pkw_zero (hw10.mono (by decide)) nD) ?_ ?_
        · rintro j H11 hj p11
          refine ⟨rfl, ?_⟩
          refine yes_i ?_
          refine iteY rfl ?_
          refine ⟨_, rfl, _, rfl, wl, _, 6, L, rfl, p11.1, by omega, by decide, hLl.1, by omega, fun t2 H12 ht2 htm2 hw12 kb12 => ?_⟩
          refine ⟨_, _, rfl, rfl, (by rw [strL_len]; show 1 + _ ≤ _; omega), ?_⟩
          rw [show ("a" : Str) = strL [97] from rfl, strL_add]
          refine ⟨_, rfl, by simp, (by rw [List.length_append]; show 1 + _ ≤ _; omega), fun H13 m s13 hm hml => ?_⟩
          have hword : ∀ c ∈ [97] ++ t2, c = 97 ∨ c = 98 ∨ c = 122 := fun c hc => by
            rcases List.mem_append.mp hc with hc | hc
            · rw [List.mem_singleton.mp hc]
              exact .inl rfl
            · exact hLm c (htm2 c hc)
          refine pkw_step nD hw10 p11 (kb12.trans (.of s13)) ((hw12.keep (s13 wl)).mono (by omega)) (by omega) ⟨?_, ?_, ?_⟩
          · rcases hm with e | ⟨e, _⟩
            · exact .inl e
            · exact .inr e
          · rw [List.length_append] at hml
            have : ([97] : List Nat).length = 1 := rfl
            omega
          · intro c hc
            rcases hm with e | ⟨_, k0, e⟩
            · rw [e] at hc
              cases hc
            · rw [e] at hc
              unfold Lyn.rot at hc
              rcases List.mem_append.mp hc with hc | hc
              · exact hword c (List.mem_of_mem_drop hc)
              · exact hword c (List.mem_of_mem_take hc)
        · rintro H11 ⟨hw11, kb11, wms, hD, hDl, hDg⟩
          refine ⟨_, rfl, D, rfl, ⟨_, .of hD⟩, fun D2 nD2 => ?_⟩
          refine lcM_list (K := K) (a := D) (xs := wsV wms) (zs := wms) (R := fun _ x z => x = V.str (strL z)) (R' := fun _ x z => x = V.str (strL z)) (fun z => !decide (z = [])) id nD2 (.of hD) (All2.of_map wms) (fun _ _ _ _ _ r => r) (fun _ _ _ _ _ r => r) (by omega) ?_ ?_
          · intro j x z2 G1 C1 C0 hz' s rx yes no
            have rx : x = V.str (strL z2) := rx
            subst rx
            refine ⟨rfl, _, rfl, rfl, _, rfl, ?_⟩
            have e0 : decide (V.str (strL z2) = V.str "") = decide (z2 = []) := strL_dec z2 []
            rw [e0]
            by_cases hne : z2 = []
            · refine iteN (by rw [decide_eq_true hne]; rfl) ?_
              exact no (by rw [decide_eq_true hne]; rfl) _ fun _ _ q => q
            · refine iteY (by rw [decide_eq_false hne]; rfl) ?_
              refine ⟨_, rfl, ?_⟩
              exact yes (by rw [decide_eq_false hne]; rfl) _ _ (fun _ _ q => q) rfl
          · intro ys H12 s12 hD2 hall
            rw [List.map_id] at hall
            have ey := hall.eq_map
            obtain ⟨fl, hfl⟩ : ∃ fl, wms.filter (fun z => !decide (z = [])) = fl := ⟨_, rfl⟩
            rw [hfl] at ey
            have flg : ∀ m ∈ fl, Lyn.L m ∧ m.length ≤ 7 ∧ ∀ c ∈ m, c = 97 ∨ c = 98 ∨ c = 122 := fun m hm => by
              rw [← hfl] at hm
              obtain ⟨h1, h2⟩ := List.mem_filter.mp hm
              obtain ⟨g1, g2, g3⟩ := hDg m h1
              refine ⟨?_, g2, g3⟩
              rcases g1 with e | e
              · rw [e] at h2
                cases h2
              · exact e
            have fll : fl.length ≤ 6 := by
              rw [← hfl]
              have := List.length_filter_le (fun z => !decide (z = [])) wms
              omega
            have ey2 : ys = (fl.map strL).map V.str := by rw [ey, List.map_map]; rfl
            rw [ey2] at hD2
            refine ⟨D2, fl.map strL, rfl, .of hD2, fun os p7 perm srt z7 => ?_⟩
            obtain ⟨J1, j1, T1, C1⟩ := alloc (o := .lst (os.map V.str)) z7
            rw [j1]
            obtain ⟨ol, hol⟩ : ∃ ol, os.map (fun y => y.cps.toList) = ol := ⟨_, rfl⟩
            have eo : os = ol.map strL := by rw [← hol]; exact strs_lists os
            have operm : ol.Perm fl := by
              have := perm.map fun y : Str => y.cps.toList
              rw [hol, List.map_map] at this
              rwa [show fl.map ((fun y : Str => y.cps.toList) ∘ strL) = fl from (List.map_congr_left fun y _ => strL_list y).trans (List.map_id' fl)] at this
            have opair : ol.Pairwise fun a b => ¬ b < a := by
              have := sorted_pair srt
              rw [← hol, List.pairwise_map]
              exact this
            refine ⟨p7, _, rfl, .of C1, fun p8 z8 => ?_⟩
            have erev : (os.map V.str).reverse = wsV ol.reverse := by
              rw [eo, ← List.map_reverse, ← List.map_reverse, List.map_map]
              rfl
            rw [erev]
            obtain ⟨J2, j2, T2, C2⟩ := alloc (o := .lst (wsV ol.reverse)) z8
            rw [j2]
            have orl : ol.reverse.length ≤ 6 := by rw [List.length_reverse, operm.length_eq]; exact fll
            have org : ∀ m ∈ ol.reverse, Lyn.L m ∧ m.length ≤ 7 ∧ ∀ c ∈ m, c = 97 ∨ c = 98 ∨ c = 122 := fun m hm => flg m (operm.mem_iff.mp (List.mem_reverse.mp hm))
            have och : Lyn.Ch ol.reverse := Lyn.ch_of (List.pairwise_reverse.mpr opair)
            generalize ol.reverse = rl at *
            have flen : rl.flatten.length ≤ 42 := by
              have : ∀ (l : List (List Nat)), (∀ m ∈ l, m.length ≤ 7) → l.flatten.length ≤ l.length * 7 := fun l => by
                induction l with
                | nil => intro _; simp
                | cons x l ih =>
                  intro h
                  have := ih fun m hm => h m (List.mem_cons_of_mem _ hm)
                  have := h x List.mem_cons_self
                  rw [List.flatten_cons, List.length_append, List.length_cons]
                  omega
              have := this rl fun m hm => (org m hm).2.1
              omega
            have C2' : J2 p8 = some (.lst ((rl.map strL).map V.str)) := by rw [C2]; unfold wsV; rw [List.map_map]; rfl
            refine ⟨⟨_, rfl⟩, _, rfl, "", p8, rl.map strL, rfl, rfl, .inl (.of C2'), ?_, ?_⟩
            · rw [sum_lenV, List.length_map]
              show rl.flatten.length + _ * 0 ≤ _
              omega
            rw [joinV]
            refine ⟨_, rfl, .str _, .inl ⟨rl.flatten, rl, rfl, isT_of fun c hc => ?_, by omega, ⟨fun m hm => (org m hm).1, och, rfl⟩, fun p9 J3 t3 z9 h9 => ?_⟩⟩
            · obtain ⟨m, hm, hcm⟩ := List.mem_flatten.mp hc
              exact (org m hm).2.2 c hcm
            refine ⟨_, rfl, p8, _, rfl, .inl ⟨.of (t3 _ _ C2), fun p10 z10 => ?_⟩⟩
            obtain ⟨J4, j4, T4, C4⟩ := alloc (o := .tup (wsV rl)) z10
            rw [j4]
            refine ⟨.tp (.of (T4 _ _ h9)) (.of C4) rfl (sm_strs rl), _, rfl, ?_⟩
            refine iteN rfl ?_
            have toJ4 : ∀ b o, H11 b = some o → J4 b = some o := fun b o e => T4 _ _ (t3 _ _ (T2 _ _ (T1 _ _ (s12 _ _ e))))
            have hwJ := hw11.keep (toJ4 wl)
            have kbJ : KeepB wl H5 J4 := (kb510.trans kb11).trans (.of toJ4)
            -- what is no text
            refine ⟨_, rfl, (by show 1 ≤ sizeLine; decide), fun q1 y1 => ?_⟩
            obtain ⟨M1, m1, V1, D1⟩ := alloc (o := .lst [.str "a"]) y1
            rw [m1]
            refine ⟨(by show 0 ≤ sizeLine; decide), fun q2 y2 => ?_⟩
            obtain ⟨M2, m2, V2, D2'⟩ := alloc (o := .tup []) y2
            rw [m2]
            intro q3 y3
            obtain ⟨M3, m3, V3, D3⟩ := alloc (o := .dK []) y3
            rw [m3]
            refine ⟨rfl, (by show 8 ≤ sizeLine; decide), fun q5 y5 => ?_⟩
            obtain ⟨M5, m5, V5, D5⟩ := alloc (o := .lst (oddsV q1 q2 q3)) y5
            have m5' : upd M3 q5 (.lst [.non, .int 5, .str "A", .str "a$", .ref q1, .ref q2, .ref q3, .bl (decide (V.int 1 = V.int 1))]) = M5 := m5
            rw [m5']
            have toM5 : ∀ b o, J4 b = some o → M5 b = some o := fun b o e => V5 _ _ (V3 _ _ (V2 _ _ (V1 _ _ e)))
            have hwM := hwJ.keep (toM5 wl)
            have q5w : q5 ≠ wl := fun e => by
              obtain ⟨_, _, _, e2, _⟩ := hwJ
              rw [e, V3 _ _ (V2 _ _ (V1 _ _ e2))] at y5
              cases y5
            have qw : ∀ {q : Addr} {G : Hp}, (∀ o, J4 wl = some o → G wl = some o) → G q = none → q ≠ wl := fun {q G} h e z => by
              obtain ⟨_, _, _, e2, _⟩ := hwJ
              rw [z, h _ e2] at e
              cases e
            have q1w : q1 ≠ wl := qw (fun o e => e) y1
            have q2w : q2 ≠ wl := qw (fun o e => V1 _ _ e) y2
            have q3w : q3 ≠ wl := qw (fun o e => V2 _ _ (V1 _ _ e)) y3
            refine ⟨wl, q5, _, _, rfl, hwM, by omega, D5, q5w, (by show 0 < 8; decide), (by show 8 ≤ 1000; decide), fun x H14 hx hw14 kb14 => ?_⟩
            have o1 : H14 q1 = some (.lst [.str "a"]) := kb14 _ _ (V5 _ _ (V3 _ _ (V2 _ _ D1))) q1w
            have o2 : H14 q2 = some (.tup []) := kb14 _ _ (V5 _ _ (V3 _ _ D2')) q2w
            have o3 : H14 q3 = some (.dK []) := kb14 _ _ (V5 _ _ D3) q3w
            have kbE : KeepB wl H5 H14 := (kbJ.trans (.of toM5)).trans kb14
            have s14 : Same K3 H14 := fun b o e => kbE _ _ (sw _ _ (s4 _ _ e)) (newW (s4 _ _ e))
            refine ⟨_, rfl, by decide, by decide, for_range (lo := 0) (n := 2) (fun i σ H' => ∃ v7 v9 v10 : Option V, σ = [some (.ref a), some (.int z), some (.ref wl), some (.str (strL L)), some (.str (strL t)), some (.ref p8), some x, v7, none, v9, v10] ∧ Same H14 H') ⟨v7, v9, v10, rfl, .refl _⟩ ?_ ?_⟩
            · rintro j σ H15 hj ⟨u7, u9, u10, rfl, s15⟩
              obtain ⟨hpl, hbad, hsm⟩ := odd_ok (K := K) (s15 _ _ o1) (s15 _ _ o2) (s15 _ _ o3) hx
              refine ⟨_, rfl, rfl, _, rfl, ?_⟩
              by_cases hj0 : j = 0
              refine iteY (decide_eq_true (by rw [hj0]; rfl)) ?_
              refine ⟨_, rfl, x, rfl, hpl, .inr ⟨hbad, fun H16 dd s16 hd => ⟨true, TX.te, fun _ ae hae hl => ?_, fun z => by cases z⟩⟩⟩
              rotate_left 1
              refine iteN (decide_eq_false (fun z => hj0 (by injection z with z; omega))) ?_
              refine ⟨_, rfl, x, rfl, hpl, hbad, fun H16 dd s16 hd => ⟨true, TX.te, fun _ ae hae hl => ?_, fun z => by cases z⟩⟩
              all_goals
                have sU : Same H15 (upd H16 dd (.xd [("text", x)])) := fun b o e => by
                  rw [upd_ne (ne_of_none (s16 _ _ e) hd)]
                  exact s16 _ _ e
                obtain ⟨_, _, hsm'⟩ := odd_ok (K := K) (sU _ _ (s15 _ _ o1)) (sU _ _ (s15 _ _ o2)) (sU _ _ (s15 _ _ o3)) hx
                refine ⟨_, rfl, rfl, rfl, dd, _, x, rfl, upd_same, look1 _ _, ?_⟩
                refine ⟨_, rfl, hsm', _, rfl, ?_⟩
                refine iteN rfl ?_
                exact ⟨_, _, _, rfl, s15.trans sU⟩
            · rintro σ H15 ⟨u7, u9, u10, rfl, s15⟩
              exact ⟨_, _, _, _, _, _, _, _, _, rfl, s14.trans s15⟩
    · rintro σ H9 ⟨v1, v2, v3, v4, v5, v6, v7, v9, v10, rfl, s4⟩
      exact k _
end
end T10

set_option Elab.async false
set_option linter.all false
set_option maxRecDepth 100000
set_option maxHeartbeats 4000000
/-! ErrEnd: an error class's facts, from what the top has written. -/
namespace EK
open PySem PySem.W L2
def errB (K : Frag) (C fI : Addr) (f : Str) : Bool :=
  xfB K C && (decide (findIn K (.ref C) "__setattr__" = some (some (.builtin "object.__setattr__"))) && (decide (findIn K (.ref C) f = some none) && (decide (typeIn K (.ref fI) = some (.type "function")) && (keepIn K (.ref C) &&
  (decide (typeIn K (.ref C) = some (.type "type")) && (decide (exmOne K (.ref C) (.ref C) = some true) && (decide (subIn K (.ref C) (.type "ValueError") = some true) && (decide (ks_superIn K C C "__init__" = some (some (.builtin "ValueError.__init__"))) &&
  (decide (mroIn K C (.ref C) = some true) && (decide (findIn K (.ref C) "__class__" = some (some (.builtin "object.__class__"))) && decide (mroIn K C (.type "object") = some true)))))))))))
theorem and2 {a b : Bool} (h : (a && b) = true) : a = true ∧ b = true := Bool.and_eq_true_iff.mp h
theorem err_mk {P : Program} {K : Frag} {h : Heap} {mg : Str → Option Value} {x f : Str} {C fI N cda cc : Addr} (X : K.In h) (G : h.Ns mainGlobals mg)
    {nm q qn msg file : Str} {bs bm : List Value} {sn : List Str} {sub : List Value} {ab : Bool} {col : Option Bool} {dd od an cdd cld : Option Addr} {m0 m1 m2 m3 m5 : Option Value} {oc doc pm ct ccl cl : Value} {osl ccs csl : Array (Option Value)} {vs : Array Value} {tf : Tok}
    {p1 p2 a1 a2 a3 a4 a5 a6 b1 b2 b3 b4 : Pos}
    (aC : nsIn K mainGlobals x = some (some (.ref C))) (xL : K.lookup C = some (excClassObj nm q C N bs bm true sn sub ab col dd m0 m1 m2 m3 m5 "ValueError.__new__")) (rv : HandSPX.refsVE bm = true)
    (iC : findIn K (.ref C) "__init__" = some (some (.ref fI)))
    (l1 : K.lookup fI = some ⟨oc, od, .func (ksFn "__init__" qn (eArgs f p1 p2) (eBody f msg a1 a2 a3 a4 a5 a6 b1 b2 b3 b4) (eScope f) .none .none doc pm an (.ref cda) ct cc), osl⟩) (c1 : codeIn K (.ref cda) qn = true)
    (bd : ∀ u v : Value, bindArgs (ksFn "__init__" qn (eArgs f p1 p2) (eBody f msg a1 a2 a3 a4 a5 a6 b1 b2 b3 b4) (eScope f) .none .none doc pm an (.ref cda) ct cc) ⟨[u, v], []⟩ = pure [(("self" : Str), u), (f, v)])
    (sc : ∀ L : Addr, SupCall a1 a2 a3 a4 a5 msg (callEnv (ksFn "__init__" qn (eArgs f p1 p2) (eBody f msg a1 a2 a3 a4 a5 a6 b1 b2 b3 b4) (eScope f) .none .none doc pm an (.ref cda) ct cc) L fI))
    (cd : K.lookup cda = some ⟨ccl, cdd, .fields vs, ccs⟩) (vf : vs[2]? = some (.str file tf)) (pf : ((P.main.file : Str) == file) = true) (cL : K.lookup cc = some ⟨cl, cld, .cell (some (.ref C)), csl⟩)
    (eB : errB K C fI f = true) (ho : nsIn K cStatics "thirdparty.any" = some none) (su : nsIn K mainGlobals "super" = some none) (fok : f ≠ "self" ∧ f ≠ "__class__" ∧ f ≠ "super" ∧ f ≠ "__debug__") (top : (P.main.scope.names.lookup ("super" : Str)).isSome = false) :
    ErrTxt P K mg x f C fI := by
  obtain ⟨h1, eB⟩ := and2 eB
  obtain ⟨h2, eB⟩ := and2 eB
  obtain ⟨h3, eB⟩ := and2 eB
  obtain ⟨h4, eB⟩ := and2 eB
  obtain ⟨h5, eB⟩ := and2 eB
  obtain ⟨h6, eB⟩ := and2 eB
  obtain ⟨h7, eB⟩ := and2 eB
  obtain ⟨h8, eB⟩ := and2 eB
  obtain ⟨h9, eB⟩ := and2 eB
  obtain ⟨h10, eB⟩ := and2 eB
  have T := xfB_ok h1
  exact { gC := mg_of X G aC, cls := ⟨nm, q, N, bs, bm, sn, sub, ab, col, dd, m0, m1, m2, m3, m5, xL, rv⟩, sa := of_decide_eq_true h2, ga := T.ga, gg := T.gg, noN := of_decide_eq_true h3, iC := iC, tC := of_decide_eq_true h4, kC := h5, exC := T.exC,
          tyC := of_decide_eq_true h6, hdC := T.hdC, te := of_decide_eq_true h7, hB := of_decide_eq_true h8, si := of_decide_eq_true h9, ho := ho, su := mg_none_of X G su, mC := of_decide_eq_true h10, fok := fok, top := top,
          fn := ⟨oc, od, qn, msg, doc, pm, an, cda, cc, ct, osl, p1, p2, a1, a2, a3, a4, a5, a6, b1, b2, b3, b4, l1, c1, bd, sc, ⟨ccl, cdd, ccs, vs, file, tf, cd, vf, pf⟩, ⟨cl, cld, csl, cL⟩⟩ }
theorem excC_of {K : Frag} {C fI : Addr} {f : Str} (eB : errB K C fI f = true) (hn : specialIn K (.builtin "object.__class__") "__get__" = some (some (.builtin "getset_descriptor.__get__"))) (ht : takesIn K (.builtin "object.__class__") = some true) : ExcC K C := by
  obtain ⟨h1, eB⟩ := and2 eB
  obtain ⟨h2, eB⟩ := and2 eB
  obtain ⟨h3, eB⟩ := and2 eB
  obtain ⟨h4, eB⟩ := and2 eB
  obtain ⟨h5, eB⟩ := and2 eB
  obtain ⟨h6, eB⟩ := and2 eB
  obtain ⟨h7, eB⟩ := and2 eB
  obtain ⟨h8, eB⟩ := and2 eB
  obtain ⟨h9, eB⟩ := and2 eB
  obtain ⟨h10, eB⟩ := and2 eB
  obtain ⟨h11, h12⟩ := and2 eB
  have T := xfB_ok h1
  exact ⟨T.ga, T.gg, T.exC, T.hdC, of_decide_eq_true h11, hn, ht, of_decide_eq_true h12⟩
/-- which class is which, told apart -/
def kindsB (K : Frag) (E : Addr) (Cs : List Addr) : Bool :=
  (Cs.zipIdx.all fun p => Cs.zipIdx.all fun q => decide (kitOne K (.ref p.1) (.ref q.1) = some (decide (p.2 = q.2)))) && (Cs.all fun C => decide (kitOne K (.ref C) (.ref E) = some true) && decide (kitOne K (.ref C) (.type "ValueError") = some true))
theorem kinds_kt {K : Frag} {E : Addr} {Cs : List Addr} (h : kindsB K E Cs = true) (i j : Nat) (C D : Addr) (h1 : Cs[i]? = some C) (h2 : Cs[j]? = some D) : kitOne K (.ref C) (.ref D) = some (decide (i = j)) := by
  obtain ⟨h, _⟩ := and2 h
  have q := List.all_eq_true.mp h (C, i) (List.mk_mem_zipIdx_iff_getElem?.mpr h1)
  have q := List.all_eq_true.mp q (D, j) (List.mk_mem_zipIdx_iff_getElem?.mpr h2)
  exact of_decide_eq_true q
theorem kinds_ke {K : Frag} {E : Addr} {Cs : List Addr} (h : kindsB K E Cs = true) (C : Addr) (hC : C ∈ Cs) : kitOne K (.ref C) (.ref E) = some true ∧ kitOne K (.ref C) (.type "ValueError") = some true := by
  obtain ⟨_, h⟩ := and2 h
  obtain ⟨a, b⟩ := and2 (List.all_eq_true.mp h C hC)
  exact ⟨of_decide_eq_true a, of_decide_eq_true b⟩
end EK

set_option Elab.async false
set_option linter.all false
set_option maxRecDepth 100000
set_option maxHeartbeats 4000000
namespace T10
open PySem L2 EK
theorem all_mk {l : PySem.W.OpenLaw} {w : World} {K : PySem.W.Frag} {h : Heap} {mg : Str → Option Value} {fa C1 i1 : Addr} {t1 : Tok} (X : K.In h) (G : h.Ns mainGlobals mg) (hfa : mg "law" = some (.ref fa))
    {fX : Addr} {odX anX : Option Addr} {slX : Array (Option Value)} {ocX kVX dcX pmX cdX ctX : Value}
    {fCT : Addr} {odCT anCT : Option Addr} {slCT : Array (Option Value)} {ocCT kVCT dcCT pmCT cdCT ctCT : Value}
    {fF : Addr} {odF anF : Option Addr} {slF : Array (Option Value)} {ocF kVF dcF pmF cdF ctF : Value}
    {fFR : Addr} {odFR anFR : Option Addr} {slFR : Array (Option Value)} {ocFR kVFR dcFR pmFR cdFR ctFR : Value}
    {fB : Addr} {odB anB : Option Addr} {slB : Array (Option Value)} {ocB kVB dcB pmB cdB ctB : Value}
    {fW : Addr} {odW anW : Option Addr} {slW : Array (Option Value)} {ocW kVW dcW pmW cdW ctW : Value}
    {fDR : Addr} {odDR anDR : Option Addr} {slDR : Array (Option Value)} {ocDR kVDR dcDR pmDR cdDR ctDR : Value}
    {fO : Addr} {odO anO : Option Addr} {slO : Array (Option Value)} {ocO kVO dcO pmO cdO ctO : Value}
    {fT : Addr} {odT anT : Option Addr} {slT : Array (Option Value)} {ocT kVT dcT pmT cdT ctT : Value}
    {fIL : Addr} {odIL anIL : Option Addr} {slIL : Array (Option Value)} {ocIL kVIL dcIL pmIL cdIL ctIL : Value}
    {fPR : Addr} {odPR anPR : Option Addr} {slPR : Array (Option Value)} {ocPR kVPR dcPR pmPR cdPR ctPR : Value}
    {fLT : Addr} {odLT anLT : Option Addr} {slLT : Array (Option Value)} {ocLT kVLT dcLT pmLT cdLT ctLT : Value}
    {fZ : Addr} {odZ anZ : Option Addr} {slZ : Array (Option Value)} {ocZ kVZ dcZ pmZ cdZ ctZ : Value}
    (T1 : ErrTxt l.prog K mg "NoText" "text" C1 i1) 
    (aX : PySem.W.nsIn K mainGlobals "is_text" = some (some (.ref fX))) (lX : K.lookup fX = some ⟨ocX, odX, .func (PySem.W.fnOf "is_text" "is_text" (defArgs sIsText) (defBody sIsText) (defScope sIsText) .none kVX dcX pmX anX cdX ctX), slX⟩) (cX : PySem.W.codeIn K cdX "is_text" = true) (kX : PySem.W.keepIn K (.ref fX) = true)
    (aCT : PySem.W.nsIn K mainGlobals "check_text" = some (some (.ref fCT))) (lCT : K.lookup fCT = some ⟨ocCT, odCT, .func (PySem.W.fnOf "check_text" "check_text" (defArgs sCkText) (defBody sCkText) (defScope sCkText) .none kVCT dcCT pmCT anCT cdCT ctCT), slCT⟩) (cCT : PySem.W.codeIn K cdCT "check_text" = true) (kCT : PySem.W.keepIn K (.ref fCT) = true)
    (aF : PySem.W.nsIn K mainGlobals "falling" = some (some (.ref fF))) (lF : K.lookup fF = some ⟨ocF, odF, .func (PySem.W.fnOf "falling" "falling" (defArgs sFall) (defBody sFall) (defScope sFall) .none kVF dcF pmF anF cdF ctF), slF⟩) (cF : PySem.W.codeIn K cdF "falling" = true) (kF : PySem.W.keepIn K (.ref fF) = true)
    (aFR : PySem.W.nsIn K mainGlobals "falling_row" = some (some (.ref fFR))) (lFR : K.lookup fFR = some ⟨ocFR, odFR, .func (PySem.W.fnOf "falling_row" "falling_row" (defArgs sFallR) (defBody sFallR) (defScope sFallR) .none kVFR dcFR pmFR anFR cdFR ctFR), slFR⟩) (cFR : PySem.W.codeIn K cdFR "falling_row" = true) (kFR : PySem.W.keepIn K (.ref fFR) = true)
    (aB : PySem.W.nsIn K mainGlobals "_begins" = some (some (.ref fB))) (lB : K.lookup fB = some ⟨ocB, odB, .func (PySem.W.fnOf "_begins" "_begins" (defArgs sBeg) (defBody sBeg) (defScope sBeg) .none kVB dcB pmB anB cdB ctB), slB⟩) (cB : PySem.W.codeIn K cdB "_begins" = true) (kB : PySem.W.keepIn K (.ref fB) = true)
    (aW : PySem.W.nsIn K mainGlobals "_law_well" = some (some (.ref fW))) (lW : K.lookup fW = some ⟨ocW, odW, .func (PySem.W.fnOf "_law_well" "_law_well" (defArgs sWell) (defBody sWell) (defScope sWell) .none kVW dcW pmW anW cdW ctW), slW⟩) (cW : PySem.W.codeIn K cdW "_law_well" = true) (kW : PySem.W.keepIn K (.ref fW) = true)
    (aDR : PySem.W.nsIn K mainGlobals "_law_draw" = some (some (.ref fDR))) (lDR : K.lookup fDR = some ⟨ocDR, odDR, .func (PySem.W.fnOf "_law_draw" "_law_draw" (defArgs sDraw) (defBody sDraw) (defScope sDraw) .none kVDR dcDR pmDR anDR cdDR ctDR), slDR⟩) (cDR : PySem.W.codeIn K cdDR "_law_draw" = true) (kDR : PySem.W.keepIn K (.ref fDR) = true)
    (aO : PySem.W.nsIn K mainGlobals "_law_one" = some (some (.ref fO))) (lO : K.lookup fO = some ⟨ocO, odO, .func (PySem.W.fnOf "_law_one" "_law_one" (defArgs sOne) (defBody sOne) (defScope sOne) .none kVO dcO pmO anO cdO ctO), slO⟩) (cO : PySem.W.codeIn K cdO "_law_one" = true) (kO : PySem.W.keepIn K (.ref fO) = true)
    (aT : PySem.W.nsIn K mainGlobals "_law_text" = some (some (.ref fT))) (lT : K.lookup fT = some ⟨ocT, odT, .func (PySem.W.fnOf "_law_text" "_law_text" (defArgs sText) (defBody sText) (defScope sText) .none kVT dcT pmT anT cdT ctT), slT⟩) (cT : PySem.W.codeIn K cdT "_law_text" = true) (kT : PySem.W.keepIn K (.ref fT) = true)
    (aIL : PySem.W.nsIn K mainGlobals "_law_is_least" = some (some (.ref fIL))) (lIL : K.lookup fIL = some ⟨ocIL, odIL, .func (PySem.W.fnOf "_law_is_least" "_law_is_least" (defArgs sIL) (defBody sIL) (defScope sIL) .none kVIL dcIL pmIL anIL cdIL ctIL), slIL⟩) (cIL : PySem.W.codeIn K cdIL "_law_is_least" = true) (kIL : PySem.W.keepIn K (.ref fIL) = true)
    (aPR : PySem.W.nsIn K mainGlobals "_law_parts_right" = some (some (.ref fPR))) (lPR : K.lookup fPR = some ⟨ocPR, odPR, .func (PySem.W.fnOf "_law_parts_right" "_law_parts_right" (defArgs sPR) (defBody sPR) (defScope sPR) .none kVPR dcPR pmPR anPR cdPR ctPR), slPR⟩) (cPR : PySem.W.codeIn K cdPR "_law_parts_right" = true) (kPR : PySem.W.keepIn K (.ref fPR) = true)
    (aLT : PySem.W.nsIn K mainGlobals "_law_least_turn" = some (some (.ref fLT))) (lLT : K.lookup fLT = some ⟨ocLT, odLT, .func (PySem.W.fnOf "_law_least_turn" "_law_least_turn" (defArgs sLT) (defBody sLT) (defScope sLT) .none kVLT dcLT pmLT anLT cdLT ctLT), slLT⟩) (cLT : PySem.W.codeIn K cdLT "_law_least_turn" = true) (kLT : PySem.W.keepIn K (.ref fLT) = true)
    (aZ : PySem.W.nsIn K mainGlobals "law" = some (some (.ref fZ))) (lZ : K.lookup fZ = some ⟨ocZ, odZ, .func (PySem.W.fnOf "law" "law" (defArgs sLaw) (defBody sLaw) (defScope sLaw) .none kVZ dcZ pmZ anZ cdZ ctZ), slZ⟩) (cZ : PySem.W.codeIn K cdZ "law" = true) (kZ : PySem.W.keepIn K (.ref fZ) = true)
    (y1 : PySem.W.nsIn K mainGlobals "LETTERS" = some (some (.str "abcdefghijklmnopqrstuvwxyz" t1)))
    (z1 : PySem.W.nsIn K mainGlobals "isinstance" = some none) (z2 : PySem.W.nsIn K mainGlobals "int" = some none) (z3 : PySem.W.nsIn K mainGlobals "bool" = some none) (z4 : PySem.W.nsIn K mainGlobals "str" = some none) (z5 : PySem.W.nsIn K mainGlobals "all" = some none) (z6 : PySem.W.nsIn K mainGlobals "len" = some none) (z7 : PySem.W.nsIn K mainGlobals "range" = some none) (z8 : PySem.W.nsIn K mainGlobals "zip" = some none) (z9 : PySem.W.nsIn K mainGlobals "tuple" = some none) (z10 : PySem.W.nsIn K mainGlobals "min" = some none) (z11 : PySem.W.nsIn K mainGlobals "sorted" = some none) :
    ∃ fd : FuncData, (∀ (s : Shared) (v : Value), BindsTo s fd ⟨[v], []⟩ [("_law_script", v)]) ∧ ∀ base : Heap, K.In base → base.Ns mainGlobals mg → FnOk l.prog w K mg base CX0 6 fa fd ["_law_script"] (spLaw K) := by
  have e := hfa.symm.trans (PySem.W.mg_of X G aZ)
  cases e
  have TD : TxtD K mg := ⟨PySem.W.mg_none_of X G z2, PySem.W.mg_none_of X G z6⟩
  have TC : TxtC K mg := ⟨PySem.W.mg_none_of X G z1, PySem.W.mg_none_of X G z2, PySem.W.mg_none_of X G z3, PySem.W.mg_none_of X G z4, PySem.W.mg_none_of X G z5, ⟨_, PySem.W.mg_of X G y1, ⟨_, rfl⟩⟩⟩
  have TF : TxtF K mg := ⟨PySem.W.mg_none_of X G z6, PySem.W.mg_none_of X G z7, PySem.W.mg_none_of X G z8, PySem.W.mg_none_of X G z9⟩
  have TG : TxtG K mg := ⟨PySem.W.mg_none_of X G z6, PySem.W.mg_none_of X G z7, PySem.W.mg_none_of X G z1, PySem.W.mg_none_of X G z9, PySem.W.mg_none_of X G z5, PySem.W.mg_none_of X G z10⟩
  have TL : TxtL K mg := ⟨PySem.W.mg_none_of X G z7, PySem.W.mg_none_of X G z9, PySem.W.mg_none_of X G z11⟩
  have FX := fun_mk (st := sIsText) lX cX kX
  have FCT := fun_mk (st := sCkText) lCT cCT kCT
  have FF := fun_mk (st := sFall) lF cF kF
  have FFR := fun_mk (st := sFallR) lFR cFR kFR
  have FB := fun_mk (st := sBeg) lB cB kB
  have FW := fun_mk (st := sWell) lW cW kW
  have FDR := fun_mk (st := sDraw) lDR cDR kDR
  have FO := fun_mk (st := sOne) lO cO kO
  have FT := fun_mk (st := sText) lT cT kT
  have FIL := fun_mk (st := sIL) lIL cIL kIL
  have FPR := fun_mk (st := sPR) lPR cPR kPR
  have FLT := fun_mk (st := sLT) lLT cLT kLT
  have FZ := fun_mk (st := sLaw) lZ cZ kZ
  have bX := FX.binds (ps := ["value"]) fun _ _ _ _ _ _ us hl => match us, hl with | [_], _ => rfl
  have bCT := FCT.binds (ps := ["text"]) fun _ _ _ _ _ _ us hl => match us, hl with | [_], _ => rfl
  have bF := FF.binds (ps := ["text"]) fun _ _ _ _ _ _ us hl => match us, hl with | [_], _ => rfl
  have bFR := FFR.binds (ps := ["text"]) fun _ _ _ _ _ _ us hl => match us, hl with | [_], _ => rfl
  have bB := FB.binds (ps := ["text"]) fun _ _ _ _ _ _ us hl => match us, hl with | [_], _ => rfl
  have bW := FW.binds (ps := ["_law_cell"]) fun _ _ _ _ _ _ us hl => match us, hl with | [_], _ => rfl
  have bDR := FDR.binds (ps := ["_law_well_here", "_law_many"]) fun _ _ _ _ _ _ us hl => match us, hl with | [_, _], _ => rfl
  have bO := FO.binds (ps := ["_law_well_here", "_law_some"]) fun _ _ _ _ _ _ us hl => match us, hl with | [_, _], _ => rfl
  have bT := FT.binds (ps := ["_law_well_here", "_law_most", "_law_letters"]) fun _ _ _ _ _ _ us hl => match us, hl with | [_, _, _], _ => rfl
  have bIL := FIL.binds (ps := ["_law_word"]) fun _ _ _ _ _ _ us hl => match us, hl with | [_], _ => rfl
  have bPR := FPR.binds (ps := ["_law_text_here"]) fun _ _ _ _ _ _ us hl => match us, hl with | [_], _ => rfl
  have bLT := FLT.binds (ps := ["_law_word"]) fun _ _ _ _ _ _ us hl => match us, hl with | [_], _ => rfl
  have gX := PySem.W.mg_of X G aX
  have gCT := PySem.W.mg_of X G aCT
  have gF := PySem.W.mg_of X G aF
  have gFR := PySem.W.mg_of X G aFR
  have gB := PySem.W.mg_of X G aB
  have gW := PySem.W.mg_of X G aW
  have gDR := PySem.W.mg_of X G aDR
  have gO := PySem.W.mg_of X G aO
  have gT := PySem.W.mg_of X G aT
  have gIL := PySem.W.mg_of X G aIL
  have gPR := PySem.W.mg_of X G aPR
  have gLT := PySem.W.mg_of X G aLT
  have gZ := PySem.W.mg_of X G aZ
  refine ⟨PySem.W.fnOf "law" "law" (defArgs sLaw) (defBody sLaw) (defScope sLaw) .none kVZ dcZ pmZ anZ cdZ ctZ, fun s v => .of_eq rfl, fun base _ _ => ?_⟩
  have GX : FnOk l.prog w K mg base CX0 1 fX _ ["value"] (spWhat isT) := ok_isText FX TC
  have GCT : FnOk l.prog w K mg base (L2.CX l.prog w) 3 fCT _ ["text"] (spCk C1 isT) := ok_CkText FCT T1 GX gX kX bX
  have GB : FnOk l.prog w K mg base CX0 1 fB _ ["text"] (spBeg) := ok_Beg FB TF
  have GF : FnOk l.prog w K mg base (L2.CX l.prog w) 4 fF _ ["text"] (spFall C1) := ok_Fall FF TF GCT gCT kCT bCT GB gB kB bB
  have GFR : FnOk l.prog w K mg base (L2.CX l.prog w) 4 fFR _ ["text"] (spFallR C1) := ok_FallR FFR GCT gCT kCT bCT
  have GW : FnOk l.prog w K mg base CX0 1 fW _ ["_law_cell"] (spWell) := ok_well FW TD
  have GDR : FnOk l.prog w K mg base CX0 1 fDR _ ["_law_well_here", "_law_many"] (spDraw) := ok_draw FDR TD
  have GO : FnOk l.prog w K mg base CX0 2 fO _ ["_law_well_here", "_law_some"] (spOne) := ok_one FO TD FDR gDR bDR
  have GT : FnOk l.prog w K mg base CX0 2 fT _ ["_law_well_here", "_law_most", "_law_letters"] (spText) := ok_Text FT TF GDR gDR kDR bDR
  have GIL : FnOk l.prog w K mg base CX0 1 fIL _ ["_law_word"] (spIL) := ok_IL FIL TG
  have GPR : FnOk l.prog w K mg base CX0 5 fPR _ ["_law_text_here"] (spPR) := ok_PR FPR TG GF gF kF bF GIL gIL kIL bIL
  have GLT : FnOk l.prog w K mg base CX0 1 fLT _ ["_law_word"] (spLT) := ok_LT FLT TG
  exact ok_law FZ TL T1 GW gW kW bW GDR gDR kDR bDR GO gO kO bO GT gT kT bT GPR gPR kPR bPR GLT gLT kLT bLT GF gF kF bF GFR gFR kFR bFR
theorem walk {l : PySem.W.OpenLaw} {q : Program} {loose : List Str} {XP : (Str → Option Value) → Heap → Prop} {YP : World → Heap → Prop} {d : DefRec} {K : Params → PySem.W.Frag} (hn : l.most = some 63) (hdf : d.params.defaults = [])
    (hY : ∀ (w : World) (h : Heap), YP w h → (K w.params).In h)
    (F : ∀ (w : World) (mg : Str → Option Value) (fa : Addr) (h : Heap), (K w.params).In h → h.Ns mainGlobals mg → mg d.name = some (.ref fa) →
      ∃ fd : FuncData, (∀ (s : Shared) (u : Value), BindsTo s fd ⟨[u], []⟩ [("_law_script", u)]) ∧ ∀ base : Heap, (K w.params).In base → base.Ns mainGlobals mg → FnOk l.prog w (K w.params) mg base CX0 6 fa fd ["_law_script"] (spLaw (K w.params))) :
    PySem.W.WalkO q loose XP YP l.row.toRowW d [] (fun f vs => PySem.call f vs) :=
  L2.walk_of (n := 63) (k := 6) (x := "_law_script") (CX := fun _ => CX0) (sp := fun w => spLaw (K w.params)) hn (by decide) hdf ⟨rfl, by decide, by decide⟩ hY F (fun _ _ a ns hl _ hS => ⟨a, ns, rfl, hS, hl, fun _ => rfl⟩) fun _ _ _ _ _ z => z
end T10
open PySem PySem.W PyProof.Rows
set_option maxRecDepth 100000 in
set_option maxHeartbeats 0 in
theorem PySem.Challenge.cw_turnindex_k10_falling_parts_holds : PySem.Challenge.rw_turnindex_k10_falling_parts.Holds := by
  w_on; o_law; k_head; (case hw => w_witness2)
  k_fill
  refine T10.walk (l := PySem.Challenge.rw_turnindex_k10_falling_parts) rfl rfl (fun w h Y => PySem.W.kIn_of Y) ?F
  case F =>
    intro w mg fa h KX G hmg
    refine' T10.all_mk KX G hmg (EK.err_mk (x := "NoText") (f := "text") KX G ?aC1 ?xL1 ?rv1 ?iC1 ?l11 ?c11 ?bd1 ?sc1 ?cd1 ?vf1 ?pf1 ?cL1 ?eB1 ?ho1 ?su1 ?fok1 ?top1)  ?paX ?plX ?pcX ?pkX ?paCT ?plCT ?pcCT ?pkCT ?paF ?plF ?pcF ?pkF ?paFR ?plFR ?pcFR ?pkFR ?paB ?plB ?pcB ?pkB ?paW ?plW ?pcW ?pkW ?paDR ?plDR ?pcDR ?pkDR ?paO ?plO ?pcO ?pkO ?paT ?plT ?pcT ?pkT ?paIL ?plIL ?pcIL ?pkIL ?paPR ?plPR ?pcPR ?pkPR ?paLT ?plLT ?pcLT ?pkLT ?paZ ?plZ ?pcZ ?pkZ ?y1 ?z1 ?z2 ?z3 ?z4 ?z5 ?z6 ?z7 ?z8 ?z9 ?z10 ?z11
    (case aC1 => k_is); (case xL1 => k_is); (case rv1 => kernel_rfl); (case iC1 => k_is); (case l11 => k_is); (case c11 => k_is); (case bd1 => exact fun _ _ => rfl); (case sc1 => exact fun L => ⟨_, rfl⟩); (case cd1 => k_is); (case vf1 => rfl); (case pf1 => kernel_rfl); (case cL1 => k_is); (case eB1 => kernel_rfl); (case ho1 => k_is); (case su1 => k_is); (case fok1 => exact ⟨by decide +kernel, by decide +kernel, by decide +kernel, by decide +kernel⟩); (case top1 => kernel_rfl)
    (case paX => k_is); (case plX => k_is); (case pcX => k_is); (case pkX => k_is)
    (case paCT => k_is); (case plCT => k_is); (case pcCT => k_is); (case pkCT => k_is)
    (case paF => k_is); (case plF => k_is); (case pcF => k_is); (case pkF => k_is)
    (case paFR => k_is); (case plFR => k_is); (case pcFR => k_is); (case pkFR => k_is)
    (case paB => k_is); (case plB => k_is); (case pcB => k_is); (case pkB => k_is)
    (case paW => k_is); (case plW => k_is); (case pcW => k_is); (case pkW => k_is)
    (case paDR => k_is); (case plDR => k_is); (case pcDR => k_is); (case pkDR => k_is)
    (case paO => k_is); (case plO => k_is); (case pcO => k_is); (case pkO => k_is)
    (case paT => k_is); (case plT => k_is); (case pcT => k_is); (case pkT => k_is)
    (case paIL => k_is); (case plIL => k_is); (case pcIL => k_is); (case pkIL => k_is)
    (case paPR => k_is); (case plPR => k_is); (case pcPR => k_is); (case pkPR => k_is)
    (case paLT => k_is); (case plLT => k_is); (case pcLT => k_is); (case pkLT => k_is)
    (case paZ => k_is); (case plZ => k_is); (case pcZ => k_is); (case pkZ => k_is)
    (case y1 => k_is)
    (case z1 => k_is); (case z2 => k_is); (case z3 => k_is); (case z4 => k_is); (case z5 => k_is); (case z6 => k_is); (case z7 => k_is); (case z8 => k_is); (case z9 => k_is); (case z10 => k_is); (case z11 => k_is)
