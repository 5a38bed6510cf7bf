import PyProof.Rows.All
import Wide.All
import OpenK.AllK
import Wide.FinOn
import KE.KExcSuper
import HandS.ForMost
import HandS.Exc
import HandS.ExcInit
import HandS.ExcField
import HandS.ExcValue
import HandS.Style
import HandS.Walk
import HandS.IsInst
import HandS.More
import KE.KExcIs
import PyProof.NeKinds
import KE.KEqDict
import HandS.ExcIs
import HandS.Wide
import HandS.TryMany
import HandS.Lambda
import HandS.EndTab
import HandS.Strs
import KE.SortData
import KE.DataMinMax
import HandS.Codes
import HandS.WordsExc
import PyProof.Draws
import PyProof.EnumMake
import PyProof.StrWalks
import PyProof.StrBlock2
import PyProof.FitsStr
import HandS.Comp
import HandS.Words
import PyProof.Rows.CountFlat
import KE.KEqSeq
import HandS.TupAny
import HandS.Gcd
import HandS.TryOnly
import KE.KMathGC
import PyProof.AutoIntOps
import HandS.CallLocal
import PySem.Challenge.RW_turnindex_k86_whole_balanced_rings
set_option Elab.async false
set_option linter.all false
set_option maxRecDepth 100000
set_option maxHeartbeats 4000000
/-! ErrKit: an error class of the program: __init__ says super().__init__(text), then keeps its one value. -/
namespace EK
open PySem PySem.W PySem.Calls PyProof.Rows PySem.HandSPX L2
/-! ### the text of such an __init__ -/
def eArgs (f : Str) (p1 p2 : Pos) : Arguments := { posonlyargs := [], args := [{ arg := "self", annotation := none, pos := p1 }, { arg := f, annotation := none, pos := p2 }], vararg := none, kwonlyargs := [], kw_defaults := [], kwarg := none, defaults := [] }
def eBody (f msg : Str) (a1 a2 a3 a4 a5 a6 b1 b2 b3 b4 : Pos) : List Stmt :=
  [.Expr (.Call (.Attribute (.Call (.Name "super" a1) [] [] a2) "__init__" a3) [.Constant (.str msg) 0 a4] [] a5) a6, .Assign [.Attribute (.Name "self" b1) f b2] (.Name f b3) b4]
def eScope (f : Str) : Scope := { kind := .function, names := [(PySem.Str.ofString "self", .local), (f, .local), (PySem.Str.ofString "__class__", .free), (PySem.Str.ofString "super", .globalImplicit)], isGenerator := false, isCoroutine := false, more := [] }

/-- the row super().__init__(msg) of the text, as a call of a method -/
def SupCall (a1 a2 a3 a4 a5 : Pos) (msg : Str) (env : Env) : Prop := ∃ pl : Sem Bool,
  eval (.Call (.Attribute (.Call (.Name "super" a1) [] [] a2) "__init__" a3) [.Constant (.str msg) 0 a4] [] a5) env = (do
    let ov ← attributeBase (.Call (.Name "super" a1) [] [] a2) "__init__" env (eval (.Call (.Name "super" a1) [] [] a2) env)
    standAt a3.atName
    let (g, first) ← holding [ov] (getMethod ov "__init__" pl)
    callWith a5 g first (backTo a5 (starEach [.Constant (.str msg) 0 a4] env)) [])
/-- what the top has written of the class x at C, of its __init__ at fI -/
structure ErrTxt (P : Program) (K : Frag) (mg : Str → Option Value) (x f : Str) (C fI : Addr) : Prop where
  gC : mg x = some (.ref C)
  cls : ∃ nm q N bs bm sn sub ab col dd k0 k1 k2 k3 k5, K.lookup C = some (excClassObj nm q C N bs bm true sn sub ab col dd k0 k1 k2 k3 k5 "ValueError.__new__") ∧ refsVE bm = true
  sa : findIn K (.ref C) "__setattr__" = some (some (.builtin "object.__setattr__"))
  ga : findIn K (.ref C) "__getattribute__" = some (some (.builtin "BaseException.__getattribute__"))
  gg : findIn K (.ref C) "__getattr__" = some none
  noN : findIn K (.ref C) f = some none
  iC : findIn K (.ref C) "__init__" = some (some (.ref fI))
  tC : typeIn K (.ref fI) = some (.type "function")
  kC : keepIn K (.ref C) = true
  exC : subIn K (.ref C) (.type "BaseException") = some true
  tyC : typeIn K (.ref C) = some (.type "type")
  hdC : hasDictIn K C = true
  te : exmOne K (.ref C) (.ref C) = some true
  hB : subIn K (.ref C) (.type "ValueError") = some true
  si : ks_superIn K C C "__init__" = some (some (.builtin "ValueError.__init__"))
  ho : nsIn K cStatics "thirdparty.any" = some none
  su : mg "super" = none
  mC : mroIn K C (.ref C) = some true
  fok : f ≠ "self" ∧ f ≠ "__class__" ∧ f ≠ "super" ∧ f ≠ "__debug__"
  top : (P.main.scope.names.lookup ("super" : Str)).isSome = false
  fn : ∃ (oc : Value) (od : Option Addr) (qn msg : Str) (doc pm : Value) (an : Option Addr) (cda cc : Addr) (ct : Value) (osl : Array (Option Value)) (p1 p2 a1 a2 a3 a4 a5 a6 b1 b2 b3 b4 : Pos),
    K.lookup fI = some ⟨oc, od, .func (ksFn "__init__" qn (eArgs f p1 p2) (eBody f msg a1 a2 a3 a4 a5 a6 b1 b2 b3 b4) (eScope f) .none .none doc pm an (.ref cda) ct cc), osl⟩ ∧ codeIn K (.ref cda) qn = true ∧
    (∀ u v : Value, bindArgs (ksFn "__init__" qn (eArgs f p1 p2) (eBody f msg a1 a2 a3 a4 a5 a6 b1 b2 b3 b4) (eScope f) .none .none doc pm an (.ref cda) ct cc) ⟨[u, v], []⟩ = pure [(("self" : Str), u), (f, v)]) ∧
    (∀ L : Addr, SupCall a1 a2 a3 a4 a5 msg (callEnv (ksFn "__init__" qn (eArgs f p1 p2) (eBody f msg a1 a2 a3 a4 a5 a6 b1 b2 b3 b4) (eScope f) .none .none doc pm an (.ref cda) ct cc) L fI)) ∧
    (∃ (ccl : Value) (cdd : Option Addr) (ccs : Array (Option Value)) (vs : Array Value) (file : Str) (tf : Tok), K.lookup cda = some ⟨ccl, cdd, .fields vs, ccs⟩ ∧ vs[2]? = some (.str file tf) ∧ ((P.main.file : Str) == file) = true) ∧
    ∃ (cl : Value) (cld : Option Addr) (csl : Array (Option Value)), K.lookup cc = some ⟨cl, cld, .cell (some (.ref C)), csl⟩
theorem one_size (v : Value) : [v].length ≤ sizeLine := by
  rw [sizeLine_eq]
  exact (by decide : 1 ≤ 16777216)
/-- what __init__ leaves of the exception at y -/
structure MadeI (h h' : Heap) (y C dx : Addr) (f : Str) (v : Value) : Prop where
  keep : ∀ b o, b ≠ y → h.get? b = some o → h'.get? b = some o
  obj : ∃ t1 : Addr, h'.get? y = some { cls := .ref C, dict := some dx, data := .fields #[.ref t1, .none, .none, .none, .bool false, .none] }
  dbig : h.objs.size ≤ dx
  dne : dx ≠ y
  ns : h'.Ns1 dx (fun z => if z = f then some v else none)
theorem kept_but {K : Frag} {h h' : Heap} {x : Addr} (X : K.In h) (hx : K.lookup x = none) (k : ∀ b o, b ≠ x → h.get? b = some o → h'.get? b = some o) : K.In h' := fun a o e =>
  k a o (fun z => by rw [z, hx] at e; cases e) (X a o e)
section
variable {prog : Program} {w : World} {A : Around} {E : Value → Shared → Prop} {R : Result → Shared → Prop} {s : Shared} {K : Frag} {mg : Str → Option Value} {C fI : Addr} {x f : Str}
/-- the method-wrapper that super().__init__ gives is called -/
theorem call_mw {u e t0 : Addr} {rest : List Value} {nm q : Str} {C N : Addr} {bs bm : List Value} {hdct : Bool} {sn : List Str} {sub : List Value} {ab : Bool} {col : Option Bool} {dd : Option Addr} {k0 k1 k2 k3 k5 : Option Value} {Q : Value → Shared → Prop}
    (hC : s.heap.get? C = some (excClassObj nm q C N bs bm hdct sn sub ab col dd k0 k1 k2 k3 k5 "ValueError.__new__")) (he : s.heap.get? e = some (excO C t0)) (hu : s.heap.get? u = some (kxs_mw "ValueError.__init__" e)) (hrest : rest.length ≤ sizeLine)
    (hq : ∀ h' t1, (∀ b o, b ≠ e → s.heap.get? b = some o → h'.get? b = some o) → h'.get? e = some (excO C t1) → Q .none { s with heap := h' }) :
    wpAny (model prog w) A (call (.ref u) rest) Q E s := by
  obtain ⟨hh, g, d, tk, os⟩ := s
  refine wpAny_call (codeAny_of_tree ?_)
  show wpAny _ A.in1 (callAny (.ref u) ⟨rest, []⟩) _ _ _
  simp only [callAny]
  refine wpAny_bind (wpAny_load hu ?_)
  simp only [kxs_mw, show (Value.type "method-wrapper" == Value.type "method" || Value.type "method-wrapper" == Value.type "builtin_function_or_method" || Value.type "method-wrapper" == Value.type "method-wrapper") = true by decide, if_true]
  refine KFB.if_so (by decide) ?_
  refine wpAny_bind (check_bound_init F.excBase_ValueError.toExcCallFacts hC he rfl ?_)
  refine wpAny_bind (wpAny_pure (wpAny_pure ?_))
  refine ⟨plainId_quiet F.excBase_ValueError.init.plain _, codeAny_builtin F.excBase_ValueError.initEntry ?_⟩
  exact exc_init_tree (cls := .ref C) (t0 := t0) (dv := none) (c2 := .none) (c3 := .none) (b4 := .bool false) he hrest fun h' k o _ => hq h' _ k o
theorem look_self (f : Str) : (eScope f).names.lookup ("self" : Str) = some .local := by
  show List.lookup ("self" : Str) ((("self" : Str), NameKind.local) :: _) = _
  rw [List.lookup_cons]
  simp
theorem look_f {f : Str} (h : f ≠ "self") : (eScope f).names.lookup f = some .local := by
  have e : (f == ("self" : Str)) = false := by simpa using h
  show List.lookup f ((("self" : Str), NameKind.local) :: (f, NameKind.local) :: _) = _
  rw [List.lookup_cons, e, List.lookup_cons]
  simp
theorem look_cls {f : Str} (h : f ≠ "__class__") : (eScope f).names.lookup ("__class__" : Str) = some .free := by
  have e : ((("__class__" : Str)) == f) = false := by simpa using Ne.symm h
  have e2 : ((("__class__" : Str)) == ("self" : Str)) = false := by decide +kernel
  show List.lookup ("__class__" : Str) ((("self" : Str), NameKind.local) :: (f, NameKind.local) :: (("__class__" : Str), NameKind.free) :: _) = _
  rw [List.lookup_cons, e2, List.lookup_cons, e, List.lookup_cons]
  simp
theorem look_super {f : Str} (h : f ≠ "super") : (eScope f).names.lookup ("super" : Str) = some .globalImplicit := by
  have e : ((("super" : Str)) == f) = false := by simpa using Ne.symm h
  have e2 : ((("super" : Str)) == ("self" : Str)) = false := by decide +kernel
  have e3 : ((("super" : Str)) == ("__class__" : Str)) = false := by decide +kernel
  show List.lookup ("super" : Str) ((("self" : Str), NameKind.local) :: (f, NameKind.local) :: (("__class__" : Str), NameKind.free) :: (("super" : Str), NameKind.globalImplicit) :: []) = _
  rw [List.lookup_cons, e2, List.lookup_cons, e, List.lookup_cons, e3, List.lookup_cons]
  simp
theorem bl_self {f : Str} (h : f ≠ "self") (a v : Value) : List.lookup ("self" : Str) ([(("self" : Str), a), (f, v)].reverse) = some a := by
  have e : ((("self" : Str)) == f) = false := by simpa using Ne.symm h
  show List.lookup ("self" : Str) ((f, v) :: (("self" : Str), a) :: []) = _
  rw [List.lookup_cons, e, List.lookup_cons]
  simp
theorem bl_f {f : Str} (a v : Value) : List.lookup f ([(("self" : Str), a), (f, v)].reverse) = some v := by
  show List.lookup f ((f, v) :: (("self" : Str), a) :: []) = _
  rw [List.lookup_cons]
  simp
theorem err_init (T : ErrTxt prog K mg x f C fI) {y t0 : Addr} {v : Value} (X : K.In s.heap) (hlim : s.heap.NoLimit) (hg : s.heap.Ns mainGlobals mg) (hb : ∃ mb, s.heap.Ns builtinsNs mb ∧ ∀ z : Str, z ≠ "__name__" → mb z = bootBuiltins z)
    (hx : s.heap.get? y = some (excO C t0)) (hnx : K.lookup y = none) (hroom : A.depth < recursionLimit)
    (hq : ∀ h' tk dx, MadeI s.heap h' y C dx f v → R (.ok (.ret .none)) { s with heap := h', toks := tk }) :
    codeAny (model prog w) A (.call (.ref fI) ⟨[.ref y, v], []⟩) R s := by
  obtain ⟨oc, od, qn, msg, doc, pm, an, cda, cc, ct, osl, p1, p2, a1, a2, a3, a4, a5, a6, b1, b2, b3, b4, ho, hcd, hB, hS, ⟨ccl, cdd, ccs, vs, file, tf, hcda, hvs, hfile⟩, ⟨cl, cld, csl, hcell⟩⟩ := T.fn
  obtain ⟨nm, q, N, bs, bm, sn, sub, ab, col, dd, k0, k1, k2, k3, k5, hC, hbm⟩ := T.cls
  obtain ⟨mb, hbn, hbv⟩ := hb
  obtain ⟨hf1, hf2, hf3, hf4⟩ := T.fok
  have hcl : clsIn K C = some { name := nm, bases := bs, mro := .ref C :: bm, ns := N, qualname := q, hasDict := true, slotNames := sn, subclasses := sub, abstract := ab, collection := col, hasDel := false } := by unfold clsIn; rw [hC] <;> rfl
  refine ks_codeAny_call_defAt (fd := ksFn "__init__" qn (eArgs f p1 p2) (eBody f msg a1 a2 a3 a4 a5 a6 b1 b2 b3 b4) (eScope f) .none .none doc pm an (.ref cda) ct cc) (body := eBody f msg a1 a2 a3 a4 a5 a6 b1 b2 b3 b4) (binds := [(("self" : Str), Value.ref y), (f, v)]) hroom (X _ _ ho) rfl hlim (codeRec_of X hcd) rfl (BindsTo.of_eq (hB _ _)) ?_ ?_ (fun h₁ hns k => ?_) rfl rfl rfl
  · intro z hz
    rcases List.mem_cons.mp hz with rfl | hz
    · exact fun e => nomatch e
    rcases List.mem_cons.mp hz with rfl | hz
    · exact fun e => nomatch e
    rcases List.mem_cons.mp hz with rfl | hz
    · exact fun e => nomatch e
    rcases List.mem_cons.mp hz with rfl | hz
    · exact fun e => nomatch e
    · cases hz
  · intro z hz
    rcases List.mem_cons.mp hz with rfl | hz
    · exact look_self f
    rcases List.mem_cons.mp hz with rfl | hz
    · exact look_f hf1
    · cases hz
  · have X₁ : K.In h₁ := X.keeps k
    have hyL : s.heap.objs.size ≠ y := Nat.ne_of_gt (Heap.lt_size hx)
    have ks : (callEnv (ksFn "__init__" qn (eArgs f p1 p2) (eBody f msg a1 a2 a3 a4 a5 a6 b1 b2 b3 b4) (eScope f) .none .none doc pm an (.ref cda) ct cc) s.heap.objs.size fI).kindOf "super" = some .globalImplicit := look_super hf3
    obtain ⟨oD, hD⟩ : ∃ oD, h₁.get? C = some oD ∧ ∃ cd : ClassData, oD.data = .cls cd := ⟨_, X₁ _ _ hC, _, rfl⟩
    obtain ⟨hD1, cdD, hD2⟩ := hD
    have IY : ∀ {h : Heap}, h.get? y = some (excO C t0) → InstAt h y (excO C t0) C none := fun e => ⟨e, rfl, rfl, trivial⟩
    have hyC : y ≠ C := fun z => by rw [z, hC] at hnx; cases hnx
    obtain ⟨pl, hpl⟩ := hS s.heap.objs.size
    refine ks_wpAt_execs_cons (ks_wpAt_Expr_any (ks_wpAt_MethodCall ?_ hpl) (by rfl) (by rfl))
    refine ks_wpAt_super_base ks (look_cls hf2) (by decide +kernel) rfl (X₁ _ _ ho) rfl rfl rfl (X₁ _ _ hcda) rfl hvs hfile T.top ?_
    refine ks_loadName_global rfl ks (loadGlobal_builtin (hg.keeps k) T.su (hbn.keeps k) (hbv _ (by decide +kernel)) ⟨by rfl, ?_⟩)
    refine wpAny_loadName_free rfl (look_cls hf2) rfl ⟨_, X₁ _ _ hcell, rfl⟩ ?_
    refine wpAny_loadName_local rfl (look_self f) hns (bl_self hf1 _ _) ?_
    refine ks_wpAny_isType_cls hD1 hD2 ⟨rfl, ?_⟩
    refine ks_wpAny_call_super hD1 hD2 (k _ _ hx) rfl (fun c e => nomatch e) (looks_mroIn X₁ T.mC) (fun h2 hso k2 => ?_)
    have X2 : K.In h2 := X₁.keeps k2
    refine kxs_getMethod kxs_ValueError hso (looks_opaque X2 T.ho) (l₀ := .ref C :: bm) ((looks_clsIn X2 hcl).andThen .now) rfl X2 ?_ ((IY (k2 _ _ (k _ _ hx))).type.andThen (looks_subIn X2 T.hB)) hyC (by decide +kernel) ?_
    · have e := T.si
      unfold ks_superIn at e
      rw [hcl] at e
      exact e
    have k3 : ∀ b o, h2.get? b = some o → (h2.push (kxs_mw "ValueError.__init__" y)).get? b = some o := fun b o e => Heap.get?_push_of_some _ e
    have hu : (h2.push (kxs_mw "ValueError.__init__" y)).get? h2.objs.size = some (kxs_mw "ValueError.__init__" y) := Heap.get?_push_at rfl rfl
    refine kxs_callWith (i := "ValueError.__init__") (x := y) (by rfl) (evalArgs_plain (Calls.spliced_cons (Calls.Constant_str (k := 0) (pos := a4) (Calls.spliced_nil ⟨hu, ?_⟩))))
    refine call_mw (X2.keeps k3 _ _ hC) (k3 _ _ (k2 _ _ (k _ _ hx))) hu (one_size _) fun h4 t1 k4 hy4 => ?_
    have X4 : K.In h4 := kept_but (X2.keeps k3) hnx k4
    have kk : ∀ b o, b ≠ y → h₁.get? b = some o → h4.get? b = some o := fun b o n e => k4 b o n (k3 b o (k2 b o e))
    have n4 : h4.Ns s.heap.objs.size fun z => [(("self" : Str), Value.ref y), (f, v)].reverse.lookup z := by
      obtain ⟨o, es, ep, e1, r⟩ := hns
      exact ⟨o, es, ep, kk _ _ hyL e1, r⟩
    have hfd : (f == ("__debug__" : Str)) = false := by simpa using hf4
    refine wpAt_of_wpAny (wpAny_execs_cons (plainObj_wpAny_Assign_Attribute ?_))
    refine wpAny_Name (wpAny_loadName_local rfl (look_f hf1) n4 (bl_f _ _) ?_) hfd
    refine wpAny_Name (wpAny_loadName_local rfl (look_self f) n4 (bl_self hf1 _ _) ?_) (by decide +kernel)
    refine set_plain X4 (ox := excO C t1) (od := none) ⟨hy4, rfl, rfl, trivial⟩ T.sa ?_
    refine exc_osa X4 hy4 hcl (show refsVE (.ref C :: bm) = true from hbm) rfl T.noN (fun h5 tk5 dx k5 dn dne hx5 hn5 => ?_)
    refine wpAny_execs_nil (hq h5 tk5 dx ⟨fun b o hb e => k5 b o hb (kk b o hb (k b o e)), ⟨_, hx5⟩, ?_, dne, hn5⟩)
    have z1 : s.heap.objs.size < h4.objs.size := n4.lt
    exact Nat.le_of_lt (Nat.lt_of_lt_of_le z1 dn)
/-- an error that was made: the object at e, its own dict at d -/
structure MadeE (h h' : Heap) (e C d : Addr) (f : Str) (v : Value) : Prop where
  keep : ∀ b o, h.get? b = some o → h'.get? b = some o
  new : h.objs.size ≤ e
  obj : ∃ t1 : Addr, h'.get? e = some { cls := .ref C, dict := some d, data := .fields #[.ref t1, .none, .none, .none, .bool false, .none] }
  dbig : h.objs.size ≤ d
  dne : d ≠ e
  ns : h'.Ns1 d (fun z => if z = f then some v else none)
theorem not_in {K : Frag} {h : Heap} {a : Addr} (X : K.In h) (ha : h.objs.size ≤ a) : K.lookup a = none := by
  cases e : K.lookup a with
  | none => rfl
  | some o => exact absurd (Nat.lt_of_lt_of_le (Heap.lt_size (X _ _ e)) ha) (Nat.lt_irrefl _)
theorem err_made (T : ErrTxt prog K mg x f C fI) {v : Value} (X : K.In s.heap) (hlim : s.heap.NoLimit) (hg : s.heap.Ns mainGlobals mg) (hb : ∃ mb, s.heap.Ns builtinsNs mb ∧ ∀ z : Str, z ≠ "__name__" → mb z = bootBuiltins z)
    (hroom : A.depth + 1 < recursionLimit) (hq : ∀ h' tk e d, MadeE s.heap h' e C d f v → R (.ok (.ret (.ref e))) { s with heap := h', toks := tk }) :
    codeAny (model prog w) A (.call (.ref C) ⟨[v], []⟩) R s := by
  obtain ⟨nm, q, N, bs, bm, sn, sub, ab, col, dd, k0, k1, k2, k3, k5, hC, hbm⟩ := T.cls
  obtain ⟨mb, hbn, hbv⟩ := hb
  obtain ⟨hp, g, dr, tk, os⟩ := s
  have k : ∀ b o, hp.get? b = some o → ((hp.push (kdv_tup [v])).push (excO C hp.objs.size)).get? b = some o := fun b o e => Heap.get?_push_of_some _ (Heap.get?_push_of_some _ e)
  have hget : ((hp.push (kdv_tup [v])).push (excO C hp.objs.size)).get? (hp.objs.size + 1) = some (excO C hp.objs.size) := by heap_get
  have hnx : K.lookup (hp.objs.size + 1) = none := not_in X (Nat.le_succ _)
  refine call_own F.excBase_ValueError (fun X => refsVE_contains X bm hbm) (X _ _ hC) (looks_findIn X T.iC) (fun self => bind_fn X self T.tC) (one_size v) ?_
  refine err_init (s := ⟨(hp.push (kdv_tup [v])).push (excO C hp.objs.size), g, dr, tk, os⟩) T (X.keeps k) (hlim.keeps k) (hg.keeps k) ⟨mb, hbn.keeps k, hbv⟩ hget hnx ?_ fun h' tk' dx ⟨k', ⟨t1, hx⟩, dn, dne, hns⟩ => ?_
  · show A.depth + 1 < recursionLimit
    exact hroom
  · have old : ∀ b o, hp.get? b = some o → h'.get? b = some o := fun b o e => k' b o (Nat.ne_of_lt (Nat.lt_succ_of_lt (Heap.lt_size e))) (k b o e)
    have z : hp.objs.size + 1 + 1 ≤ dx := by
      have q := dn
      rw [Heap.size_push, Heap.size_push] at q
      exact q
    exact ⟨rfl, hq h' tk' (hp.objs.size + 1) dx ⟨old, Nat.le_succ _, ⟨t1, hx⟩, Nat.le_trans (Nat.le_trans (Nat.le_succ _) (Nat.le_succ _)) z, dne, hns⟩⟩
end
end EK
namespace L2
open PySem PySem.Spec PyProof.Rows EK
theorem relO_one {f : Str} {v : V} {u : Value} (r : RelV v u) (g : Str) : RelO (List.lookup g [(f, v)]) (if g = f then some u else none) := relO_put (fs := []) (mA := fun _ => none) r (fun _ => True.intro) g
section
variable {X : Cx} {C fI : Addr} {x f : Str}
/-- x(e) as a value: a new error at a, its dict at d -/
def tErrV (C : Addr) (f : Str) (ta : TA) : TE := fun σ H Q => ta σ H fun vs H1 => ∃ v, vs = [v] ∧ ∀ a d, H1 a = none → H1 d = none → d ≠ a → Q (.ref a) (upd (upd H1 d (exd d [(f, v)])) a (exo a C (some d)))
theorem pe_errV {a : Expr} {ta : TA} {p pos : Pos} {k : Nat} (T : ErrTxt X.prog X.K X.mg x f C fI) (hr : Room k X.A) (ha : PA X [a] ta) (hg : Gl X x) (hd : (x == ("__debug__" : Str)) = false := by decide)
    (he : starEach (a :: []) X.env = (false, eval a X.env) :: starEach [] X.env := by rfl) (hpl : (backTo pos (starEach [] X.env)).any (·.1) = false := by rfl) :
    PE X (.Call (.Name x p) [a] [] pos) (tErrV C f ta) := by
  refine ⟨fun pins s σ H Q I h => ?_⟩
  refine wpAny_Call_Name_kw (ld_glob I hg T.gC ?_ hd)
  refine PySem.W.callWith_K (h₀ := X.base) I.ok.mod.kin T.kC (thn (ha.run pos pins s σ H _ I h) fun us s1 hh => ?_) he hpl
  obtain ⟨vs, H1, I1, r1, v, ev, q1⟩ := hh
  subst ev
  refine ⟨I1.kIn, ?_⟩
  cases r1 with
  | cons rv rn =>
    rename_i v' us'
    cases rn
    show wpAny _ _ (call (.ref C) [v']) _ _ _
    have hlim := I1.nolimit
    obtain ⟨hp, g, dr, tk, os⟩ := s1
    obtain ⟨mb, hb1, hb2⟩ := I1.mod.blt
    refine wpAny_call (err_made T I1.kIn hlim (I1.mod.glob.keeps I1.bk) ⟨mb, hb1.keeps I1.bk, hb2⟩ (by have := hr.dp; omega) fun h' tk' e d M => ?_)
    obtain ⟨t1, hoe⟩ := M.obj
    have nd : H1 d = none := I1.hok.fresh M.dbig
    have ne : H1 e = none := I1.hok.fresh M.new
    obtain ⟨G, g1, g2⟩ := restrict h' fun b => decide (b ≠ e)
    have gk : ∀ b, b ≠ e → G.get? b = h'.get? b := fun b hb => g1 b (decide_eq_true hb)
    have ge : G.get? e = none := g2 e (by simp)
    have old : ∀ b o, hp.get? b = some o → G.get? b = some o := fun b o q => (gk b (Nat.ne_of_lt (Nat.lt_of_lt_of_le (Heap.lt_size q) M.new))).trans (M.keep b o q)
    have gs : ∀ b o, G.get? b = some o → h'.get? b = some o := fun b o q => by
      by_cases hbe : b = e
      · rw [hbe, ge] at q
        cases q
      · exact (gk b hbe).symm.trans q
    have J : Inv X pins σ (upd H1 d (exd d [(f, v)])) ⟨G, g, dr, tk', os⟩ := I1.laid (t' := tk') old M.dbig (exd_ok (M.ns.at fun o q => (gk d M.dne).trans q) (relO_one rv))
    have hne : (upd H1 d (exd d [(f, v)])) e = none := by
      rw [upd_ne (Ne.symm M.dne)]
      exact ne
    exact ⟨.ref e, _, J.laidN (t' := tk') gs ge hne (exo_ok hoe), rfl, q1 e d ne nd M.dne⟩
/-- a field of an error, read -/
def tErrF (K : PySem.W.Frag) (f : Str) (te : TE) : TE := fun σ H Q => te σ H fun x H1 => ∃ (a C d : Addr) (fs : List (Str × V)) (v : V), x = .ref a ∧ H1 a = some (exo a C (some d)) ∧ H1 d = some (exd d fs) ∧ XfC K C ∧ PySem.W.findIn K (.ref C) f = some none ∧ fs.lookup f = some v ∧ Q v H1
theorem pe_errF {e : Expr} {te : TE} {pos : Pos} (he : PE X e te) (hb : attributeBase e f X.env (eval e X.env) = eval e X.env := by rfl) : PE X (.Attribute e f pos) (tErrF X.K f te) := by
  refine ⟨fun pins s σ H Q I h => ?_⟩
  refine attr_of hb (thn (he.run pins s σ H _ I h) fun u s1 hh => ?_)
  obtain ⟨y, H1, I1, ry, a, C, d, fs, v, ey, ea, ed, T, hno, l, q⟩ := hh
  subst ey
  obtain rfl : u = Value.ref a := ry
  obtain ⟨t1, ha⟩ := exo_at I1.hok ea
  obtain ⟨mA, hns, hr⟩ := exd_at I1.hok ed
  obtain ⟨od, ho, hl⟩ := lookIn_ns hns
  obtain ⟨u, hu, ru⟩ := RelO.some_of (v := v) (o := mA f) (by rw [← l]; exact hr f)
  have J : PySem.W.InstAt s1.heap a _ C (some od) := ⟨ha, rfl, rfl, ho⟩
  exact HandSPX.exc_get I1.kIn J T.ga T.gg T.exC (PySem.W.findObj_own T.hdC hno rfl (by rw [hl, hu])) (handed_of ru) ⟨v, H1, I1.tok _, ru, q⟩
end
end L2

set_option Elab.async false
set_option linter.all false
set_option maxRecDepth 100000
set_option maxHeartbeats 4000000
/-! EqKit: things that are told equal, whatever they hold; isinstance of errors. -/
namespace L2
open PySem PySem.Spec PyProof.Rows
/-- x and y compare equal, at most n deep: one thing, or lists, tuples of such -/
inductive Sm (K : PySem.W.Frag) (H : Hp) : Nat → V → V → Prop
  | rf {n : Nat} (x : V) (h : ∀ b, x ≠ .flt b) : Sm K H n x x
  | ls {n : Nat} {a b : Addr} {xs ys : List V} (h1 : SqL K H a xs) (h2 : SqL K H b ys) (hl : xs.length = ys.length) (h : ∀ (i : Nat) x y, xs[i]? = some x → ys[i]? = some y → Sm K H n x y) : Sm K H (n + 1) (.ref a) (.ref b)
  | tp {n : Nat} {a b : Addr} {xs ys : List V} (h1 : SqT K H a xs) (h2 : SqT K H b ys) (hl : xs.length = ys.length) (h : ∀ (i : Nat) x y, xs[i]? = some x → ys[i]? = some y → Sm K H n x y) : Sm K H (n + 1) (.ref a) (.ref b)
section
variable {X : Cx} {pins : List (Addr × Obj)} {σ : St} {H : Hp} {s : Shared}
theorem sm_items {xs ys : List V} {us vs : List Value} {A : Around} (rx : Vals xs us) (ry : Vals ys vs)
    (h : ∀ (i : Nat) x y, xs[i]? = some x → ys[i]? = some y → ∀ u v, RelV x u → RelV y v → SeqAt.EqAt A s u v true) :
    ∀ j (h1 : j < us.toArray.size) (h2 : j < vs.toArray.size), SeqAt.EqAt A s us.toArray[j] vs.toArray[j] true := by
  intro j h1 h2
  have l1 := rx.length
  have l2 := ry.length
  have j1 : j < xs.length := by rw [l1]; simpa using h1
  have j2 : j < ys.length := by rw [l2]; simpa using h2
  obtain ⟨u, e1, r1⟩ := rx.get (List.getElem?_eq_getElem j1)
  obtain ⟨v, e2, r2⟩ := ry.get (List.getElem?_eq_getElem j2)
  have f1 : us.toArray[j] = u := by
    have q : us[j]? = some (us[j]'(by simpa using h1)) := List.getElem?_eq_getElem _
    rw [e1] at q
    simpa using (Option.some.inj q).symm
  have f2 : vs.toArray[j] = v := by
    have q : vs[j]? = some (vs[j]'(by simpa using h2)) := List.getElem?_eq_getElem _
    rw [e2] at q
    simpa using (Option.some.inj q).symm
  rw [f1, f2]
  exact h j _ _ (List.getElem?_eq_getElem j1) (List.getElem?_eq_getElem j2) u v r1 r2
theorem all_true {n : Nat} : ((List.range n).all fun _ => true) = true := by
  induction n with
  | zero => rfl
  | succ n ih => simp
theorem sm_at (I : Inv X pins σ H s) : ∀ {n : Nat} {x y : V} {u v : Value} {A : Around}, Sm X.K H n x y → RelV x u → RelV y v → A.units + n < cLine → SeqAt.EqAt A s u v true := by
  intro n x y u v A h
  induction h generalizing u v A with
  | rf x hf =>
    intro r1 r2 _
    cases x with
    | non => cases r1; cases r2; exact .same _
    | bl b => cases r1; cases r2; exact .same _
    | int i =>
      obtain ⟨t, rfl⟩ := r1
      obtain ⟨t', rfl⟩ := r2
      have q := SeqAt.EqAt.int_int (A := A) (s := s) i t i t'
      rw [beq_self_eq_true] at q
      exact q
    | str z =>
      obtain ⟨t, rfl⟩ := r1
      obtain ⟨t', rfl⟩ := r2
      have q := SeqAt.EqAt.str_str (A := A) (s := s) z t z t'
      rw [beq_self_eq_true] at q
      exact q
    | byt b =>
      obtain ⟨t, rfl⟩ := (show ∃ t, u = Value.bytes b t from r1)
      obtain ⟨t', rfl⟩ := (show ∃ t, v = Value.bytes b t from r2)
      exact fun prog w E Q h => PySem.W.eqBool_bytes (by simpa using h)
    | flt b => exact absurd rfl (hf b)
    | ref a => cases r1; cases r2; exact .same _
    | ty n => cases r1; cases r2; exact .same _
  | @ls n a b xs ys h1 h2 hl _ ih =>
    intro r1 r2 hu
    cases r1; cases r2
    by_cases e : a = b
    · rw [e]; exact .same _
    · obtain ⟨us, ru, ⟨o, m, ho, hc, _, hd⟩, _⟩ := I.list h1
      obtain ⟨vs, rv, ⟨o', m', ho', hc', _, hd'⟩, _⟩ := I.list h2
      have hs : us.toArray.size = vs.toArray.size := by simp only [List.size_toArray]; rw [← ru.length, ← rv.length, hl]
      refine .of_refs e ?_
      have q := SeqAt.RcAt.lists (A := A) (s := s) (e := fun _ => true) ⟨o, ho, hc, m, hd⟩ ⟨o', ho', hc', m', hd'⟩ hs (by omega) (sm_items (A := A.in1) ru rv fun i x y e1 e2 u v s1 s2 => ih i x y e1 e2 s1 s2 (by show A.units + 1 + n < cLine; omega))
      rw [all_true] at q
      exact q
  | @tp n a b xs ys h1 h2 hl _ ih =>
    intro r1 r2 hu
    cases r1; cases r2
    by_cases e : a = b
    · rw [e]; exact .same _
    · obtain ⟨us, ru, ⟨o, ho, hc, m, hd⟩, _⟩ := I.tuple h1
      obtain ⟨vs, rv, ⟨o', ho', hc', m', hd'⟩, _⟩ := I.tuple h2
      have hs : us.toArray.size = vs.toArray.size := by simp only [List.size_toArray]; rw [← ru.length, ← rv.length, hl]
      refine .of_refs e ?_
      have q := SeqAt.RcAt.tuples (A := A) (s := s) (e := fun _ => true) ⟨o, ho, hc, m, hd⟩ ⟨o', ho', hc', m', hd'⟩ (by omega) (sm_items (A := A.in1) ru rv fun i x y e1 e2 u v s1 s2 => ih i x y e1 e2 s1 s2 (by show A.units + 1 + n < cLine; omega))
      rw [all_true, hs, beq_self_eq_true] at q
      exact q
/-- what may stand on both sides of a comparison that is told equal -/
inductive SmT (K : PySem.W.Frag) (H : Hp) : V → V → Prop
  | sc (x : V) (h : scal x x = true) : SmT K H x x
  | ls {a b : Addr} {xs ys : List V} (h1 : SqL K H a xs) (h2 : SqL K H b ys) (hl : xs.length = ys.length) (h : ∀ (i : Nat) x y, xs[i]? = some x → ys[i]? = some y → Sm K H 60 x y) : SmT K H (.ref a) (.ref b)
  | tp {a b : Addr} {xs ys : List V} (h1 : SqT K H a xs) (h2 : SqT K H b ys) (hl : xs.length = ys.length) (h : ∀ (i : Nat) x y, xs[i]? = some x → ys[i]? = some y → Sm K H 60 x y) : SmT K H (.ref a) (.ref b)
  | dk {a b : Addr} {kvs : List (Key × V)} (h1 : H a = some (.dK kvs)) (h2 : H b = some (.dK kvs)) (nd : (kvs.map (·.1)).Nodup) (fl : ∀ p ∈ kvs, flatB p.2 = true) : SmT K H (.ref a) (.ref b)
theorem op_neS (hu : X.A.units + 64 < cLine) : OpR X (compareOp .NotEq) (fun x y H Q => SmT X.K H x y ∧ Q (.bl false) H) := by
  intro pins s σ H x y v u Q I rx ry ⟨h, q⟩
  cases h with
  | sc x h => exact op_ne pins s σ H x x v u Q I rx ry ⟨h, by rw [decide_eq_true rfl]; exact q⟩
  | ls h1 h2 hl h =>
    cases rx; cases ry
    obtain ⟨us, ru, ⟨o, m, ho, hc, _, hd⟩, _⟩ := I.list h1
    obtain ⟨vs, rv, ⟨o', m', ho', hc', _, hd'⟩, _⟩ := I.list h2
    have hs : us.toArray.size = vs.toArray.size := by simp only [List.size_toArray]; rw [← ru.length, ← rv.length, hl]
    have z := SeqAt.RcNeAt.lists (A := X.A) (s := s) (e := fun _ => true) ⟨o, ho, hc, m, hd⟩ ⟨o', ho', hc', m', hd'⟩ hs (by omega) (sm_items (A := X.A.in1) ru rv fun i x y e1 e2 u v s1 s2 => sm_at I (h i x y e1 e2) s1 s2 (by show X.A.units + 1 + 60 < cLine; omega))
    rw [all_true] at z
    exact z X.prog X.w _ _ ⟨.bl false, H, I, rfl, q⟩
  | tp h1 h2 hl h =>
    cases rx; cases ry
    obtain ⟨us, ru, ⟨o, ho, hc, m, hd⟩, _⟩ := I.tuple h1
    obtain ⟨vs, rv, ⟨o', ho', hc', m', hd'⟩, _⟩ := I.tuple h2
    have hs : us.toArray.size = vs.toArray.size := by simp only [List.size_toArray]; rw [← ru.length, ← rv.length, hl]
    have z := SeqAt.RcNeAt.tuples (A := X.A) (s := s) (e := fun _ => true) ⟨o, ho, hc, m, hd⟩ ⟨o', ho', hc', m', hd'⟩ (by omega) (sm_items (A := X.A.in1) ru rv fun i x y e1 e2 u v s1 s2 => sm_at I (h i x y e1 e2) s1 s2 (by show X.A.units + 1 + 60 < cLine; omega))
    rw [all_true, hs, beq_self_eq_true] at z
    exact z X.prog X.w _ _ ⟨.bl false, H, I, rfl, q⟩
  | @dk a b kvs h1 h2 nd fl =>
    cases rx; cases ry
    obtain ⟨_, ya, va, ra, da⟩ := (show ObjOk X.prog X.w H s.heap a (.dK kvs) from I.hok a _ h1)
    obtain ⟨_, yb, vb, rb, db⟩ := (show ObjOk X.prog X.w H s.heap b (.dK kvs) from I.hok b _ h2)
    have hl : va.length = vb.length := ra.length.symm.trans rb.length
    exact PySem.W.keq_ne (knd := mixKind X.prog X.w) (r := true) ya yb da db (by omega) (fun _ => hits_all rb ra fun p hp => ⟨val_nodup nd p hp, fl p hp⟩) (fin_bl I q (by simp [hl]))
theorem op_eqS (hu : X.A.units + 64 < cLine) : OpR X (compareOp .Eq) (fun x y H Q => SmT X.K H x y ∧ Q (.bl true) H) := by
  intro pins s σ H x y v u Q I rx ry ⟨h, q⟩
  cases h with
  | sc x h => exact op_eq pins s σ H x x v u Q I rx ry ⟨h, by rw [decide_eq_true rfl]; exact q⟩
  | ls h1 h2 hl h =>
    cases rx; cases ry
    obtain ⟨us, ru, ⟨o, m, ho, hc, _, hd⟩, _⟩ := I.list h1
    obtain ⟨vs, rv, ⟨o', m', ho', hc', _, hd'⟩, _⟩ := I.list h2
    have hs : us.toArray.size = vs.toArray.size := by simp only [List.size_toArray]; rw [← ru.length, ← rv.length, hl]
    have z := SeqAt.RcAt.lists (A := X.A) (s := s) (e := fun _ => true) ⟨o, ho, hc, m, hd⟩ ⟨o', ho', hc', m', hd'⟩ hs (by omega) (sm_items (A := X.A.in1) ru rv fun i x y e1 e2 u v s1 s2 => sm_at I (h i x y e1 e2) s1 s2 (by show X.A.units + 1 + 60 < cLine; omega))
    rw [all_true] at z
    exact z X.prog X.w _ _ ⟨.bl true, H, I, rfl, q⟩
  | tp h1 h2 hl h =>
    cases rx; cases ry
    obtain ⟨us, ru, ⟨o, ho, hc, m, hd⟩, _⟩ := I.tuple h1
    obtain ⟨vs, rv, ⟨o', ho', hc', m', hd'⟩, _⟩ := I.tuple h2
    have hs : us.toArray.size = vs.toArray.size := by simp only [List.size_toArray]; rw [← ru.length, ← rv.length, hl]
    have z := SeqAt.RcAt.tuples (A := X.A) (s := s) (e := fun _ => true) ⟨o, ho, hc, m, hd⟩ ⟨o', ho', hc', m', hd'⟩ (by omega) (sm_items (A := X.A.in1) ru rv fun i x y e1 e2 u v s1 s2 => sm_at I (h i x y e1 e2) s1 s2 (by show X.A.units + 1 + 60 < cLine; omega))
    rw [all_true, hs, beq_self_eq_true] at z
    exact z X.prog X.w _ _ ⟨.bl true, H, I, rfl, q⟩
  | @dk a b kvs h1 h2 nd fl =>
    exact op_eq_dict (by omega) pins s σ H _ _ v u Q I rx ry ⟨a, b, kvs, rfl, rfl, h1, h2, nd, fl, q⟩
/-- isinstance(e, c), e an error that is held as a value -/
def rIsErr (K : PySem.W.Frag) : List V → Hp → VK → Prop := fun xs H Q => ∃ (a C : Addr) (d : Option Addr) (fs : List (Str × V)) (c : V) (u : Value) (b : Bool), xs = [.ref a, c] ∧ H a = some (exo a C d) ∧ (∀ dd, d = some dd → H dd = some (exd dd fs)) ∧ ExcC K C ∧ ClsV c u ∧ PySem.W.kitOne K (.ref C) u = some b ∧ Q (.bl b) H
theorem call_isErr : CallR X (.builtin "isinstance") (rIsErr X.K) := by
  intro pins s σ H xs us Q I r h
  obtain ⟨a, C, d, fs, c, u, b, rfl, ea, ed, T, k, e, q⟩ := h
  obtain ⟨u1, u2, rfl, r1, r2⟩ := vals2 r
  have e2 := k.eq r2
  subst e2
  cases r1
  obtain ⟨t1, ha⟩ := exo_at I.hok ea
  have hcl : (PySem.W.clsIn X.K C).isSome = true := by
    obtain ⟨cd, hc, _⟩ := PySem.W.any_some T.hd
    rw [hc]
    rfl
  cases d with
  | none => exact PySem.W.kia_one (PySem.W.kitx_exc (od := none) hcl T.hg T.hk T.hs T.ha T.hn T.ht T.hm) I.kIn (show PySem.W.InstAt s.heap a _ C none from ⟨ha, rfl, rfl, trivial⟩) e (fun z => nomatch z) fun tk => ⟨.bl b, H, I.tok tk, rfl, q⟩
  | some dd =>
    obtain ⟨mA, ⟨od, es, ep, ho, hr⟩, _⟩ := exd_at I.hok (ed dd rfl)
    exact PySem.W.kia_one (PySem.W.kitx_exc (od := some od) hcl T.hg T.hk T.hs T.ha T.hn T.ht T.hm) I.kIn (show PySem.W.InstAt s.heap a _ C (some od) from ⟨ha, rfl, rfl, ho⟩) e (fun z => nomatch z) fun tk => ⟨.bl b, H, I.tok tk, rfl, q⟩
end
end L2

set_option Elab.async false
set_option linter.all false
set_option maxRecDepth 100000
set_option maxHeartbeats 4000000
namespace T86
open PySem L2
def top (i : Nat) : Stmt := PySem.Challenge.pw_turnindex_k86_whole_balanced_rings.main.body.getD i (.Pass ⟨0, 0, 0, 0⟩)
abbrev sWell : Stmt := top 21
abbrev sDraw : Stmt := top 22
abbrev sOne : Stmt := top 23
/-- a well of draws: its own digits left, its number, how often it was asked -/
def WellAt (H : Hp) (a : Addr) (n : Int) : Prop := ∃ w0 w1 w2 : Int, H a = some (.lst [.int w0, .int w1, .int w2]) ∧ 0 ≤ w1 ∧ w1 < 2147483647 ∧ 0 ≤ w2 ∧ w2 ≤ n
def KeepB (a : Addr) (H H' : Hp) : Prop := ∀ b o, H b = some o → b ≠ a → H' b = some o
def spWell : Sp := fun vs H Q _ => ∃ c : Int, vs = [.int c] ∧ ∀ p H', H p = none → WellAt H' p 0 → Same H H' → Q (.ref p) H'
def spDraw : Sp := fun vs H Q _ => ∃ (a : Addr) (m n : Int), vs = [.ref a, .int m] ∧ WellAt H a n ∧ n ≤ 1000000 ∧ 0 < m ∧ m ≤ 100000000000000000000 ∧ ∀ (d : Int) H', 0 ≤ d → d < m → WellAt H' a (n + 1) → KeepB a H H' → Q (.int d) H'
structure TxtD (K : PySem.W.Frag) (mg : Str → Option Value) : Prop where
  int : mg "int" = none
  len : mg "len" = none
section
variable {P : Program} {w : World} {K : PySem.W.Frag} {mg : Str → Option Value} {base : Heap}
theorem scWell : FnScope ["_law_cell"] ["_law_cell"] (defScope sWell) := ⟨rfl, rfl, rfl, by decide +kernel, rfl, by decide +kernel, by decide +kernel⟩
theorem ok_well {f : Addr} {fd : FuncData} (F : Fun K "_law_well" "_law_well" sWell f fd) (T : TxtD K mg) : FnOk P w K mg base CX0 1 f fd ["_law_cell"] spWell := by
  refine F.ok scWell (fun vs H Q E h => ?_) (fun cdv A outer s H vs Q E hr h => ?_)
  · obtain ⟨c, rfl, _⟩ := h
    rfl
  · obtain ⟨c, rfl, k⟩ := h
    refine ⟨_, pss_one (ps_ret (pe_lst (pa_cons (pe_op op_mul (pv 0) (pe_callTy call_int1 (by rfl) T.int (by decide +kernel) (pa_cons (pe_cmpR op_ge (pv 0) (pe_op op_pow pe_int pe_int) (nomark _)) pa_nil)))
      (pa_cons (pe_op op_mod (pe_callTy call_int1 (by rfl) T.int (by decide +kernel) (pa_cons (pv 0) pa_nil)) pe_int) (pa_cons pe_int pa_nil))))), ?_⟩
    refine ⟨_, rfl, _, rfl, _, _, rfl, rfl, ⟨by decide, by decide, by decide⟩, _, _, rfl, rfl, .inr ⟨_, rfl, _, _, rfl, rfl, .inr ?_, ?_⟩⟩
    · by_cases h : (10 : Int) ^ (18 : Int).toNat ≤ c
      · rw [decide_eq_true h]; decide
      · rw [decide_eq_false h]; decide
    refine ⟨_, rfl, .inl ⟨_, rfl, _, _, rfl, rfl, (by show (0 : Int) < 2147483629; decide), (by show 3 ≤ sizeLine; decide), fun p hp => ?_⟩⟩
    refine k p _ hp ⟨_, _, _, upd_same, Int.emod_nonneg _ (by decide), Int.lt_trans (Int.emod_lt_of_pos _ (by decide)) (by decide : (2147483629 : Int) < 2147483647), by decide, by decide⟩ fun b o e => ?_
    rw [upd_ne (ne_of_none e hp)]
    exact e
theorem scDraw : FnScope ["_law_well_here", "_law_many", "_law_digit", "_law_number"] ["_law_well_here", "_law_many"] (defScope sDraw) := ⟨rfl, rfl, rfl, by decide +kernel, rfl, by decide +kernel, by decide +kernel⟩
theorem ok_draw {f : Addr} {fd : FuncData} (F : Fun K "_law_draw" "_law_draw" sDraw f fd) (T : TxtD K mg) : FnOk P w K mg base CX0 1 f fd ["_law_well_here", "_law_many"] spDraw := by
  refine F.ok scDraw (fun vs H Q E h => ?_) (fun cdv A outer s H vs Q E hr h => ?_)
  · obtain ⟨a, m, n, rfl, _⟩ := h
    rfl
  · obtain ⟨a, m, n, rfl, ⟨w0, w1, w2, ha, h1, h2, h3, h4⟩, hn, hm, hm2, k⟩ := h
    have nd := scDraw.nd
    refine ⟨_, (pss_cons (ps_if (pt_cmpR op_gt (pe_ix ix_list (pv 0) pe_int (fun _ _ => rfl)) pe_int (nomark _)) (pss_cons (ps_set (i := 2) nd rfl (Or.inl rfl) (pe_op op_mod (pe_callTy call_int1 (by rfl) T.int (by decide +kernel) (pa_cons (pe_ix ix_list (pv 0) pe_int (fun _ _ => rfl)) pa_nil)) (pv 1)))
      (pss_cons (ps_asg (pe_op op_fdivW (pe_ix ix_list (pv 0) pe_int (fun _ _ => rfl)) (pv 1)) (pg_sub (pv 0) pe_int set_list))
      (pss_one (ps_ret (pv 2))))) pss_nil)
      (pss_cons (ps_asg (pe_op op_add (pe_ix ix_list (pv 0) pe_int (fun _ _ => rfl)) pe_int) (pg_sub (pv 0) pe_int set_list))
      (pss_cons (ps_set (i := 3) nd rfl (Or.inl rfl) (pe_op op_mod (pe_callTy call_int1 (by rfl) T.int (by decide +kernel) (pa_cons (pe_op op_pow (pe_op op_add (pe_op op_add (pe_ix ix_list (pv 0) pe_int (fun _ _ => rfl)) (pe_op op_mul pe_int (pe_ix ix_list (pv 0) pe_int (fun _ _ => rfl)))) pe_int) pe_int) pa_nil)) pe_int))
      (pss_cons (ps_set (i := 3) nd rfl (Or.inl rfl) (pe_op op_mod (pe_callTy call_int1 (by rfl) T.int (by decide +kernel) (pa_cons (pe_op op_add (pe_op op_mul (pv 3) (pe_op op_add (pe_op op_fdiv (pv 3) pe_int) pe_int)) (pe_ix ix_list (pv 0) pe_int (fun _ _ => rfl))) pa_nil)) pe_int))
      (pss_one (ps_ret (pe_op op_mod (pe_callTy call_int1 (by rfl) T.int (by decide +kernel) (pa_cons (pe_op op_fdiv (pe_op op_mod (pe_callTy call_int1 (by rfl) T.int (by decide +kernel) (pa_cons (pe_op op_mul (pv 3) (pe_op op_add (pe_op op_fdiv (pv 3) pe_int) pe_int)) pa_nil)) pe_int) pe_int) pa_nil)) (pv 1)))))))), ?_⟩
    refine ⟨_, rfl, a, _, 0, _, rfl, rfl, .of ha, rfl, _, _, rfl, rfl, _, rfl, ?_⟩
    refine ite2 (fun h0 => ?_) (fun h0 => ?_)
    · refine ⟨_, rfl, a, _, 0, _, rfl, rfl, .of ha, rfl, .inl ⟨_, rfl, _, rfl, _, _, rfl, rfl, hm, ?_⟩⟩
      refine ⟨_, rfl, a, _, 0, _, rfl, rfl, .of ha, rfl, _, rfl, _, _, rfl, rfl, (wide_div (b := 70) hm (by omega) (by decide) (by decide)), _, rfl, a, _, 0, 0, rfl, rfl, ha, rfl, _, rfl, ?_⟩
      refine k _ _ (Int.emod_nonneg _ (by omega)) (Int.emod_lt_of_pos _ hm) ⟨_, _, _, upd_same, h1, h2, h3, by omega⟩ fun b o e n => ?_
      rw [upd_ne n]
      exact e
    · refine ⟨_, rfl, a, _, 2, _, rfl, rfl, .of ha, rfl, _, _, rfl, rfl, _, rfl, a, _, 2, 2, rfl, rfl, ha, rfl, ?_⟩
      obtain ⟨H1, e1, ha1, kb⟩ : ∃ H1, upd H a (.lst ([V.int w0, V.int w1, V.int w2].set 2 (V.int (w2 + 1)))) = H1 ∧ H1 a = some (.lst [.int w0, .int w1, .int (w2 + 1)]) ∧ KeepB a H H1 := ⟨_, rfl, upd_same, fun b o e n => by rw [upd_ne n]; exact e⟩
      simp only [e1]
      refine ⟨_, rfl, a, _, 1, _, rfl, rfl, .of ha1, rfl, _, rfl, a, _, 2, _, rfl, rfl, .of ha1, rfl, _, _, rfl, rfl, .inl ⟨by decide, by decide⟩, ?_⟩
      refine ⟨_, _, rfl, rfl, _, _, rfl, rfl, _, _, rfl, rfl, ⟨by decide, by decide, by omega⟩, .inl ⟨_, rfl, _, _, rfl, rfl, (by show (0 : Int) < 2147483647; decide), ?_⟩⟩
      have g0 := Int.emod_nonneg ((w1 + 6991 * (w2 + 1) + 3) ^ (5 : Int).toNat) (show (2147483647 : Int) ≠ 0 by decide)
      have g1 := Int.emod_lt_of_pos ((w1 + 6991 * (w2 + 1) + 3) ^ (5 : Int).toNat) (show (0 : Int) < 2147483647 by decide)
      obtain ⟨r, hr0⟩ : ∃ r, (w1 + 6991 * (w2 + 1) + 3) ^ (5 : Int).toNat % 2147483647 = r := ⟨_, rfl⟩
      show tSeq _ _ _ (List.set _ 3 (some (V.int ((w1 + 6991 * (w2 + 1) + 3) ^ (5 : Int).toNat % 2147483647)))) H1
      rw [hr0] at g0 g1 ⊢
      refine ⟨_, rfl, _, rfl, _, _, rfl, rfl, ⟨by decide, by decide⟩, _, _, rfl, rfl, _, _, rfl, rfl, .inl ⟨by omega, by omega⟩, ?_⟩
      refine ⟨_, rfl, a, _, 2, _, rfl, rfl, .of ha1, rfl, _, _, rfl, rfl, .inl ⟨_, rfl, _, _, rfl, rfl, (by show (0 : Int) < 2147483587; decide), ?_⟩⟩
      have g2 := Int.emod_nonneg (r * (r / 1013 + 48611) + (w2 + 1)) (show (2147483587 : Int) ≠ 0 by decide)
      have g3 := Int.emod_lt_of_pos (r * (r / 1013 + 48611) + (w2 + 1)) (show (0 : Int) < 2147483587 by decide)
      refine ⟨_, rfl, _, rfl, _, _, rfl, rfl, ⟨by decide, by decide⟩, _, _, rfl, rfl, _, _, rfl, rfl, .inl ⟨by omega, by omega⟩, .inl ⟨_, rfl, _, _, rfl, rfl, (by show (0 : Int) < 2147483563; decide), _, _, rfl, rfl, ⟨by decide, by decide⟩, .inl ⟨_, rfl, _, rfl, _, _, rfl, rfl, hm, ?_⟩⟩⟩
      exact k _ _ (Int.emod_nonneg _ (by omega)) (Int.emod_lt_of_pos _ hm) ⟨_, _, _, ha1, h1, h2, by omega, by omega⟩ kb

/-- one of a list of things -/
def spOne : Sp := fun vs H Q _ => ∃ (a l : Addr) (n : Int) (xs : List V), vs = [.ref a, .ref l] ∧ WellAt H a n ∧ n ≤ 1000000 ∧ H l = some (.lst xs) ∧ l ≠ a ∧ 0 < xs.length ∧ xs.length ≤ 1000 ∧ ∀ (x : V) H', x ∈ xs → WellAt H' a (n + 1) → KeepB a H H' → Q x H'
theorem scOne : FnScope ["_law_well_here", "_law_some"] ["_law_well_here", "_law_some"] (defScope sOne) := ⟨rfl, rfl, rfl, by decide +kernel, rfl, by decide +kernel, by decide +kernel⟩
theorem ok_one {f fD : Addr} {fd fdD : FuncData} (F : Fun K "_law_one" "_law_one" sOne f fd) (T : TxtD K mg) (FD : Fun K "_law_draw" "_law_draw" sDraw fD fdD) (gD : mg "_law_draw" = some (.ref fD)) (bD : Binds K fdD ["_law_well_here", "_law_many"] []) :
    FnOk P w K mg base CX0 2 f fd ["_law_well_here", "_law_some"] spOne := by
  have GD : FnOk P w K mg base CX0 1 fD fdD ["_law_well_here", "_law_many"] spDraw := ok_draw FD T
  refine F.ok scOne (fun vs H Q E h => ?_) (fun cdv A outer s H vs Q E hr h => ?_)
  · obtain ⟨a, l, n, xs, rfl, _⟩ := h
    rfl
  · obtain ⟨a, l, n, xs, rfl, hw, hn, hl, hla, h1, h2, k⟩ := h
    refine ⟨_, pss_one (ps_ret (pe_ix ix_list (pv 1) (pe_call GD hr rfl gD FD.kp bD .nil pass0 (pa_cons (pv 0) (pa_cons (pe_callB call_len_seq (by rfl) T.len PySem.boot_len (pa_cons (pv 1) pa_nil)) pa_nil))) (fun _ _ => rfl))), ?_⟩
    refine ⟨_, rfl, _, rfl, _, rfl, l, xs, rfl, .inl (.of hl), a, _, n, rfl, hw, hn, by omega, by omega, fun d H' hd hd2 hw' hk => ?_⟩
    obtain ⟨j, rfl⟩ : ∃ j : Nat, d = (j : Int) := ⟨d.toNat, by omega⟩
    have hj : j < xs.length := by omega
    refine ⟨l, xs, _, xs[j], rfl, rfl, .of (hk l _ hl hla), atI_nat (List.getElem?_eq_getElem hj), ?_⟩
    exact k _ _ (List.getElem_mem hj) hw' hk
end
end T86

set_option Elab.async false
set_option linter.all false
set_option maxRecDepth 100000
set_option maxHeartbeats 4000000
namespace L2
open PySem EK
theorem alloc {H : Hp} {p : Addr} {o : HO} (hp : H p = none) : ∃ H1, upd H p o = H1 ∧ Same H H1 ∧ H1 p = some o :=
  ⟨_, rfl, fun b u e => by rw [upd_ne (ne_of_none e hp)]; exact e, upd_same⟩
/-- an error of the class at C stands at a, its one value v -/
def ErrAt (H : Hp) (a d C : Addr) (f : Str) (v : V) : Prop := H a = some (exo a C (some d)) ∧ H d = some (exd d [(f, v)])
theorem ErrAt.keep {H H' : Hp} {a d C : Addr} {f : Str} {v : V} (e : ErrAt H a d C f v) (s : Same H H') : ErrAt H' a d C f v := ⟨s _ _ e.1, s _ _ e.2⟩
theorem alloc_err {H : Hp} {a d C : Addr} {f : Str} {v : V} (ha : H a = none) (hd : H d = none) (hne : d ≠ a) : ∃ H1, upd (upd H d (exd d [(f, v)])) a (exo a C (some d)) = H1 ∧ Same H H1 ∧ ErrAt H1 a d C f v :=
  ⟨_, rfl, fun b u e => by rw [upd_ne (ne_of_none e ha), upd_ne (ne_of_none e hd)]; exact e, upd_same, by rw [upd_ne hne, upd_same]⟩
theorem look1 (f : Str) (v : V) : List.lookup f [(f, v)] = some v := by rw [lookup_put, if_pos rfl]
theorem _root_.EK.ErrTxt.xf {P : Program} {K : PySem.W.Frag} {mg : Str → Option Value} {x f : Str} {C fI : Addr} (T : ErrTxt P K mg x f C fI) : XfC K C := ⟨T.ga, T.gg, T.exC, T.hdC⟩
end L2

set_option Elab.async false
set_option linter.all false
set_option maxRecDepth 100000
set_option maxHeartbeats 4000000
/-! RaiseKit: an error raised; several clauses, with and without names; what a lambda handed over says. -/
namespace L2
open PySem PySem.Spec PyProof.Rows EK
section
variable {X : Cx} {C fI : Addr} {x f : Str}
/-- x(e), made to be raised: its own dict, new, holds the value -/
def tErrMk (C : Addr) (f : Str) (ta : TA) : St → Hp → XK → Prop := fun σ H Q => ta σ H fun vs H1 => ∃ v, vs = [v] ∧ ∀ d, H1 d = none → Q (.ref C) (some d) (upd H1 d (.xd [(f, v)]))
theorem pmk_err {a : Expr} {ta : TA} {p pos : Pos} {k : Nat} (T : ErrTxt X.prog X.K X.mg x f C fI) (hr : Room k X.A) (ha : PA X [a] ta) (hg : Gl X x) (hd : (x == ("__debug__" : Str)) = false := by decide)
    (he : starEach (a :: []) X.env = (false, eval a X.env) :: starEach [] X.env := by rfl) (hpl : (backTo pos (starEach [] X.env)).any (·.1) = false := by rfl) :
    PMk X (.Call (.Name x p) [a] [] pos) (tErrMk C f ta) := by
  intro pins s σ H Q I h
  refine wpAny_Call_Name_kw (ld_glob I hg T.gC ?_ hd)
  refine PySem.W.callWith_K (h₀ := X.base) I.ok.mod.kin T.kC (thn (ha.run pos pins s σ H _ I h) fun us s1 hh => ?_) he hpl
  obtain ⟨vs, H1, I1, r1, v, ev, q1⟩ := hh
  subst ev
  refine ⟨I1.kIn, ?_⟩
  cases r1 with
  | cons rv rn =>
    rename_i v' us'
    cases rn
    show wpAny _ _ (call (.ref C) [v']) _ _ _
    have hlim := I1.nolimit
    obtain ⟨hp, g, dr, tk, os⟩ := s1
    obtain ⟨mb, hb1, hb2⟩ := I1.mod.blt
    refine wpAny_call (err_made T I1.kIn hlim (I1.mod.glob.keeps I1.bk) ⟨mb, hb1.keeps I1.bk, hb2⟩ (by have := hr.dp; omega) fun h' tk' e d M => ?_)
    show MkP X pins σ Q (.ref e) ⟨h', g, dr, tk', os⟩
    obtain ⟨t1, hoe⟩ := M.obj
    obtain ⟨G, g1, g2⟩ := restrict h' fun b => decide (b ≠ e)
    have gk : ∀ b, b ≠ e → G.get? b = h'.get? b := fun b hb => g1 b (decide_eq_true hb)
    have ge : G.get? e = none := g2 e (by simp)
    have gs : ∀ b o, G.get? b = some o → h'.get? b = some o := fun b o q => by
      by_cases hbe : b = e
      · rw [hbe, ge] at q
        cases q
      · exact (gk b hbe).symm.trans q
    have old : ∀ b o, hp.get? b = some o → G.get? b = some o := fun b o q => (gk b (Nat.ne_of_lt (Nat.lt_of_lt_of_le (Heap.lt_size q) M.new))).trans (M.keep b o q)
    have ob : ObjOk X.prog X.w (upd H1 d (.xd [(f, v)])) G d (.xd [(f, v)]) := ⟨_, M.ns.at (fun o q => (gk d M.dne).trans q), relO_one rv⟩
    have J : Inv X pins σ (upd H1 d (.xd [(f, v)])) ⟨G, g, dr, tk', os⟩ := I1.laid (t' := tk') old M.dbig ob
    have ne : (upd H1 d (.xd [(f, v)])) e = none := by
      rw [upd_ne (Ne.symm M.dne)]
      exact I1.hok.fresh M.new
    exact ⟨e, _, _, ⟨G, g, dr, tk', os⟩, _, .ref C, some d, rfl, J, gs, ge, hoe, ⟨rfl, rfl⟩, rfl, rfl, ne, rfl, I1.bare, raises_own T.exC T.tyC, q1 d (I1.hok.fresh M.dbig)⟩
theorem ps_raiseErr {a : Expr} {ta : TA} {W : WX} {p pos pos2 : Pos} {k : Nat} (hc : X.calm = true) (T : ErrTxt X.prog X.K X.mg x f C fI) (hr : Room k X.A) (tk : Takes X W) (ha : PA X [a] ta) (hg : Gl X x) (hd : (x == ("__debug__" : Str)) = false := by decide)
    (he : starEach (a :: []) X.env = (false, eval a X.env) :: starEach [] X.env := by rfl) (hpl : (backTo pos (starEach [] X.env)).any (·.1) = false := by rfl) :
    PS X (.Raise (some (.Call (.Name x p) [a] [] pos)) none pos2) (fun _ σ H => tErrMk C f ta σ H fun cls d H' => W cls d σ H') := ps_raise hc tk (pmk_err T hr ha hg hd he hpl)
end
/-! ### try with several clauses -/
structure Cl where
  c : Value
  i : Option Nat
  ts : Addr → Value → Option Addr → TS
def Ends.drop (D : Ends) (i : Nat) : Ends := { nx := fun s h => D.nx (s.set i none) h, rt := D.rt, bk := fun s h => D.bk (s.set i none) h, ct := fun s h => D.ct (s.set i none) h }
def Cl.run (k : Cl) (a : Addr) (cls : Value) (d : Option Addr) : TS := fun D σ H => match k.i with
  | none => k.ts a cls d D σ H
  | some i => i < σ.length → k.ts a cls d (D.drop i) (σ.set i (some (.ref a))) H
def wCl (K : PySem.W.Frag) (Wout : WX) (D : Ends) : List Cl → WX
  | [] => Wout
  | k :: r => fun cls d σ H => ∃ b, PySem.W.exmOne K cls k.c = some b ∧ (b = true → ∀ a, H a = none → k.run a cls d D σ H) ∧ (b = false → wCl K Wout D r cls d σ H)
inductive ClOk (X : Cx) : List ExceptHandler → List Cl → Prop
  | nil : ClOk X [] []
  | un {x : Str} {c : Value} {ts : Addr → Value → Option Addr → TS} {b1 : Stmt} {suite : List Stmt} {np pos' : Pos} {hds : List ExceptHandler} {l : List Cl} (hc : Names X x c)
      (hsu : ∀ (a : Addr) (oe : Obj) (cls : Value) (d : Option Addr) (pn : List (Addr × Obj)), Zc cls d oe → (∃ vs, oe.data = .fields vs) → PSs (X.suite a ((a, oe) :: pn)) (b1 :: suite) (ts a cls d)) (r : ClOk X hds l) :
      ClOk X (.ExceptHandler (some (.Name x np)) none (b1 :: suite) pos' :: hds) (⟨c, none, ts⟩ :: l)
  | as {x n : Str} {i : Nat} {c : Value} {ts : Addr → Value → Option Addr → TS} {b1 : Stmt} {suite : List Stmt} {np pos' : Pos} {hds : List ExceptHandler} {l : List Cl} (hi : X.N[i]? = some n) (hln : X.env.kindOf n = some .local) (hc : Names X x c)
      (hsu : ∀ (a : Addr) (oe : Obj) (cls : Value) (d : Option Addr) (pn : List (Addr × Obj)), Zc cls d oe → (∃ vs, oe.data = .fields vs) → PSs (X.suite a ((a, oe) :: pn)) (b1 :: suite) (ts a cls d)) (r : ClOk X hds l) :
      ClOk X (.ExceptHandler (some (.Name x np)) (some n) (b1 :: suite) pos' :: hds) (⟨c, some i, ts⟩ :: l)
section
variable {X : Cx} {body : List Stmt} {hd0 : ExceptHandler} {hds : List ExceptHandler} {l : List Cl} {pos : Pos} {tb : WX → TS} {Wout : WX} {pins : List (Addr × Obj)} {s : Shared} {D : Ends}
/-- behind a suite: its end, the name gone -/
theorem sp_unsuite {a : Addr} {q : Addr × Obj} {f : Flow} (ok : X.Ok) (h : SP (X.suite a (q :: (X.pn ++ pins))) [] D f s) : SP X pins D f s := by
  cases f with
  | next =>
    obtain ⟨t, h1, J, z⟩ := h
    exact ⟨t, h1, J.unsuite ok, z⟩
  | brk =>
    obtain ⟨t, h1, J, z⟩ := h
    exact ⟨t, h1, J.unsuite ok, z⟩
  | cont =>
    obtain ⟨t, h1, J, z⟩ := h
    exact ⟨t, h1, J.unsuite ok, z⟩
  | ret u =>
    obtain ⟨v, t, h1, J, r, z⟩ := h
    exact ⟨v, t, h1, J.unsuite ok, r, z⟩
theorem sp_gone {n : Str} {i : Nat} {f : Flow} {pos' : Pos} (hN : X.N.Nodup) (hi : X.N[i]? = some n) (hln : X.env.kindOf n = some .local) (h : SP X pins (D.drop i) f s) :
    wpAny (model X.prog X.w) X.A (do bindName X.env n .none; unbindBehindTheSuite X.env n pos') (fun _ s7 => SP X pins D f s7) X.xe s := by
  cases f with
  | next =>
    obtain ⟨t, h1, J, z⟩ := h
    exact gone_ok J hN hi hln fun s7 J7 => ⟨_, _, J7, z⟩
  | brk =>
    obtain ⟨t, h1, J, z⟩ := h
    exact gone_ok J hN hi hln fun s7 J7 => ⟨_, _, J7, z⟩
  | cont =>
    obtain ⟨t, h1, J, z⟩ := h
    exact gone_ok J hN hi hln fun s7 J7 => ⟨_, _, J7, z⟩
  | ret u =>
    obtain ⟨v, t, h1, J, r, z⟩ := h
    exact gone_ok J hN hi hln fun s7 J7 => ⟨_, _, _, J7, r, z⟩
theorem names_ld {a : Addr} {oe : Obj} {pn : List (Addr × Obj)} {σ : St} {H : Hp} {x : Str} {c : Value} {np : Pos} (S : Inv (X.suite a ((a, oe) :: pn)) [] σ H s) (hc : Names X x c) {Q : Value → Shared → Prop} {E : Value → Shared → Prop} (q : Q c s) :
    wpAny (model X.prog X.w) (X.A.mark (some (.ref a))) (eval (.Name x np) X.env) Q E s := by
  obtain ⟨h1, h2, h3⟩ := hc
  rcases h3 with h3 | ⟨h3, h4, h5⟩
  · exact ld_glob (X := X.suite a ((a, oe) :: pn)) S h1 h3 q h2
  · exact ld_blt (X := X.suite a ((a, oe) :: pn)) S h1 h3 h4 q h5 h2
theorem ps_tryC (hs : X.stack = X.env :: X.outer) (hf : X.env.frame = some X.env.locals) (hN : X.N.Nodup) (tk : Takes X Wout)
    (hb : ∀ (W : WX) (pn : List (Addr × Obj)) (xe : Value → Shared → Prop), Takes (X.tr pn xe) W → PassesOwn (model X.prog X.w) X.A X.env xe → PSs (X.tr pn xe) body (tb W))
    (hh : ClOk X (hd0 :: hds) l) : PS X (.Try body (hd0 :: hds) [] [] pos) (fun D σ H => tb (wCl X.K Wout D l) D σ H) := by
  refine ⟨fun pins s σ H D I h => ?_⟩
  have ok := I.ok
  have hfr : X.A.frames = some (X.env :: X.outer) := ok.frames.trans (congrArg some hs)
  refine wpAny_Try_except (wpAny_mono ((hb (wCl X.K Wout D l) (X.pn ++ pins) _ (fun u s' xx => ?_) PassesOwn.looking).run [] s σ H D (I.toTry _) h) (fun fl s1 hsp => ?_) fun e s1 he => he)
  · -- an exception has come
    obtain ⟨a, B, sI, pins', σ', H', cls, d, rfl, J0, nb, up, sky, na, os, ag, w⟩ := xx
    have J : Inv X pins σ' H' sI := J0.ofTry ok
    rw [hs] at sky
    show wpAny (model X.prog X.w) X.A (noteFrame (.ref a) X.env) _ _ _
    refine Sky.land Zc.steady hfr hf sky fun h3 fl3 up3 => ?_
    have J3 : Inv X pins σ' H' { s' with heap := h3 } := J.landed nb fl3.1 (up.trans up3) os ag
    obtain ⟨oe3, vs3, he3, hz3, hd3⟩ := fl3.there
    have ff := fl3.2.2.1
    have away : ∀ b ∈ frs (X.env :: X.outer), a ≠ b := fun b hm z => by
      obtain ⟨_, o', e', hnf⟩ := ff.mem hm
      rw [← z, he3] at e'
      cases e'
      exact hnf _ hd3
    have nL : a ≠ X.env.locals := away _ (List.mem_filterMap.mpr ⟨X.env, List.mem_cons_self, hf⟩)
    have nF : a ∉ X.fs := fun hm => by
      obtain ⟨e, he, q⟩ := List.mem_filterMap.mp hm
      exact away a (List.mem_filterMap.mpr ⟨e, List.mem_cons_of_mem _ he, q⟩) rfl
    have S3 := J3.suite he3 hd3 na nL nF
    have LT : PySem.W.Looks (model X.prog X.w) h3 (typeOf (.ref a)) cls := fun A Q E s k q => wpAny_typeOf_ref (k _ _ he3) (by rw [hz3.1]; exact q)
    have test : ∀ {x : Str} {c : Value} {np : Pos}, Names X x c → ∀ {Q : Value → Shared → Prop} {E : Value → Shared → Prop}, Q c { s' with heap := h3 } → wpAny (model X.prog X.w) (X.A.mark (some (.ref a))) (eval (.Name x np) X.env) Q E { s' with heap := h3 } := fun hc => names_ld S3 hc
    have go : ∀ {hs2 : List ExceptHandler} {l2 : List Cl}, ClOk X hs2 l2 → wCl X.K Wout D l2 cls d σ' H' →
        wpAny (model X.prog X.w) X.A (handleBy (.ref a) X.env hs2) (SP X pins D) X.xe { s' with heap := h3 } := by
      intro hs2 l2 hk
      induction hk with
      | nil =>
        intro w
        refine wpAny_handleBy_nil ?_
        obtain ⟨_, _, _, oe, vs, T, oT, ts', he, hz, hd, h1, hr⟩ := id fl3
        unfold PySem.passOn
        refine wpAny_bind (wpAny_field he hd h1 ?_)
        rw [if_neg (show ¬ ((Value.ref T == Value.none) = true) from by simp)]
        have fin : wpAny (model X.prog X.w) X.A (setFlight (.ref a) X.env.frame) (fun _ s4 => wpAny (model X.prog X.w) X.A (throw (.ref a) : Sem Flow) (SP X pins D) X.xe s4) X.xe { s' with heap := h3 } := by
          rw [hf]
          exact HandSPX.setFlight_upZ fl3 fun h4 hh4 up4 => wpAny_throw (tk _ _ ⟨a, B, sI, pins, σ', H', cls, d, rfl, J, nb, (up.trans up3).trans up4, .inr (.inr (by rw [hs]; exact hh4)), na, os, ag, w⟩)
        first
          | exact wpAny_bind (wpAny_pure (wpAny_bind fin))
          | exact wpAny_bind fin
      | @un x c ts b1 suite np pos' hds2 l2 hc hsu r ih =>
        intro ⟨b, hb1, hyes, hno⟩
        refine wpAny_handleBy_cons (codeAny_handlers_test (test hc ((PySem.W.exm_one (M := model X.prog X.w) J3.kIn LT hb1).here ?_))) (by intro q; cases q)
        cases b with
        | false => exact ih (hno rfl)
        | true =>
          refine codeAny_handlers_suite (HandSPX.lands_againZ fl3 fun h4 fl4 up4 => ?_)
          have J4 : Inv X pins σ' H' { s' with heap := h4 } := J.landed nb fl4.1 ((up.trans up3).trans up4) os ag
          obtain ⟨oe4, vs4, he4, hz4, hd4⟩ := fl4.there
          exact wpAny_mono ((hsu a oe4 cls d (X.pn ++ pins) hz4 ⟨_, hd4⟩).run [] _ _ H' _ (J4.suite he4 hd4 na nL nF) (hyes rfl a na)) (fun f s6 hsp => sp_unsuite ok hsp) (fun _ _ z => False.elim z)
      | @as x n i c ts b1 suite np pos' hds2 l2 hi hln hc hsu r ih =>
        intro ⟨b, hb1, hyes, hno⟩
        refine wpAny_handleBy_cons (codeAny_handlers_test (test hc ((PySem.W.exm_one (M := model X.prog X.w) J3.kIn LT hb1).here ?_))) (by intro q; cases q)
        cases b with
        | false => exact ih (hno rfl)
        | true =>
          refine codeAny_handlers_suite_as (HandSPX.lands_againZ fl3 fun h4 fl4 up4 => ?_)
          have J4 : Inv X pins σ' H' { s' with heap := h4 } := J.landed nb fl4.1 ((up.trans up3).trans up4) os ag
          obtain ⟨oe4, vs4, he4, hz4, hd4⟩ := fl4.there
          refine store_ok (X := X.suite a ((a, oe4) :: (X.pn ++ pins))) (v := .ref a) (J4.suite he4 hd4 na nL nF) hN hi (.inl hln) rfl (fun s5 S5 => ?_) (.inr hln)
          have hil : i < σ'.length := by rw [J.len]; exact (List.getElem?_eq_some_iff.mp hi).1
          exact wpAny_mono ((hsu a oe4 cls d (X.pn ++ pins) hz4 ⟨_, hd4⟩).run [] s5 _ H' _ S5 (hyes rfl a na hil)) (fun f s6 hsp => sp_gone hN hi hln (sp_unsuite ok hsp)) (fun _ _ z => False.elim z)
    exact go hh w
  · cases fl with
    | next =>
      obtain ⟨t, h1, J', q⟩ := hsp
      exact wpAny_execs_nil ⟨t, h1, J'.ofTry ok, q⟩
    | brk =>
      obtain ⟨t, h1, J', q⟩ := hsp
      exact ⟨t, h1, J'.ofTry ok, q⟩
    | cont =>
      obtain ⟨t, h1, J', q⟩ := hsp
      exact ⟨t, h1, J'.ofTry ok, q⟩
    | ret u =>
      obtain ⟨v, t, h1, J', r, q⟩ := hsp
      exact ⟨v, t, h1, J'.ofTry ok, r, q⟩
end
end L2

set_option Elab.async false
set_option linter.all false
set_option maxRecDepth 100000
set_option maxHeartbeats 4000000
/-! SaidKit: what a lambda handed over tells, or which of two errors it raises, as a pair. -/
namespace L2
open PySem PySem.Spec PyProof.Rows EK LamX
/-- an error of cls with its dict d: of the class at C, its one value told as (m, value) -/
def errTold (C : Addr) (f m : Str) (Q : VK) : XK := fun cls d H => cls = .ref C ∧ ∃ (dd : Addr) (v : V), d = some dd ∧ H dd = some (.xd [(f, v)]) ∧ ∀ p, H p = none → Q (.ref p) (upd H p (.tup [.str m, v]))
def wSaid (K : PySem.W.Frag) (C1 C2 : Addr) (f1 f2 m1 m2 : Str) (Q : VK) : XK := fun cls d H => ∃ b1, PySem.W.exmOne K cls (.ref C1) = some b1 ∧ (b1 = true → errTold C1 f1 m1 Q cls d H) ∧
  (b1 = false → ∃ b2, PySem.W.exmOne K cls (.ref C2) = some b2 ∧ (b2 = true → errTold C2 f2 m2 Q cls d H) ∧ (b2 = false → False))
def TSaid (K : PySem.W.Frag) (C1 C2 : Addr) (f1 f2 m1 m2 : Str) : (XK → Hp → VK → Prop) → Hp → VK → Prop := fun tl H Q =>
  tl (wSaid K C1 C2 f1 f2 m1 m2 Q) H fun v H1 => [V.str "told", v].length ≤ sizeLine ∧ ∀ p, H1 p = none → Q (.ref p) (upd H1 p (.tup [.str "told", v]))
theorem said_gives {X : Cx} {Ng : List Str} {x a e1 e2 n1 n2 q f1 f2 m1 m2 : Str} {sg : Scope} {g C1 C2 : Addr} {cdg : Value} {j0 j1 j2 : Nat} {p1 p2 p3 p4 p5 p6 p7 p8 a1 a2 a3 a4 a5 a6 a7 b1 b2 b3 b4 b5 b6 b7 c1 c2 : Pos} {k0 k1 k2 : Nat} {mz : Value}
    (hN : Ng.Nodup) (hn1 : Ng[1]? = some n1) (hl1 : sg.names.lookup n1 = some .local) (hn2 : Ng[1]? = some n2)
    (ge1 : sg.names.lookup e1 = some .globalImplicit) (hm1 : X.mg e1 = some (.ref C1)) (de1 : (e1 == ("__debug__" : Str)) = false)
    (ge2 : sg.names.lookup e2 = some .globalImplicit) (hm2 : X.mg e2 = some (.ref C2)) (de2 : (e2 == ("__debug__" : Str)) = false)
    (T1 : XfC X.K C1) (T2 : XfC X.K C2) (no1 : PySem.W.findIn X.K (.ref C1) f1 = some none) (no2 : PySem.W.findIn X.K (.ref C2) f2 = some none) (dn : (n1 == ("__debug__" : Str)) = false) (cn : (n1 == ("__classdict__" : Str)) = false) (sk : sg.kind = .function)
    (h0 : ∀ f : Addr, (L2.start Ng [V.ref f])[0]? = some (some (V.ref f))) (hz1 : ∀ f : Addr, (L2.start Ng [V.ref f])[1]? = some none) :
    GivesTo X Ng x sg g cdg [.Try [.Return (some (.Tuple [.Constant (.str "told") j0 p1, .Call (.Name a p2) [] [] p3] k0 p4)) p5]
      [.ExceptHandler (some (.Name e1 a1)) (some n1) [.Return (some (.Tuple [.Constant (.str m1) j1 a2, .Attribute (.Name n1 a3) f1 a4] k1 a5)) a6] a7,
       .ExceptHandler (some (.Name e2 b1)) (some n2) [.Return (some (.Tuple [.Constant (.str m2) j2 b2, .Attribute (.Name n2 b3) f2 b4] k2 b5)) b6] b7] [] [] p8] a q (TSaid X.K C1 C2 f1 f2 m1 m2) := by
  obtain rfl : n1 = n2 := Option.some.inj (hn1.symm.trans hn2)
  intro f c' s H Q tl act hc h
  have hlen : 1 < (L2.start Ng [V.ref f]).length := by
    have z := hz1 f
    exact (List.getElem?_eq_some_iff.mp z).1
  have gl1 : Gl (cxOf C8.CX0 X.prog X.w X.K X.mg X.base Ng x sg g cdg X.A X.stack s H C8.E0).nox e1 := ge1
  have gl2 : Gl (cxOf C8.CX0 X.prog X.w X.K X.mg X.base Ng x sg g cdg X.A X.stack s H C8.E0).nox e2 := ge2
  refine ⟨_, pss_one (ps_tryC (X := (cxOf C8.CX0 X.prog X.w X.K X.mg X.base Ng x sg g cdg X.A X.stack s H C8.E0).nox)
      (tb := fun W D σ H => ∃ Ech : XK, (∀ cls d σ' H', Ech cls d H' → W cls d σ' H') ∧ σ[0]? = some (some (.ref f)) ∧ H c' = some (CodeO c' q) ∧ tl Ech H (fun v H1 => [V.str "told", v].length ≤ sizeLine ∧ ∀ p, H1 p = none → D.rt (.ref p) (upd H1 p (.tup [.str "told", v]))))
      (l := [⟨.ref C1, some 1, fun a cls d => tRet (tTup (tCons (tC (.str m1)) (tCons (tXf a cls d C1 f1 (tVar 1)) tNil)))⟩, ⟨.ref C2, some 1, fun a cls d => tRet (tTup (tCons (tC (.str m2)) (tCons (tXf a cls d C2 f2 (tVar 1)) tNil)))⟩])
      rfl rfl hN takes0 (fun W pn xe tk _ => ?_)
      (ClOk.as hn1 (by show Env.kindOf _ n1 = some NameKind.local; exact hl1) ⟨gl1, de1, .inl hm1⟩ (fun a oe cls d pn hz hf => pss_one (ps_ret (pe_tup (pa_cons pe_str (pa_cons (pe_xf T1 no1 hz hf (pe_var (i := 1) hn1 (Or.inl hl1) dn cn)) pa_nil)))))
        (ClOk.as hn1 (by show Env.kindOf _ n1 = some NameKind.local; exact hl1) ⟨gl2, de2, .inl hm2⟩ (fun a oe cls d pn hz hf => pss_one (ps_ret (pe_tup (pa_cons pe_str (pa_cons (pe_xf T2 no2 hz hf (pe_var (i := 1) hn1 (Or.inl hl1) dn cn)) pa_nil))))) .nil))), ?_⟩
  · refine ⟨fun pins s' σ H' D I h' => ?_⟩
    obtain ⟨Ech, hW, h1, h2, h3⟩ := h'
    have hp := act W pn xe Ech p2 p3 tk hW
    have hq : PSs ((cxOf C8.CX0 X.prog X.w X.K X.mg X.base Ng x sg g cdg X.A X.stack s H C8.E0).tr pn xe) [.Return (some (.Tuple [.Constant (.str "told") j0 p1, .Call (.Name a p2) [] [] p3] k0 p4)) p5] _ := pss_one (ps_ret (pe_tup (pa_cons pe_str (pa_cons hp pa_nil))))
    exact hq.run pins s' σ H' D I ⟨h1, h2, h3⟩
  · have hset : ∀ (σ : L2.St) (y : V), 1 < σ.length → (σ.set 1 (some y))[1]? = some (some y) := fun σ y h => by rw [List.getElem?_set_self h]
    have two : ∀ x y : V, [x, y].length ≤ sizeLine := fun x y => by show 2 ≤ sizeLine; decide
    refine ⟨wSaid X.K C1 C2 f1 f2 m1 m2 Q, fun cls d σ' H' ⟨b1, e1, y1, z1⟩ => ⟨b1, e1, fun hb a ha hl => ?_, fun hb => ?_⟩, h0 f, hc, h⟩
    · obtain ⟨ec, dd, v, ed, hd, q⟩ := y1 hb
      exact ⟨_, hset _ _ hl, rfl, ec, dd, _, v, ed, hd, look1 _ _, two _ _, q⟩
    · obtain ⟨b2, e2, y2, z2⟩ := z1 hb
      refine ⟨b2, e2, fun hb2 a ha hl => ?_, fun hb2 => z2 hb2⟩
      obtain ⟨ec, dd, v, ed, hd, q⟩ := y2 hb2
      exact ⟨_, hset _ _ hl, rfl, ec, dd, _, v, ed, hd, look1 _ _, two _ _, q⟩
end L2

set_option Elab.async false
set_option linter.all false
set_option maxRecDepth 100000
set_option maxHeartbeats 4000000
/-! DataKit: sorted, min of data at any depth and length, as rules of the layer. -/
namespace L2
open PySem PySem.Spec PyProof.Rows
section
variable {X : Cx} {pins : List (Addr × Obj)} {σ : St} {H : Hp} {s : Shared}
theorem each_vals (I : Inv X pins σ H s) : ∀ {bs : List (V × PyData)} {us : List Value}, Vals (bs.map (·.1)) us → (∀ b ∈ bs, Dp X.K H b.1 b.2) → PySem.W.EachIs (fun v b => RelV b.1 v) us bs ∧ PySem.W.EachIs (fun v b => ∃ as, Reads s.heap v b.2 as) us bs
  | [], _, r, _ => by
    cases r
    exact ⟨.nil, .nil⟩
  | b :: bs, _, r, h => by
    cases r with
    | cons r1 r2 =>
      obtain ⟨e1, e2⟩ := each_vals I r2 fun c hc => h c (List.mem_cons_of_mem _ hc)
      exact ⟨.cons r1 e1, .cons (Dp.reads I _ _ _ (h b List.mem_cons_self) r1) e2⟩
theorem vals_each : ∀ {us : List Value} {bs : List (V × PyData)}, PySem.W.EachIs (fun v b => RelV b.1 v) us bs → Vals (bs.map (·.1)) us
  | _, _, .nil => .nil
  | _, _, .cons r t => .cons r (vals_each t)
/-- sorted(xs) of data that are alike -/
def rSortedD (K : PySem.W.Frag) : List V → Hp → VK → Prop := fun vs H Q => ∃ (a : Addr) (bs : List (V × PyData)), vs = [V.ref a] ∧ SqL K H a (bs.map (·.1)) ∧ (∀ b ∈ bs, Dp K H b.1 b.2) ∧ PySem.W.AllAlike (bs.map (·.2)) ∧ PySem.W.Sortable (bs.map (·.2)) ∧ (∀ b ∈ bs, b.2.depth ≤ 50) ∧
  ∀ p, H p = none → Q (.ref p) (upd H p (.lst ((bs.mergeSort (PySem.W.dataLe false (·.2))).map (·.1))))
theorem cr_sortedD (hu : X.A.units + 64 < cLine) : CallR X (.builtin "sorted") (rSortedD X.K) := by
  intro pins s σ H vs us Q I r h
  obtain ⟨a, bs, rfl, hs, hd, hal, hk, hdep, q⟩ := h
  obtain ⟨its, rv, hl, hz⟩ := I.list hs
  obtain ⟨u, rfl, ru⟩ := vals1 r
  obtain rfl : u = Value.ref a := ru
  obtain ⟨e1, e2⟩ := each_vals I rv hd
  rw [List.length_map] at hz
  refine PySem.W.sorted_data (enc := fun b : V × PyData => b.2) hl.isList e1 e2 hal hk hz (fun b hb => by have := hdep b hb; omega) fun out hlen ho => ?_
  obtain ⟨n, hn⟩ := sortedAll_at s.heap its out.toArray
  have rv2 := vals_each ho
  exact ⟨.ref (s.heap.objs.size + 1), _, I.laid (t' := s.toks) (a := s.heap.objs.size + 1) (o := .lst ((bs.mergeSort (PySem.W.dataLe false (·.2))).map (·.1))) (fun b o e => sortedAll_old e) (Nat.le_succ _) ⟨by rw [rv2.length, hlen]; exact hz, out, n, rv2, hn⟩, rfl, q _ (I.hok.fresh (Nat.le_succ _))⟩
/-- min(xs) of texts, one at least -/
def minS (x : Str) (xs : List Str) : Str := xs.foldl (fun a y => if decide (y.cps.toList < a.cps.toList) = true then y else a) x
theorem minD_strs (x : Str) : ∀ xs : List Str, PySem.W.minD (.str x) (xs.map PyData.str) = .str (minS x xs) := by
  intro xs
  induction xs generalizing x with
  | nil => rfl
  | cons y ys ih =>
    show PySem.W.minD (if PySem.W.dataLt (.str y) (.str x) = true then .str y else .str x) (ys.map PyData.str) = .str (minS (if decide (y.cps.toList < x.cps.toList) = true then y else x) ys)
    rw [PySem.W.dataLt_str]
    split
    · exact ih y
    · exact ih x
theorem reads_strs {h : Heap} : ∀ {xs : List Str} {us : List Value}, Vals (xs.map V.str) us → ∃ as, ReadsAll h us (xs.map PyData.str) as
  | [], _, r => by
    cases r
    exact ⟨_, .nil⟩
  | x :: xs, _, r => by
    cases r with
    | cons r1 r2 =>
      obtain ⟨t, rfl⟩ := r1
      obtain ⟨as, z⟩ := reads_strs (h := h) r2
      exact ⟨_, .cons (.str x t) z⟩
theorem depth_strs : ∀ xs : List Str, PyData.depthAll (xs.map PyData.str) ≤ 1
  | [] => by simp [PyData.depthAll]
  | x :: xs => by
    have := depth_strs xs
    simp only [List.map_cons, PyData.depthAll, PyData.depth]
    omega
def rMinS (K : PySem.W.Frag) : List V → Hp → VK → Prop := fun vs H Q => ∃ (a : Addr) (x : Str) (xs : List Str), vs = [V.ref a] ∧ SqL K H a ((x :: xs).map V.str) ∧ Q (.str (minS x xs)) H
theorem cr_minS (hc : X.calm = true) (hu : X.A.units + 64 < cLine) : CallR X (.builtin "min") (rMinS X.K) := by
  intro pins s σ H vs us Q I r h
  obtain ⟨a, x, xs, rfl, hs, q⟩ := h
  obtain ⟨its, rv, hl, hz⟩ := I.list hs
  obtain ⟨u, rfl, ru⟩ := vals1 r
  obtain rfl : u = Value.ref a := ru
  obtain ⟨as, hr⟩ := reads_strs (h := s.heap) rv
  have hdep := depth_strs (x :: xs)
  refine PySem.W.min_list_data (x := .str x) (xs := xs.map PyData.str) (I.ok.hd hc) hl.isList (by simpa using hr) ⟨fun y hy z hz => ?_, fun y hy => ?_⟩ (by have : PyData.depthAll (PyData.str x :: xs.map PyData.str) ≤ 1 := hdep; omega) fun i v h' tk bs hv hrd hk => ?_
  · obtain ⟨y', _, rfl⟩ := List.mem_map.mp (show y ∈ (x :: xs).map PyData.str from hy)
    obtain ⟨z', _, rfl⟩ := List.mem_map.mp (show z ∈ (x :: xs).map PyData.str from hz)
    simp [PySem.W.alike]
  · obtain ⟨y', _, rfl⟩ := List.mem_map.mp (show y ∈ (x :: xs).map PyData.str from hy)
    exact fun z => nomatch z
  · rw [minD_strs] at hrd
    cases hrd with
    | str _ t => exact ⟨.str (minS x xs), H, I.kept (t' := tk) hk, ⟨t, rfl⟩, q⟩
end
end L2

set_option Elab.async false
set_option linter.all false
set_option maxRecDepth 100000
set_option maxHeartbeats 4000000
/-! SortKit: a list put in order, as a plain function that evaluates. -/
namespace L2
open PySem
section
variable {α : Type} (le : α → α → Bool)
def ins (a : α) : List α → List α
  | [] => [a]
  | b :: r => if le a b = true then a :: b :: r else b :: ins a r
def isort : List α → List α
  | [] => []
  | a :: r => ins le a (isort r)
theorem ins_perm (a : α) : ∀ l, (ins le a l).Perm (a :: l)
  | [] => .refl _
  | b :: r => by
    unfold ins
    split
    · exact .refl _
    · exact ((ins_perm a r).cons b).trans (.swap a b r)
theorem isort_perm : ∀ l, (isort le l).Perm l
  | [] => .refl _
  | a :: r => (ins_perm le a _).trans ((isort_perm r).cons a)
variable (trans : ∀ x y z, le x y = true → le y z = true → le x z = true) (total : ∀ x y, (le x y || le y x) = true)
include trans total
theorem ins_sorted (a : α) : ∀ {l : List α}, l.Pairwise (fun x y => le x y = true) → (ins le a l).Pairwise (fun x y => le x y = true)
  | [], _ => List.pairwise_singleton _ _
  | b :: r, h => by
    obtain ⟨h1, h2⟩ := List.pairwise_cons.mp h
    unfold ins
    split
    · rename_i q
      refine List.pairwise_cons.mpr ⟨fun c hc => ?_, h⟩
      rcases List.mem_cons.mp hc with rfl | hc
      · exact q
      · exact trans _ _ _ q (h1 c hc)
    · rename_i q
      refine List.pairwise_cons.mpr ⟨fun c hc => ?_, ins_sorted a h2⟩
      have hc2 := (ins_perm le a r).mem_iff.mp hc
      rcases List.mem_cons.mp hc2 with rfl | hc2
      · have t := total c b
        rw [Bool.or_eq_true] at t
        exact t.resolve_left q
      · exact h1 c hc2
theorem isort_sorted : ∀ l : List α, (isort le l).Pairwise (fun x y => le x y = true)
  | [] => List.Pairwise.nil
  | a :: r => ins_sorted le trans total a (isort_sorted r)
omit trans total in
theorem sorted_uniq : ∀ {l m : List α}, (∀ x ∈ l, ∀ y ∈ l, le x y = true → le y x = true → x = y) → l.Perm m → l.Pairwise (fun x y => le x y = true) → m.Pairwise (fun x y => le x y = true) → l = m
  | [], m, _, p, _, _ => by rw [List.nil_perm.mp p]
  | a :: l, m, an, p, h1, h2 => by
    cases m with
    | nil => exact absurd p.length_eq (by simp)
    | cons b m =>
      obtain ⟨s1, s2⟩ := List.pairwise_cons.mp h1
      obtain ⟨t1, t2⟩ := List.pairwise_cons.mp h2
      have e : a = b := by
        have ha : a ∈ b :: m := p.mem_iff.mp List.mem_cons_self
        have hb : b ∈ a :: l := p.mem_iff.mpr List.mem_cons_self
        rcases List.mem_cons.mp ha with e | ha
        · exact e
        rcases List.mem_cons.mp hb with e | hb2
        · exact e.symm
        exact an _ List.mem_cons_self _ hb (s1 b hb2) (t1 a ha)
      subst e
      rw [sorted_uniq (fun x hx y hy => an x (List.mem_cons_of_mem _ hx) y (List.mem_cons_of_mem _ hy)) p.cons_inv s2 t2]
theorem msort_isort (l : List α) (an : ∀ x ∈ l, ∀ y ∈ l, le x y = true → le y x = true → x = y) : l.mergeSort le = isort le l := by
  refine sorted_uniq le (fun x hx y hy => an x ((List.mergeSort_perm l le).mem_iff.mp hx) y ((List.mergeSort_perm l le).mem_iff.mp hy)) ((List.mergeSort_perm l le).trans (isort_perm le l).symm) ?_ (isort_sorted le trans total l)
  exact List.pairwise_mergeSort (fun a b c => trans a b c) (fun a b => total a b) l
end
/-- a sign and its place, as data -/
def skey (cs : List Nat) (i : Nat) : PyData := .tuple [.str ⟨#[cs.getD i 0]⟩, .int i]
/-- a pair of an address and its place, by sign and place -/
def dle {β : Type} (k : β → PyData) : β → β → Bool := PySem.W.dataLe false k
theorem dle_trans {β : Type} (k : β → PyData) (x y z : β) (h1 : dle k x y = true) (h2 : dle k y z = true) : dle k x z = true := (PySem.W.sortLe_total (PyProof.Rows.listOrd PyProof.Rows.itemOrd) false fun b => PySem.W.keyToks (k b)).trans x y z h1 h2
theorem dle_total {β : Type} (k : β → PyData) (x y : β) : (dle k x y || dle k y x) = true := by
  rw [Bool.or_eq_true]
  exact (PySem.W.sortLe_total (PyProof.Rows.listOrd PyProof.Rows.itemOrd) false fun b => PySem.W.keyToks (k b)).total x y
theorem dle_anti {β : Type} {k : β → PyData} {x y : β} (h1 : dle k x y = true) (h2 : dle k y x = true) : PySem.W.keyToks (k x) = PySem.W.keyToks (k y) := by
  have e1 : (!(PyProof.Rows.listOrd PyProof.Rows.itemOrd).blt (PySem.W.keyToks (k y)) (PySem.W.keyToks (k x))) = true := h1
  have e2 : (!(PyProof.Rows.listOrd PyProof.Rows.itemOrd).blt (PySem.W.keyToks (k x)) (PySem.W.keyToks (k y))) = true := h2
  rw [Bool.not_eq_true'] at e1 e2
  exact (PyProof.Rows.listOrd PyProof.Rows.itemOrd).total _ _ e2 e1
/-- the places in the order of their signs -/
def ordI (cs : List Nat) : List Nat := isort (dle (skey cs)) (List.range cs.length)
theorem skey_inj {cs ds : List Nat} {i j : Nat} (h : PySem.W.keyToks (skey cs i) = PySem.W.keyToks (skey ds j)) : i = j := by
  have e1 : ∀ (es : List Nat) (n : Nat), PySem.W.keyToks (skey es n) = [.inl 1, .inr [es.getD n 0], .inl 1, .inl n, .inl 0] := fun es n => by
    simp [skey, PySem.W.keyToks, PySem.W.keyToksAll]
  rw [e1, e1] at h
  injection h with _ h
  injection h with _ h
  injection h with _ h
  injection h with h _
  injection h with h
  exact Int.ofNat.inj h
/-- the pairs at their places, put in order: as ordI says -/
theorem sort_pairs (cs : List Nat) (bs : List (V × PyData)) (f : Nat → Addr) (e : bs = (List.range cs.length).map fun i => (V.ref (f i), skey cs i)) :
    (bs.mergeSort (PySem.W.dataLe false (·.2))).map (·.1) = (ordI cs).map fun i => V.ref (f i) := by
  have h1 := List.map_mergeSort (f := fun i : Nat => (V.ref (f i), skey cs i)) (r := dle (skey cs)) (s := PySem.W.dataLe false (·.2)) (l := List.range cs.length) fun a _ b _ => rfl
  rw [e, ← h1, List.map_map, msort_isort (dle (skey cs)) (dle_trans _) (dle_total _) _ fun x _ y _ h1 h2 => skey_inj (dle_anti h1 h2)]
  rfl
example : ordI [98, 97, 36, 97] = [2, 1, 3, 0] := by decide +kernel
end L2

set_option Elab.async false
set_option linter.all false
set_option maxRecDepth 100000
set_option maxHeartbeats 4000000
namespace T86
open PySem L2 EK


abbrev sIsRow : Stmt := top 7




abbrev sCkRow : Stmt := top 9
abbrev sStep : Stmt := top 12
abbrev sRead : Stmt := top 13
abbrev sWay : Stmt := top 14
abbrev sCross : Stmt := top 15
abbrev sRd : Stmt := top 16
abbrev sLeast : Stmt := top 17
/-- a thing whose kind is known -/
inductive Pl (H : Hp) : V → Prop
  | non : Pl H .non
  | int (i : Int) : Pl H (.int i)
  | str (z : Str) : Pl H (.str z)
  | bl (b : Bool) : Pl H (.bl b)
  | tup {a : Addr} {xs : List V} (e : H a = some (.tup xs)) : Pl H (.ref a)
  | lst {a : Addr} {xs : List V} (e : H a = some (.lst xs)) : Pl H (.ref a)
  | dct {a : Addr} {kvs : List (Key × V)} (e : H a = some (.dK kvs)) : Pl H (.ref a)
theorem Pl.keep {H H' : Hp} {x : V} (h : Pl H x) (s : Same H H') : Pl H' x := by
  cases h with
  | non => exact .non
  | int i => exact .int i
  | str z => exact .str z
  | bl b => exact .bl b
  | tup e => exact .tup (s _ _ e)
  | lst e => exact .lst (s _ _ e)
  | dct e => exact .dct (s _ _ e)
theorem Pl.keepB {wl : Addr} {H H' : Hp} {x : V} (h : Pl H x) (s : KeepB wl H H') (n : x ≠ .ref wl) : Pl H' x := by
  cases h with
  | non => exact .non
  | int i => exact .int i
  | str z => exact .str z
  | bl b => exact .bl b
  | @tup a xs e => exact .tup (s _ _ e fun z => n (by rw [z]))
  | @lst a xs e => exact .lst (s _ _ e fun z => n (by rw [z]))
  | @dct a xs e => exact .dct (s _ _ e fun z => n (by rw [z]))
def isStrV : V → Bool
  | .str _ => true
  | _ => false
def isIntV : V → Bool
  | .int _ => true
  | .bl _ => true
  | _ => false
def isBlV : V → Bool
  | .bl _ => true
  | _ => false
/-- isinstance(x, str | int | bool) -/
theorem Pl.isStr {K : PySem.W.Frag} {H : Hp} {x : V} (h : Pl H x) : ∃ t, TyX K H x t ∧ PySem.W.kitOne K t (.type "str") = some (isStrV x) := by
  cases h with
  | non => exact ⟨_, .base .non, kit_ty (r := false) (by decide +kernel)⟩
  | int i => exact ⟨_, .base (.int i), kit_ty (r := false) (by decide +kernel)⟩
  | str z => exact ⟨_, .base (.str z), kit_ty (r := true) (by decide +kernel)⟩
  | bl b => exact ⟨_, .base (.bl b), kit_ty (r := false) (by decide +kernel)⟩
  | tup e => exact ⟨_, .base (.tup e), kit_ty (r := false) (by decide +kernel)⟩
  | lst e => exact ⟨_, .base (.lst e), kit_ty (r := false) (by decide +kernel)⟩
  | dct e => exact ⟨_, .base (.dK e), kit_ty (r := false) (by decide +kernel)⟩
theorem Pl.isInt {K : PySem.W.Frag} {H : Hp} {x : V} (h : Pl H x) : ∃ t, TyX K H x t ∧ PySem.W.kitOne K t (.type "int") = some (isIntV x) := by
  cases h with
  | non => exact ⟨_, .base .non, kit_ty (r := false) (by decide +kernel)⟩
  | int i => exact ⟨_, .base (.int i), kit_ty (r := true) (by decide +kernel)⟩
  | str z => exact ⟨_, .base (.str z), kit_ty (r := false) (by decide +kernel)⟩
  | bl b => exact ⟨_, .base (.bl b), kit_ty (r := true) (by decide +kernel)⟩
  | tup e => exact ⟨_, .base (.tup e), kit_ty (r := false) (by decide +kernel)⟩
  | lst e => exact ⟨_, .base (.lst e), kit_ty (r := false) (by decide +kernel)⟩
  | dct e => exact ⟨_, .base (.dK e), kit_ty (r := false) (by decide +kernel)⟩
theorem Pl.isBl {K : PySem.W.Frag} {H : Hp} {x : V} (h : Pl H x) : ∃ t, TyX K H x t ∧ PySem.W.kitOne K t (.type "bool") = some (isBlV x) := by
  cases h with
  | non => exact ⟨_, .base .non, kit_ty (r := false) (by decide +kernel)⟩
  | int i => exact ⟨_, .base (.int i), kit_ty (r := false) (by decide +kernel)⟩
  | str z => exact ⟨_, .base (.str z), kit_ty (r := false) (by decide +kernel)⟩
  | bl b => exact ⟨_, .base (.bl b), kit_ty (r := true) (by decide +kernel)⟩
  | tup e => exact ⟨_, .base (.tup e), kit_ty (r := false) (by decide +kernel)⟩
  | lst e => exact ⟨_, .base (.lst e), kit_ty (r := false) (by decide +kernel)⟩
  | dct e => exact ⟨_, .base (.dK e), kit_ty (r := false) (by decide +kernel)⟩
def letS : Str := "abcdefghijklmnopqrstuvwxyz"
def isT (z : Str) : Bool := z.cps.toList.all fun c => decide (c ∈ letS.cps.toList)
def isR (z : Str) : Bool := z.cps.toList.all fun c => decide (c = 36) || decide (c ∈ letS.cps.toList)
structure TxtC (K : PySem.W.Frag) (mg : Str → Option Value) : Prop where
  isinstance : mg "isinstance" = none
  str : mg "str" = none
  tuple : mg "tuple" = none
  all : mg "all" = none
  len : mg "len" = none
  min : mg "min" = none
  range : mg "range" = none
  sorted : mg "sorted" = none
  reversed : mg "reversed" = none
  enumerate : mg "enumerate" = none
  letters : ∃ u, mg "LETTERS" = some u ∧ RelV (.str letS) u
  endS : ∃ u, mg "END" = some u ∧ RelV (.str "$") u
def spIsRow : Sp := fun vs H Q _ => ∃ x, vs = [x] ∧ Pl H x ∧ ((∃ z, x = .str z ∧ z.cps.size ≤ 100000 ∧ ∀ H', Same H H' → Q (.bl (isR z)) H') ∨ (isStrV x = false ∧ Q (.bl false) H))
def spCkRow (C : Addr) : Sp := fun vs H Q E => ∃ x, vs = [x] ∧ Pl H x ∧ ((∃ z, x = .str z ∧ isR z = true ∧ z.cps.size ≤ 100000 ∧ ∀ H', Same H H' → Q .non H') ∨ ((isStrV x = false ∨ ∃ z, x = .str z ∧ z.cps.size ≤ 100000 ∧ isR z = false) ∧ ∀ H' d, Same H H' → H' d = none → E (.ref C) (some d) (upd H' d (.xd [("row", x)]))))
section
variable {P : Program} {w : World} {K : PySem.W.Frag} {mg : Str → Option Value} {base : Heap}
theorem scIsRow : FnScope ["value", "sign"] ["value"] (defScope sIsRow) := ⟨rfl, rfl, rfl, by decide +kernel, rfl, by decide +kernel, by decide +kernel⟩
theorem scCkRow : FnScope ["row"] ["row"] (defScope sCkRow) := ⟨rfl, rfl, rfl, by decide +kernel, rfl, by decide +kernel, by decide +kernel⟩
theorem one_sign (c : Nat) : decide (V.str ⟨#[c]⟩ = V.str "$") = decide (c = 36) := by
  by_cases h : c = 36
  · subst h
    rfl
  · rw [decide_eq_false h, decide_eq_false]
    intro z
    injection z with z
    injection z with z
    injection z with z
    injection z with z
    exact h z
theorem ok_isRow {f : Addr} {fd : FuncData} (F : Fun K "is_row" "is_row" sIsRow f fd) (T : TxtC K mg) : FnOk P w K mg base CX0 1 f fd ["value"] spIsRow := by
  refine F.ok scIsRow (fun vs H Q E h => ?_) (fun cdv A outer s H vs Q E hr h => ?_)
  · obtain ⟨x, rfl, _⟩ := h
    rfl
  · obtain ⟨x, rfl, hp, k⟩ := h
    have nd := scIsRow.nd
    refine ⟨_, (pss_one (ps_ret (pe_and (pe_callB call_isi (by rfl) T.isinstance (by decide +kernel) (pa_cons (pv 0) (pa_cons (pe_bltn (v := .ty "str") rfl T.str (by decide +kernel) rfl) pa_nil))) (pe_one (pe_callB (cr_all rfl) (by rfl) T.all (by decide +kernel) (pa_cons (pe_lc (own := [("sign", 1)]) (g := gName 1) (tt := tYes) rfl nd (pi_str (pv 0)) (blkOk_by (N := ["value", "sign"]) (sc := defScope sIsRow) (by decide +kernel)) (fun _ _ _ _ _ => (pg_name (i := 1) nd rfl (Or.inl rfl))) (fun _ _ _ _ _ => pts_nil) (fun _ _ _ _ _ => (pe_or (pe_cmpR op_eq (pv 1) (C8.pe_gc (by rfl) T.endS) (nomark _)) (pe_one (pe_cmpR op_in_sign (pv 1) (C8.pe_gc (by rfl) T.letters) (by rfl)))))) pa_nil)))))), ?_⟩
    obtain ⟨t, ht, hk⟩ := hp.isStr (K := K)
    rcases k with ⟨z, rfl, hz, k⟩ | ⟨hs, k⟩
    · refine ⟨_, rfl, _, _, _, _, _, rfl, .ty _, ht, hk, _, rfl, _, rfl, z, rfl, fun D hD => lc_it (walk_str (z := z)) (fun i H' => Same H H' ∧ H' D = some (.lst (((z.cps.toList.take i).map fun c => decide (c = 36) || decide (c ∈ letS.cps.toList)).map V.bl))) ⟨fun b o e => by rw [upd_ne (ne_of_none e hD)]; exact e, upd_same⟩ (fun _ _ _ _ => trivial) ?_ ?_⟩
      · rintro i y H1 H2 hi ⟨s1, d1⟩ ⟨rfl, c, hc, rfl⟩
        have hc' : z.cps.toList[i]? = some c := by rw [Array.getElem?_toList]; exact hc
        have hl : z.cps.toList.length = z.cps.size := Array.length_toList
        have put : ∀ b, b = (decide (c = 36) || decide (c ∈ letS.cps.toList)) → ∃ acc, H2 D = some (.lst acc) ∧ acc.length < sizeLine ∧ Same H (upd H2 D (.lst (acc ++ [.bl b]))) ∧ (upd H2 D (.lst (acc ++ [.bl b]))) D = some (.lst (((z.cps.toList.take (i + 1)).map fun c => decide (c = 36) || decide (c ∈ letS.cps.toList)).map V.bl)) := fun b hb => by
          subst hb
          refine ⟨_, d1, ?_, fun b o e => ?_, ?_⟩
          · rw [List.length_map, List.length_map, List.length_take]
            exact Nat.lt_of_le_of_lt (Nat.min_le_left _ _) (Nat.lt_trans (show i < 100000 by omega) (by decide))
          · rw [upd_ne (ne_of_none e hD)]
            exact s1 _ _ e
          · rw [upd_same, List.take_succ, hc', List.map_append, List.map_append]
            rfl
        refine ⟨rfl, ?_⟩
        refine ⟨_, rfl, rfl, _, rfl, ?_⟩
        rw [one_sign]
        by_cases h36 : c = 36
        · rw [decide_eq_true h36]
          exact put _ (by rw [decide_eq_true h36]; rfl)
        · rw [decide_eq_false h36]
          exact ⟨_, rfl, c, _, rfl, rfl, put _ (by rw [decide_eq_false h36]; rfl)⟩
      · rintro H1 ⟨s1, d1⟩
        rw [← Array.length_toList, List.take_length] at d1
        refine ⟨D, _, rfl, .of d1, ?_⟩
        have e : ((z.cps.toList.map fun c => decide (c = 36) || decide (c ∈ letS.cps.toList)).all id) = isR z := by
          unfold isR
          rw [List.all_map]
          rfl
        rw [e]
        exact k H1 s1
    · rw [hs] at hk
      exact ⟨_, rfl, _, _, _, _, _, rfl, .ty _, ht, hk, _, rfl, k⟩
theorem ok_ckRow {f fU C iC : Addr} {fd fdU : FuncData} (F : Fun K "check_row" "check_row" sCkRow f fd) (TR : ErrTxt P K mg "NoRow" "row" C iC)
    (GU : FnOk P w K mg base CX0 1 fU fdU ["value"] spIsRow) (gU : mg "is_row" = some (.ref fU)) (kU : PySem.W.keepIn K (.ref fU) = true) (bU : Binds K fdU ["value"] []) :
    FnOk P w K mg base (L2.CX P w) 3 f fd ["row"] (spCkRow C) := by
  refine F.okX scCkRow (fun vs H Q E h => ?_) (fun cdv A outer s H vs Q E hr h => ?_)
  · obtain ⟨x, rfl, _⟩ := h
    rfl
  · obtain ⟨x, rfl, hp, k⟩ := h
    have nd := scCkRow.nd
    have hr1 : Room 1 _ := hr.mono (by decide)
    refine ⟨_, pss_one (ps_if (pt_not (pt_val (pe_call GU hr1 rfl gU kU bU .nil pass0 (pa_cons (pv 0) pa_nil)))) (pss_one (ps_raiseErr rfl TR hr (takes_of rfl rfl rfl rfl) (pa_cons (pv 0) pa_nil) rfl)) pss_nil), ?_⟩
    rcases k with ⟨z, rfl, hb, hz, k⟩ | ⟨hs | ⟨z, rfl, hz, hb⟩, k⟩
    · exact ⟨_, rfl, _, rfl, hp, .inl ⟨z, rfl, hz, fun H1 s1 => ⟨_, rfl, by rw [hb]; exact k H1 s1⟩⟩⟩
    · exact ⟨_, rfl, _, rfl, hp, .inr ⟨hs, _, rfl, _, rfl, x, rfl, fun d hd => k _ d (.refl _) hd⟩⟩
    · exact ⟨_, rfl, _, rfl, hp, .inl ⟨z, rfl, hz, fun H1 s1 => ⟨_, rfl, by rw [hb]; exact ⟨_, rfl, _, rfl, fun d hd => k _ d s1 hd⟩⟩⟩⟩
end
end T86

set_option Elab.async false
set_option linter.all false
set_option maxRecDepth 100000
set_option maxHeartbeats 4000000
/-! EnumS: enumerate of a text, in a for or a comprehension. -/
namespace L2
open PySem PySem.Spec PyProof.Rows
def Ites (z : Str) : It :=
  ⟨fun i _ => i < z.cps.size, fun i H v H' => ∃ T c, v = .ref T ∧ H T = none ∧ H' = upd H T (.tup [.int (i : Nat), .str ⟨#[c]⟩]) ∧ z.cps[i]? = some c, fun i _ => z.cps.size ≤ i⟩
theorem draws_text {P : Program} {w : World} {A : Around} (hh : A.handled = none) (it : Addr) (x : Str) (t : Tok) :
    Draws P w A it [it] x.cps.size (fun i v => ∃ c u, x.cps[i]? = some c ∧ v = .str ⟨#[c]⟩ u) (fun i h => h.IsStrIter it (strIterType x) x t i) := by
  unfold strIterType
  by_cases h : x.cps.all (· < 128) = true
  · rw [if_pos h]
    exact Draws.strAscii hh it x t
  · rw [if_neg h]
    exact Draws.strWide hh it x t
theorem turn_enumS {P : Program} {w : World} {K : PySem.W.Frag} {elts : List Expr} {kk : Nat} {tpos : Pos} (z : Str) (t : Tok) (e it : Addr) :
    Turn P w K (.Tuple elts kk tpos) (Ites z) [e, it] e (fun i h => (∃ old, IsEnum h e it ((i : Nat) : Int) old) ∧ i ≤ z.cps.size ∧ h.IsStrIter it (strIterType z) z t i ∧ e ≠ it) where
  mem := by simp
  obj := fun i h st b hb => by
    obtain ⟨⟨old, he⟩, _, ⟨o, ho, hc, hd⟩, _⟩ := st
    have e' : b = e ∨ b = it := by simpa using hb
    rcases e' with q | q
    · rw [q]
      exact ⟨_, he, fun v y => nomatch y⟩
    · rw [q]
      refine ⟨o, ho, fun v y => ?_⟩
      rw [hd] at y
      cases y
  keep := fun i h h' st k => by
    obtain ⟨⟨old, he⟩, hi, ⟨o, ho, r⟩, hne⟩ := st
    exact ⟨⟨old, k e (by simp) _ he⟩, hi, ⟨o, k it (by simp) _ ho, r⟩, hne⟩
  item := by
    intro X hP hw hK hc i pins s σ H E I hf st hg
    subst hP hw hK
    obtain ⟨⟨old, he⟩, _, hit, hne⟩ := st
    have hg : i < z.cps.size := hg
    have hel : e < s.heap.objs.size := Heap.lt_size he
    have hil : it < s.heap.objs.size := by
      obtain ⟨_, q, _⟩ := hit
      exact Heap.lt_size q
    have hh : X.A.in1.handled = none := by simp [I.ok.hd hc]
    refine wpAny_pyNext_enum_itemD (draws_text hh it z t) he hit hg hne (by simpa using hne) fun x h' tk hx ho hit' hT hsz hk => ?_
    obtain ⟨c, u, hz, rfl⟩ := hx
    refine ⟨_, rfl, wpAny_letOwnedTupleGo_enum (s := { s with heap := h', toks := tk + 1 }) ho fun h'' he' sb => ?_⟩
    have hT2 : h''.get? s.heap.objs.size = some { cls := .type "tuple", data := .seq #[.int i tk, .str ⟨#[c]⟩ u] } := (sb.2 _ (Nat.ne_of_gt hel)).trans hT
    have new : ObjOk X.prog X.w (upd H s.heap.objs.size (.tup [.int (i : Nat), .str ⟨#[c]⟩])) h'' s.heap.objs.size (.tup [.int (i : Nat), .str ⟨#[c]⟩]) :=
      ⟨by show 2 ≤ sizeLine; decide, [.int i tk, .str ⟨#[c]⟩ u], .cons ⟨_, rfl⟩ (.cons ⟨_, rfl⟩ .nil), ⟨_, hT2, rfl, _, rfl⟩⟩
    have J : Inv X pins σ (upd H s.heap.objs.size (.tup [.int (i : Nat), .str ⟨#[c]⟩])) { s with heap := h'', toks := tk + 1 } :=
      I.turnedNew (ch := [e, it]) (fun b ob hb q => (sb.2 b (fun y => hb (by simp [y]))).trans (hk b ob (fun y => hb (by simp [y])) (fun y => hb (by simp [y])) q)) hf (Nat.le_refl _) new
    refine ⟨.ref s.heap.objs.size, _, J, rfl, ⟨_, c, rfl, I.hok.fresh (Nat.le_refl _), rfl, hz⟩, ⟨⟨.str ⟨#[c]⟩ u, ?_⟩, hg, ?_, hne⟩, fun b hb => ?_⟩
    · have e1 : ((i + 1 : Nat) : Int) = (i : Int) + 1 := by omega
      rw [e1]
      exact he'
    · obtain ⟨o, q, r⟩ := hit'
      exact ⟨o, (sb.2 it (Ne.symm hne)).trans q, r⟩
    · have hb' : b < s.heap.objs.size := by
        have e' : b = e ∨ b = it := by simpa using hb
        rcases e' with y | y
        · rw [y]
          exact hel
        · rw [y]
          exact hil
      rw [upd_ne (Nat.ne_of_lt hb')]
      exact (hf b hb).1
  done := by
    intro X hP hw hK hc i pins s σ H E I hf st hg
    subst hP hw hK
    obtain ⟨⟨old, he⟩, hi, hit, hne⟩ := st
    have hg : z.cps.size ≤ i := hg
    have hii : i = z.cps.size := by omega
    subst hii
    obtain ⟨f0, f1, f2, f3, f4, f5⟩ := hf it (by simp)
    have hh : X.A.in1.handled = none := by simp [I.ok.hd hc]
    exact wpAny_pyNext_enum_endD (draws_text hh it z t) he hit fun h' eb => ⟨rfl, I.turned (t' := s.toks) (fun b o hb q => eb b o hb q) f0 f1 f3 f4 f5⟩
  self := fun A i s Q E st h => let ⟨⟨_, he⟩, _⟩ := st; wpAny_pyIter_enum he h
def iEnumS (ta : TA) : TI := fun σ H R => ta σ H fun vs H1 => ∃ z, vs = [.str z] ∧ R (Ites z) H1
theorem pi_enumS {X : Cx} {e : Expr} {ta : TA} {p pos tpos : Pos} {elts : List Expr} {kk : Nat} (hg : Gl X "enumerate") (hm : X.mg "enumerate" = none) (ha : PA X [e] ta) (hs : starEach [e] X.env = [(false, eval e X.env)] := by rfl) :
    PI X (.Tuple elts kk tpos) (.Call (.Name "enumerate" p) [e] [] pos) (iEnumS ta) := by
  refine ⟨fun pins s σ H R I h => ?_⟩
  refine Call_ (ld_blt I hg hm boot_enumerate (PyProof.Rows.callWith_type1 (thn (ha.run pos pins s σ H _ I h) fun us s1 ⟨vs, H1, I1, r1, q1⟩ => ?_) hs rfl))
  obtain ⟨z, ex, q⟩ := q1
  subst ex
  cases r1 with
  | cons r rr =>
    cases rr
    obtain ⟨t, rfl⟩ := r
    refine call_enumerate_str fun h' he hit hsz hk => wpAny_pyIter_enum he ?_
    have I2 : Inv X pins σ H1 { s1 with heap := h' } := I1.kept (t' := s1.toks) hk
    refine ⟨s1.heap.objs.size + 1, [s1.heap.objs.size + 1, s1.heap.objs.size], _, _, H1, rfl, I2, turn_enumS z t (s1.heap.objs.size + 1) s1.heap.objs.size, ⟨⟨.none, he⟩, Nat.zero_le _, hit, Nat.succ_ne_self _⟩, fun b hb => ?_, q⟩
    have e' : b = s1.heap.objs.size + 1 ∨ b = s1.heap.objs.size := by simpa using hb
    have hle : s1.heap.objs.size ≤ b := by
      rcases e' with q | q
      · rw [q]
        exact Nat.le_add_right _ _
      · rw [q]
        exact Nat.le_refl _
    exact I1.fpOk hle (I1.hok.fresh hle)
theorem walk_enumS {z : Str} : Walk (Ites z) z.cps.size (fun _ => True) (fun i H v H' => ∃ T c, v = .ref T ∧ H T = none ∧ H' = upd H T (.tup [.int (i : Nat), .str ⟨#[c]⟩]) ∧ z.cps[i]? = some c) :=
  ⟨fun _ _ hi _ => hi, fun _ _ => Nat.le_refl _, fun _ _ _ _ _ _ y => y⟩
end L2

set_option Elab.async false
set_option linter.all false
set_option maxRecDepth 100000
set_option maxHeartbeats 4000000
namespace T86
open PySem L2 EK
def stepF (cs : List Nat) (b : List V) (p k : Nat) : List V := if cs.getD p 0 = 36 then b else b.set p (.int k)
def stepG (cs : List Nat) : Nat → List Nat → List V → List V
  | _, [], b => b
  | k, p :: r, b => stepG cs (k + 1) r (stepF cs b p k)
/-- back, as step_back makes it -/
def stepL (cs : List Nat) : List V := stepG cs 0 (ordI cs) (List.replicate cs.length .non)
example : (stepL [98, 97, 36, 97]).length = 4 := by decide +kernel
theorem stepF_len (cs : List Nat) (b : List V) (p k : Nat) : (stepF cs b p k).length = b.length := by
  unfold stepF
  split
  · rfl
  · rw [List.length_set]
theorem stepG_take (cs : List Nat) : ∀ (l : List Nat) (k : Nat) (b : List V) (p : Nat), stepG cs k (l ++ [p]) b = stepF cs (stepG cs k l b) p (k + l.length)
  | [], k, b, p => rfl
  | q :: l, k, b, p => by
    show stepG cs (k + 1) (l ++ [p]) (stepF cs b q k) = _
    rw [stepG_take cs l]
    show _ = stepF cs (stepG cs (k + 1) l (stepF cs b q k)) p (k + (l.length + 1))
    rw [show k + 1 + l.length = k + (l.length + 1) from by omega]
theorem stepG_len (cs : List Nat) : ∀ (l : List Nat) (k : Nat) (b : List V), (stepG cs k l b).length = b.length
  | [], _, _ => rfl
  | q :: l, k, b => (stepG_len cs l (k + 1) _).trans (stepF_len cs b q k)
def spStep (C : Addr) : Sp := fun vs H Q E => ∃ x, vs = [x] ∧ Pl H x ∧ ((∃ z, x = .str z ∧ isR z = true ∧ z.cps.size ≤ 1000 ∧ ∀ p H', Same H H' → H' p = some (.tup (stepL z.cps.toList)) → Q (.ref p) H') ∨ ((isStrV x = false ∨ ∃ z, x = .str z ∧ z.cps.size ≤ 100000 ∧ isR z = false) ∧ ∀ H' d, Same H H' → H' d = none → E (.ref C) (some d) (upd H' d (.xd [("row", x)]))))
section
variable {P : Program} {w : World} {K : PySem.W.Frag} {mg : Str → Option Value} {base : Heap} {C : Addr}
theorem scStep : FnScope ["row", "back", "place", "sign", "ordered", "target"] ["row"] (defScope sStep) := ⟨rfl, rfl, rfl, by decide +kernel, rfl, by decide +kernel, by decide +kernel⟩
theorem ok_step {f fR : Addr} {fd fdR : FuncData} (F : Fun K "step_back" "step_back" sStep f fd) (T : TxtC K mg)
    (GR : FnOk P w K mg base (L2.CX P w) 3 fR fdR ["row"] (spCkRow C)) (gR : mg "check_row" = some (.ref fR)) (kR : PySem.W.keepIn K (.ref fR) = true) (bR : Binds K fdR ["row"] []) :
    FnOk P w K mg base (L2.CX P w) 4 f fd ["row"] (spStep C) := by
  refine F.okX scStep (fun vs H Q E h => ?_) (fun cdv A outer s H vs Q E hr h => ?_)
  · obtain ⟨x, rfl, _⟩ := h
    rfl
  · obtain ⟨x, rfl, hp, k⟩ := h
    have nd := scStep.nd
    have hr3 : Room 3 _ := hr
    have hu : (A.deeper (PyProof.Rows.envOfC "step_back" (defScope sStep) s.heap.objs.size f cdv)).units + 64 < cLine := hr.units
    refine ⟨_, (pss_cons (ps_expr (pe_call GR hr3 rfl gR kR bR .nil (passes_call (takes_of rfl rfl rfl rfl) fun _ _ _ _ h => h) (pa_cons (pv 0) pa_nil)))
      (pss_cons (ps_set (i := 1) nd rfl (Or.inl rfl) (pe_op op_rep (pe_lst (pa_cons pe_non pa_nil)) (pe_callB call_len_str (by rfl) T.len (by decide +kernel) (pa_cons (pv 0) pa_nil))))
      (pss_cons (ps_set (i := 4) nd rfl (Or.inl rfl) (pe_callB (cr_sortedD hu) (by rfl) T.sorted (by decide +kernel) (pa_cons (pe_lc (own := [("place", 2), ("sign", 3)]) (g := gTup K 2 (gCons (gName 2) (gCons (gName 3) gNil))) (tt := tYes) rfl nd (pi_enumS (by rfl) T.enumerate (pa_cons (pv 0) pa_nil)) (blkOk_by (N := ["row", "back", "place", "sign", "ordered", "target"]) (sc := defScope sStep) (by decide +kernel)) (fun _ _ _ _ _ => (pg_tup rfl (pgs_cons (pg_name (i := 2) nd rfl (Or.inl rfl)) (pgs_cons (pg_name (i := 3) nd rfl (Or.inl rfl)) pgs_nil)))) (fun _ _ _ _ _ => pts_nil) (fun _ _ _ _ _ => (pe_tup (pa_cons (pv 3) (pa_cons (pv 2) pa_nil))))) pa_nil)))
      (pss_cons (ps_for (passes_of rfl) rfl (pi_enum (by rfl) T.enumerate (pa_cons (pv 4) pa_nil)) (pg_tup rfl (pgs_cons (pg_name (i := 5) nd rfl (Or.inl rfl)) (pgs_cons (pg_tup rfl (pgs_cons (pg_name (i := 3) nd rfl (Or.inl rfl)) (pgs_cons (pg_name (i := 2) nd rfl (Or.inl rfl)) pgs_nil))) pgs_nil))) (pss_one (ps_if (pt_cmpR op_ne (pv 3) (C8.pe_gc (by rfl) T.endS) (nomark _)) (pss_one (ps_asg (pv 5) (pg_sub (pv 1) (pv 2) set_list))) pss_nil)))
      (pss_one (ps_ret (pe_callTy call_tuple_of (by rfl) T.tuple (by decide +kernel) (pa_cons (pv 1) pa_nil)))))))), ?_⟩
    rcases k with ⟨z, rfl, hb, hz, k⟩ | ⟨hbad, k⟩
    rotate_left
    · exact ⟨_, rfl, x, rfl, hp, .inr ⟨hbad, k⟩⟩
    refine ⟨_, rfl, _, rfl, hp, .inl ⟨z, rfl, hb, Nat.le_trans hz (by decide), fun H1 s1 => ?_⟩⟩
    have hlen : z.cps.toList.length = z.cps.size := Array.length_toList
    refine ⟨(by show 1 ≤ sizeLine; decide), fun p0 z0 => ?_⟩
    obtain ⟨H2, e2, S2, A2⟩ := alloc (o := .lst [.non]) z0
    rw [e2]
    have zl : (z.length : Nat) = z.cps.size := rfl
    refine ⟨_, rfl, z, rfl, Nat.le_trans (show z.cps.size ≤ 1000 from hz) (by decide), p0, _, _, rfl, rfl, A2, by omega, by omega, ?_, fun p1 z1 => ?_⟩
    · show 1 * ((z.length : Nat) : Int).toNat ≤ sizeLine
      rw [Int.toNat_natCast, Nat.one_mul]
      exact Nat.le_trans (show z.cps.size ≤ 1000 from hz) (by decide)
    have erep : (List.replicate ((z.length : Nat) : Int).toNat [V.non]).flatten = List.replicate z.cps.toList.length V.non := by
      rw [Int.toNat_natCast, zl, hlen]
      generalize z.cps.size = n
      induction n with
      | zero => rfl
      | succ n ih => rw [List.replicate_succ, List.flatten_cons, ih]; rfl
    rw [erep]
    obtain ⟨H3, e3, S3, A3⟩ := alloc (o := .lst (List.replicate z.cps.toList.length V.non)) z1
    rw [e3]
    have n13 : ∀ b, H3 b = none → b ≠ p1 := fun b h e => by rw [e, A3] at h; cases h
    -- the pairs
    refine ⟨_, rfl, z, rfl, fun D hD => lc_it (walk_enumS (z := z)) (fun i H' => Same H3 H' ∧ ∃ g : Nat → Addr, H' D = some (.lst ((List.range i).map fun j => V.ref (g j))) ∧ ∀ j, j < i → H' (g j) = some (.tup [.str ⟨#[z.cps.toList.getD j 0]⟩, .int (j : Nat)]) ∧ g j ≠ D) ⟨fun b o e => by rw [upd_ne (ne_of_none e hD)]; exact e, fun _ => 0, upd_same, fun j hj => absurd hj (Nat.not_lt_zero j)⟩ (fun _ _ _ _ => trivial) ?_ ?_⟩
    · rintro i y G G' hi ⟨sG, g, d1, d2⟩ ⟨t0, c, rfl, ht, rfl, hc⟩
      obtain ⟨G1, e4, S4, A4⟩ := alloc (o := .tup [.int (i : Nat), .str ⟨#[c]⟩]) ht
      rw [e4]
      have hc' : z.cps.toList.getD i 0 = c := by rw [List.getD_eq_getElem?_getD, Array.getElem?_toList, hc]; rfl
      refine ⟨t0, _, rfl, .of A4, rfl, _, _, rfl, _, _, rfl, rfl, ?_⟩
      refine ⟨rfl, ?_⟩
      refine ⟨_, rfl, _, rfl, (by show 2 ≤ sizeLine; decide), fun q zq => ?_⟩
      obtain ⟨G2, e5, S5, A5⟩ := alloc (o := .tup [.str ⟨#[c]⟩, .int (i : Nat)]) zq
      rw [e5]
      have qD : q ≠ D := fun e => by rw [e, S4 _ _ d1] at zq; cases zq
      refine ⟨_, S5 _ _ (S4 _ _ d1), ?_, fun b o e => ?_, fun j => if j = i then q else g j, ?_, fun j hj => ?_⟩
      · rw [List.length_map, List.length_range]
        exact Nat.lt_trans (show i < 1001 by omega) (by decide)
      · rw [upd_ne (ne_of_none e hD)]
        exact S5 _ _ (S4 _ _ (sG _ _ e))
      · rw [upd_same, List.range_succ, List.map_append]
        have e6 : (List.range i).map (fun j => V.ref (g j)) = (List.range i).map fun j => V.ref (if j = i then q else g j) := List.map_congr_left fun j hj => by
          rw [if_neg (Nat.ne_of_lt (List.mem_range.mp hj))]
        rw [← e6]
        show some (HO.lst (_ ++ [V.ref q])) = some (HO.lst (_ ++ [V.ref (if i = i then q else g i)]))
        rw [if_pos rfl]
      · by_cases e : j = i
        · subst e
          dsimp only
          rw [if_pos rfl, upd_ne qD, A5, hc']
          exact ⟨rfl, qD⟩
        · dsimp only
          rw [if_neg e]
          obtain ⟨y1, y2⟩ := d2 j (by omega)
          exact ⟨by rw [upd_ne y2]; exact S5 _ _ (S4 _ _ y1), y2⟩
    · rintro G ⟨sG, g, d1, d2⟩
      have kb : ((List.range z.cps.size).map fun i => (V.ref (g i), skey z.cps.toList i)).map (·.1) = (List.range z.cps.size).map fun j => V.ref (g j) := by rw [List.map_map]; rfl
      refine ⟨D, (List.range z.cps.size).map fun i => (V.ref (g i), skey z.cps.toList i), rfl, by rw [kb]; exact .of d1, fun b hb => ?_, ?_, .inl fun d hd => ?_, fun b hb => ?_, fun p2 z2 => ?_⟩
      · obtain ⟨i, hi, rfl⟩ := List.mem_map.mp hb
        obtain ⟨y1, _⟩ := d2 i (List.mem_range.mp hi)
        exact .tup (.of y1) (.cons (.str _) (.cons (.int _) .nil))
      · intro d hd d' hd'
        rw [List.map_map] at hd hd'
        obtain ⟨i, _, rfl⟩ := List.mem_map.mp hd
        obtain ⟨j, _, rfl⟩ := List.mem_map.mp hd'
        simp [skey, PySem.W.alike, PySem.W.alikeAll]
      · rw [List.map_map] at hd
        obtain ⟨i, _, rfl⟩ := List.mem_map.mp hd
        exact ⟨_, _, rfl⟩
      · obtain ⟨i, hi, rfl⟩ := List.mem_map.mp hb
        simp [skey, PyData.depth, PyData.depthAll]
      rw [sort_pairs z.cps.toList _ g (by rw [hlen])]
      obtain ⟨G3, e7, S7, A7⟩ := alloc (o := .lst ((ordI z.cps.toList).map fun i => V.ref (g i))) z2
      rw [e7]
      have b3 : G3 p1 = some (.lst (List.replicate z.cps.toList.length V.non)) := S7 _ _ (sG _ _ A3)
      have np : p2 ≠ p1 := fun e => by rw [e, sG _ _ A3] at z2; cases z2
      have ordlt : ∀ i ∈ ordI z.cps.toList, i < z.cps.size := fun i hi => by
        have := (isort_perm (dle (skey z.cps.toList)) (List.range z.cps.toList.length)).mem_iff.mp hi
        rw [hlen] at this
        exact List.mem_range.mp this
      have s3 : Same H G3 := (((s1.trans S2).trans S3).trans sG).trans S7
      refine ⟨_, rfl, p2, _, rfl, .of A7, for_it (walk_enum (K := K) (a := p2) (xs := (ordI z.cps.toList).map fun i => V.ref (g i))) (fun i σ H' => ∃ v2 v3 v5 : Option V, σ = [some (.str z), some (.ref p1), v2, v3, some (.ref p2), v5] ∧ KeepB p1 G3 H' ∧ H' p1 = some (.lst (stepG z.cps.toList 0 ((ordI z.cps.toList).take i) (List.replicate z.cps.toList.length V.non)))) ⟨_, _, _, rfl, fun _ _ e _ => e, b3⟩ (fun i σ H' _ ⟨_, _, _, _, kb, _⟩ => .of (kb _ _ A7 np)) ?_ ?_⟩
      · rintro i y σ Hk Hk' hi ⟨v2, v3, v5, rfl, kb, hb1⟩ ⟨T0, x1, y1, rfl, hT, rfl, ex, ey⟩
        obtain ⟨L1, f1, U1, C1⟩ := alloc (o := .tup [x1, y1]) hT
        rw [f1]
        obtain rfl : V.int (i : Nat) = x1 := Option.some.inj ex
        have ey : ((ordI z.cps.toList).map fun i => V.ref (g i))[i]? = some y1 := ey
        rw [List.getElem?_map] at ey
        obtain ⟨pl, hpl, rfl⟩ := Option.map_eq_some_iff.mp ey
        have plt := ordlt pl (List.mem_of_getElem? hpl)
        obtain ⟨y2, y3⟩ := d2 pl plt
        have ng : g pl ≠ p1 := fun e => by rw [e, sG _ _ A3] at y2; cases y2
        have y4 : L1 (g pl) = some (.tup [.str ⟨#[z.cps.toList.getD pl 0]⟩, .int (pl : Nat)]) := U1 _ _ (kb _ _ (S7 _ _ y2) ng)
        refine ⟨T0, _, rfl, .of C1, rfl, _, _, rfl, _, _, rfl, ?_⟩
        refine ⟨g pl, _, rfl, .of y4, rfl, _, _, rfl, _, _, rfl, rfl, rfl, ?_⟩
        refine ⟨_, rfl, rfl, _, rfl, ?_⟩
        rw [one_sign]
        have kb2 : KeepB p1 G3 L1 := fun b o e n => U1 _ _ (kb b o e n)
        have b4 := U1 _ _ hb1
        have tk : (ordI z.cps.toList).take (i + 1) = (ordI z.cps.toList).take i ++ [pl] := by rw [List.take_succ, hpl]; rfl
        have il : ((ordI z.cps.toList).take i).length = i := by
          rw [List.length_take]
          have := (List.getElem?_eq_some_iff.mp hpl).1
          omega
        have st : stepG z.cps.toList 0 ((ordI z.cps.toList).take (i + 1)) (List.replicate z.cps.toList.length V.non) = stepF z.cps.toList (stepG z.cps.toList 0 ((ordI z.cps.toList).take i) (List.replicate z.cps.toList.length V.non)) pl i := by
          rw [tk, stepG_take, il, Nat.zero_add]
        by_cases h36 : z.cps.toList.getD pl 0 = 36
        · rw [decide_eq_true h36]
          refine ⟨_, _, _, rfl, kb2, ?_⟩
          rw [st]
          unfold stepF
          rw [if_pos h36]
          exact b4
        · rw [decide_eq_false h36]
          refine ⟨_, rfl, _, rfl, _, rfl, p1, _, (pl : Int), pl, rfl, rfl, b4, ?_, _, _, _, rfl, fun b o e n => ?_, ?_⟩
          · unfold ixN
            rw [if_pos (by omega), if_pos (by rw [stepG_len, List.length_replicate, hlen]; omega), Int.toNat_natCast]
          · rw [upd_ne n]
            exact kb2 _ _ e n
          · rw [upd_same, st]
            unfold stepF
            rw [if_neg h36]
      · rintro σ Hk ⟨v2, v3, v5, rfl, kb, hb1⟩
        rw [List.length_map, List.take_length] at hb1
        refine ⟨_, rfl, p1, _, rfl, .inl ⟨.of hb1, fun l zl2 => ?_⟩⟩
        obtain ⟨L1, f1, U1, C1⟩ := alloc (o := .tup (stepL z.cps.toList)) zl2
        have f1 : upd Hk l (.tup (stepG z.cps.toList 0 (ordI z.cps.toList) (List.replicate z.cps.toList.length V.non))) = L1 := f1
        rw [f1]
        refine k l L1 (fun b o e => U1 _ _ (kb _ _ (s3 _ _ e) fun q => ?_)) C1
        rw [q] at e
        have := (s1.trans S2) _ _ e
        rw [z1] at this
        cases this
end
end T86

set_option Elab.async false
set_option linter.all false
set_option maxRecDepth 100000
set_option maxHeartbeats 4000000
namespace T86
open PySem L2 EK
def wayG (bs : List V) (p : Nat) : Nat → V → List Nat → Option (List Nat)
  | _, .non, acc => some acc
  | 0, .int j, acc => if j = (p : Int) then some acc else none
  | f + 1, .int j, acc => if j = (p : Int) then some acc else if 0 ≤ j then (match bs[j.toNat]? with
    | some v => wayG bs p f v (acc ++ [j.toNat])
    | none => none) else none
  | _, _, _ => none
/-- the places from p on, step by step, at most so many -/
def wayM (bs : List V) (p : Nat) : Option (List Nat) := match bs[p]? with
  | some v => wayG bs p bs.length v [p]
  | none => none
def natsV (l : List Nat) : List V := l.map fun n => V.int (n : Nat)
theorem atI_nat (xs : List V) (n : Nat) (h : n < xs.length) : atI xs (n : Int) = xs[n]? := by
  unfold atI ixN
  rw [if_pos (by omega), if_pos (by omega), Int.toNat_natCast]
  rfl
theorem same_tup {K : PySem.W.Frag} {H H' : Hp} {a : Addr} {xs : List V} (e : Same H H') (h : SqT K H a xs) : SqT K H' a xs := by
  rcases h with h | h
  · rcases h with h | ⟨o, h⟩
    · exact .inl (.inl (e _ _ h))
    · exact .inl (.inr ⟨o, e _ _ h⟩)
  · exact .inr h
theorem wayG_len (bs : List V) (p : Nat) : ∀ (f : Nat) (v : V) (acc ws : List Nat), wayG bs p f v acc = some ws → ws.length ≤ acc.length + f
  | f, v, acc, ws, h => by
    induction f generalizing v acc with
    | zero =>
      cases v with
      | non => cases h; exact Nat.le_refl _
      | int j =>
        have h : (if j = (p : Int) then some acc else none) = some ws := h
        split at h
        · cases h; exact Nat.le_refl _
        · cases h
      | _ => cases h
    | succ f ih =>
      cases v with
      | non => cases h; exact Nat.le_add_right _ _
      | int j =>
        have h : (if j = (p : Int) then some acc else if 0 ≤ j then (match bs[j.toNat]? with
          | some v => wayG bs p f v (acc ++ [j.toNat])
          | none => none) else none) = some ws := h
        split at h
        · cases h; exact Nat.le_add_right _ _
        · split at h
          · split at h
            · have := ih _ _ h
              rw [List.length_append, List.length_singleton] at this
              omega
            · cases h
          · cases h
      | _ => cases h
def spWay (K : PySem.W.Frag) : Sp := fun vs H Q _ => ∃ (b : Addr) (bs : List V) (p : Nat) (ws : List Nat), vs = [.ref b, .int (p : Nat)] ∧ SqT K H b bs ∧ bs.length ≤ 1000 ∧ wayM bs p = some ws ∧ ∀ q H', Same H H' → H' q = some (.lst (natsV ws)) → H q = none → Q (.ref q) H'
def spCross (K : PySem.W.Frag) : Sp := fun vs H Q _ => ∃ (u q : Addr) (us : List Bool) (ws : List Nat), vs = [.ref u, .ref q] ∧ H u = some (.lst (us.map V.bl)) ∧ SqL K H q (natsV ws) ∧ u ≠ q ∧ (∀ p ∈ ws, p < us.length) ∧ ∀ H', KeepB u H H' → H' u = some (.lst ((ws.foldl (fun u p => u.set p false) us).map V.bl)) → Q .non H'
def readS (cs ws : List Nat) : Str := ⟨(ws.reverse.map fun p => cs.getD p 0).toArray⟩
def spRd (K : PySem.W.Frag) : Sp := fun vs H Q _ => ∃ (z : Str) (q : Addr) (ws : List Nat), vs = [.str z, .ref q] ∧ z.cps.size ≤ 1000 ∧ SqL K H q (natsV ws) ∧ ws.length ≤ 2000 ∧ (∀ p ∈ ws, p < z.cps.size) ∧ ∀ H', Same H H' → Q (.str (readS z.cps.toList ws)) H'
section
variable {P : Program} {w : World} {K : PySem.W.Frag} {mg : Str → Option Value} {base : Heap}
theorem scWay : FnScope ["back", "place", "way", "at"] ["back", "place"] (defScope sWay) := ⟨rfl, rfl, rfl, by decide +kernel, rfl, by decide +kernel, by decide +kernel⟩
theorem scCross : FnScope ["unread", "way", "place"] ["unread", "way"] (defScope sCross) := ⟨rfl, rfl, rfl, by decide +kernel, rfl, by decide +kernel, by decide +kernel⟩
theorem scRd : FnScope ["row", "way", "place"] ["row", "way"] (defScope sRd) := ⟨rfl, rfl, rfl, by decide +kernel, rfl, by decide +kernel, by decide +kernel⟩
theorem ok_way {f : Addr} {fd : FuncData} (F : Fun K "_way" "_way" sWay f fd) : FnOk P w K mg base CX0 1 f fd ["back", "place"] (spWay K) := by
  refine F.ok scWay (fun vs H Q E h => ?_) (fun cdv A outer s H vs Q E hr h => ?_)
  · obtain ⟨b, bs, p, ws, rfl, _⟩ := h
    rfl
  · obtain ⟨b, bs, p, ws, rfl, hb, hz, hw, k⟩ := h
    have nd := scWay.nd
    refine ⟨_, (pss_cons (ps_set (i := 2) nd rfl (Or.inl rfl) (pe_lst (pa_cons (pv 1) pa_nil)))
      (pss_cons (ps_set (i := 3) nd rfl (Or.inl rfl) (pe_ix ix_tup (pv 0) (pv 1) (fun _ _ => rfl)))
      (pss_cons (ps_while PassesOwn.never (PW.pt (pw_and (pt_cmpR op_notN (pv 3) pe_non (nomark _)) (pw_and1 (pt_cmpR op_ne (pv 3) (pv 1) (nomark _))))) (pss_cons (ps_expr (pe_bm PySem.F.plainAttrs_list PySem.F.slot_list_append PySem.F.type_list_append mt_append (pv 2) (pa_cons (pv 3) pa_nil)))
      (pss_one (ps_set (i := 3) nd rfl (Or.inl rfl) (pe_ix ix_tup (pv 0) (pv 3) (fun _ _ => rfl))))))
      (pss_one (ps_ret (pv 2)))))), ?_⟩
    unfold wayM at hw
    cases hv : bs[p]? with
    | none => rw [hv] at hw; cases hw
    | some v =>
      rw [hv] at hw
      have hpl : p < bs.length := (List.getElem?_eq_some_iff.mp hv).1
      have hlen := wayG_len bs p _ _ _ _ hw
      refine ⟨_, rfl, (by show 1 ≤ sizeLine; decide), fun q zq => ?_⟩
      obtain ⟨H1, e1, S1, A1⟩ := alloc (o := .lst [.int (p : Nat)]) zq
      rw [e1]
      refine ⟨_, rfl, _, rfl, b, bs, (p : Int), v, rfl, rfl, same_tup S1 hb, by rw [atI_nat _ _ hpl]; exact hv, ?_⟩
      refine ⟨fun m σ H' => ∃ (acc : List Nat) (u : V), σ = [some (.ref b), some (.int (p : Nat)), some (.ref q), some u] ∧ KeepB q H1 H' ∧ H' q = some (.lst (natsV acc)) ∧ wayG bs p m u acc = some ws ∧ acc.length + m ≤ 1 + bs.length, ⟨bs.length, [p], v, rfl, fun _ _ e _ => e, A1, hw, Nat.le_refl _⟩, ?_⟩
      rintro m σ H2 ⟨acc, u, rfl, kb, a2, hw2, hl2⟩
      have same2 : Same H H2 := fun c o e => kb _ _ (S1 _ _ e) fun z => by rw [z, zq] at e; cases e
      have kb3 : ∀ o, Same H (upd H2 q o) := fun o c y e => by
        rw [upd_ne fun z => by rw [z, zq] at e; cases e]
        exact same2 _ _ e
      have bad : ∀ (u : V), (∀ f, wayG bs p f u acc = none) → wayG bs p m u acc = some ws → False := fun u h1 h2 => by rw [h1] at h2; cases h2
      cases u with
      | non =>
        have e : acc = ws := by cases m <;> exact Option.some.inj hw2
        subst e
        exact ⟨_, rfl, rfl, _, rfl, _, rfl, k q H2 same2 a2 zq⟩
      | int j =>
        refine ⟨_, rfl, rfl, _, rfl, _, rfl, _, rfl, rfl, _, rfl, ?_⟩
        by_cases hj : j = (p : Int)
        · subst hj
          have e : acc = ws := by
            cases m with
            | zero =>
              have hw2 : (if (p : Int) = (p : Int) then some acc else none) = some ws := hw2
              rw [if_pos rfl] at hw2
              exact Option.some.inj hw2
            | succ m =>
              unfold wayG at hw2
              rw [if_pos rfl] at hw2
              exact Option.some.inj hw2
          subst e
          rw [decide_eq_true rfl]
          exact ⟨_, rfl, k q H2 same2 a2 zq⟩
        · rw [decide_eq_false (fun z => hj (by injection z))]
          cases m with
          | zero =>
            have hw2 : (if j = (p : Int) then some acc else none) = some ws := hw2
            rw [if_neg hj] at hw2
            cases hw2
          | succ m =>
            unfold wayG at hw2
            rw [if_neg hj] at hw2
            split at hw2
            · rename_i hj0
              cases hb2 : bs[j.toNat]? with
              | none => rw [hb2] at hw2; cases hw2
              | some v2 =>
                rw [hb2] at hw2
                have hjl : j.toNat < bs.length := (List.getElem?_eq_some_iff.mp hb2).1
                have ej : ((j.toNat : Nat) : Int) = j := Int.toNat_of_nonneg hj0
                refine ⟨fun σ' H' => ∃ (acc : List Nat) (u : V), σ' = [some (.ref b), some (.int (p : Nat)), some (.ref q), some u] ∧ KeepB q H1 H' ∧ H' q = some (.lst (natsV acc)) ∧ wayG bs p m u acc = some ws ∧ acc.length + m ≤ 1 + bs.length, fun σ' H' h => ⟨m, Nat.lt_succ_self _, h⟩, ?_⟩
                refine ⟨_, rfl, .inl ⟨rfl, _, .of a2⟩, _, rfl, q, _, _, rfl, rfl, a2, ?_, ?_⟩
                · show (List.map _ acc).length < _
                  rw [List.length_map]
                  exact Nat.lt_trans (show acc.length < 2000 by omega) (by decide)
                refine ⟨_, rfl, _, rfl, b, bs, j, v2, rfl, rfl, same_tup (kb3 _) hb, ?_, acc ++ [j.toNat], v2, rfl, fun c y e n => ?_, ?_, hw2, ?_⟩
                · rw [← ej, atI_nat _ _ hjl]
                  exact hb2
                · rw [upd_ne n]
                  exact kb _ _ e n
                · rw [upd_same]
                  show some (HO.lst (List.map _ acc ++ [V.int j])) = some (HO.lst (List.map _ (acc ++ [j.toNat])))
                  rw [List.map_append]
                  show _ = some (HO.lst (_ ++ [V.int (j.toNat : Nat)]))
                  rw [ej]
                · rw [List.length_append, List.length_singleton]
                  omega
            · cases hw2
      | _ => exact (bad _ (fun f => by cases f <;> rfl) hw2).elim
theorem ok_cross {f : Addr} {fd : FuncData} (F : Fun K "_cross_out" "_cross_out" sCross f fd) : FnOk P w K mg base CX0 1 f fd ["unread", "way"] (spCross K) := by
  refine F.ok scCross (fun vs H Q E h => ?_) (fun cdv A outer s H vs Q E hr h => ?_)
  · obtain ⟨u, q, us, ws, rfl, _⟩ := h
    rfl
  · obtain ⟨u, q, us, ws, rfl, hu, hq, hne, hw, k⟩ := h
    have nd := scCross.nd
    refine ⟨_, (pss_one (ps_for PassesOwn.never rfl (pi_list (pv 1)) (pg_name (i := 2) nd rfl (Or.inl rfl)) (pss_one (ps_asg pe_bl (pg_sub (pv 0) (pv 2) set_list))))), ?_⟩
    have fl : ∀ (l : List Nat) (us : List Bool), (l.foldl (fun u p => u.set p false) us).length = us.length := by
      intro l
      induction l with
      | nil => intro us; rfl
      | cons a l ih => intro us; exact (ih _).trans (List.length_set ..)
    have kq : ∀ H', KeepB u H H' → SqL K H' q (natsV ws) := fun H' kb => by
      rcases hq with (h | ⟨o, h⟩) | h
      · exact .inl (.inl (kb _ _ h (Ne.symm hne)))
      · exact .inl (.inr ⟨o, kb _ _ h (Ne.symm hne)⟩)
      · exact .inr h
    refine ⟨_, rfl, q, rfl, ⟨_, hq⟩, for_list (K := K) (a := q) (xs := natsV ws) (fun i σ H' => ∃ v2 : Option V, σ = [some (.ref u), some (.ref q), v2] ∧ KeepB u H H' ∧ H' u = some (.lst (((ws.take i).foldl (fun u p => u.set p false) us).map V.bl))) ⟨_, rfl, fun _ _ e _ => e, hu⟩ (fun i σ H' _ ⟨_, _, kb, _⟩ => kq H' kb) ?_ ?_⟩
    · rintro i y σ H1 hi ⟨v2, rfl, kb, h1⟩
      have hi : (ws.map fun n => V.int (n : Nat))[i]? = some y := hi
      rw [List.getElem?_map] at hi
      obtain ⟨pl, hpl, rfl⟩ := Option.map_eq_some_iff.mp hi
      have plt := hw pl (List.mem_of_getElem? hpl)
      refine ⟨_, rfl, _, rfl, u, _, (pl : Int), pl, rfl, rfl, h1, ?_, _, rfl, fun c y e n => ?_, ?_⟩
      · unfold ixN
        rw [if_pos (by omega), if_pos (by rw [List.length_map, fl]; omega), Int.toNat_natCast]
      · rw [upd_ne n]
        exact kb _ _ e n
      · rw [upd_same, List.take_succ, hpl, List.foldl_append]
        show some (HO.lst ((List.map V.bl _).set pl (V.bl false))) = _
        rw [← List.map_set]
        rfl
    · rintro σ H1 ⟨v2, rfl, kb, h1⟩
      have el : (natsV ws).length = ws.length := List.length_map ..
      rw [el, List.take_length] at h1
      exact k H1 kb h1
end
end T86

set_option Elab.async false
set_option linter.all false
set_option maxRecDepth 100000
set_option maxHeartbeats 4000000
namespace T86
open PySem L2 EK
def turnAt (z : Str) (i : Nat) : Str := cutS z (some (i : Int)) none ++ cutS z none (some (i : Int))
def leastM (z : Str) : Str := match (List.range z.cps.size).map (turnAt z) with
  | [] => z
  | x :: xs => minS x xs
example : leastM "baba" = "abab" := by decide +kernel
def spLeast : Sp := fun vs H Q _ => ∃ z, vs = [.str z] ∧ 0 < z.cps.size ∧ z.cps.size ≤ 2000 ∧ ∀ H', Same H H' → Q (.str (leastM z)) H'
section
variable {P : Program} {w : World} {K : PySem.W.Frag} {mg : Str → Option Value} {base : Heap}
theorem scLeast : FnScope ["word", "place"] ["word"] (defScope sLeast) := ⟨rfl, rfl, rfl, by decide +kernel, rfl, by decide +kernel, by decide +kernel⟩
theorem join_signs (cs : List Nat) : ∀ l : List Nat, Txt.join "" (l.map fun p => (⟨#[cs.getD p 0]⟩ : Str)) = ⟨(l.map fun p => cs.getD p 0).toArray⟩ := by
  intro l
  have e1 : l.map (fun p => (⟨#[cs.getD p 0]⟩ : Str)) = (l.map fun p => [cs.getD p 0]).map SX.S := by rw [List.map_map]; rfl
  have e2 : ∀ ys : List (List Nat), TL.joinL [] ys = ys.flatten := by
    intro ys
    induction ys with
    | nil => rfl
    | cons y ys ih =>
      cases ys with
      | nil => exact (List.append_nil y).symm
      | cons y2 r =>
        show y ++ ([] ++ TL.joinL [] (y2 :: r)) = _
        rw [List.nil_append, ih]
        rfl
  have e3 : ∀ l : List Nat, (l.map fun p => [cs.getD p 0]).flatten = l.map fun p => cs.getD p 0 := by
    intro l
    induction l with
    | nil => rfl
    | cons a l ih => rw [List.map_cons, List.flatten_cons, ih]; rfl
  have e4 : ("" : Str) = SX.S [] := by rfl
  rw [e1, e4, SX.join_S, e2, e3]
theorem sum_ones (cs : List Nat) : ∀ l : List Nat, ((l.map fun p => (⟨#[cs.getD p 0]⟩ : Str)).map (·.length)).sum = l.length
  | [] => rfl
  | a :: l => by
    rw [List.map_cons, List.map_cons, List.sum_cons, sum_ones cs l, List.length_cons]
    show 1 + l.length = l.length + 1
    omega
theorem ok_rd {f : Addr} {fd : FuncData} (F : Fun K "_read" "_read" sRd f fd) (T : TxtC K mg) : FnOk P w K mg base CX0 1 f fd ["row", "way"] (spRd K) := by
  refine F.ok scRd (fun vs H Q E h => ?_) (fun cdv A outer s H vs Q E hr h => ?_)
  · obtain ⟨z, q, ws, rfl, _⟩ := h
    rfl
  · obtain ⟨z, q, ws, rfl, hz, hq, hl, hw, k⟩ := h
    have nd := scRd.nd
    have hlen : z.cps.toList.length = z.cps.size := Array.length_toList
    refine ⟨_, (pss_one (ps_ret (pe_join pe_str (pe_lc (own := [("place", 2)]) (g := gName 2) (tt := tYes) rfl nd (pi_reversed (by rfl) T.reversed (pa_cons (pv 1) pa_nil)) (blkOk_by (N := ["row", "way", "place"]) (sc := defScope sRd) (by decide +kernel)) (fun _ _ _ _ _ => (pg_name (i := 2) nd rfl (Or.inl rfl))) (fun _ _ _ _ _ => pts_nil) (fun _ _ _ _ _ => (pe_ix ix_str (pv 0) (pv 2) (fun _ _ => rfl))))))), ?_⟩
    refine ⟨⟨_, rfl⟩, _, rfl, q, _, rfl, hq, fun D hD => lc_it (walk_rev (K := K) (a := q) (xs := natsV ws)) (fun i H' => Same H H' ∧ H' D = some (.lst (((ws.reverse.take i).map fun p => (⟨#[z.cps.toList.getD p 0]⟩ : Str)).map V.str))) ⟨fun b o e => by rw [upd_ne (ne_of_none e hD)]; exact e, upd_same⟩ (fun i H' _ h => h.1.seq hq) ?_ ?_⟩
    · rintro i y H1 H2 hi ⟨s1, d1⟩ ⟨rfl, hy⟩
      have el : (natsV ws).length = ws.length := List.length_map ..
      have hy : (ws.map fun n => V.int (n : Nat))[(natsV ws).length - 1 - i]? = some y := hy
      rw [List.getElem?_map, el] at hy
      rw [el] at hi
      obtain ⟨pl, hpl, rfl⟩ := Option.map_eq_some_iff.mp hy
      have plt := hw pl (List.mem_of_getElem? hpl)
      have hrev : ws.reverse[i]? = some pl := by rw [List.getElem?_reverse hi]; exact hpl
      refine ⟨rfl, _, rfl, _, rfl, z, (pl : Int), z.cps.toList.getD pl 0, rfl, rfl, Nat.le_trans (show z.cps.size ≤ 1000 from hz) (by decide), ?_, _, d1, ?_, fun b o e => ?_, ?_⟩
      · unfold atI ixN
        rw [if_pos (by omega), if_pos (by rw [hlen]; omega), Int.toNat_natCast, List.getD_eq_getElem?_getD]
        show z.cps.toList[pl]? = _
        rw [List.getElem?_eq_getElem (by rw [hlen]; exact plt)]
        rfl
      · rw [List.length_map, List.length_map, List.length_take, List.length_reverse]
        exact Nat.lt_of_le_of_lt (Nat.min_le_right _ _) (Nat.lt_of_le_of_lt hl (by decide))
      · rw [upd_ne (ne_of_none e hD)]
        exact s1 _ _ e
      · rw [upd_same, List.take_succ, hrev, List.map_append, List.map_append]
        rfl
    · rintro H1 ⟨s1, d1⟩
      have el : (natsV ws).length = ws.reverse.length := by rw [List.length_reverse]; exact List.length_map ..
      rw [el, List.take_length] at d1
      refine ⟨_, D, _, rfl, rfl, .inl (.of d1), ?_, ?_⟩
      · rw [sum_ones, List.length_map, List.length_reverse]
        show ws.length + ws.length * 0 ≤ 16777216
        omega
      · rw [join_signs]
        exact k H1 s1
theorem ok_least {f : Addr} {fd : FuncData} (F : Fun K "_least_turn" "_least_turn" sLeast f fd) (T : TxtC K mg) : FnOk P w K mg base CX0 1 f fd ["word"] spLeast := by
  refine F.ok scLeast (fun vs H Q E h => ?_) (fun cdv A outer s H vs Q E hr h => ?_)
  · obtain ⟨z, rfl, _⟩ := h
    rfl
  · obtain ⟨z, rfl, h0, hz, k⟩ := h
    have nd := scLeast.nd
    have hu : (A.deeper (PyProof.Rows.envOfC "_least_turn" (defScope sLeast) s.heap.objs.size f cdv)).units + 64 < cLine := hr.units
    refine ⟨_, (pss_one (ps_ret (pe_callB (cr_minS rfl hu) (by rfl) T.min (by decide +kernel) (pa_cons (pe_lc (own := [("place", 1)]) (g := gName 1) (tt := tYes) rfl nd (pi_range1 (by rfl) T.range (pa_cons (pe_callB call_len_str (by rfl) T.len (by decide +kernel) (pa_cons (pv 0) pa_nil)) pa_nil)) (blkOk_by (N := ["word", "place"]) (sc := defScope sLeast) (by decide +kernel)) (fun _ _ _ _ _ => (pg_name (i := 1) nd rfl (Or.inl rfl))) (fun _ _ _ _ _ => pts_nil) (fun _ _ _ _ _ => (pe_op op_add_str (pe_slice sl_str (pv 0) (po_some (pv 1)) po_none) (pe_slice sl_str (pv 0) po_none (po_some (pv 1)))))) pa_nil)))), ?_⟩
    have zl : (z.length : Nat) = z.cps.size := rfl
    have hn : ((z.length : Nat) : Int).toNat = z.cps.size := Int.toNat_natCast _
    refine ⟨_, rfl, z, rfl, Nat.le_trans (show z.cps.size ≤ 2000 from hz) (by decide), _, rfl, by omega, by omega, fun D hD => lc_range (lo := 0) (n := ((z.length : Nat) : Int).toNat) (fun i H' => Same H H' ∧ H' D = some (.lst (((List.range i).map (turnAt z)).map V.str))) ⟨fun b o e => by rw [upd_ne (ne_of_none e hD)]; exact e, upd_same⟩ ?_ ?_⟩
    · rintro i H1 hi ⟨s1, d1⟩
      rw [hn] at hi
      refine ⟨rfl, ?_⟩
      have hzl : z.length ≤ sizeLine := Nat.le_trans (show z.cps.size ≤ 2000 from hz) (by decide)
      have cl : ∀ lo hi, (cutS z lo hi).length ≤ z.cps.size := fun lo hi => by
        unfold cutS
        show ((z.cps.toList.drop _).take _).toArray.size ≤ _
        rw [List.size_toArray, List.length_take, List.length_drop, Array.length_toList]
        omega
      refine ⟨_, rfl, _, rfl, _, rfl, z, rfl, hzl, _, rfl, _, rfl, _, rfl, z, rfl, hzl, _, _, rfl, rfl, ?_, _, d1, ?_, fun b o e => ?_, ?_⟩
      · exact Nat.le_trans (Nat.add_le_add (cl _ _) (cl _ _)) (Nat.le_trans (show z.cps.size + z.cps.size ≤ 4000 by omega) (by decide))
      · rw [List.length_map, List.length_map, List.length_range]
        exact Nat.lt_trans (show i < 2001 by omega) (by decide)
      · rw [upd_ne (ne_of_none e hD)]
        exact s1 _ _ e
      · rw [upd_same, List.range_succ, List.map_append, List.map_append]
        show _ = some (HO.lst (_ ++ [V.str (turnAt z i)]))
        unfold turnAt
        rw [Int.zero_add]
    · rintro H1 ⟨s1, d1⟩
      rw [hn] at d1
      have ne : ∃ x xs, (List.range z.cps.size).map (turnAt z) = x :: xs := by
        cases e : (List.range z.cps.size).map (turnAt z) with
        | nil =>
          have := congrArg List.length e
          rw [List.length_map, List.length_range] at this
          exact absurd this (Nat.ne_of_gt h0)
        | cons x xs => exact ⟨x, xs, rfl⟩
      obtain ⟨x, xs, e⟩ := ne
      have k1 := k H1 s1
      unfold leastM at k1
      rw [e] at k1 d1
      exact ⟨D, x, xs, rfl, .of d1, k1⟩
end
end T86

set_option Elab.async false
set_option linter.all false
set_option maxRecDepth 100000
set_option maxHeartbeats 4000000
namespace T86
open PySem L2 EK
def tailS (s : Str) : Str := cutS s (some 1) none
def crossM (us : List Bool) (ws : List Nat) : List Bool := ws.foldl (fun u p => u.set p false) us
def textsG (z : Str) (bs : List V) : List Nat → List Str → List Bool → Option (List Str × List Bool)
  | [], ts, us => some (ts, us)
  | p :: r, ts, us => match wayM bs p with
    | some ws => if (ws.all fun p => decide (p < z.cps.size)) = true then textsG z bs r (ts ++ [tailS (readS z.cps.toList ws)]) (crossM us ws) else none
    | none => none
def ringsG (z : Str) (bs : List V) : List Nat → List Str → List Bool → Option (List Str)
  | [], rs, _ => some rs
  | p :: r, rs, us => match us[p]? with
    | some true => (match wayM bs p with
      | some ws => if (ws.all fun p => decide (p < z.cps.size)) = true then (if ws = [] then none else ringsG z bs r (rs ++ [leastM (readS z.cps.toList ws)]) (crossM us ws)) else none
      | none => none)
    | some false => ringsG z bs r rs us
    | none => none
def endsN (z : Str) : Nat := (Txt.count z "$").toNat
def restL (lo n : Nat) : List Nat := (List.range (n - lo)).map fun i => lo + i
def readM (z : Str) : Option (List Str × List Str) := if 0 ≤ Txt.count z "$" ∧ endsN z ≤ z.cps.size then
    (match textsG z (stepL z.cps.toList) (List.range (endsN z)) [] (List.replicate z.cps.size true) with
    | some (ts, us) => (match ringsG z (stepL z.cps.toList) (restL (endsN z) z.cps.size) [] us with
      | some rs => some (ts, isort (dle PyData.str) rs)
      | none => none)
    | none => none) else none
example : readM "bbaa" = some ([], [("ab" : Str), ("ab" : Str)]) := by decide +kernel
example : readM "b$a" = some ([("ab" : Str)], []) := by decide +kernel
theorem sort_texts (rs : List Str) : ((rs.map fun r => (V.str r, PyData.str r)).mergeSort (PySem.W.dataLe false (·.2))).map (·.1) = (isort (dle PyData.str) rs).map V.str := by
  have h1 := List.map_mergeSort (f := fun r : Str => (V.str r, PyData.str r)) (r := dle PyData.str) (s := PySem.W.dataLe false (·.2)) (l := rs) fun a _ b _ => rfl
  rw [← h1, List.map_map, msort_isort (dle PyData.str) (dle_trans _) (dle_total _) _ fun x _ y _ h1 h2 => ?_]
  · rfl
  · have e := dle_anti h1 h2
    have e1 : ∀ r : Str, PySem.W.keyToks (.str r) = [.inr r.cps.toList] := fun r => by simp [PySem.W.keyToks]
    rw [e1, e1] at e
    injection e with e _
    injection e with e
    exact PySem.W.str_of_cps e
theorem stepL_len (cs : List Nat) : (stepL cs).length = cs.length := by
  unfold stepL
  rw [stepG_len, List.length_replicate]
theorem cross_len : ∀ (ws : List Nat) (us : List Bool), (crossM us ws).length = us.length
  | [], us => rfl
  | a :: l, us => (cross_len l _).trans (List.length_set ..)
theorem wayM_len {bs : List V} {p : Nat} {ws : List Nat} (h : wayM bs p = some ws) : ws.length ≤ bs.length + 1 := by
  unfold wayM at h
  cases hv : bs[p]? with
  | none => rw [hv] at h; cases h
  | some v =>
    rw [hv] at h
    have := wayG_len bs p _ _ _ _ h
    rw [List.length_singleton] at this
    omega
theorem readS_len (cs ws : List Nat) : (readS cs ws).cps.size = ws.length := by
  unfold readS
  simp
def refused (C : Addr) (H : Hp) (x : V) (E : XK) : Prop := (isStrV x = false ∨ ∃ z, x = .str z ∧ z.cps.size ≤ 100000 ∧ isR z = false) ∧ ∀ H' d, Same H H' → H' d = none → E (.ref C) (some d) (upd H' d (.xd [("row", x)]))
def spRead (C : Addr) : Sp := fun vs H Q E => ∃ x, vs = [x] ∧ Pl H x ∧ ((∃ z ts rs, x = .str z ∧ isR z = true ∧ z.cps.size ≤ 400 ∧ readM z = some (ts, rs) ∧ ∀ p a b H', Same H H' → H' p = some (.tup [.ref a, .ref b]) → H' a = some (.tup (ts.map V.str)) → H' b = some (.tup (rs.map V.str)) → Q (.ref p) H') ∨ refused C H x E)
section
variable {P : Program} {w : World} {K : PySem.W.Frag} {mg : Str → Option Value} {base : Heap} {C : Addr}
theorem scRead : FnScope ["row", "back", "ends", "texts", "unread", "place", "way", "rings"] ["row"] (defScope sRead) := ⟨rfl, rfl, rfl, by decide +kernel, rfl, by decide +kernel, by decide +kernel⟩
theorem ok_read {f f6 f8 f9 f0 fQ : Addr} {fd fd6 fd8 fd9 fd0 fdQ : FuncData} (F : Fun K "read_back" "read_back" sRead f fd) (T : TxtC K mg)
    (G6 : FnOk P w K mg base (L2.CX P w) 4 f6 fd6 ["row"] (spStep C)) (g6 : mg "step_back" = some (.ref f6)) (k6 : PySem.W.keepIn K (.ref f6) = true) (b6 : Binds K fd6 ["row"] [])
    (G8 : FnOk P w K mg base CX0 1 f8 fd8 ["back", "place"] (spWay K)) (g8 : mg "_way" = some (.ref f8)) (k8 : PySem.W.keepIn K (.ref f8) = true) (b8 : Binds K fd8 ["back", "place"] [])
    (G9 : FnOk P w K mg base CX0 1 f9 fd9 ["unread", "way"] (spCross K)) (g9 : mg "_cross_out" = some (.ref f9)) (k9 : PySem.W.keepIn K (.ref f9) = true) (b9 : Binds K fd9 ["unread", "way"] [])
    (G0 : FnOk P w K mg base CX0 1 f0 fd0 ["row", "way"] (spRd K)) (g0 : mg "_read" = some (.ref f0)) (k0 : PySem.W.keepIn K (.ref f0) = true) (b0 : Binds K fd0 ["row", "way"] [])
    (GQ : FnOk P w K mg base CX0 1 fQ fdQ ["word"] spLeast) (gQ : mg "_least_turn" = some (.ref fQ)) (kQ : PySem.W.keepIn K (.ref fQ) = true) (bQ : Binds K fdQ ["word"] []) :
    FnOk P w K mg base (L2.CX P w) 5 f fd ["row"] (spRead C) := by
  refine F.okX scRead (fun vs H Q E h => ?_) (fun cdv A outer s H vs Q E hr h => ?_)
  · obtain ⟨x, rfl, _⟩ := h
    rfl
  · obtain ⟨x, rfl, hp, k⟩ := h
    have nd := scRead.nd
    have hr4 : Room 4 _ := hr
    have hr1 : Room 1 _ := hr.mono (by decide)
    have hu : (A.deeper (PyProof.Rows.envOfC "read_back" (defScope sRead) s.heap.objs.size f cdv)).units + 64 < cLine := hr.units
    refine ⟨_, (pss_cons (ps_set (i := 1) nd rfl (Or.inl rfl) (pe_call G6 hr4 rfl g6 k6 b6 .nil (passes_call (takes_of rfl rfl rfl rfl) fun _ _ _ _ h => h) (pa_cons (pv 0) pa_nil)))
      (pss_cons (ps_set (i := 2) nd rfl (Or.inl rfl) (pe_bm PySem.F.plainAttrs_str PySem.F.slot_str_count PySem.F.type_str_count mt_count (pv 0) (pa_cons (C8.pe_gc (by rfl) T.endS) pa_nil)))
      (pss_cons (ps_set (i := 3) nd rfl (Or.inl rfl) (pe_lst pa_nil))
      (pss_cons (ps_set (i := 4) nd rfl (Or.inl rfl) (pe_op op_rep (pe_lst (pa_cons pe_bl pa_nil)) (pe_callB call_len_str (by rfl) T.len (by decide +kernel) (pa_cons (pv 0) pa_nil))))
      (pss_cons (ps_for (passes_of rfl) rfl (pi_range1 (by rfl) T.range (pa_cons (pv 2) pa_nil)) (pg_name (i := 5) nd rfl (Or.inl rfl)) (pss_cons (ps_set (i := 6) nd rfl (Or.inl rfl) (pe_call G8 hr1 rfl g8 k8 b8 .nil pass0 (pa_cons (pv 1) (pa_cons (pv 5) pa_nil))))
      (pss_cons (ps_expr (pe_call G9 hr1 rfl g9 k9 b9 .nil pass0 (pa_cons (pv 4) (pa_cons (pv 6) pa_nil))))
      (pss_one (ps_expr (pe_bm PySem.F.plainAttrs_list PySem.F.slot_list_append PySem.F.type_list_append mt_append (pv 3) (pa_cons (pe_slice sl_str (pe_call G0 hr1 rfl g0 k0 b0 .nil pass0 (pa_cons (pv 0) (pa_cons (pv 6) pa_nil))) (po_some pe_int) po_none) pa_nil)))))))
      (pss_cons (ps_set (i := 7) nd rfl (Or.inl rfl) (pe_lst pa_nil))
      (pss_cons (ps_for (passes_of rfl) rfl (pi_range2 (by rfl) T.range (pa_cons (pv 2) (pa_cons (pe_callB call_len_str (by rfl) T.len (by decide +kernel) (pa_cons (pv 0) pa_nil)) pa_nil))) (pg_name (i := 5) nd rfl (Or.inl rfl)) (pss_one (ps_if (pt_val (pe_ix ix_list (pv 4) (pv 5) (fun _ _ => rfl))) (pss_cons (ps_set (i := 6) nd rfl (Or.inl rfl) (pe_call G8 hr1 rfl g8 k8 b8 .nil pass0 (pa_cons (pv 1) (pa_cons (pv 5) pa_nil))))
      (pss_cons (ps_expr (pe_call G9 hr1 rfl g9 k9 b9 .nil pass0 (pa_cons (pv 4) (pa_cons (pv 6) pa_nil))))
      (pss_one (ps_expr (pe_bm PySem.F.plainAttrs_list PySem.F.slot_list_append PySem.F.type_list_append mt_append (pv 7) (pa_cons (pe_call GQ hr1 rfl gQ kQ bQ .nil pass0 (pa_cons (pe_call G0 hr1 rfl g0 k0 b0 .nil pass0 (pa_cons (pv 0) (pa_cons (pv 6) pa_nil))) pa_nil)) pa_nil)))))) pss_nil)))
      (pss_one (ps_ret (pe_tup (pa_cons (pe_callTy call_tuple_of (by rfl) T.tuple (by decide +kernel) (pa_cons (pv 3) pa_nil)) (pa_cons (pe_callTy call_tuple_of (by rfl) T.tuple (by decide +kernel) (pa_cons (pe_callB (cr_sortedD hu) (by rfl) T.sorted (by decide +kernel) (pa_cons (pv 7) pa_nil)) pa_nil)) pa_nil)))))))))))), ?_⟩
    rcases k with ⟨z, ts, rs, rfl, hb, hz, hm, k⟩ | ⟨hbad, k⟩
    rotate_left
    · exact ⟨_, rfl, x, rfl, hp, .inr ⟨hbad, k⟩⟩
    have hlen : z.cps.toList.length = z.cps.size := Array.length_toList
    have zl : (z.length : Nat) = z.cps.size := rfl
    have hzl : z.length ≤ sizeLine := Nat.le_trans (show z.cps.size ≤ 400 from hz) (by decide)
    unfold readM at hm
    split at hm
    rotate_left
    · cases hm
    rename_i hc
    obtain ⟨hc0, hce⟩ := hc
    have hcn : ((endsN z : Nat) : Int) = Txt.count z "$" := Int.toNat_of_nonneg hc0
    split at hm
    rotate_left
    · cases hm
    rename_i ts' us' ht
    split at hm
    rotate_left
    · cases hm
    rename_i rs' hrg
    have hm := Option.some.inj hm
    injection hm with hm1 hm2
    subst hm1
    refine ⟨_, rfl, _, rfl, hp, .inl ⟨z, rfl, hb, Nat.le_trans hz (by decide), fun pb H1 s1 hpb => ?_⟩⟩
    refine ⟨_, rfl, rfl, _, _, rfl, rfl, ?_⟩
    have cb : Txt.count z "$" ≤ 400 := by omega
    refine ⟨(by show 0 ≤ sizeLine; decide), fun t0 zt => ?_⟩
    obtain ⟨H2, e2, S2, A2⟩ := alloc (o := .lst []) zt
    rw [e2]
    refine ⟨(by show 1 ≤ sizeLine; decide), fun u00 zu0 => ?_⟩
    obtain ⟨H3, e3, S3, A3⟩ := alloc (o := .lst [.bl true]) zu0
    rw [e3]
    refine ⟨_, rfl, z, rfl, hzl, u00, _, _, rfl, rfl, A3, by omega, by omega, ?_, fun u0 zu => ?_⟩
    · show 1 * ((z.length : Nat) : Int).toNat ≤ sizeLine
      rw [Int.toNat_natCast, Nat.one_mul]
      exact hzl
    have erep : (List.replicate ((z.length : Nat) : Int).toNat [V.bl true]).flatten = (List.replicate z.cps.size true).map V.bl := by
      rw [Int.toNat_natCast, zl]
      generalize z.cps.size = n
      induction n with
      | zero => rfl
      | succ n ih => rw [List.replicate_succ, List.flatten_cons, ih]; rfl
    rw [erep]
    obtain ⟨H4, e4, S4, A4⟩ := alloc (o := .lst ((List.replicate z.cps.size true).map V.bl)) zu
    rw [e4]
    have nut : u0 ≠ t0 := fun e => by rw [e, S3 _ _ A2] at zu; cases zu
    have sqb : H4 pb = some (.tup (stepL z.cps.toList)) := S4 _ _ (S3 _ _ (S2 _ _ hpb))
    have npt : pb ≠ t0 := fun e => by rw [e, zt] at hpb; cases hpb
    have npu : pb ≠ u0 := fun e => by rw [← e, S3 _ _ (S2 _ _ hpb)] at zu; cases zu
    have bl : (stepL z.cps.toList).length ≤ 1000 := by rw [stepL_len, hlen]; omega
    have sH4 : Same H H4 := ((s1.trans S2).trans S3).trans S4
    have ht0 : H t0 = none := by cases e : H t0 with
      | none => rfl
      | some o => rw [s1 _ _ e] at zt; cases zt
    have hu0 : H u0 = none := by cases e : H u0 with
      | none => rfl
      | some o => rw [((s1.trans S2).trans S3) _ _ e] at zu; cases zu
    refine ⟨_, rfl, _, rfl, by omega, by omega, for_it (walk_range (lo := 0) (n := (Txt.count z "$").toNat)) (fun i σ H' => ∃ (v5 v6 : Option V) (tsi : List Str) (usi : List Bool), σ = [some (.str z), some (.ref pb), some (.int (Txt.count z "$")), some (.ref t0), some (.ref u0), v5, v6, none] ∧
        (∀ c o, H4 c = some o → c ≠ t0 → c ≠ u0 → H' c = some o) ∧ H' t0 = some (.lst (tsi.map V.str)) ∧ H' u0 = some (.lst (usi.map V.bl)) ∧ usi.length = z.cps.size ∧ tsi.length ≤ i ∧ textsG z (stepL z.cps.toList) ((List.range (endsN z)).drop i) tsi usi = some (ts', us')) ⟨_, _, [], List.replicate z.cps.size true, rfl, fun _ _ e _ _ => e, S4 _ _ (S3 _ _ A2), A4, List.length_replicate, Nat.le_refl _, ht⟩ (fun _ _ _ _ _ => trivial) ?_ ?_⟩
    · rintro i y σ Gz G hi ⟨v5, v6, tsi, usi, rfl, kk, ht1, hu1, ul, tl1, hg⟩ ⟨rfl, hy⟩
      have hy : y = V.int (i : Nat) := by rw [hy]; show V.int (0 + (i : Nat)) = _; rw [Int.zero_add]
      subst hy
      have hi : i < endsN z := hi
      have hdr : (List.range (endsN z)).drop i = i :: (List.range (endsN z)).drop (i + 1) := by
        rw [List.drop_eq_getElem_cons (by rw [List.length_range]; exact hi), List.getElem_range]
      rw [hdr] at hg
      unfold textsG at hg
      split at hg
      rotate_left
      · cases hg
      rename_i ws hw
      split at hg
      rotate_left
      · cases hg
      rename_i hall
      have wlt : ∀ p ∈ ws, p < z.cps.size := fun p hp => of_decide_eq_true (List.all_eq_true.mp hall p hp)
      have wl := wayM_len hw
      rw [stepL_len, hlen] at wl
      have pbG : G pb = some (.tup (stepL z.cps.toList)) := kk _ _ sqb npt npu
      refine ⟨_, rfl, _, rfl, pb, _, i, ws, rfl, .inl (.inl pbG), bl, hw, fun q G1 sw hq qn => ?_⟩
      have nq : u0 ≠ q := fun e => by rw [← e, hu1] at qn; cases qn
      have nqt : t0 ≠ q := fun e => by rw [← e, ht1] at qn; cases qn
      refine ⟨_, rfl, _, rfl, u0, q, usi, ws, rfl, sw _ _ hu1, .of hq, nq, fun p hp => by rw [ul]; exact wlt p hp, fun G2 kb2 hu2 => ?_⟩
      have ht2 : G2 t0 = some (.lst (tsi.map V.str)) := kb2 _ _ (sw _ _ ht1) (Ne.symm nut)
      refine ⟨_, rfl, .inl ⟨rfl, _, .of ht2⟩, _, rfl, _, rfl, z, q, ws, rfl, Nat.le_trans hz (by decide), .of (kb2 _ _ hq (Ne.symm nq)), by omega, wlt, fun G3 s3 => ?_⟩
      have ht3 := s3 _ _ ht2
      refine ⟨_, rfl, _, rfl, ?_, t0, _, _, rfl, rfl, ht3, ?_, ?_⟩
      · show (readS z.cps.toList ws).cps.size ≤ sizeLine
        rw [readS_len]
        exact Nat.le_trans (show ws.length ≤ 1000 by omega) (by decide)
      · rw [List.length_map]
        exact Nat.lt_of_le_of_lt (show tsi.length ≤ 1000 by omega) (by decide)
      · refine ⟨_, _, tsi ++ [tailS (readS z.cps.toList ws)], crossM usi ws, rfl, fun c o e n1 n2 => ?_, ?_, ?_, ?_, ?_, hg⟩
        · rw [upd_ne n1]
          exact s3 _ _ (kb2 _ _ (sw _ _ (kk _ _ e n1 n2)) n2)
        · rw [upd_same, List.map_append]
          rfl
        · rw [upd_ne nut]
          exact s3 _ _ hu2
        · rw [cross_len, ul]
        · rw [List.length_append, List.length_singleton]
          omega
    · rintro σ G ⟨v5, v6, tsi, usi, rfl, kk, ht1, hu1, ul, tl1, hg⟩
      have hgl : (List.range (endsN z)).drop (Txt.count z "$").toNat = [] := List.drop_eq_nil_of_le (by rw [List.length_range]; exact Nat.le_refl _)
      rw [hgl] at hg
      have hg := Option.some.inj hg
      injection hg with hg1 hg2
      subst hg1
      subst hg2
      refine ⟨(by show 0 ≤ sizeLine; decide), fun r0 zr => ?_⟩
      obtain ⟨G0', f0, U0, B0⟩ := alloc (o := .lst []) zr
      rw [f0]
      have nru : u0 ≠ r0 := fun e => by rw [← e, hu1] at zr; cases zr
      have pbG : G0' pb = some (.tup (stepL z.cps.toList)) := U0 _ _ (kk _ _ sqb npt npu)
      have npr : pb ≠ r0 := fun e => by rw [← e, kk _ _ sqb npt npu] at zr; cases zr
      have ntr : t0 ≠ r0 := fun e => by rw [← e, ht1] at zr; cases zr
      have hr0 : H r0 = none := by cases e : H r0 with
        | none => rfl
        | some o => rw [kk _ _ (sH4 _ _ e) (fun y => by rw [y, ht0] at e; cases e) (fun y => by rw [y, hu0] at e; cases e)] at zr; cases zr
      have rl : (restL (endsN z) z.cps.size).length = z.cps.size - endsN z := by unfold restL; rw [List.length_map, List.length_range]
      refine ⟨_, rfl, _, rfl, z, rfl, hzl, _, _, rfl, ⟨by omega, by omega, by omega, by omega⟩, for_it (walk_range (lo := Txt.count z "$") (n := (((z.length : Nat) : Int) - Txt.count z "$").toNat)) (fun i σ H' => ∃ (v5 v6 : Option V) (rsi : List Str) (usi : List Bool), σ = [some (.str z), some (.ref pb), some (.int (Txt.count z "$")), some (.ref t0), some (.ref u0), v5, v6, some (.ref r0)] ∧
        (∀ c o, G0' c = some o → c ≠ r0 → c ≠ u0 → H' c = some o) ∧ H' r0 = some (.lst (rsi.map V.str)) ∧ H' u0 = some (.lst (usi.map V.bl)) ∧ usi.length = z.cps.size ∧ rsi.length ≤ i ∧ ringsG z (stepL z.cps.toList) ((restL (endsN z) z.cps.size).drop i) rsi usi = some rs') ⟨_, _, [], _, rfl, fun _ _ e _ _ => e, B0, U0 _ _ hu1, ul, Nat.le_refl _, hrg⟩ (fun _ _ _ _ _ => trivial) ?_ ?_⟩
      · rintro i y σ Gz G hi ⟨v5, v6, rsi, usi, rfl, kk2, hr1', hu1, ul, rl1, hg⟩ ⟨rfl, hy⟩
        have hi2 : i < z.cps.size - endsN z := by omega
        have hy : y = V.int ((endsN z + i : Nat) : Int) := by rw [hy]; show V.int (Txt.count z "$" + (i : Nat)) = _; rw [← hcn, Int.natCast_add]
        subst hy
        have hdr : (restL (endsN z) z.cps.size).drop i = (endsN z + i) :: (restL (endsN z) z.cps.size).drop (i + 1) := by
          rw [List.drop_eq_getElem_cons (by rw [rl]; exact hi2)]
          unfold restL
          rw [List.getElem_map, List.getElem_range]
        rw [hdr] at hg
        unfold ringsG at hg
        cases hub : usi[endsN z + i]? with
        | none => rw [hub] at hg; cases hg
        | some b =>
          rw [hub] at hg
          have ixu : atI (usi.map V.bl) ((endsN z + i : Nat) : Int) = some (V.bl b) := by
            rw [atI_nat _ _ (by rw [List.length_map, ul]; omega), List.getElem?_map, hub]
            rfl
          refine ⟨_, rfl, _, rfl, u0, _, _, _, rfl, rfl, .of hu1, ixu, b, rfl, ?_⟩
          cases b with
          | false => exact ⟨_, _, rsi, usi, rfl, kk2, hr1', hu1, ul, by omega, hg⟩
          | true =>
            have hg : (match wayM (stepL z.cps.toList) (endsN z + i) with
              | some ws => if (ws.all fun p => decide (p < z.cps.size)) = true then (if ws = [] then none else ringsG z (stepL z.cps.toList) ((restL (endsN z) z.cps.size).drop (i + 1)) (rsi ++ [leastM (readS z.cps.toList ws)]) (crossM usi ws)) else none
              | none => none) = some rs' := hg
            split at hg
            rotate_left
            · cases hg
            rename_i ws hw
            split at hg
            rotate_left
            · cases hg
            rename_i hall
            split at hg
            · cases hg
            rename_i hne
            have wlt : ∀ p ∈ ws, p < z.cps.size := fun p hp => of_decide_eq_true (List.all_eq_true.mp hall p hp)
            have wl := wayM_len hw
            rw [stepL_len, hlen] at wl
            have w0 : 0 < ws.length := List.length_pos_iff.mpr hne
            have pbG2 : G pb = some (.tup (stepL z.cps.toList)) := kk2 _ _ pbG npr npu
            refine ⟨_, rfl, _, rfl, pb, _, endsN z + i, ws, rfl, .inl (.inl pbG2), bl, hw, fun q G1 sw hq qn => ?_⟩
            have nq : u0 ≠ q := fun e => by rw [← e, hu1] at qn; cases qn
            refine ⟨_, rfl, _, rfl, u0, q, usi, ws, rfl, sw _ _ hu1, .of hq, nq, fun p hp => by rw [ul]; exact wlt p hp, fun G2 kb2 hu2 => ?_⟩
            have hr2 : G2 r0 = some (.lst (rsi.map V.str)) := kb2 _ _ (sw _ _ hr1') (Ne.symm nru)
            refine ⟨_, rfl, .inl ⟨rfl, _, .of hr2⟩, _, rfl, _, rfl, z, q, ws, rfl, Nat.le_trans hz (by decide), .of (kb2 _ _ hq (Ne.symm nq)), by omega, wlt, fun G3 s3 => ?_⟩
            refine ⟨_, rfl, by rw [readS_len]; exact w0, by rw [readS_len]; omega, fun G4 s4 => ?_⟩
            have hr3 := s4 _ _ (s3 _ _ hr2)
            refine ⟨r0, _, _, rfl, rfl, hr3, ?_, ?_⟩
            · rw [List.length_map]
              exact Nat.lt_of_le_of_lt (show rsi.length ≤ 1000 by omega) (by decide)
            · refine ⟨_, _, rsi ++ [leastM (readS z.cps.toList ws)], crossM usi ws, rfl, fun c o e n1 n2 => ?_, ?_, ?_, ?_, ?_, hg⟩
              · rw [upd_ne n1]
                exact s4 _ _ (s3 _ _ (kb2 _ _ (sw _ _ (kk2 _ _ e n1 n2)) n2))
              · rw [upd_same, List.map_append]
                rfl
              · rw [upd_ne nru]
                exact s4 _ _ (s3 _ _ hu2)
              · rw [cross_len, ul]
              · rw [List.length_append, List.length_singleton]
                omega
      · rintro σ G1 ⟨v5, v6, rsi, usi, rfl, kk2, hr1', hu1', ul', rl1, hg'⟩
        have hgl2 : (restL (endsN z) z.cps.size).drop (((z.length : Nat) : Int) - Txt.count z "$").toNat = [] := List.drop_eq_nil_of_le (by rw [rl]; omega)
        rw [hgl2] at hg'
        have hg' := Option.some.inj hg'
        subst hg'
        have ht9 : G1 t0 = some (.lst (tsi.map V.str)) := kk2 _ _ (U0 _ _ ht1) ntr (Ne.symm nut)
        have sG1 : Same H G1 := fun c o e => by
          have n1 : c ≠ t0 := fun y => by rw [y, ht0] at e; cases e
          have n2 : c ≠ u0 := fun y => by rw [y, hu0] at e; cases e
          have n3 : c ≠ r0 := fun y => by rw [y, hr0] at e; cases e
          exact kk2 _ _ (U0 _ _ (kk _ _ (sH4 _ _ e) n1 n2)) n3 n2
        refine ⟨_, rfl, t0, _, rfl, .inl ⟨.of ht9, fun a za => ?_⟩⟩
        obtain ⟨L1, j1, W1, D1⟩ := alloc (o := .tup (tsi.map V.str)) za
        rw [j1]
        have kb : (rsi.map fun r => (V.str r, PyData.str r)).map (·.1) = rsi.map V.str := by rw [List.map_map]; rfl
        refine ⟨_, rfl, r0, rsi.map fun r => (V.str r, PyData.str r), rfl, by rw [kb]; exact .of (W1 _ _ hr1'), fun b hb => ?_, ?_, .inr fun d hd => ?_, fun b hb => ?_, fun p2 zp2 => ?_⟩
        · obtain ⟨r, _, rfl⟩ := List.mem_map.mp hb
          exact .str r
        · intro d hd d' hd'
          rw [List.map_map] at hd hd'
          obtain ⟨r, _, rfl⟩ := List.mem_map.mp hd
          obtain ⟨r', _, rfl⟩ := List.mem_map.mp hd'
          rfl
        · rw [List.map_map] at hd
          obtain ⟨r, _, rfl⟩ := List.mem_map.mp hd
          exact ⟨fun e => (by cases e), fun xs e => (by cases e)⟩
        · obtain ⟨r, _, rfl⟩ := List.mem_map.mp hb
          simp [PyData.depth]
        rw [sort_texts, hm2]
        obtain ⟨L2, j2, W2, D2⟩ := alloc (o := .lst (rs.map V.str)) zp2
        rw [j2]
        refine ⟨p2, _, rfl, .inl ⟨.of D2, fun b zb => ?_⟩⟩
        obtain ⟨L3, j3, W3, D3⟩ := alloc (o := .tup (rs.map V.str)) zb
        rw [j3]
        refine ⟨(by show 2 ≤ sizeLine; decide), fun p zp => ?_⟩
        obtain ⟨L4, j4, W4, D4⟩ := alloc (o := .tup [.ref a, .ref b]) zp
        rw [j4]
        exact k p a b L4 ((((sG1.trans W1).trans W2).trans W3).trans W4) D4 (((W2.trans W3).trans W4) _ _ D1) (W4 _ _ D3)
end
end T86

set_option Elab.async false
set_option linter.all false
set_option maxRecDepth 100000
set_option maxHeartbeats 4000000
/-! LynMath: words that are less than their other turns, and the parts into which a text falls. -/
namespace Lyn
/-- how a word is less than another one -/
theorem lt_cases {a b : List Nat} (h : a < b) : (∃ y t, b = a ++ y :: t) ∨ ∃ p x y s t, a = p ++ x :: s ∧ b = p ++ y :: t ∧ x < y := by
  induction a generalizing b with
  | nil =>
    cases b with
    | nil => exact absurd h (List.lt_irrefl [])
    | cons y t => exact .inl ⟨y, t, rfl⟩
  | cons c a ih =>
    cases b with
    | nil => exact absurd h (List.not_lt_nil _)
    | cons d b =>
      rcases List.cons_lt_cons_iff.mp h with g | ⟨rfl, g⟩
      · exact .inr ⟨[], c, d, a, b, rfl, rfl, g⟩
      · rcases ih g with ⟨y, t, rfl⟩ | ⟨p, x, y, s, t, rfl, rfl, hxy⟩
        · exact .inl ⟨y, t, rfl⟩
        · exact .inr ⟨c :: p, x, y, s, t, rfl, rfl, hxy⟩
theorem app_lt (p : List Nat) {a b : List Nat} : p ++ a < p ++ b ↔ a < b := by
  induction p with
  | nil => exact Iff.rfl
  | cons c p ih =>
    rw [List.cons_append, List.cons_append, List.cons_lt_cons_iff]
    constructor
    · rintro (h | ⟨_, h⟩)
      · exact absurd h (Nat.lt_irrefl c)
      · exact ih.mp h
    · exact fun h => .inr ⟨rfl, ih.mpr h⟩
theorem lt_dif {p s t : List Nat} {x y : Nat} (h : x < y) : p ++ x :: s < p ++ y :: t := (app_lt p).mpr (List.cons_lt_cons_iff.mpr (.inl h))
theorem lt_pre {a t : List Nat} {y : Nat} : a < a ++ y :: t := by
  have := (app_lt a (a := []) (b := y :: t)).mpr (List.nil_lt_cons y t)
  rwa [List.append_nil] at this
theorem trich (a b : List Nat) : a < b ∨ a = b ∨ b < a := by
  by_cases h1 : a < b
  · exact .inl h1
  · by_cases h2 : b < a
    · exact .inr (.inr h2)
    · exact .inr (.inl (List.le_antisymm (List.not_lt.mp h2) (List.not_lt.mp h1)))
theorem lt_asymm {a b : List Nat} (h : a < b) (g : b < a) : False := List.lt_irrefl a (List.lt_trans h g)
/-- of the same length, less at the front is less -/
theorem same_len {u y a b : List Nat} (hl : u.length = y.length) (h : u ++ a < y ++ b) : u < y ∨ u = y := by
  rcases trich u y with h1 | h1 | h1
  · exact .inl h1
  · exact .inr h1
  · rcases lt_cases h1 with ⟨c, t, e⟩ | ⟨p, x, z, s, t, rfl, rfl, hxz⟩
    · rw [e, List.length_append, List.length_cons] at hl
      omega
    · refine absurd (lt_dif (p := p) (s := s ++ b) (t := t ++ a) hxz) fun g => lt_asymm h ?_
      simpa using g
/-- less than all its proper ends -/
def L (w : List Nat) : Prop := w ≠ [] ∧ ∀ k, 0 < k → k < w.length → w < w.drop k
/-- less than all its other turns -/
def R (w : List Nat) : Prop := w ≠ [] ∧ ∀ k, 0 < k → k < w.length → w < w.drop k ++ w.take k
theorem L.far {w : List Nat} (h : L w) {k : Nat} (h0 : 0 < k) (hk : k < w.length) (u v : List Nat) : w ++ u < w.drop k ++ v := by
  rcases lt_cases (h.2 k h0 hk) with ⟨y, t, e⟩ | ⟨p, x, y, s, t, e1, e2, hxy⟩
  · have := congrArg List.length e
    rw [List.length_drop, List.length_append] at this
    omega
  · rw [e2]
    conv => lhs; rw [e1]
    rw [List.append_assoc, List.append_assoc]
    exact lt_dif hxy
theorem L.turns {w : List Nat} (h : L w) : R w := ⟨h.1, fun k h0 hk => by
  have := h.far h0 hk [] (w.take k)
  rwa [List.append_nil] at this⟩
theorem R.ends {w : List Nat} (h : R w) : L w := by
  refine ⟨h.1, fun k h0 hk => ?_⟩
  rcases trich w (w.drop k) with g | g | g
  · exact g
  · have := congrArg List.length g
    rw [List.length_drop] at this
    omega
  · exfalso
    have hR := h.2 k h0 hk
    have e0 : w = w.take k ++ w.drop k := (List.take_append_drop k w).symm
    have lu : (w.take k).length = k := by rw [List.length_take]; omega
    have lx : (w.drop k).length = w.length - k := List.length_drop
    generalize w.take k = u at *
    generalize w.drop k = x at *
    rcases lt_cases g with ⟨y, t, e⟩ | ⟨p, a, b, s, t, e1, e2, hab⟩
    · -- x is ahead of w
      have hlen := congrArg List.length e
      rw [List.length_append] at hlen
      have h1 : x ++ (y :: t) < x ++ u := by rw [← e]; exact hR
      have h2 := (app_lt x).mp h1
      have hR2 := h.2 x.length (by omega) (by omega)
      rw [e, List.drop_left' rfl, List.take_left' rfl, ← e, e0] at hR2
      rcases same_len (by omega) hR2 with z | z
      · exact lt_asymm h2 z
      · rw [z] at h2
        exact List.lt_irrefl _ h2
    · refine lt_asymm hR ?_
      rw [e2]
      conv => lhs; rw [e1]
      rw [List.append_assoc]
      exact lt_dif hab
theorem L.one (c : Nat) : L [c] := ⟨by simp, fun k h0 hk => by simp at hk; omega⟩
theorem L.join {u v : List Nat} (hu : L u) (hv : L v) (h : u < v) : L (u ++ v) := by
  have key : u ++ v < v := by
    rcases lt_cases h with ⟨y, t, e⟩ | ⟨p, x, y, s, t, e1, e2, hxy⟩
    · have lu : 0 < u.length := List.length_pos_iff.mpr hu.1
      have := hv.2 u.length lu (by rw [e, List.length_append, List.length_cons]; omega)
      have e2 : v.drop u.length = y :: t := by rw [e]; exact List.drop_left' rfl
      rw [e2] at this
      conv => rhs; rw [e]
      exact (app_lt u).mpr this
    · rw [e2, e1, List.append_assoc]
      exact lt_dif hxy
  refine ⟨by simp [hu.1], fun k h0 hk => ?_⟩
  rw [List.length_append] at hk
  rw [List.drop_append]
  by_cases h1 : k < u.length
  · rw [show k - u.length = 0 by omega, List.drop_zero]
    exact hu.far h0 h1 v v
  · rw [List.drop_of_length_le (by omega : u.length ≤ k), List.nil_append]
    by_cases h2 : k - u.length = 0
    · rw [h2, List.drop_zero]
      exact key
    · exact List.lt_trans key (hv.2 _ (by omega) (by omega))
/-- none less than the next -/
def Ch : List (List Nat) → Prop
  | [] => True
  | [_] => True
  | a :: b :: r => ¬ a < b ∧ Ch (b :: r)
theorem Ch.tail {a : List Nat} : ∀ {l : List (List Nat)}, Ch (a :: l) → Ch l
  | [], _ => True.intro
  | _ :: _, h => h.2
def put (u : List Nat) : List (List Nat) → List (List Nat)
  | [] => [u]
  | v :: vs => if u < v then put (u ++ v) vs else u :: v :: vs
theorem put_ok : ∀ (ws : List (List Nat)) (u : List Nat), L u → (∀ w ∈ ws, L w) → Ch ws → (∀ w ∈ put u ws, L w) ∧ Ch (put u ws) ∧ (put u ws).flatten = u ++ ws.flatten
  | [], u, hu, _, _ => ⟨fun w hw => by rw [List.mem_singleton.mp hw]; exact hu, True.intro, by simp [put]⟩
  | v :: vs, u, hu, hws, hc => by
    unfold put
    by_cases h : u < v
    · rw [if_pos h]
      obtain ⟨a, b, c⟩ := put_ok vs (u ++ v) (hu.join (hws v List.mem_cons_self) h) (fun w hw => hws w (List.mem_cons_of_mem _ hw)) hc.tail
      exact ⟨a, b, by rw [c, List.flatten_cons, List.append_assoc]⟩
    · rw [if_neg h]
      refine ⟨fun w hw => ?_, ⟨h, hc⟩, by rw [List.flatten_cons]⟩
      rcases List.mem_cons.mp hw with rfl | hw
      · exact hu
      · exact hws w hw
theorem parts_exist : ∀ T : List Nat, ∃ ws : List (List Nat), (∀ w ∈ ws, L w) ∧ Ch ws ∧ ws.flatten = T
  | [] => ⟨[], ⟨fun w hw => absurd hw (List.not_mem_nil), True.intro, rfl⟩⟩
  | c :: T => by
    obtain ⟨ws, h1, h2, h3⟩ := parts_exist T
    obtain ⟨a, b, d⟩ := put_ok ws [c] (.one c) h1 h2
    exact ⟨_, a, b, by rw [d, h3]; rfl⟩
theorem rest_less : ∀ (ws : List (List Nat)) (w : List Nat), L w → (∀ v ∈ ws, L v) → Ch (w :: ws) → ws.flatten < w ++ ws.flatten
  | [], w, hw, _, _ => by
    cases w with
    | nil => exact absurd rfl hw.1
    | cons c w => exact List.nil_lt_cons _ _
  | v :: vs, w, hw, hws, hc => by
    have hv := hws v List.mem_cons_self
    have ih := rest_less vs v hv (fun x hx => hws x (List.mem_cons_of_mem _ hx)) hc.2
    rw [List.flatten_cons]
    generalize vs.flatten = F at *
    have inner : ∀ (n k : Nat), w.length - k ≤ n → 0 < k → k < w.length → v < w.drop k → F < w.drop k ++ (v ++ F) := by
      intro n
      induction n with
      | zero => intro k h1 h2 h3; omega
      | succ n ihn =>
        intro k h1 h2 h3 h4
        rcases lt_cases h4 with ⟨y, t, e⟩ | ⟨p, x, y, s, t, e1, e2, hxy⟩
        · have lv : 0 < v.length := List.length_pos_iff.mpr hv.1
          have el := congrArg List.length e
          rw [List.length_drop, List.length_append, List.length_cons] at el
          have ed : w.drop (k + v.length) = y :: t := by rw [← List.drop_drop, e]; exact List.drop_left' rfl
          have hvw : v < w.drop (k + v.length) := by
            have hlt : ¬ w < v := hc.1
            have h5 := hw.2 (k + v.length) (by omega) (by omega)
            rcases trich v w with z | z | z
            · exact List.lt_trans z h5
            · rw [z]; rw [z] at h5; exact h5
            · exact absurd z hlt
          have := ihn (k + v.length) (by omega) (by omega) (by omega) hvw
          rw [ed] at this
          rw [e]
          refine List.lt_trans ih ?_
          rw [List.append_assoc]
          exact (app_lt v).mpr this
        · refine List.lt_trans ih ?_
          rw [e2]
          conv => lhs; rw [e1]
          rw [List.append_assoc, List.append_assoc]
          exact lt_dif hxy
    rcases trich v w with z | z | z
    · rcases lt_cases z with ⟨y, t, e⟩ | ⟨p, x, y, s, t, e1, e2, hxy⟩
      · have lv : 0 < v.length := List.length_pos_iff.mpr hv.1
        have lw : v.length < w.length := by rw [e, List.length_append, List.length_cons]; omega
        have ed : w.drop v.length = y :: t := by rw [e]; exact List.drop_left' rfl
        have := inner w.length v.length (by omega) lv lw (List.lt_trans z (hw.2 _ lv lw))
        rw [ed] at this
        conv => rhs; rw [e]
        rw [List.append_assoc]
        exact (app_lt v).mpr this
      · rw [e2]
        conv => lhs; rw [e1]
        rw [List.append_assoc, List.append_assoc]
        exact lt_dif hxy
    · rw [z] at ih ⊢
      exact (app_lt w).mpr ih
    · exact absurd z hc.1
/-! ### the places at which the parts begin -/
def scan : List Nat → List Nat → Nat → List Nat
  | [], _, _ => []
  | c :: s, best, p => if c :: s < best then p :: scan s (c :: s) (p + 1) else scan s best (p + 1)
def offs : List (List Nat) → Nat → List Nat
  | [], _ => []
  | v :: vs, p => p :: offs vs (p + v.length)
theorem scan_in (F best : List Nat) : ∀ (x : List Nat) (p : Nat), (∀ k, k < x.length → ¬ x.drop k ++ F < best) → scan (x ++ F) best p = scan F best (p + x.length)
  | [], p, _ => rfl
  | c :: x, p, h => by
    have h0 : ¬ c :: (x ++ F) < best := h 0 (by simp)
    show (if c :: (x ++ F) < best then _ else _) = _
    rw [if_neg h0]
    show scan (x ++ F) best (p + 1) = _
    rw [scan_in F best x (p + 1) fun k hk => h (k + 1) (by simpa using hk)]
    rw [List.length_cons]
    congr 1
    omega
theorem scan_ws : ∀ (ws : List (List Nat)) (w : List Nat) (p : Nat), L w → (∀ v ∈ ws, L v) → Ch (w :: ws) → scan ws.flatten (w ++ ws.flatten) p = offs ws p
  | [], _, _, _, _, _ => rfl
  | v :: vs, w, p, hw, hws, hc => by
    have hl := rest_less (v :: vs) w hw hws hc
    have hv := hws v List.mem_cons_self
    rw [List.flatten_cons] at hl ⊢
    match v, hv with
    | [], hv => exact absurd rfl hv.1
    | c :: v', hv =>
      have hl' : c :: (v' ++ vs.flatten) < w ++ (c :: v' ++ vs.flatten) := hl
      show (if c :: (v' ++ vs.flatten) < w ++ (c :: v' ++ vs.flatten) then _ else _) = _
      rw [if_pos hl']
      show _ = p :: offs vs (p + (v'.length + 1))
      congr 1
      show scan (v' ++ vs.flatten) ((c :: v') ++ vs.flatten) (p + 1) = _
      rw [scan_in _ _ v' (p + 1) fun k hk g => lt_asymm g ((hv.far (k := k + 1) (by omega) (by simpa using hk) vs.flatten vs.flatten)), scan_ws vs (c :: v') _ hv (fun x hx => hws x (List.mem_cons_of_mem _ hx)) hc.2]
      congr 1
      omega
/-- the begins among the first i places -/
def begs (T : List Nat) : Nat → List Nat
  | 0 => []
  | i + 1 => match (begs T i).getLast? with
    | none => begs T i ++ [i]
    | some b => if T.drop i < T.drop b then begs T i ++ [i] else begs T i
theorem begs_scan (T : List Nat) : ∀ (d i b : Nat), T.length - i = d → i ≤ T.length → (begs T i).getLast? = some b → begs T T.length = begs T i ++ scan (T.drop i) (T.drop b) i := by
  intro d
  induction d with
  | zero =>
    intro i b h1 h2 _
    have : i = T.length := by omega
    subst this
    rw [List.drop_length]
    simp [scan]
  | succ d ih =>
    intro i b h1 h2 hb
    have hi : i < T.length := by omega
    have ed : T.drop i = T[i] :: T.drop (i + 1) := List.drop_eq_getElem_cons hi
    have hs : begs T (i + 1) = if T.drop i < T.drop b then begs T i ++ [i] else begs T i := by
      show (match (begs T i).getLast? with | none => _ | some b => _) = _
      rw [hb]
    by_cases h : T.drop i < T.drop b
    · rw [if_pos h] at hs
      have := ih (i + 1) i (by omega) (by omega) (by rw [hs]; simp)
      rw [this, hs, List.append_assoc]
      congr 1
      conv => rhs; rw [ed]
      show _ = if T[i] :: T.drop (i + 1) < T.drop b then _ else _
      rw [← ed, if_pos h]
      rfl
    · rw [if_neg h] at hs
      have := ih (i + 1) b (by omega) (by omega) (by rw [hs]; exact hb)
      rw [this, hs]
      congr 1
      conv => rhs; rw [ed]
      show _ = if T[i] :: T.drop (i + 1) < T.drop b then _ else _
      rw [← ed, if_neg h]
theorem begs_offs {ws : List (List Nat)} {T : List Nat} (h : ∀ w ∈ ws, L w) (hc : Ch ws) (e : ws.flatten = T) : begs T T.length = offs ws 0 := by
  subst e
  match ws, h, hc with
  | [], _, _ => rfl
  | w :: vs, h, hc =>
    have hw := h w List.mem_cons_self
    match w, hw, hc, h with
    | [], hw, _, _ => exact absurd rfl hw.1
    | c :: w', hw, hc, h =>
      have hT : ((c :: w') :: vs).flatten = c :: (w' ++ vs.flatten) := rfl
      rw [begs_scan _ (((c :: w') :: vs).flatten.length - 1) 1 0 rfl (by rw [hT, List.length_cons]; omega) rfl]
      show 0 :: scan (w' ++ vs.flatten) ((c :: w') ++ vs.flatten) 1 = 0 :: offs vs (0 + (w'.length + 1))
      rw [scan_in _ _ w' 1 fun k hk g => lt_asymm g ((hw.far (k := k + 1) (by omega) (by simpa using hk) vs.flatten vs.flatten)), scan_ws vs (c :: w') _ hw (fun x hx => h x (List.mem_cons_of_mem _ hx)) hc]
      congr 2
      omega
/-- the parts between the begins -/
theorem cut_offs (T : List Nat) : ∀ (ws : List (List Nat)) (p : Nat), T.drop p = ws.flatten → p ≤ T.length → ((offs ws p).zip ((offs ws p).drop 1 ++ [T.length])).map (fun q => (T.take q.2).drop q.1) = ws
  | [], _, _, _ => rfl
  | v :: vs, p, h, hp => by
    have hl := congrArg List.length h
    rw [List.length_drop, List.flatten_cons, List.length_append] at hl
    have hv : T.drop (p + v.length) = vs.flatten := by
      rw [← List.drop_drop, h, List.flatten_cons]
      exact List.drop_left' rfl
    have ih := cut_offs T vs (p + v.length) hv (by omega)
    show (((p :: offs vs (p + v.length)).zip (offs vs (p + v.length) ++ [T.length])).map _) = _
    have first : (T.take (p + v.length)).drop p = v := by
      rw [List.drop_take, h, List.flatten_cons, show p + v.length - p = v.length by omega]
      exact List.take_left' rfl
    match vs, ih, hv, h, hl with
    | [], _, hv, h, hl =>
      have : p + v.length = T.length := by simp at hl; omega
      show [(T.take T.length).drop p] = [v]
      rw [← this, first]
    | x :: xs, ih, _, _, _ =>
      show (T.take (p + v.length)).drop p :: _ = v :: _
      rw [first]
      congr 1
end Lyn

set_option Elab.async false
set_option linter.all false
set_option maxRecDepth 100000
set_option maxHeartbeats 4000000
/-! LynTurn: the turns of a word, the least of them. -/
namespace Lyn
def rot (w : List Nat) (k : Nat) : List Nat := w.drop k ++ w.take k
def rotg (w : List Nat) (k : Nat) : List Nat := (List.range w.length).map fun i => w.getD ((i + k) % w.length) 0
theorem rotg_len (w : List Nat) (k : Nat) : (rotg w k).length = w.length := by simp [rotg]
theorem rotg_at {w : List Nat} {k i : Nat} (h : i < w.length) : (rotg w k).getD i 0 = w.getD ((i + k) % w.length) 0 := by
  unfold rotg
  rw [List.getD_eq_getElem?_getD, List.getElem?_map, List.getElem?_range h]
  rfl
theorem rot_rotg {w : List Nat} {k : Nat} (h : k ≤ w.length) : rot w k = rotg w k := by
  apply List.ext_getElem?
  intro i
  unfold rot rotg
  by_cases hi : i < w.length
  · rw [List.getElem?_map, List.getElem?_range hi, List.getElem?_append, List.length_drop]
    by_cases h1 : i < w.length - k
    · rw [if_pos h1, List.getElem?_drop, Nat.add_comm k i, List.getElem?_eq_getElem (by omega)]
      show _ = some (w.getD ((i + k) % w.length) 0)
      rw [Nat.mod_eq_of_lt (by omega), List.getD_eq_getElem?_getD, List.getElem?_eq_getElem (by omega)]
      rfl
    · rw [if_neg h1, List.getElem?_take, if_pos (by omega)]
      have e : (i + k) % w.length = i - (w.length - k) := by
        rw [Nat.mod_eq_sub_mod (by omega), Nat.mod_eq_of_lt (by omega)]
        omega
      rw [List.getElem?_eq_getElem (by omega)]
      show _ = some (w.getD ((i + k) % w.length) 0)
      rw [e, List.getD_eq_getElem?_getD, List.getElem?_eq_getElem (by omega)]
      rfl
  · rw [List.getElem?_eq_none (by rw [List.length_append, List.length_drop, List.length_take]; omega), List.getElem?_eq_none (by rw [List.length_map, List.length_range]; omega)]
theorem rotg_rotg (w : List Nat) (j k : Nat) : rotg (rotg w j) k = rotg w (j + k) := by
  by_cases h0 : w.length = 0
  · have : w = [] := List.length_eq_zero_iff.mp h0
    subst this
    rfl
  · apply List.ext_getElem?
    intro i
    have hl : (rotg w j).length = w.length := rotg_len w j
    by_cases hi : i < w.length
    · conv => lhs; unfold rotg
      conv => rhs; unfold rotg
      rw [List.getElem?_map, List.getElem?_map, List.getElem?_range hi]
      rw [show (List.map (fun i => w.getD ((i + j) % w.length) 0) (List.range w.length)).length = w.length by simp, List.getElem?_range hi]
      show some ((rotg w j).getD ((i + k) % w.length) 0) = some (w.getD ((i + (j + k)) % w.length) 0)
      rw [rotg_at (Nat.mod_lt _ (by omega)), Nat.mod_add_mod]
      congr 3
      omega
    · rw [List.getElem?_eq_none (by rw [rotg_len, rotg_len]; omega), List.getElem?_eq_none (by rw [rotg_len]; omega)]
theorem rotg_mod (w : List Nat) (k : Nat) : rotg w (k % w.length) = rotg w k := by
  unfold rotg
  refine List.map_congr_left fun i _ => ?_
  rw [Nat.add_mod_mod]
theorem rotg_zero (w : List Nat) : rotg w 0 = w := by
  rw [← rot_rotg (Nat.zero_le _)]
  simp [rot]
theorem rotg_full (w : List Nat) : rotg w w.length = w := by
  rw [← rot_rotg (Nat.le_refl _)]
  simp [rot]
def turns (w : List Nat) : List (List Nat) := (List.range w.length).map (rot w)
theorem turns_mem {w x : List Nat} : x ∈ turns w ↔ ∃ k, k < w.length ∧ x = rotg w k := by
  unfold turns
  rw [List.mem_map]
  constructor
  · rintro ⟨k, hk, rfl⟩
    have hk := List.mem_range.mp hk
    exact ⟨k, hk, rot_rotg (by omega)⟩
  · rintro ⟨k, hk, rfl⟩
    exact ⟨k, List.mem_range.mpr hk, rot_rotg (by omega)⟩
theorem count_two {w : List Nat} {k : Nat} (h0 : 0 < k) (hk : k < w.length) (e : rotg w k = w) : (turns w).count w ≠ 1 := by
  obtain ⟨n, hn⟩ : ∃ n, w.length = n + 1 := ⟨w.length - 1, by omega⟩
  unfold turns
  rw [hn, List.range_succ_eq_map, List.map_cons, List.map_map, List.count_cons]
  have e0 : rot w 0 = w := by simp [rot]
  rw [e0]
  have : 0 < List.count w (List.map (rot w ∘ Nat.succ) (List.range n)) := by
    rw [List.count_pos_iff, List.mem_map]
    exact ⟨k - 1, List.mem_range.mpr (by omega), by
      show rot w (k - 1 + 1) = w
      rw [show k - 1 + 1 = k by omega, rot_rotg (by omega), e]⟩
  simp
  omega
/-- the least turn of a word that is no power -/
theorem least_R {w m : List Nat} (hw : w ≠ []) (hc : (turns w).count w = 1) (hm : m ∈ turns w) (hle : ∀ x ∈ turns w, ¬ x < m) : R m := by
  obtain ⟨j, hj, rfl⟩ := turns_mem.mp hm
  have hl := rotg_len w j
  refine ⟨fun z => ?_, fun k h0 hk => ?_⟩
  · rw [z] at hl
    simp at hl
    omega
  · rw [hl] at hk
    have e : (rotg w j).drop k ++ (rotg w j).take k = rotg (rotg w j) k := rot_rotg (by omega)
    rw [e]
    have e2 := rotg_rotg w j k
    have hin : rotg (rotg w j) k ∈ turns w := turns_mem.mpr ⟨(j + k) % w.length, Nat.mod_lt _ (by omega), by rw [rotg_mod, e2]⟩
    rcases trich (rotg w j) (rotg (rotg w j) k) with z | z | z
    · exact z
    · exfalso
      refine count_two h0 hk ?_ hc
      have hback : rotg (rotg w j) (w.length - j) = w := by
        rw [rotg_rotg, show j + (w.length - j) = w.length by omega, rotg_full]
      have : rotg (rotg (rotg w j) k) (w.length - j) = rotg w k := by
        rw [rotg_rotg, rotg_rotg, show j + (k + (w.length - j)) = k + w.length by omega, ← rotg_mod w (k + w.length), Nat.add_mod_right, rotg_mod]
      rw [← this, ← z, hback]
    · exact absurd z (hle _ hin)
def minL (x : List Nat) (xs : List (List Nat)) : List Nat := xs.foldl (fun a y => if y < a then y else a) x
theorem minL_ok : ∀ (xs : List (List Nat)) (x : List Nat), minL x xs ∈ x :: xs ∧ ∀ y ∈ x :: xs, ¬ y < minL x xs
  | [], x => ⟨List.mem_cons_self, fun y hy => by rw [List.mem_singleton.mp hy]; exact List.lt_irrefl x⟩
  | z :: xs, x => by
    show minL (if z < x then z else x) xs ∈ _ ∧ _
    show _ ∧ ∀ y ∈ x :: z :: xs, ¬ y < minL (if z < x then z else x) xs
    obtain ⟨h1, h2⟩ := minL_ok xs (if z < x then z else x)
    have hb := h2 _ List.mem_cons_self
    constructor
    · rcases List.mem_cons.mp h1 with e | e
      · rw [e]
        split
        · exact List.mem_cons_of_mem _ List.mem_cons_self
        · exact List.mem_cons_self
      · exact List.mem_cons_of_mem _ (List.mem_cons_of_mem _ e)
    · intro y hy hlt
      rcases List.mem_cons.mp hy with rfl | hy
      · by_cases hz : z < y
        · rw [if_pos hz] at hb hlt
          exact hb (List.lt_trans hz hlt)
        · rw [if_neg hz] at hb hlt
          exact hb hlt
      · rcases List.mem_cons.mp hy with rfl | hy
        · by_cases hz : y < x
          · rw [if_pos hz] at hb hlt
            exact hb hlt
          · rw [if_neg hz] at hb hlt
            rcases trich x y with t | t | t
            · exact hb (List.lt_trans t hlt)
            · rw [t] at hb
              rw [t] at hlt
              exact hb hlt
            · exact hz t
        · exact h2 y (List.mem_cons_of_mem _ hy) hlt
/-- sorted, then turned about: none less than the next -/
theorem ch_of : ∀ {ws : List (List Nat)}, ws.Pairwise (fun a b => ¬ a < b) → Ch ws
  | [], _ => True.intro
  | [_], _ => True.intro
  | a :: b :: r, h => by
    cases h with
    | cons h1 h2 => exact ⟨h1 b List.mem_cons_self, ch_of h2⟩
theorem Ch.at : ∀ {ws : List (List Nat)}, Ch ws → ∀ (i : Nat) (a b : List Nat), ws[i]? = some a → ws[i + 1]? = some b → ¬ a < b
  | [], _, i, a, b, h, _ => by simp at h
  | [_], _, i, a, b, _, h => by simp at h
  | x :: y :: r, hc, 0, a, b, h1, h2 => by
    cases h1
    cases h2
    exact hc.1
  | x :: y :: r, hc, i + 1, a, b, h1, h2 => hc.2.at i a b (by simpa using h1) (by simpa using h2)
end Lyn

set_option Elab.async false
set_option linter.all false
set_option maxRecDepth 100000
set_option maxHeartbeats 4000000
/-! BalMath: a circle of m = a + b places walked by steps of b, a and b coprime. -/
namespace Bal
open Lyn
theorem bez (m n : Nat) : ∃ x y : Int, (m : Int) * x + (n : Int) * y = ((Nat.gcd m n : Nat) : Int) := by
  induction m, n using Nat.gcd.induction with
  | H0 n => exact ⟨0, 1, by simp⟩
  | H1 m n h ih =>
    obtain ⟨x, y, e⟩ := ih
    refine ⟨y - ((n / m : Nat) : Int) * x, x, ?_⟩
    rw [Nat.gcd_rec, ← e]
    have hd : (n : Int) = (m : Int) * ((n / m : Nat) : Int) + ((n % m : Nat) : Int) := by
      have := Nat.div_add_mod n m
      exact_mod_cast this.symm
    generalize ((n / m : Nat) : Int) = D at *
    generalize ((n % m : Nat) : Int) = R at *
    rw [hd, Int.mul_sub, Int.add_mul, ← Int.mul_assoc]
    omega
/-- every place is met -/
theorem surj {b m : Nat} (hm : 0 < m) (hc : Nat.gcd b m = 1) (u v : Nat) (hv : v < m) : ∃ k, k < m ∧ (u + k * b) % m = v := by
  obtain ⟨x, y, e⟩ := bez b m
  rw [hc] at e
  have hm' : (m : Int) ≠ 0 := by omega
  obtain ⟨c, hcc⟩ : ∃ c : Int, c = (v : Int) - (u : Int) := ⟨_, rfl⟩
  obtain ⟨k, hkk⟩ : ∃ k : Int, k = (x * c) % (m : Int) := ⟨_, rfl⟩
  have k0 : 0 ≤ k := by rw [hkk]; exact Int.emod_nonneg _ hm'
  have k1 : k < m := by rw [hkk]; exact Int.emod_lt_of_pos _ (by omega)
  refine ⟨k.toNat, by omega, ?_⟩
  have key : ((u : Int) + k * b) % (m : Int) = (v : Int) := by
    have h1 : k = x * c - (m : Int) * ((x * c) / (m : Int)) := by
      have := Int.emod_add_mul_ediv (x * c) (m : Int)
      omega
    generalize (x * c) / (m : Int) = D at h1
    have h2 : (u : Int) + k * b = (v : Int) + (m : Int) * (-(y * c) - D * b) := by
      have hbx : (b : Int) * x = 1 - (m : Int) * y := by
        have : ((1 : Nat) : Int) = 1 := rfl
        omega
      have e1 : x * c * (b : Int) = ((b : Int) * x) * c := by rw [Int.mul_comm (x * c), ← Int.mul_assoc]
      rw [h1, Int.sub_mul, e1, hbx, Int.sub_mul, Int.mul_sub, Int.one_mul, Int.mul_neg, Int.mul_assoc (m : Int) D, Int.mul_assoc (m : Int) y c]
      omega
    rw [h2, Int.add_mul_emod_self_left]
    exact Int.emod_eq_of_lt (by omega) (by omega)
  have hk : ((k.toNat : Nat) : Int) = k := Int.toNat_of_nonneg k0
  have : (((u + k.toNat * b) % m : Nat) : Int) = (v : Int) := by
    rw [Int.natCast_emod, Int.natCast_add, Int.natCast_mul, hk]
    exact key
  exact_mod_cast this
section
variable (a b : Nat)
/-- the sign that begins at a place: a, then b -/
def F (u : Nat) : Nat := if u < a then 97 else 98
/-- the sign ahead of a place -/
def R' (u : Nat) : Nat := if u < b then 98 else 97
/-- so many signs from a place on -/
def W (l u : Nat) : List Nat := (List.range l).map fun k => F a ((u + k * b) % (a + b))
end
variable {a b : Nat}
theorem W_len (l u : Nat) : (W a b l u).length = l := by simp [W]
theorem W_at {l u k : Nat} (h : k < l) : (W a b l u).getD k 0 = F a ((u + k * b) % (a + b)) := by
  unfold W
  rw [List.getD_eq_getElem?_getD, List.getElem?_map, List.getElem?_range h]
  rfl
theorem next_at {u k : Nat} : ((u + b) % (a + b) + k * b) % (a + b) = (u + (k + 1) * b) % (a + b) := by
  rw [Nat.mod_add_mod, Nat.add_assoc, Nat.add_mul, Nat.one_mul, Nat.add_comm b (k * b)]
theorem W_succ {l u : Nat} (h : u < a + b) : W a b (l + 1) u = F a u :: W a b l ((u + b) % (a + b)) := by
  unfold W
  rw [List.range_succ_eq_map, List.map_cons, List.map_map]
  congr 1
  · rw [Nat.zero_mul, Nat.add_zero, Nat.mod_eq_of_lt h]
  · refine List.map_congr_left fun k _ => ?_
    show F a ((u + (k + 1) * b) % (a + b)) = _
    rw [next_at]
theorem step_at {u : Nat} (h : u < a + b) : (u + b) % (a + b) = if u < a then u + b else u - a := by
  split
  · rw [Nat.mod_eq_of_lt (by omega)]
  · rw [Nat.mod_eq_sub_mod (by omega), Nat.mod_eq_of_lt (by omega)]
    omega
theorem R_next {u : Nat} (h : u < a + b) : R' b ((u + b) % (a + b)) = F a u := by
  rw [step_at h]
  unfold R' F
  split
  · rw [if_neg (by omega)]
  · rw [if_pos (by omega)]
/-- from a later place nothing less begins -/
theorem mono : ∀ (l u v : Nat), u ≤ v → v < a + b → ¬ W a b l v < W a b l u
  | 0, u, v, _, _ => by
    have e : ∀ x, W a b 0 x = [] := fun x => rfl
    rw [e, e]
    exact List.lt_irrefl _
  | l + 1, u, v, h, hv => by
    rw [W_succ hv, W_succ (show u < a + b by omega), List.cons_lt_cons_iff]
    rintro (h1 | ⟨h1, h2⟩)
    · unfold F at h1
      split at h1 <;> split at h1 <;> omega
    · have hmod : 0 < a + b := by omega
      refine mono l _ _ ?_ (Nat.mod_lt _ hmod) h2
      rw [step_at hv, step_at (show u < a + b by omega)]
      unfold F at h1
      split at h1 <;> split at h1 <;> first | omega | (split <;> first | omega | (split <;> omega))
/-- two places tell unlike words -/
theorem apart (hb : Nat.gcd b (a + b) = 1) {l u v : Nat} (h : u < v) (hv : v < a + b) (hl : a + b ≤ l) : W a b l u ≠ W a b l v := by
  intro e
  have same : ∀ k, k < l → F a ((u + k * b) % (a + b)) = F a ((v + k * b) % (a + b)) := fun k hk => by
    rw [← W_at hk, ← W_at hk, e]
  have hm : 0 < a + b := by omega
  have dist : ∀ k, k ≤ l → (v + k * b) % (a + b) = (u + k * b) % (a + b) + (v - u) := by
    intro k
    induction k with
    | zero =>
      intro _
      rw [Nat.zero_mul, Nat.add_zero, Nat.add_zero, Nat.mod_eq_of_lt hv, Nat.mod_eq_of_lt (by omega)]
      omega
    | succ k ih =>
      intro hk
      have i1 := ih (by omega)
      have s := same k (by omega)
      have e1 : ∀ x, (x + (k + 1) * b) % (a + b) = ((x + k * b) % (a + b) + b) % (a + b) := fun x => by
        rw [Nat.mod_add_mod, Nat.add_mul, Nat.one_mul, Nat.add_assoc]
      have l1 := Nat.mod_lt (u + k * b) hm
      have l2 := Nat.mod_lt (v + k * b) hm
      rw [e1, e1, step_at l2, step_at l1]
      unfold F at s
      generalize (u + k * b) % (a + b) = x at *
      generalize (v + k * b) % (a + b) = y at *
      split at s <;> split at s <;> first | omega | (split <;> first | omega | (split <;> omega))
  by_cases ha : a = 0
  · have : b = 1 := by
      rw [ha] at hb
      simpa using hb
    omega
  · obtain ⟨k, hk, ek⟩ := surj hm hb u (a - 1) (by omega)
    have d := dist k (by omega)
    have s := same k (by omega)
    have l2 := Nat.mod_lt (v + k * b) hm
    rw [ek] at d s
    unfold F at s
    rw [if_pos (by omega), if_neg (by omega)] at s
    omega
/-- going on by k places -/
theorem W_rot {l k : Nat} (hl : (a + b) ∣ l) (hk : k ≤ l) : rot (W a b l 0) k = W a b l ((k * b) % (a + b)) := by
  rw [rot_rotg (by rw [W_len]; exact hk)]
  unfold rotg
  rw [W_len]
  show _ = (List.range l).map _
  refine List.map_congr_left fun i hi => ?_
  have hi := List.mem_range.mp hi
  rw [W_at (Nat.mod_lt _ (by omega))]
  obtain ⟨c, rfl⟩ := hl
  congr 1
  rw [Nat.zero_add, Nat.mod_add_mod]
  have e : ((i + k) % ((a + b) * c) * b) % (a + b) = ((i + k) * b) % (a + b) := by
    rw [Nat.mul_mod, Nat.mod_mul_right_mod, ← Nat.mul_mod]
  rw [e]
  congr 1
  rw [Nat.add_mul]
  omega
theorem W_times (g : Nat) : W a b (g * (a + b)) 0 = (List.replicate g (W a b (a + b) 0)).flatten := by
  induction g with
  | zero =>
    rw [Nat.zero_mul]
    rfl
  | succ g ih =>
    rw [List.replicate_succ, List.flatten_cons, ← ih, Nat.add_mul, Nat.one_mul, Nat.add_comm (g * (a + b))]
    unfold W
    rw [List.range_add, List.map_append, List.map_map]
    congr 1
    refine List.map_congr_left fun k _ => ?_
    show F a ((0 + ((a + b) + k) * b) % (a + b)) = _
    congr 1
    rw [Nat.add_mul, Nat.zero_add, Nat.zero_add, Nat.mul_add_mod]
theorem count_b (hm : 0 < a + b) : ∀ t, (W a b t 0).count 98 = (t * b) / (a + b)
  | 0 => by
    rw [Nat.zero_mul, Nat.zero_div]
    rfl
  | t + 1 => by
    have e : W a b (t + 1) 0 = W a b t 0 ++ [F a ((t * b) % (a + b))] := by
      unfold W
      rw [List.range_succ, List.map_append]
      simp
    rw [e, List.count_append, count_b hm t, Nat.add_mul, Nat.one_mul]
    have hd := Nat.div_add_mod (t * b) (a + b)
    have hl := Nat.mod_lt (t * b) hm
    generalize (t * b) % (a + b) = r at *
    generalize (t * b) / (a + b) = d at *
    rw [← hd]
    unfold F
    by_cases h : r < a
    · rw [if_pos h, Nat.add_assoc, Nat.mul_add_div hm, Nat.div_eq_of_lt (by omega)]
      rfl
    · rw [if_neg h, Nat.add_assoc, Nat.mul_add_div hm, Nat.div_eq_of_lt_le (k := 1) (by omega) (by omega)]
      rfl
theorem F_two (u : Nat) : F a u = 97 ∨ F a u = 98 := by
  unfold F
  split
  · exact .inl rfl
  · exact .inr rfl
theorem count_two : ∀ l : List Nat, (∀ c ∈ l, c = 97 ∨ c = 98) → l.count 97 + l.count 98 = l.length
  | [], _ => rfl
  | c :: l, h => by
    have ih := count_two l fun d hd => h d (List.mem_cons_of_mem _ hd)
    rw [List.length_cons, List.count_cons, List.count_cons]
    rcases h c List.mem_cons_self with rfl | rfl
    · simp
      omega
    · simp
      omega
theorem W_two {l u : Nat} : ∀ c ∈ W a b l u, c = 97 ∨ c = 98 := fun c hc => by
  obtain ⟨k, _, rfl⟩ := List.mem_map.mp hc
  exact F_two _
theorem count_a (hm : 0 < a + b) : (W a b (a + b) 0).count 97 = a := by
  have h1 := count_b hm (a + b)
  have h2 := count_two _ (W_two (a := a) (b := b) (l := a + b) (u := 0))
  rw [Nat.mul_div_cancel_left _ hm] at h1
  rw [W_len] at h2
  omega
theorem count_rep (g : Nat) (l : List Nat) (c : Nat) : (List.replicate g l).flatten.count c = g * l.count c := by
  induction g with
  | zero => simp
  | succ g ih => rw [List.replicate_succ, List.flatten_cons, List.count_append, ih, Nat.add_mul, Nat.one_mul, Nat.add_comm]
/-- the least turn -/
theorem W_least {l : Nat} (hl : (a + b) ∣ l) (h0 : 0 < l) (hm : 0 < a + b) {x : List Nat} {xs : List (List Nat)} (e : turns (W a b l 0) = x :: xs) : minL x xs = W a b l 0 := by
  obtain ⟨h1, h2⟩ := minL_ok xs x
  rw [← e] at h1 h2
  have hin : W a b l 0 ∈ turns (W a b l 0) := turns_mem.mpr ⟨0, by rw [W_len]; exact h0, (rotg_zero _).symm⟩
  obtain ⟨j, hj, ej⟩ := turns_mem.mp h1
  rw [W_len] at hj
  have ej2 : minL x xs = W a b l ((j * b) % (a + b)) := by
    rw [ej, ← rot_rotg (by rw [W_len]; omega), W_rot hl (by omega)]
  rcases trich (minL x xs) (W a b l 0) with h | h | h
  · rw [ej2] at h
    exact absurd h (mono l 0 _ (Nat.zero_le _) (Nat.mod_lt _ hm))
  · exact h
  · exact absurd h (h2 _ hin)
/-! ### every place so many times -/
theorem rep_perm {α : Type} (g : Nat) (x : α) (l : List α) : (List.replicate g (l ++ [x])).flatten.Perm ((List.replicate g l).flatten ++ List.replicate g x) := by
  induction g with
  | zero => exact .refl _
  | succ g ih =>
    rw [List.replicate_succ, List.replicate_succ, List.flatten_cons, List.flatten_cons, List.replicate_succ, List.append_assoc, List.append_assoc]
    refine List.Perm.append_left l ?_
    show (x :: (List.replicate g (l ++ [x])).flatten).Perm _
    refine (List.Perm.cons x ih).trans ?_
    exact List.perm_middle.symm
theorem div_list (g : Nat) (hg : 0 < g) : ∀ m : Nat, ((List.range (g * m)).map (· / g)).Perm (List.replicate g (List.range m)).flatten
  | 0 => by
    rw [Nat.mul_zero]
    have : (List.replicate g (List.range 0)).flatten = [] := by simp
    rw [this]
    exact .refl _
  | m + 1 => by
    rw [Nat.mul_add, Nat.mul_one, List.range_add, List.map_append, List.map_map, List.range_succ]
    have e : (List.range g).map ((· / g) ∘ fun x => g * m + x) = List.replicate g m := by
      rw [List.eq_replicate_iff]
      refine ⟨by simp, fun y hy => ?_⟩
      obtain ⟨k, hk, rfl⟩ := List.mem_map.mp hy
      have hk := List.mem_range.mp hk
      show (g * m + k) / g = m
      rw [Nat.mul_add_div hg, Nat.div_eq_of_lt hk]
      rfl
    rw [e]
    exact ((div_list g hg m).append_right _).trans (rep_perm g m (List.range m)).symm
theorem walk_perm (hb : Nat.gcd b (a + b) = 1) (hm : 0 < a + b) : ((List.range (a + b)).map fun k => (k * b) % (a + b)).Perm (List.range (a + b)) := by
  have nd : ((List.range (a + b)).map fun k => (k * b) % (a + b)).Nodup := by
    refine List.Pairwise.map (R := fun x y => x < y ∧ y < a + b) _ (fun x y h e => ?_) ?_
    · have hd : (a + b) ∣ (y - x) * b := by
        rw [Nat.sub_mul]
        exact Nat.dvd_of_mod_eq_zero (Nat.sub_mod_eq_zero_of_mod_eq e.symm)
      have hc : Nat.Coprime (a + b) b := by
        rw [Nat.Coprime, Nat.gcd_comm]
        exact hb
      have := Nat.le_of_dvd (by omega) (hc.dvd_of_dvd_mul_right hd)
      omega
    · have h1 := List.pairwise_lt_range (n := a + b)
      exact h1.imp_of_mem fun _ hy h => ⟨h, List.mem_range.mp hy⟩
  rw [List.perm_ext_iff_of_nodup nd List.nodup_range]
  intro v
  rw [List.mem_map, List.mem_range]
  constructor
  · rintro ⟨k, _, rfl⟩
    exact Nat.mod_lt _ hm
  · intro hv
    obtain ⟨k, hk, ek⟩ := surj hm hb 0 v hv
    exact ⟨k, List.mem_range.mpr hk, by rw [← ek, Nat.zero_add]⟩
theorem walk_times (hb : Nat.gcd b (a + b) = 1) (hm : 0 < a + b) : ∀ g : Nat, ((List.range (g * (a + b))).map fun k => (k * b) % (a + b)).Perm (List.replicate g (List.range (a + b))).flatten
  | 0 => by
    rw [Nat.zero_mul]
    exact .refl _
  | g + 1 => by
    rw [Nat.add_mul, Nat.one_mul, Nat.add_comm (g * (a + b)), List.range_add, List.map_append, List.map_map, List.replicate_succ, List.flatten_cons]
    have e : (List.range (g * (a + b))).map ((fun k => (k * b) % (a + b)) ∘ fun x => (a + b) + x) = (List.range (g * (a + b))).map fun k => (k * b) % (a + b) := by
      refine List.map_congr_left fun k _ => ?_
      show (((a + b) + k) * b) % (a + b) = _
      rw [Nat.add_mul, Nat.mul_add_mod]
    rw [e]
    exact (walk_perm hb hm).append (walk_times hb hm g)
theorem walks (hb : Nat.gcd b (a + b) = 1) (hm : 0 < a + b) {g : Nat} (hg : 0 < g) : ((List.range (g * (a + b))).map fun k => (k * b) % (a + b)).Perm ((List.range (g * (a + b))).map (· / g)) := (walk_times hb hm g).trans (div_list g hg (a + b)).symm
end Bal

set_option Elab.async false
set_option linter.all false
set_option maxRecDepth 100000
set_option maxHeartbeats 4000000
/-! SetTup: len(set(t)), t a tuple of texts. -/
namespace L2
open PySem PySem.Spec PyProof.Rows
/-- the unlike ones, in the order of their first -/
def ddS (l : List Str) : List Str := l.foldl (fun acc x => if x ∈ acc then acc else acc ++ [x]) []
theorem ddS_snoc (l : List Str) (x : Str) : ddS (l ++ [x]) = if x ∈ ddS l then ddS l else ddS l ++ [x] := by
  unfold ddS
  rw [List.foldl_append]
  rfl
theorem ddS_mem (l : List Str) (y : Str) : y ∈ ddS l ↔ y ∈ l := by
  have gen : ∀ (m acc : List Str), y ∈ m.foldl (fun acc x => if x ∈ acc then acc else acc ++ [x]) acc ↔ y ∈ acc ∨ y ∈ m := by
    intro m
    induction m with
    | nil => intro acc; simp
    | cons a m ih =>
      intro acc
      rw [List.foldl_cons, ih]
      by_cases h : a ∈ acc
      · rw [if_pos h]
        constructor
        · rintro (q | q)
          · exact .inl q
          · exact .inr (List.mem_cons_of_mem _ q)
        · rintro (q | q)
          · exact .inl q
          · rcases List.mem_cons.mp q with q | q
            · exact .inl (q ▸ h)
            · exact .inr q
      · rw [if_neg h, List.mem_append, List.mem_singleton, List.mem_cons]
        constructor
        · rintro ((q | q) | q)
          · exact .inl q
          · exact .inr (.inl q)
          · exact .inr (.inr q)
        · rintro (q | q | q)
          · exact .inl (.inl q)
          · exact .inl (.inr q)
          · exact .inr q
  have := gen l []
  simpa [ddS] using this
theorem ddS_len (l : List Str) : (ddS l).length ≤ l.length := by
  have gen : ∀ (m acc : List Str), (m.foldl (fun acc x => if x ∈ acc then acc else acc ++ [x]) acc).length ≤ acc.length + m.length := by
    intro m
    induction m with
    | nil => intro acc; exact Nat.le_refl _
    | cons a m ih =>
      intro acc
      rw [List.foldl_cons]
      refine Nat.le_trans (ih _) ?_
      split
      · rw [List.length_cons]; omega
      · rw [List.length_append, List.length_singleton, List.length_cons]; omega
  have := gen l []
  simpa [ddS] using this
section
variable {pr : Program} {w : World} {B : Around} {RR : Result → Shared → Prop} {it : Addr} {fq ww : List Addr} {GG : Array GenState → Array GenState → Prop} {m : Nat} {PP : Nat → Value → Prop} {TT : Nat → Shared → Prop}
theorem loop_texts (U : WalksS pr w B.in1 it fq ww GG m PP TT) (so : Addr) (hso : so ∉ fq) (ys : List Str) (hys : ys.length = m) (few : m < 64) (hv : ∀ i v, PP i v → ∃ t, v = .str (ys.getD i Str.empty) t) :
    ∀ (left i : Nat) (s : Shared), m - i = left → i ≤ m → TT i s → s.heap.SetOf (strKind pr w) so (fun q => decide (q ∈ ys.take i)) (ddS (ys.take i)).length →
      (∀ s', Moved (so :: ww) GG s s' → s'.heap.SetOf (strKind pr w) so (fun q => decide (q ∈ ys)) (ddS ys).length → RR (.ok (.ret .none)) s') →
      codeAny (model pr w) B (.builtin "set.update.loop" ⟨[.ref so, .ref it], []⟩) RR s := by
  have now : so ∉ ww := fun h => hso (U.sub _ h)
  have sub2 : ∀ b ∈ ww, b ∈ so :: ww := fun b hb => List.mem_cons_of_mem _ hb
  intro left
  induction left with
  | zero =>
    intro i s hl hi ht hS hR
    obtain rfl : i = m := by omega
    rw [← hys, List.take_length] at hS
    refine codeAny_builtin F.entry_set_update_loop ?_
    rw [Around.under_plainId F.plain_set_update_loop _]
    refine wpAny_bind (U.done s _ _ ht fun s' mv => ?_)
    obtain ⟨o, es, ep, tb, ho, rest⟩ := hS
    exact wpAny_pure (hR s' (mv.mono sub2) ⟨o, es, ep, tb, mv.heap so _ now ho, rest⟩)
  | succ left ih =>
    intro i s hl hi ht hS hR
    have him : i < m := by omega
    refine codeAny_builtin F.entry_set_update_loop ?_
    rw [Around.under_plainId F.plain_set_update_loop _]
    refine wpAny_bind (U.item i s _ _ him ht fun v s' hP ht' mv => ?_)
    obtain ⟨t, rfl⟩ := hv i v hP
    have hS' : s'.heap.SetOf (strKind pr w) so (fun q => decide (q ∈ ys.take i)) (ddS (ys.take i)).length := by
      obtain ⟨o, es, ep, tb, ho, rest⟩ := hS
      exact ⟨o, es, ep, tb, mv.heap so _ now ho, rest⟩
    have hlen := ddS_len (ys.take i)
    rw [List.length_take] at hlen
    refine wpAny_bind (wpAny_holding ?_)
    unfold setAdd
    refine wpAny_holding ?_
    refine wpAny_bind ((strKind pr w).pyHash (k := ys.getD i Str.empty) (strKind_is _ _ _ _) ?_)
    refine wpAny_setAddHashed_of (knd := strKind pr w) (s := { s' with toks := s'.toks + 1 }) (strKind_is _ _ _ _) rfl hS' (by unfold scanBound; omega) fun h' sb hS2 => ?_
    have ey : ys.take (i + 1) = ys.take i ++ [ys.getD i Str.empty] := by
      rw [List.take_succ, List.getD_eq_getElem?_getD, List.getElem?_eq_getElem (by omega)]
      rfl
    have hS3 : h'.SetOf (strKind pr w) so (fun q => decide (q ∈ ys.take (i + 1))) (ddS (ys.take (i + 1))).length := by
      rw [ey]
      refine SetOf_congr hS2 (fun q => ?_) ?_
      · by_cases h1 : q ∈ ys.take i
        · simp [h1]
        · simp [h1]
      · rw [ddS_snoc]
        by_cases h1 : ys.getD i Str.empty ∈ ys.take i
        · rw [if_pos ((ddS_mem _ _).mpr h1), if_pos (by simpa using h1)]
        · rw [if_neg (fun z => h1 ((ddS_mem _ _).mp z)), if_neg (by simpa using h1), List.length_append]
          rfl
    refine wpAny_pure ⟨plainId_quiet F.plain_set_update_loop _, ih (i + 1) _ (by omega) him (U.frame _ s' _ _ ht' (Nat.le_succ _) fun b hb o e => ?_) hS3 fun s2 mv2 hS4 => ?_⟩
    · rw [sb.2 b (fun z : b = so => hso (by rw [← z]; exact hb))]
      exact e
    · refine hR s2 (Moved.trans U.gtrans ((mv.mono sub2).then_heap (Nat.le_succ _) fun b o hb e => ?_) mv2) hS4
      rw [sb.2 b (fun z : b = so => hb (by rw [z]; exact List.mem_cons_self))]
      exact e
end
section
variable {pr : Program} {w : World} {B : Around} {EE : Value → Shared → Prop} {s : Shared}
abbrev setOb (led : Bool) : Obj := { cls := .type "set", dict := none, data := .set #[] 0 (.fresh 0 0 led) }
theorem call_set_texts {tu : Addr} {its : Array Value} {ys : List Str} {QQ : Value → Shared → Prop} (hd : B.handled = none) (ht : s.heap.IsTuple tu its) (hy : StrsAre its.toList ys) (few : ys.length < 64)
    (fin : ∀ (h' : Heap) (tk : Nat), h'.SetOf (strKind pr w) s.heap.objs.size (fun q => decide (q ∈ ys)) (ddS ys).length → (∀ b o, b < s.heap.objs.size → s.heap.get? b = some o → h'.get? b = some o) → QQ (.ref s.heap.objs.size) { s with heap := h', toks := tk }) :
    wpAny (model pr w) B (call (.type "set") [.ref tu]) QQ EE s := by
  obtain ⟨cc, tl, mro⟩ := F.called_set.mro
  have md := F.called_set.made
  have sb := F.called_set.sub
  refine wpAny_call (codeAny_of_tree ?_)
  show wpAny _ _ (callAny (.type "set") _) _ _ _
  refine wpAny_pure ⟨Code.quiet_builtin _ (by decide +kernel), codeAny_builtin F.entry_type_call ?_⟩
  rw [Around.under_plain (weight_type_call_type "set" [.ref tu] []) rfl]
  have q1 := F.called_set.notType
  have q2 := F.called_set.canCreate
  have q3 := F.typeCall_set_1 (.ref tu)
  repeat (any_goals (first | assumption | wp_step))
  refine codeAny_mono (code_set_new_1 (.ref tu) (E := EE) (Q₁ := fun ob s1 => ∃ led : Bool, ob = .ref s.heap.objs.size ∧ s1 = { s with heap := s.heap.push (setOb led) }) fun led => ⟨led, rfl, rfl⟩) fun r s1 hr => ?_
  cases r with
  | error e => exact hr
  | ok fl =>
    cases fl with
    | ret ob =>
      obtain ⟨led, rfl, rfl⟩ := hr
      have gS : (s.heap.push (setOb led)).get? s.heap.objs.size = some (setOb led) := Heap.get?_push_size _ rfl
      have tS : Shared.TypeIs { s with heap := s.heap.push (setOb led) } (.ref s.heap.objs.size) "set" := ⟨_, gS, rfl⟩
      have i1 := F.called_set.init.lookup
      have i2 := F.called_set.init.bind (.ref s.heap.objs.size)
      repeat (any_goals (first | assumption | wp_step))
      refine codeAny_mono (codeAny_call_builtin (R := wants (fun r s2 => r = .none ∧ ∃ h' tk, s2 = { s with heap := h', toks := tk } ∧ h'.SetOf (strKind pr w) s.heap.objs.size (fun q => decide (q ∈ ys)) (ddS ys).length ∧ (∀ b o, b < s.heap.objs.size → s.heap.get? b = some o → h'.get? b = some o)) EE) F.called_set.init.plain F.entry_set_init (check_set_init_1 tS ?_)) fun r2 s2 hr2 => ?_
      · obtain ⟨ot, got, ct, nt, dt⟩ := ht
        obtain ⟨otc, otd, otx, ots⟩ := ot
        simp only at ct dt
        subst ct
        subst dt
        have got2 : (s.heap.push (setOb led)).get? tu = some { cls := .type "tuple", dict := otd, data := .seq its nt, slots := ots } := Heap.get?_push_of_some _ got
        have u1 := F.sub_tuple_set
        have u2 := F.sub_tuple_frozenset
        have u3 : (Value.type "tuple" == Value.type "dict") = false := by decide
        have tup1 : (s.heap.push (setOb led)).IsTuple tu its := ⟨_, got2, rfl, nt, rfl⟩
        unfold Builtin.«set.__init__» noKeywords Builtin.Frozenset.updateFrom
        generalize hPI : pyIter = PI
        wp_walk
        subst hPI
        refine wpAny_pyIter_tuple tup1 ?_
        refine wpAny_bind (wpAny_runValue ?_)
        have lt1 : tu < s.heap.objs.size := Heap.lt_size got
        have hd3 : B.in1.in1.in1.handled = none := by simp [hd]
        have ne1 : tu ≠ (s.heap.push (setOb led)).objs.size := by
          rw [Heap.size_push]
          exact Nat.ne_of_lt (Nat.lt_succ_of_lt lt1)
        have so1 : s.heap.objs.size ∉ [(s.heap.push (setOb led)).objs.size, tu] := by
          rw [Heap.size_push]
          simp only [List.mem_cons, List.mem_singleton, List.not_mem_nil, or_false, not_or]
          exact ⟨Nat.ne_of_lt (Nat.lt_succ_self _), Nat.ne_of_gt lt1⟩
        have len1 : ys.length = its.size := by rw [← StrsAre.len_eq hy, Array.length_toList]
        refine loop_texts ((Walks.tuple hd3 _ tu ne1 its).toS) s.heap.objs.size so1 ys len1 (by omega) (fun i v e => SS.strs_at hy i v (by rw [Array.getElem?_toList]; exact e)) (its.size - 0) 0 _ (by omega) (Nat.zero_le _)
          ⟨⟨_, Heap.get?_push_size _ rfl, rfl, rfl⟩, tup1.push _⟩ ?start ?done
        case start =>
          have g2 : ((s.heap.push (setOb led)).push { cls := .type "tuple_iterator", data := .fields #[.ref tu, .int 0 0] }).get? s.heap.objs.size = some (setOb led) := Heap.get?_push_of_some _ gS
          exact SetOf_congr ((setObjOf_fresh (knd := strKind pr w) led).setOf g2 (by unfold scanBound; omega)) (fun q => by simp) rfl
        case done =>
          intro s' mv hS
          obtain ⟨h', g', d', tk', os'⟩ := s'
          have eg : g' = s.gens := mv.gens
          have ed : d' = s.drawn := mv.drawn
          have eo : os' = s.os := mv.os
          subst eg
          subst ed
          subst eo
          refine wpAny_pure ?_
          show wpAny _ _ (ret Value.none) _ _ _
          refine wpAny_pure ⟨rfl, h', tk', rfl, hS, fun b o hb e => ?_⟩
          have n1 : b ≠ s.heap.objs.size := Nat.ne_of_lt hb
          have n2 : b ≠ (s.heap.push (setOb led)).objs.size := by
            rw [Heap.size_push]
            exact Nat.ne_of_lt (Nat.lt_succ_of_lt hb)
          exact mv.heap b o (by simp only [List.mem_cons, List.mem_singleton, List.not_mem_nil, or_false, not_or]; exact ⟨n1, n2⟩) (Heap.get?_push_of_some _ (Heap.get?_push_of_some _ e))
      · cases r2 with
        | error e => exact hr2
        | ok fl2 =>
          cases fl2 with
          | ret r =>
            obtain ⟨rfl, h', tk, rfl, hS, hk⟩ := hr2
            repeat (any_goals (first | assumption | wp_step))
            exact fin _ _ hS hk
          | _ => exact hr2.elim
    | _ => exact hr.elim
end
section
variable {X : Cx}
def tLenSetT (K : PySem.W.Frag) (ta : TE) : TE := fun σ H Q => ta σ H fun x H1 => ∃ (l : Addr) (ys : List Str), x = V.ref l ∧ SqT K H1 l (ys.map V.str) ∧ ys.length < 64 ∧ Q (.int ((ddS ys).length : Nat)) H1
theorem pe_lenSetT {a : Expr} {ta : TE} {p p2 q pos : Pos} (hc : X.calm = true) (hg : Gl X "len") (hm : X.mg "len" = none) (hg2 : Gl X "set") (hm2 : X.mg "set" = none) (ha : PE X a ta)
    (na : starEach [a] X.env = (false, eval a X.env) :: starEach [] X.env := by rfl) : PE X (.Call (.Name "len" p) [.Call (.Name "set" p2) [a] [] q] [] pos) (tLenSetT X.K ta) := by
  refine ⟨fun pins s σ H Q I h => ?_⟩
  refine Call_ (ld_blt I hg hm boot_len ?_)
  refine callWith_builtin1 (args_cons ?_ rfl) rfl rfl
  refine Call_ (ld_blt I hg2 hm2 boot_set ?_)
  refine callWith_type1 (args_cons (thn (ha.run pins s σ H _ I h) fun v s1 ⟨x, H1, I1, r1, q1⟩ => args_nil ?_) na) na rfl
  obtain ⟨l, ys, rfl, hq, few, q1⟩ := q1
  cases r1
  obtain ⟨its, r, pl, hz⟩ := I1.tuple hq
  have small := ddS_len ys
  refine call_set_texts (I1.ok.hd hc) pl (ys := ys) (by simpa using strsAre_of r) few fun h' tk hS hk => ?_
  refine args_nil ?_
  obtain ⟨o, es, ep, t, ho, hex, hd, _, _, _, hf, hn⟩ := hS
  have I2 : Inv X pins σ H1 { s1 with heap := h', toks := tk } := I1.kept fun b o e => hk b o (Heap.lt_size e) e
  exact call_len_set ho hex hd hf (by rw [hn] <;> omega) ⟨.int ((ddS ys).length : Nat), H1, I2.tok _, ⟨_, by rw [hn]⟩, q1⟩
end
end L2

set_option Elab.async false
set_option linter.all false
set_option maxRecDepth 100000
set_option maxHeartbeats 4000000
/-! SetStr: len(set(z)), z a text. -/
namespace L2
open PySem PySem.Spec PyProof.Rows
def signsS (x : Str) : List Str := x.cps.toList.map fun c => ⟨#[c]⟩
section
variable {pr : Program} {w : World} {B : Around} {RR : Result → Shared → Prop} {it : Addr} {fq ww : List Addr} {GG : Array GenState → Array GenState → Prop} {m : Nat} {PP : Nat → Value → Prop} {TT : Nat → Shared → Prop}
theorem loop_signs (U : WalksS pr w B.in1 it fq ww GG m PP TT) (so : Addr) (hso : so ∉ fq) (ys : List Str) (hys : ys.length = m) (few : m < 4000) (hv : ∀ i v, PP i v → ∃ t, v = .str (ys.getD i Str.empty) t) :
    ∀ (left i : Nat) (s : Shared), m - i = left → i ≤ m → TT i s → s.heap.SetOf (strKind pr w) so (fun q => decide (q ∈ ys.take i)) (ddS (ys.take i)).length →
      (∀ s', Moved (so :: ww) GG s s' → s'.heap.SetOf (strKind pr w) so (fun q => decide (q ∈ ys)) (ddS ys).length → RR (.ok (.ret .none)) s') →
      codeAny (model pr w) B (.builtin "set.update.loop" ⟨[.ref so, .ref it], []⟩) RR s := by
  have now : so ∉ ww := fun h => hso (U.sub _ h)
  have sub2 : ∀ b ∈ ww, b ∈ so :: ww := fun b hb => List.mem_cons_of_mem _ hb
  intro left
  induction left with
  | zero =>
    intro i s hl hi ht hS hR
    obtain rfl : i = m := by omega
    rw [← hys, List.take_length] at hS
    refine codeAny_builtin F.entry_set_update_loop ?_
    rw [Around.under_plainId F.plain_set_update_loop _]
    refine wpAny_bind (U.done s _ _ ht fun s' mv => ?_)
    obtain ⟨o, es, ep, tb, ho, rest⟩ := hS
    exact wpAny_pure (hR s' (mv.mono sub2) ⟨o, es, ep, tb, mv.heap so _ now ho, rest⟩)
  | succ left ih =>
    intro i s hl hi ht hS hR
    have him : i < m := by omega
    refine codeAny_builtin F.entry_set_update_loop ?_
    rw [Around.under_plainId F.plain_set_update_loop _]
    refine wpAny_bind (U.item i s _ _ him ht fun v s' hP ht' mv => ?_)
    obtain ⟨t, rfl⟩ := hv i v hP
    have hS' : s'.heap.SetOf (strKind pr w) so (fun q => decide (q ∈ ys.take i)) (ddS (ys.take i)).length := by
      obtain ⟨o, es, ep, tb, ho, rest⟩ := hS
      exact ⟨o, es, ep, tb, mv.heap so _ now ho, rest⟩
    have hlen := ddS_len (ys.take i)
    rw [List.length_take] at hlen
    refine wpAny_bind (wpAny_holding ?_)
    unfold setAdd
    refine wpAny_holding ?_
    refine wpAny_bind ((strKind pr w).pyHash (k := ys.getD i Str.empty) (strKind_is _ _ _ _) ?_)
    refine wpAny_setAddHashed_of (knd := strKind pr w) (s := { s' with toks := s'.toks + 1 }) (strKind_is _ _ _ _) rfl hS' (by unfold scanBound; omega) fun h' sb hS2 => ?_
    have ey : ys.take (i + 1) = ys.take i ++ [ys.getD i Str.empty] := by
      rw [List.take_succ, List.getD_eq_getElem?_getD, List.getElem?_eq_getElem (by omega)]
      rfl
    have hS3 : h'.SetOf (strKind pr w) so (fun q => decide (q ∈ ys.take (i + 1))) (ddS (ys.take (i + 1))).length := by
      rw [ey]
      refine SetOf_congr hS2 (fun q => ?_) ?_
      · by_cases h1 : q ∈ ys.take i
        · simp [h1]
        · simp [h1]
      · rw [ddS_snoc]
        by_cases h1 : ys.getD i Str.empty ∈ ys.take i
        · rw [if_pos ((ddS_mem _ _).mpr h1), if_pos (by simpa using h1)]
        · rw [if_neg (fun z => h1 ((ddS_mem _ _).mp z)), if_neg (by simpa using h1), List.length_append]
          rfl
    refine wpAny_pure ⟨plainId_quiet F.plain_set_update_loop _, ih (i + 1) _ (by omega) him (U.frame _ s' _ _ ht' (Nat.le_succ _) fun b hb o e => ?_) hS3 fun s2 mv2 hS4 => ?_⟩
    · rw [sb.2 b (fun z : b = so => hso (by rw [← z]; exact hb))]
      exact e
    · refine hR s2 (Moved.trans U.gtrans ((mv.mono sub2).then_heap (Nat.le_succ _) fun b o hb e => ?_) mv2) hS4
      rw [sb.2 b (fun z : b = so => hb (by rw [z]; exact List.mem_cons_self))]
      exact e
end
section
variable {pr : Program} {w : World} {B : Around} {EE : Value → Shared → Prop} {s : Shared}
theorem call_set_sign {x : Str} {tx : Tok} {QQ : Value → Shared → Prop} (hd : B.handled = none) (few : x.cps.size < 4000)
    (fin : ∀ (h' : Heap) (tk : Nat), h'.SetOf (strKind pr w) s.heap.objs.size (fun q => decide (q ∈ signsS x)) (ddS (signsS x)).length → (∀ b o, b < s.heap.objs.size → s.heap.get? b = some o → h'.get? b = some o) → QQ (.ref s.heap.objs.size) { s with heap := h', toks := tk }) :
    wpAny (model pr w) B (call (.type "set") [.str x tx]) QQ EE s := by
  obtain ⟨cc, tl, mro⟩ := F.called_set.mro
  have md := F.called_set.made
  have sb := F.called_set.sub
  refine wpAny_call (codeAny_of_tree ?_)
  show wpAny _ _ (callAny (.type "set") _) _ _ _
  refine wpAny_pure ⟨Code.quiet_builtin _ (by decide +kernel), codeAny_builtin F.entry_type_call ?_⟩
  rw [Around.under_plain (weight_type_call_type "set" [.str x tx] []) rfl]
  have q1 := F.called_set.notType
  have q2 := F.called_set.canCreate
  have q3 := F.typeCall_set_1 (.str x tx)
  repeat (any_goals (first | assumption | wp_step))
  refine codeAny_mono (code_set_new_1 (.str x tx) (E := EE) (Q₁ := fun ob s1 => ∃ led : Bool, ob = .ref s.heap.objs.size ∧ s1 = { s with heap := s.heap.push (setOb led) }) fun led => ⟨led, rfl, rfl⟩) fun r s1 hr => ?_
  cases r with
  | error e => exact hr
  | ok fl =>
    cases fl with
    | ret ob =>
      obtain ⟨led, rfl, rfl⟩ := hr
      have gS : (s.heap.push (setOb led)).get? s.heap.objs.size = some (setOb led) := Heap.get?_push_size _ rfl
      have tS : Shared.TypeIs { s with heap := s.heap.push (setOb led) } (.ref s.heap.objs.size) "set" := ⟨_, gS, rfl⟩
      have i1 := F.called_set.init.lookup
      have i2 := F.called_set.init.bind (.ref s.heap.objs.size)
      repeat (any_goals (first | assumption | wp_step))
      refine codeAny_mono (codeAny_call_builtin (R := wants (fun r s2 => r = .none ∧ ∃ h' tk, s2 = { s with heap := h', toks := tk } ∧ h'.SetOf (strKind pr w) s.heap.objs.size (fun q => decide (q ∈ signsS x)) (ddS (signsS x)).length ∧ (∀ b o, b < s.heap.objs.size → s.heap.get? b = some o → h'.get? b = some o)) EE) F.called_set.init.plain F.entry_set_init (check_set_init_1 tS ?_)) fun r2 s2 hr2 => ?_
      · have u1 : (Value.type "str" == Value.type "dict") = false := by decide
        have u2 := F.sub_str_set
        have u3 := F.sub_str_frozenset
        unfold Builtin.«set.__init__» noKeywords Builtin.Frozenset.updateFrom
        generalize hPI : pyIter = PI
        wp_walk
        subst hPI
        refine wpAny_pyIter_str fun o St W st0 => ?_
        refine wpAny_bind (wpAny_runValue ?_)
        have hd3 : B.in1.in1.in1.handled = none := by simp [hd]
        have so1 : s.heap.objs.size ∉ [(s.heap.push (setOb led)).objs.size] := by
          rw [Heap.size_push]
          simp only [List.mem_cons, List.mem_singleton, List.not_mem_nil, or_false, not_or]
          exact Nat.ne_of_lt (Nat.lt_succ_self _)
        have len1 : (signsS x).length = x.cps.size := by rw [signsS, List.length_map, Array.length_toList]
        refine loop_signs ((W _ hd3).toS) s.heap.objs.size so1 (signsS x) len1 (by omega) (fun i v ⟨c, u, e1, e2⟩ => ⟨u, by rw [e2, signsS, List.getD_eq_getElem?_getD, List.getElem?_map, Array.getElem?_toList, e1]; rfl⟩) (x.cps.size - 0) 0 _ (by omega) (Nat.zero_le _)
          st0 ?start ?done
        case start =>
          have g2 : ((s.heap.push (setOb led)).push o).get? s.heap.objs.size = some (setOb led) := Heap.get?_push_of_some _ gS
          exact SetOf_congr ((setObjOf_fresh (knd := strKind pr w) led).setOf g2 (by unfold scanBound; omega)) (fun q => by simp) rfl
        case done =>
          intro s' mv hS
          obtain ⟨h', g', d', tk', os'⟩ := s'
          have eg : g' = s.gens := mv.gens
          have ed : d' = s.drawn := mv.drawn
          have eo : os' = s.os := mv.os
          subst eg
          subst ed
          subst eo
          refine wpAny_pure ?_
          show wpAny _ _ (ret Value.none) _ _ _
          refine wpAny_pure ⟨rfl, h', tk', rfl, hS, fun b o hb e => ?_⟩
          have n1 : b ≠ s.heap.objs.size := Nat.ne_of_lt hb
          have n2 : b ≠ (s.heap.push (setOb led)).objs.size := by
            rw [Heap.size_push]
            exact Nat.ne_of_lt (Nat.lt_succ_of_lt hb)
          exact mv.heap b o (by simp only [List.mem_cons, List.mem_singleton, List.not_mem_nil, or_false, not_or]; exact ⟨n1, n2⟩) (Heap.get?_push_of_some _ (Heap.get?_push_of_some _ e))
      · cases r2 with
        | error e => exact hr2
        | ok fl2 =>
          cases fl2 with
          | ret r =>
            obtain ⟨rfl, h', tk, rfl, hS, hk⟩ := hr2
            repeat (any_goals (first | assumption | wp_step))
            exact fin _ _ hS hk
          | _ => exact hr2.elim
    | _ => exact hr.elim
end
section
variable {X : Cx}
def tLenSetS (ta : TE) : TE := fun σ H Q => ta σ H fun x H1 => ∃ z : Str, x = V.str z ∧ z.cps.size < 4000 ∧ Q (.int ((ddS (signsS z)).length : Nat)) H1
theorem pe_lenSetS {a : Expr} {ta : TE} {p p2 q pos : Pos} (hc : X.calm = true) (hg : Gl X "len") (hm : X.mg "len" = none) (hg2 : Gl X "set") (hm2 : X.mg "set" = none) (ha : PE X a ta)
    (na : starEach [a] X.env = (false, eval a X.env) :: starEach [] X.env := by rfl) : PE X (.Call (.Name "len" p) [.Call (.Name "set" p2) [a] [] q] [] pos) (tLenSetS ta) := by
  refine ⟨fun pins s σ H Q I h => ?_⟩
  refine Call_ (ld_blt I hg hm boot_len ?_)
  refine callWith_builtin1 (args_cons ?_ rfl) rfl rfl
  refine Call_ (ld_blt I hg2 hm2 boot_set ?_)
  refine callWith_type1 (args_cons (thn (ha.run pins s σ H _ I h) fun v s1 ⟨x, H1, I1, r1, q1⟩ => args_nil ?_) na) na rfl
  obtain ⟨z, rfl, few, q1⟩ := q1
  obtain ⟨tk0, rfl⟩ := r1
  have small := ddS_len (signsS z)
  have sl : (signsS z).length = z.cps.size := by rw [signsS, List.length_map, Array.length_toList]
  refine call_set_sign (I1.ok.hd hc) few fun h' tk hS hk => ?_
  refine args_nil ?_
  obtain ⟨o, es, ep, t, ho, hex, hd, _, _, _, hf, hn⟩ := hS
  have I2 : Inv X pins σ H1 { s1 with heap := h', toks := tk } := I1.kept fun b o e => hk b o (Heap.lt_size e) e
  exact call_len_set ho hex hd hf (by rw [hn]; omega) ⟨.int ((ddS (signsS z)).length : Nat), H1, I2.tok _, ⟨_, by rw [hn]⟩, q1⟩
end
end L2

set_option Elab.async false
set_option linter.all false
set_option maxRecDepth 100000
set_option maxHeartbeats 4000000
/-! StrKit: z * k and z[::-1] of texts. -/
namespace L2
open PySem PySem.Spec PyProof.Rows
/-- a text so many times -/
def repS (z : Str) (n : Nat) : Str := ⟨(List.replicate n z.cps.toList).flatten.toArray⟩
theorem foldl_app {α : Type} (xs : List (Array α)) (acc : Array α) : (xs.foldl (· ++ ·) acc).toList = acc.toList ++ (xs.map Array.toList).flatten := by
  induction xs generalizing acc with
  | nil => simp
  | cons x xs ih => rw [List.foldl_cons, ih, Array.toList_append, List.map_cons, List.flatten_cons, List.append_assoc]
theorem repS_list (z : Str) (n : Nat) : (repS z n).cps.toList = (List.replicate n z.cps.toList).flatten := rfl
theorem repS_len (z : Str) (n : Nat) : (repS z n).cps.toList.length = n * z.cps.toList.length := by
  rw [repS_list, List.length_flatten, List.map_replicate, List.sum_replicate_nat]
theorem mul_repS (z : Str) (k : Int) : Txt.mul z k = repS z k.toNat := by
  unfold Txt.mul repS
  by_cases h1 : k < 1
  · rw [if_pos h1, show k.toNat = 0 by omega]
    rfl
  · rw [if_neg h1]
    by_cases h2 : (k == 1 || z.length == 0) = true
    · rw [if_pos h2]
      rcases Bool.or_eq_true_iff.mp h2 with h | h
      · have : k = 1 := by simpa using h
        subst this
        obtain ⟨cs⟩ := z
        simp
      · have : z.length = 0 := by simpa using h
        have e : z.cps = #[] := Array.eq_empty_of_size_eq_zero this
        obtain ⟨cs⟩ := z
        simp only at e
        subst e
        simp
    · rw [if_neg h2]
      congr 1
      apply Array.ext'
      rw [foldl_app, List.map_replicate]
      simp
section
variable {X : Cx}
theorem op_mulS : OpR X (binaryOp .Mult) (fun x y H Q => ∃ z k, x = .str z ∧ y = .int k ∧ -(2 ^ 62) ≤ k ∧ k ≤ 2 ^ 24 ∧ z.cps.toList.length * k.toNat ≤ 2 ^ 24 ∧ Q (.str (repS z k.toNat)) H) := by
  intro pins s σ H x y v u Q I rx ry h
  obtain ⟨z, k, rfl, rfl, h1, h2, h3, q⟩ := h
  obtain ⟨t, rfl⟩ := rx
  obtain ⟨t', rfl⟩ := ry
  have hz : z.length = z.cps.toList.length := Array.length_toList.symm
  refine SB.mul ⟨?_, fun h4 h5 => ?_, fun h4 h5 => ?_⟩ fun t' tk => ⟨.str (repS z k.toNat), H, I.tok _, ⟨t', by rw [mul_repS]⟩, q⟩
  · have : ¬ k < -(2 ^ 63 : Int) := by omega
    have h : ¬ k ≥ (2 ^ 63 : Int) := by omega
    rw [decide_eq_false this, decide_eq_false h]
    rfl
  · have hk : 0 < k := by omega
    have : ((z.length : Nat) : Int) * k ≤ 2 ^ 24 := by
      rw [hz]
      have := Int.ofNat_le.mpr h3
      rw [Int.natCast_mul, Int.toNat_of_nonneg (by omega)] at this
      exact this
    have := Int.le_ediv_of_mul_le hk (Int.le_trans this (by decide : (2 : Int) ^ 24 ≤ 2 ^ 63 - 1))
    omega
  · unfold Builtin.Str.tooLong
    have : z.length * k.toNat ≤ 2 ^ 24 := by rw [hz]; exact h3
    simp only [sizeLine_eq]
    have h : ¬ z.length * k.toNat > 2 ^ 24 := by omega
    simp [h]
/-- z[::-1] -/
def revS (z : Str) : Str := ⟨z.cps.toList.reverse.toArray⟩
theorem revS_list (z : Str) : (revS z).cps.toList = z.cps.toList.reverse := rfl
def tRevS (te : TE) : TE := fun σ H Q => te σ H fun x H1 => ∃ z, x = .str z ∧ z.length ≤ sizeLine ∧ Q (.str (revS z)) H1
theorem pe_revS {e : Expr} {te : TE} {k : Nat} {p1 p2 p3 pos : Pos} (he : PE X e te) : PE X (.Subscript e (.Slice none none (some (.UnaryOp .USub (.Constant (.int 1) k p1) p2)) p3) pos) (tRevS te) := by
  refine ⟨fun pins s σ H Q I h => ?_⟩
  refine Subscript_ (thn (he.run pins s σ H _ I h) fun v s1 ⟨x, H1, I1, r1, q1⟩ => ?_)
  obtain ⟨z, ex, hz, q⟩ := q1
  subst ex
  obtain ⟨tz, rfl⟩ := r1
  have hst : PO X (some (.UnaryOp .USub (.Constant (.int 1) k p1) p2)) (tPart (tUn (rU fun i => .int (-i)) (tC (.int 1)))) := po_some (pe_un un_neg pe_int)
  refine wpAny_Slice (thn (po_none.run pins s1 σ H1 (fun o H2 => o = none ∧ H2 = H1) I1 ⟨rfl, rfl⟩) fun vl s2 ⟨l, H2, I2, pl, el, e2⟩ => ?_)
  subst el e2
  refine thn (po_none.run pins s2 σ H2 (fun o H3 => o = none ∧ H3 = H2) I2 ⟨rfl, rfl⟩) fun vu s3 ⟨u, H3, I3, pu, eu, e3⟩ => ?_
  subst eu e3
  refine thn (hst.run pins s3 σ H3 (fun o H4 => o = some (-1) ∧ H4 = H3) I3 ⟨1, rfl, -1, rfl, rfl, rfl⟩) fun vs s4 ⟨o, H4, I4, ps, eo, e4⟩ => ?_
  subst eo e4
  have I5 : Inv X pins σ H4 { s4 with heap := s4.heap.push { cls := .type "slice", data := .fields #[vl, vu, vs] } } := I4.kept (t' := s4.toks) fun b ob q => Heap.get?_push_of_some _ q
  show wpAny (model X.prog X.w) X.A (subscriptTail e (.Slice none none (some (.UnaryOp .USub (.Constant (.int 1) k p1) p2)) p3) (.str z tz) (.ref s4.heap.objs.size)) (EP X pins σ Q) X.xe { s4 with heap := s4.heap.push { cls := .type "slice", data := .fields #[vl, vu, vs] } }
  obtain ⟨l, rfl, e1⟩ := IsPart.raw pl
  obtain ⟨u, rfl, e2⟩ := IsPart.raw pu
  obtain ⟨st, rfl, e3⟩ := IsPart.raw ps
  have el : l = none := by cases l <;> simp_all
  have eu : u = none := by cases u <;> simp_all
  subst el eu
  refine tail_any (ops := [.str z tz, .ref s4.heap.objs.size]) (typeIs_str _ _ _) (F.slot_str_getitem.lookup) ?_ (by with_unfolding_all rfl)
  refine wpAny_getItem_str_slice (l := none) (u := none) (st := st) ⟨_, Heap.get?_push_size _ rfl, rfl, rfl⟩ (by rw [e3]; rfl) ?_
  have hp : ((Builtin.Str.strSliceIndices none none (-1) z.length).filterMap (z.cps[·]?)) = z.cps.toList.reverse := by
    unfold Builtin.Str.strSliceIndices
    show ((PySem.sliceRange ((z.length : Int) - 1) (-1) (-1)).filterMap (z.cps[·]?)) = _
    rw [PySem.W.krv_sliceRange, PySem.W.krv_range, List.filterMap_reverse]
    exact congrArg List.reverse (PySem.W.krv_all z.cps)
  have hl : (revS z).length ≤ sizeLine := by
    have : (revS z).length = z.length := by
      show (z.cps.toList.reverse.toArray).size = z.cps.size
      rw [List.size_toArray, List.length_reverse, Array.length_toList]
    omega
  unfold sliceMade slicePicked
  rw [e3]
  show Made.post (if ((-1 : Int) == 1 && _) = true then _ else Made.str ⟨((Builtin.Str.strSliceIndices none none (-1) z.length).filterMap (z.cps[·]?)).toArray⟩) _ _
  rw [hp, if_neg (by simp)]
  exact ⟨hl, .str (revS z), H4, I5.tok _, ⟨_, rfl⟩, q⟩
end
end L2

set_option Elab.async false
set_option linter.all false
set_option maxRecDepth 100000
set_option maxHeartbeats 4000000
/-! LcKit: comprehensions whose items are known one by one. -/
namespace L2
open PySem
/-- all but the lists stay -/
def KeepL (H H' : Hp) : Prop := ∀ b o, H b = some o → (∀ l, o ≠ .lst l) → H' b = some o
theorem KeepL.of {H H' : Hp} (s : ∀ b o, H b = some o → H' b = some o) : KeepL H H' := fun b o e _ => s b o e
theorem KeepL.trans {H H1 H2 : Hp} (s : KeepL H H1) (t : KeepL H1 H2) : KeepL H H2 := fun b o e n => t b o (s b o e n) n
inductive All2 {α β : Type} (R : α → β → Prop) : List α → List β → Prop
  | nil : All2 R [] []
  | cons {x : α} {z : β} {xs : List α} {zs : List β} (h : R x z) (t : All2 R xs zs) : All2 R (x :: xs) (z :: zs)
section
variable {α β : Type} {R : α → β → Prop}
theorem All2.length {xs : List α} {zs : List β} (h : All2 R xs zs) : xs.length = zs.length := by
  induction h with
  | nil => rfl
  | cons _ _ ih => rw [List.length_cons, List.length_cons, ih]
theorem All2.get {xs : List α} {zs : List β} (h : All2 R xs zs) {i : Nat} {x : α} (e : xs[i]? = some x) : ∃ z, zs[i]? = some z ∧ R x z := by
  induction h generalizing i with
  | nil => cases e
  | cons h t ih =>
    cases i with
    | zero => cases e; exact ⟨_, rfl, h⟩
    | succ i => exact ih e
theorem All2.getR {xs : List α} {zs : List β} (h : All2 R xs zs) {i : Nat} {z : β} (e : zs[i]? = some z) : ∃ x, xs[i]? = some x ∧ R x z := by
  induction h generalizing i with
  | nil => cases e
  | cons h t ih =>
    cases i with
    | zero => cases e; exact ⟨_, rfl, h⟩
    | succ i => exact ih e
theorem All2.append {xs ys : List α} {zs ws : List β} (h : All2 R xs zs) (g : All2 R ys ws) : All2 R (xs ++ ys) (zs ++ ws) := by
  induction h with
  | nil => exact g
  | cons h t ih => exact .cons h ih
theorem All2.mono {S : α → β → Prop} {xs : List α} {zs : List β} (h : All2 R xs zs) (m : ∀ x z, z ∈ zs → R x z → S x z) : All2 S xs zs := by
  induction h with
  | nil => exact .nil
  | cons h t ih => exact .cons (m _ _ List.mem_cons_self h) (ih fun x z hz r => m x z (List.mem_cons_of_mem _ hz) r)
theorem All2.drop {xs : List α} {zs : List β} (h : All2 R xs zs) : ∀ k : Nat, All2 R (xs.drop k) (zs.drop k)
  | 0 => h
  | k + 1 => by
    cases h with
    | nil => exact .nil
    | cons h t => exact t.drop k
theorem All2.take {xs : List α} {zs : List β} (h : All2 R xs zs) : ∀ k : Nat, All2 R (xs.take k) (zs.take k)
  | 0 => .nil
  | k + 1 => by
    cases h with
    | nil => exact .nil
    | cons h t => exact .cons h (t.take k)
theorem All2.map {γ : Type} {f : γ → α} {g : γ → β} : ∀ {cs : List γ}, (∀ c ∈ cs, R (f c) (g c)) → All2 R (cs.map f) (cs.map g)
  | [], _ => .nil
  | c :: cs, h => .cons (h c List.mem_cons_self) (All2.map fun d hd => h d (List.mem_cons_of_mem _ hd))
theorem All2.mem {xs : List α} {zs : List β} (h : All2 R xs zs) {x : α} (e : x ∈ xs) : ∃ z, z ∈ zs ∧ R x z := by
  obtain ⟨i, hi⟩ := List.mem_iff_getElem?.mp e
  obtain ⟨z, hz, r⟩ := h.get hi
  exact ⟨z, List.mem_of_getElem? hz, r⟩
/-- values that are told by what they are -/
theorem All2.eq_map {f : β → α} {xs : List α} {zs : List β} (h : All2 (fun x z => x = f z) xs zs) : xs = zs.map f := by
  induction h with
  | nil => rfl
  | cons h t ih => rw [List.map_cons, h, ih]
theorem All2.of_map {f : β → α} : ∀ zs : List β, All2 (fun x z => x = f z) (zs.map f) zs
  | [] => .nil
  | z :: zs => .cons rfl (All2.of_map zs)
end
theorem filter_take_succ {β γ : Type} {zs : List β} {i : Nat} {z : β} (e : zs[i]? = some z) (t : β → Bool) (f : β → γ) : ((zs.take (i + 1)).filter t).map f = ((zs.take i).filter t).map f ++ (if t z = true then [f z] else []) := by
  rw [List.take_succ, e, List.filter_append, List.map_append]
  congr 1
  by_cases h : t z = true
  · rw [if_pos h]
    simp [h]
  · rw [if_neg h]
    simp [h]
section
variable {K : PySem.W.Frag} {g : TG} {tt : TT} {te : TE} {vs : List Nat} {σ : St} {H1 : Hp} {D : Addr} {Qd : Hp → Prop} {α β : Type} {zs : List α} {R : Hp → V → α → Prop} {R' : Hp → V → β → Prop}
theorem sqT_same {H H' : Hp} {a : Addr} {xs : List V} (e : ∀ b o, H b = some o → H' b = some o) (h : SqT K H a xs) : SqT K H' a xs :=
  h.elim (fun h => .inl (h.elim (fun h => .inl (e _ _ h)) fun ⟨o, h⟩ => .inr ⟨o, e _ _ h⟩)) fun h => .inr h
theorem sqL_same {H H' : Hp} {a : Addr} {xs : List V} (e : ∀ b o, H b = some o → H' b = some o) (h : SqL K H a xs) : SqL K H' a xs :=
  h.elim (fun h => .inl (h.elim (fun h => .inl (e _ _ h)) fun ⟨o, h⟩ => .inr ⟨o, e _ _ h⟩)) fun h => .inr h
/-- one turn's wish -/
def LcP (H1 : Hp) (D : Addr) (R' : Hp → V → β → Prop) (zs : List α) (t : α → Bool) (f : α → β) (i : Nat) (H : Hp) : Prop := (∀ b o, H1 b = some o → H b = some o) ∧ ∃ ys, H D = some (.lst ys) ∧ All2 (R' H) ys (((zs.take i).filter t).map f)
theorem lcP_put {t : α → Bool} {f : α → β} {i : Nat} {z : α} {H H4 : Hp} {y : V} (hD : H1 D = none) (mR' : ∀ H H' x z, KeepL H H' → R' H x z → R' H' x z) (hz : zs.length < sizeLine) (e : zs[i]? = some z) (p : LcP H1 D R' zs t f i H) (ht : t z = true)
    (s : ∀ b o, H b = some o → H4 b = some o) (r : R' H4 y (f z)) : ∃ acc, H4 D = some (.lst acc) ∧ acc.length < sizeLine ∧ LcP H1 D R' zs t f (i + 1) (upd H4 D (.lst (acc ++ [y]))) := by
  obtain ⟨s1, ys, hd, a⟩ := p
  have kl : KeepL H4 (upd H4 D (.lst (ys ++ [y]))) := fun b o e n => by
    rw [upd_ne (fun q => by subst q; rw [s _ _ hd] at e; cases e; exact n _ rfl)]
    exact e
  have hlen := a.length
  rw [List.length_map] at hlen
  have h1 : ((zs.take i).filter t).length ≤ zs.length := Nat.le_trans (List.length_filter_le _ _) (by rw [List.length_take]; omega)
  refine ⟨ys, s _ _ hd, by omega, fun b o e => ?_, _, upd_same, ?_⟩
  · rw [upd_ne (ne_of_none e hD)]
    exact s _ _ (s1 _ _ e)
  · rw [filter_take_succ e, if_pos ht]
    exact (a.mono fun x z _ r => mR' _ _ _ _ kl (mR' _ _ _ _ (.of s) r)).append (.cons (mR' _ _ _ _ kl r) .nil)
theorem lcP_skip {t : α → Bool} {f : α → β} {i : Nat} {z : α} {H H3 : Hp} (mR' : ∀ H H' x z, KeepL H H' → R' H x z → R' H' x z) (e : zs[i]? = some z) (p : LcP H1 D R' zs t f i H) (ht : t z = false)
    (s : ∀ b o, H b = some o → H3 b = some o) : LcP H1 D R' zs t f (i + 1) H3 := by
  obtain ⟨s1, ys, hd, a⟩ := p
  refine ⟨fun b o e => s _ _ (s1 _ _ e), ys, s _ _ hd, ?_⟩
  rw [filter_take_succ e, if_neg (by rw [ht]; simp), List.append_nil]
  exact a.mono fun x z _ r => mR' _ _ _ _ (.of s) r
theorem lcP_zero {t : α → Bool} {f : α → β} (hD : H1 D = none) : LcP H1 D R' zs t f 0 (upd H1 D (.lst [])) := ⟨fun b o e => by rw [upd_ne (ne_of_none e hD)]; exact e, [], upd_same, .nil⟩
/-- over a list whose items are known -/
theorem lcM_list {a : Addr} {xs : List V} (t : α → Bool) (f : α → β) (hD : H1 D = none) (hS : SqL K H1 a xs) (hx : All2 (R H1) xs zs) (mR : ∀ H H' x z, (∀ b o, H b = some o → H' b = some o) → R H x z → R H' x z) (mR' : ∀ H H' x z, KeepL H H' → R' H x z → R' H' x z) (hz : zs.length < sizeLine)
    (step : ∀ (i : Nat) (x : V) (z : α) (H : Hp) (C : V → Hp → Prop) (C0 : Hp → Prop), zs[i]? = some z → (∀ b o, H1 b = some o → H b = some o) → R H x z →
      (t z = true → ∀ y H4, (∀ b o, H b = some o → H4 b = some o) → R' H4 y (f z) → C y H4) → (t z = false → ∀ H3, (∀ b o, H b = some o → H3 b = some o) → C0 H3) →
      g x (wipe σ vs) H fun σ2 H2 => wipe σ2 vs = wipe σ vs ∧ tt σ2 H2 fun b H3 => if b = true then te σ2 H3 C else C0 H3)
    (fin : ∀ ys H, (∀ b o, H1 b = some o → H b = some o) → H D = some (.lst ys) → All2 (R' H) ys ((zs.filter t).map f) → Qd H) :
    ∃ W : Nat → Nat → Hp → Prop, (∃ m, W 0 m (upd H1 D (.lst []))) ∧ ∀ i m H, W i m H →
      ((Itl K a).stop i H ∧ Qd H) ∨ ((Itl K a).go i H ∧ ∃ Nx : Hp → Prop, (∀ H', Nx H' → ∃ m', m' < m ∧ W (i + 1) m' H') ∧ ∀ x H', (Itl K a).yld i H x H' → g x (wipe σ vs) H' fun σ2 H2 => wipe σ2 vs = wipe σ vs ∧ tt σ2 H2 fun b H3 =>
        if b = true then te σ2 H3 fun y H4 => ∃ acc, H4 D = some (.lst acc) ∧ acc.length < sizeLine ∧ Nx (upd H4 D (.lst (acc ++ [y]))) else Nx H3) := by
  have el := hx.length
  refine lc_list (xs := xs) (LcP H1 D R' zs t f) (lcP_zero hD) (fun i H _ p => sqL_same p.1 hS) (fun i x H hi p => ?_) (fun H p => ?_)
  · obtain ⟨z, e, r⟩ := hx.get hi
    exact step i x z H _ _ e p.1 (mR _ _ _ _ p.1 r) (fun ht y H4 s r => lcP_put hD mR' hz e p ht s r) (fun ht H3 s => lcP_skip mR' e p ht s)
  · obtain ⟨s1, ys, hd, a2⟩ := p
    rw [el, List.take_length] at a2
    exact fin ys H s1 hd a2
/-- over a tuple -/
theorem lcM_tup {a : Addr} {xs : List V} (t : α → Bool) (f : α → β) (hD : H1 D = none) (hS : SqT K H1 a xs) (hx : All2 (R H1) xs zs) (mR : ∀ H H' x z, (∀ b o, H b = some o → H' b = some o) → R H x z → R H' x z) (mR' : ∀ H H' x z, KeepL H H' → R' H x z → R' H' x z) (hz : zs.length < sizeLine)
    (step : ∀ (i : Nat) (x : V) (z : α) (H : Hp) (C : V → Hp → Prop) (C0 : Hp → Prop), zs[i]? = some z → (∀ b o, H1 b = some o → H b = some o) → R H x z →
      (t z = true → ∀ y H4, (∀ b o, H b = some o → H4 b = some o) → R' H4 y (f z) → C y H4) → (t z = false → ∀ H3, (∀ b o, H b = some o → H3 b = some o) → C0 H3) →
      g x (wipe σ vs) H fun σ2 H2 => wipe σ2 vs = wipe σ vs ∧ tt σ2 H2 fun b H3 => if b = true then te σ2 H3 C else C0 H3)
    (fin : ∀ ys H, (∀ b o, H1 b = some o → H b = some o) → H D = some (.lst ys) → All2 (R' H) ys ((zs.filter t).map f) → Qd H) :
    ∃ W : Nat → Nat → Hp → Prop, (∃ m, W 0 m (upd H1 D (.lst []))) ∧ ∀ i m H, W i m H →
      ((Itt K a).stop i H ∧ Qd H) ∨ ((Itt K a).go i H ∧ ∃ Nx : Hp → Prop, (∀ H', Nx H' → ∃ m', m' < m ∧ W (i + 1) m' H') ∧ ∀ x H', (Itt K a).yld i H x H' → g x (wipe σ vs) H' fun σ2 H2 => wipe σ2 vs = wipe σ vs ∧ tt σ2 H2 fun b H3 =>
        if b = true then te σ2 H3 fun y H4 => ∃ acc, H4 D = some (.lst acc) ∧ acc.length < sizeLine ∧ Nx (upd H4 D (.lst (acc ++ [y]))) else Nx H3) := by
  have el := hx.length
  refine lc_tup (xs := xs) (LcP H1 D R' zs t f) (lcP_zero hD) (fun i H _ p => sqT_same p.1 hS) (fun i x H hi p => ?_) (fun H p => ?_)
  · obtain ⟨z, e, r⟩ := hx.get hi
    exact step i x z H _ _ e p.1 (mR _ _ _ _ p.1 r) (fun ht y H4 s r => lcP_put hD mR' hz e p ht s r) (fun ht H3 s => lcP_skip mR' e p ht s)
  · obtain ⟨s1, ys, hd, a2⟩ := p
    rw [el, List.take_length] at a2
    exact fin ys H s1 hd a2
/-- over a range -/
theorem lcM_range {lo : Int} {n : Nat} (t : Nat → Bool) (f : Nat → β) (hD : H1 D = none) (mR' : ∀ H H' x z, KeepL H H' → R' H x z → R' H' x z) (hz : n < sizeLine)
    (step : ∀ (i : Nat) (H : Hp) (C : V → Hp → Prop) (C0 : Hp → Prop), i < n → (∀ b o, H1 b = some o → H b = some o) →
      (t i = true → ∀ y H4, (∀ b o, H b = some o → H4 b = some o) → R' H4 y (f i) → C y H4) → (t i = false → ∀ H3, (∀ b o, H b = some o → H3 b = some o) → C0 H3) →
      g (.int (lo + i)) (wipe σ vs) H fun σ2 H2 => wipe σ2 vs = wipe σ vs ∧ tt σ2 H2 fun b H3 => if b = true then te σ2 H3 C else C0 H3)
    (fin : ∀ ys H, (∀ b o, H1 b = some o → H b = some o) → H D = some (.lst ys) → All2 (R' H) ys (((List.range n).filter t).map f) → Qd H) :
    ∃ W : Nat → Nat → Hp → Prop, (∃ m, W 0 m (upd H1 D (.lst []))) ∧ ∀ i m H, W i m H →
      ((Itr lo n).stop i H ∧ Qd H) ∨ ((Itr lo n).go i H ∧ ∃ Nx : Hp → Prop, (∀ H', Nx H' → ∃ m', m' < m ∧ W (i + 1) m' H') ∧ ∀ x H', (Itr lo n).yld i H x H' → g x (wipe σ vs) H' fun σ2 H2 => wipe σ2 vs = wipe σ vs ∧ tt σ2 H2 fun b H3 =>
        if b = true then te σ2 H3 fun y H4 => ∃ acc, H4 D = some (.lst acc) ∧ acc.length < sizeLine ∧ Nx (upd H4 D (.lst (acc ++ [y]))) else Nx H3) := by
  refine lc_range (LcP H1 D R' (List.range n) t f) (lcP_zero hD) (fun i H hi p => ?_) (fun H p => ?_)
  · have e : (List.range n)[i]? = some i := List.getElem?_range hi
    exact step i H _ _ hi p.1 (fun ht y H4 s r => lcP_put hD mR' (by rw [List.length_range]; exact hz) e p ht s r) (fun ht H3 s => lcP_skip mR' e p ht s)
  · obtain ⟨s1, ys, hd, a2⟩ := p
    have e2 : (List.range n).take n = List.range n := List.take_of_length_le (by rw [List.length_range]; exact Nat.le_refl _)
    rw [e2] at a2
    exact fin ys H s1 hd a2
end
end L2

set_option Elab.async false
set_option linter.all false
set_option maxRecDepth 100000
set_option maxHeartbeats 4000000
/-! StrL: texts by the lists of their codes. -/
namespace L2
open PySem PySem.Spec PyProof.Rows
def strL (l : List Nat) : Str := ⟨l.toArray⟩
def strV (l : List Nat) : V := .str (strL l)
theorem strL_list (l : List Nat) : (strL l).cps.toList = l := by simp [strL]
theorem strL_size (l : List Nat) : (strL l).cps.size = l.length := by simp [strL]
theorem strL_len (l : List Nat) : (strL l).length = l.length := by show l.toArray.size = _; simp
theorem strL_of (z : Str) : z = strL z.cps.toList := by
  cases z
  simp [strL]
theorem strL_add (a b : List Nat) : strL a ++ strL b = strL (a ++ b) := by
  show (⟨a.toArray ++ b.toArray⟩ : Str) = ⟨(a ++ b).toArray⟩
  simp
theorem strL_inj {a b : List Nat} : strL a = strL b ↔ a = b := by
  constructor
  · intro h
    have := congrArg (fun z : Str => z.cps.toList) h
    simpa [strL] using this
  · rintro rfl
    rfl
theorem strV_inj {a b : List Nat} : V.str (strL a) = V.str (strL b) ↔ a = b := by
  constructor
  · intro h
    injection h with h
    exact strL_inj.mp h
  · rintro rfl
    rfl
theorem strL_dec (a b : List Nat) : decide (V.str (strL a) = V.str (strL b)) = decide (a = b) := by
  by_cases h : a = b
  · rw [decide_eq_true h, decide_eq_true (strV_inj.mpr h)]
  · rw [decide_eq_false h, decide_eq_false fun z => h (strV_inj.mp z)]
theorem cutN (l : List Nat) (a b : Nat) : cutS (strL l) (some (a : Int)) (some (b : Int)) = strL ((l.take b).drop a) := by
  rw [strL_of (cutS _ _ _)]
  congr 1
  show (((strL l).cps.toList.drop (HT.sIx (strL l).length 0 (some (a : Int)))).take (HT.sIx (strL l).length (strL l).length (some (b : Int)) - HT.sIx (strL l).length 0 (some (a : Int)))).toArray.toList = _
  rw [HT.sIx_nat, HT.sIx_nat, strL_list, strL_len]
  simp only [List.toList_toArray]
  rw [List.drop_take]
  by_cases h1 : a ≤ l.length
  · rw [Nat.min_eq_left h1]
    by_cases h2 : b ≤ l.length
    · rw [Nat.min_eq_left h2]
    · rw [Nat.min_eq_right (by omega), List.take_of_length_le (by rw [List.length_drop]; omega), List.take_of_length_le (by rw [List.length_drop]; omega)]
  · rw [List.drop_of_length_le (by omega : l.length ≤ min a l.length), List.drop_of_length_le (by omega : l.length ≤ a)]
    simp
theorem cutL (l : List Nat) (k : Nat) : cutS (strL l) (some (k : Int)) none = strL (l.drop k) := by
  rw [strL_of (cutS _ _ _)]
  congr 1
  show (((strL l).cps.toList.drop (HT.sIx (strL l).length 0 (some (k : Int)))).take (HT.sIx (strL l).length (strL l).length none - HT.sIx (strL l).length 0 (some (k : Int)))).toArray.toList = _
  rw [HT.sIx_none, HT.sIx_nat, strL_list, strL_len]
  simp only [List.toList_toArray]
  rw [List.take_of_length_le (by rw [List.length_drop]; omega), Nat.min_def]
  split
  · rfl
  · rw [List.drop_of_length_le (Nat.le_refl _), List.drop_of_length_le (by omega)]
theorem takeL (l : List Nat) (k : Nat) : cutS (strL l) none (some (k : Int)) = strL (l.take k) := by
  rw [strL_of (cutS _ _ _)]
  congr 1
  show (((strL l).cps.toList.drop (HT.sIx (strL l).length 0 none)).take (HT.sIx (strL l).length (strL l).length (some (k : Int)) - HT.sIx (strL l).length 0 none)).toArray.toList = _
  rw [HT.sIx_none, HT.sIx_nat, strL_list, strL_len]
  simp only [List.toList_toArray, List.drop_zero, Nat.sub_zero]
  rw [Nat.min_def]
  split
  · rfl
  · rw [List.take_of_length_le (Nat.le_refl _), List.take_of_length_le (by omega)]
theorem repL (l : List Nat) (k : Nat) : repS (strL l) k = strL (List.replicate k l).flatten := by
  show (⟨(List.replicate k (strL l).cps.toList).flatten.toArray⟩ : Str) = _
  rw [strL_list]
  rfl
theorem joinL_nil0 : ∀ ys : List (List Nat), TL.joinL [] ys = ys.flatten
  | [] => rfl
  | [p] => by rw [List.flatten_cons, List.flatten_nil, List.append_nil]; rfl
  | p :: q :: r => (show p ++ TL.joinL [] (q :: r) = _ from by rw [joinL_nil0 (q :: r)]; rfl)
theorem joinV (ws : List (List Nat)) : Txt.join "" (ws.map strL) = strL ws.flatten := by
  have e : ws.map strL = ws.map SX.S := List.map_congr_left fun w _ => by
    have := SX.S_tl (strL w)
    rw [strL_list] at this
    exact this.symm
  rw [e, show ("" : Str) = SX.S [] from rfl, SX.join_S, joinL_nil0, strL_of (SX.S _)]
theorem sum_lenV (ws : List (List Nat)) : ((ws.map strL).map (·.length)).sum = ws.flatten.length := by
  rw [List.length_flatten, List.map_map]
  exact congrArg List.sum (List.map_congr_left fun w _ => strL_len w)
theorem ones_flat : ∀ l : List Nat, (l.map fun c => [c]).flatten = l
  | [] => rfl
  | c :: l => by rw [List.map_cons, List.flatten_cons, ones_flat l]; rfl
theorem mapV (ws : List (List Nat)) : (ws.map strL).map V.str = ws.map strV := by
  rw [List.map_map]
  rfl
theorem cut_tail1 (xs : List V) : cutV xs (some 1) none = xs.drop 1 := by
  unfold cutV
  rw [HT.sIx_none, show (some (1 : Int)) = some ((1 : Nat) : Int) from rfl, HT.sIx_nat]
  by_cases h : xs.length ≤ 1
  · rw [Nat.min_eq_right h, List.drop_length, List.drop_of_length_le h, List.take_nil]
  · rw [Nat.min_eq_left (by omega), List.take_of_length_le (by rw [List.length_drop]; omega)]
end L2

set_option Elab.async false
set_option linter.all false
set_option maxRecDepth 100000
set_option maxHeartbeats 4000000
/-! LstKit: list.count of texts, list[::-1]. -/
namespace L2
open PySem PySem.Spec PyProof.Rows
section
variable {X : Cx} {pins : List (Addr × Obj)} {σ : L2.St} {H : Hp} {s : Shared}
theorem strs_vals : ∀ {ys : List Str} {us : List Value}, Vals (ys.map V.str) us → StrsAre us ys
  | [], _, h => by
    cases h
    exact .nil
  | y :: ys, _, h => by
    cases h with
    | cons rv rn =>
      obtain ⟨t, rfl⟩ := rv
      exact .cons y t (strs_vals rn)
theorem countIn_strs (k : Str) : ∀ ys : List Str, countIn (.str k) (ys.map PyData.str) = ((ys.count k : Nat) : Int)
  | [] => rfl
  | y :: ys => by
    rw [List.map_cons, countIn, countIn_strs k ys, List.count_cons]
    by_cases h : y = k
    · simp [same, h]; omega
    · simp [same, h]
def rCntS (K : PySem.W.Frag) : V → List V → Hp → VK → Prop := fun x xs H Q => ∃ (p : Addr) (ys : List Str) (k : Str), x = .ref p ∧ xs = [.str k] ∧ SqL K H p (ys.map V.str) ∧ Q (.int (ys.count k : Nat)) H
theorem mt_countS : MtR X "list.count" (rCntS X.K) := by
  intro pins s σ H x xs v us Q I rx rxs h
  obtain ⟨p, ys, k, rfl, rfl, hs, q⟩ := h
  cases rx
  obtain ⟨u, rfl, ru⟩ := rxs.one
  obtain ⟨t, rfl⟩ := ru
  obtain ⟨its, rv, ht, hlen⟩ := I.list hs
  refine count_list_strs ht.isList (strs_vals rv) ?_
  rw [countIn_strs]
  exact ⟨.int (ys.count k : Nat), H, I.tok _, ⟨s.toks, rfl⟩, q⟩
end
end L2

set_option Elab.async false
set_option linter.all false
set_option maxRecDepth 100000
set_option maxHeartbeats 4000000
namespace T86
open PySem PySem.Spec PyProof.Rows L2 EK
theorem toks_skey (cs : List Nat) (i : Nat) : PySem.W.keyToks (skey cs i) = [.inl 1, .inr [cs.getD i 0], .inl 1, .inl (i : Int), .inl 0] := by
  simp [skey, PySem.W.keyToks, PySem.W.keyToksAll]
theorem dle_not {β : Type} (k : β → PyData) (x y : β) : dle k x y = !(PyProof.Rows.lexLt itemOrd (PySem.W.keyToks (k y)) (PySem.W.keyToks (k x))) := rfl
theorem blt_r (x y : List Nat) : itemOrd.blt (.inr x) (.inr y) = decide (x < y) := rfl
theorem blt_l (x y : Int) : itemOrd.blt (.inl x) (.inl y) = decide (x < y) := rfl
/-- by the first, then by the second -/
theorem lex_two (a b c d : Sum Int (List Nat)) : PyProof.Rows.lexLt itemOrd [.inl 1, a, .inl 1, b, .inl 0] [.inl 1, c, .inl 1, d, .inl 0] = false ↔ itemOrd.blt a c = false ∧ (itemOrd.blt c a = true ∨ itemOrd.blt b d = false) := by
  rw [lex_self, lex_false, lex_self, lex_false]
  have e : PyProof.Rows.lexLt itemOrd [Sum.inl 0] [Sum.inl 0] = false := lex_irrefl (O := itemOrd) _
  constructor
  · rintro ⟨h1, h2⟩
    exact ⟨h1, h2.imp id fun h => h.1⟩
  · rintro ⟨h1, h2⟩
    exact ⟨h1, h2.imp id fun h => ⟨h, .inr e⟩⟩
theorem dle_skey (cs : List Nat) (i j : Nat) : dle (skey cs) i j = true ↔ cs.getD i 0 < cs.getD j 0 ∨ (cs.getD i 0 = cs.getD j 0 ∧ i ≤ j) := by
  have one : ∀ x y : Nat, [x] < [y] ↔ x < y := fun x y => by
    rw [List.cons_lt_cons_iff]
    constructor
    · rintro (h | ⟨_, h⟩)
      · exact h
      · exact absurd h (List.lt_irrefl _)
    · exact .inl
  rw [dle_not, Bool.not_eq_true', toks_skey, toks_skey, lex_two, blt_r, blt_r, blt_l, decide_eq_false_iff_not, decide_eq_true_eq, decide_eq_false_iff_not, one, one]
  omega
variable {a b g : Nat}
def rowB (p q : Nat) : List Nat := List.replicate q 98 ++ List.replicate p 97
theorem rowB_len (p q : Nat) : (rowB p q).length = p + q := by
  unfold rowB
  rw [List.length_append, List.length_replicate, List.length_replicate, Nat.add_comm]
theorem rowB_at {p q i : Nat} (h : i < p + q) : (rowB p q).getD i 0 = if i < q then 98 else 97 := by
  unfold rowB
  rw [List.getD_eq_getElem?_getD, List.getElem?_append, List.length_replicate]
  split
  · rw [List.getElem?_replicate, if_pos (by assumption)]
    rfl
  · rw [List.getElem?_replicate, if_pos (by omega)]
    rfl
def ordB (p q : Nat) : List Nat := (List.range p).map (q + ·) ++ List.range q
theorem ordB_ok (p q : Nat) : ordI (rowB p q) = ordB p q := by
  unfold ordI
  rw [rowB_len]
  have perm : (ordB p q).Perm (List.range (p + q)) := by
    unfold ordB
    rw [Nat.add_comm p q, List.range_add]
    exact List.perm_append_comm
  have lt : ∀ x ∈ List.range (p + q), x < p + q := fun x hx => List.mem_range.mp hx
  refine sorted_uniq (dle (skey (rowB p q))) (fun x hx y hy h1 h2 => ?_) ((isort_perm _ _).trans perm.symm) (isort_sorted _ (dle_trans _) (dle_total _) _) ?_
  · rw [dle_skey] at h1 h2
    omega
  · unfold ordB
    rw [List.pairwise_append]
    refine ⟨?_, ?_, ?_⟩
    · refine List.Pairwise.map (R := fun x y => x < y ∧ y < p) _ (fun x y h => ?_) ?_
      · rw [dle_skey, rowB_at (by omega), rowB_at (by omega), if_neg (by omega), if_neg (by omega)]
        omega
      · have h1 := List.pairwise_lt_range (n := p)
        exact h1.imp_of_mem fun _ hy h => ⟨h, List.mem_range.mp hy⟩
    · have h1 := List.pairwise_lt_range (n := q)
      refine h1.imp_of_mem fun {x y} hx hy h => ?_
      have hy := List.mem_range.mp hy
      rw [dle_skey, rowB_at (by omega), rowB_at (by omega), if_pos (by omega), if_pos (by omega)]
      omega
    · intro x hx y hy
      obtain ⟨k, hk, rfl⟩ := List.mem_map.mp hx
      have hk := List.mem_range.mp hk
      have hy := List.mem_range.mp hy
      rw [dle_skey, rowB_at (by omega), rowB_at (by omega), if_neg (by omega), if_pos (by omega)]
      omega
theorem stepG_ne (cs : List Nat) : ∀ (l : List Nat) (k : Nat) (b : List V) (x : Nat), x ∉ l → (stepG cs k l b)[x]? = b[x]?
  | [], _, _, _, _ => rfl
  | y :: l, k, b, x, h => by
    show (stepG cs (k + 1) l (stepF cs b y k))[x]? = _
    rw [stepG_ne cs l _ _ _ fun z => h (List.mem_cons_of_mem _ z)]
    unfold stepF
    split
    · rfl
    · rw [List.getElem?_set_ne fun z => h (by rw [z]; exact List.mem_cons_self)]
theorem stepG_at (cs : List Nat) : ∀ (l : List Nat) (k : Nat) (b : List V), l.Nodup → (∀ x ∈ l, cs.getD x 0 ≠ 36 ∧ x < b.length) → ∀ (j x : Nat), l[j]? = some x → (stepG cs k l b)[x]? = some (.int ((k + j : Nat) : Int))
  | [], _, _, _, _, j, x, e => by simp at e
  | y :: l, k, b, nd, h, j, x, e => by
    obtain ⟨n1, n2⟩ := List.nodup_cons.mp nd
    obtain ⟨h1, h2⟩ := h y List.mem_cons_self
    have hs : stepF cs b y k = b.set y (.int k) := by
      unfold stepF
      rw [if_neg h1]
    show (stepG cs (k + 1) l (stepF cs b y k))[x]? = _
    rw [hs]
    match j, e with
    | 0, e =>
      cases e
      rw [stepG_ne cs l _ _ _ n1, List.getElem?_set_self h2]
      rfl
    | j + 1, e =>
      have e : l[j]? = some x := by simpa using e
      rw [stepG_at cs l (k + 1) _ n2 (fun z hz => ⟨(h z (List.mem_cons_of_mem _ hz)).1, by rw [List.length_set]; exact (h z (List.mem_cons_of_mem _ hz)).2⟩) j x e]
      congr 3
      omega
theorem step_row {p q x : Nat} (h : x < p + q) : (stepL (rowB p q))[x]? = some (.int (((x + p) % (p + q) : Nat) : Int)) := by
  unfold stepL
  rw [ordB_ok]
  have mem : ∀ y ∈ ordB p q, y < p + q := fun y hy => by
    unfold ordB at hy
    rcases List.mem_append.mp hy with hy | hy
    · obtain ⟨k, hk, rfl⟩ := List.mem_map.mp hy
      have hk := List.mem_range.mp hk
      omega
    · have hy := List.mem_range.mp hy
      omega
  have nd : (ordB p q).Nodup := by
    have perm : (ordB p q).Perm (List.range (p + q)) := by
      unfold ordB
      rw [Nat.add_comm p q, List.range_add]
      exact List.perm_append_comm
    exact perm.nodup_iff.mpr List.nodup_range
  have go := stepG_at (rowB p q) (ordB p q) 0 (List.replicate (rowB p q).length .non) nd (fun y hy => by
    rw [List.length_replicate, rowB_len, rowB_at (mem y hy)]
    exact ⟨by split <;> decide, mem y hy⟩)
  by_cases hx : x < q
  · have e : (ordB p q)[p + x]? = some x := by
      unfold ordB
      rw [List.getElem?_append_right (by rw [List.length_map, List.length_range]; omega), List.length_map, List.length_range, show p + x - p = x by omega, List.getElem?_range hx]
    rw [go (p + x) x e, Nat.zero_add, Nat.add_comm p x, Nat.mod_eq_of_lt (by omega)]
  · have e : (ordB p q)[x - q]? = some x := by
      unfold ordB
      rw [List.getElem?_append_left (by rw [List.length_map, List.length_range]; omega), List.getElem?_map, List.getElem?_range (by omega)]
      show some (q + (x - q)) = some x
      rw [show q + (x - q) = x by omega]
    rw [go (x - q) x e, Nat.zero_add, Nat.mod_eq_sub_mod (by omega), Nat.mod_eq_of_lt (by omega), show x + p - (p + q) = x - q by omega]
end T86

set_option Elab.async false
set_option linter.all false
set_option maxRecDepth 100000
set_option maxHeartbeats 4000000
/-! StrMin: min, count of texts by the lists of their codes. -/
namespace L2
open PySem PySem.Spec PyProof.Rows
theorem minS_L (x : List Nat) : ∀ xs : List (List Nat), minS (strL x) (xs.map strL) = strL (Lyn.minL x xs) := by
  intro xs
  induction xs generalizing x with
  | nil => rfl
  | cons y ys ih =>
    show minS (if decide ((strL y).cps.toList < (strL x).cps.toList) = true then strL y else strL x) (ys.map strL) = strL (Lyn.minL (if y < x then y else x) ys)
    rw [strL_list, strL_list]
    by_cases h : y < x
    · rw [if_pos (decide_eq_true h), if_pos h, ih]
    · rw [if_neg (by simpa using h), if_neg h, ih]
theorem count_L (w : List Nat) : ∀ xs : List (List Nat), (xs.map strL).count (strL w) = xs.count w
  | [] => rfl
  | x :: xs => by
    rw [List.map_cons, List.count_cons, List.count_cons, count_L w xs]
    congr 1
    by_cases h : x = w
    · simp [h]
    · have : strL x ≠ strL w := fun z => h (strL_inj.mp z)
      simp [h, this]
/-- how often a sign stands in a text -/
theorem count_sgn (l : List Nat) (c : Nat) : Txt.count (strL l) ⟨#[c]⟩ = ((l.count c : Nat) : Int) := by
  rw [count_is, strL_list]
  have e : (l.map fun n => PyData.str ⟨#[n]⟩) = ((l.map fun n => [n]).map strL).map PyData.str := by
    rw [List.map_map, List.map_map]
    rfl
  rw [e, show (⟨#[c]⟩ : Str) = strL [c] from rfl, countIn_strs, count_L]
  congr 1
  induction l with
  | nil => rfl
  | cons x l ih =>
    rw [List.map_cons, List.count_cons, List.count_cons]
    rw [ih (by rw [List.map_map, List.map_map]; rfl)]
    congr 1
    by_cases h : x = c <;> simp [h]
end L2

set_option Elab.async false
set_option linter.all false
set_option maxRecDepth 100000
set_option maxHeartbeats 4000000
namespace T86
open PySem PySem.Spec PyProof.Rows L2 EK Bal
variable {a b g : Nat}
theorem place_mod {u i m : Nat} (hi : i < g) (hm : 0 < m) : (g * u + i) % (g * m) = g * (u % m) + i := by
  have hd := Nat.div_add_mod u m
  have hl := Nat.mod_lt u hm
  have e : g * u + i = (g * m) * (u / m) + (g * (u % m) + i) := by
    conv => lhs; rw [← hd]
    rw [Nat.mul_add, ← Nat.mul_assoc, Nat.add_assoc]
  rw [e, Nat.mul_add_mod]
  refine Nat.mod_eq_of_lt ?_
  have : g * (u % m) + g ≤ g * m := by
    rw [← Nat.mul_succ]
    exact Nat.mul_le_mul_left g hl
  omega
def wayW (a b g i : Nat) : List Nat := (List.range (a + b)).map fun k => g * ((k * a) % (a + b)) + i
theorem place_lt {u i m : Nat} (hi : i < g) (hu : u < m) : g * u + i < g * m := by
  have : g * u + g ≤ g * m := by
    rw [← Nat.mul_succ]
    exact Nat.mul_le_mul_left g hu
  omega
theorem gcd_a (hb : Nat.gcd b (a + b) = 1) : Nat.gcd a (a + b) = 1 := by
  rw [Nat.gcd_self_add_right]
  rw [Nat.gcd_add_self_right] at hb
  rw [Nat.gcd_comm]
  exact hb
theorem way_go (hb : Nat.gcd b (a + b) = 1) (hm : 0 < a + b) {i : Nat} (hi : i < g) : ∀ (d t f : Nat), a + b - t = d → 1 ≤ t → t ≤ a + b → d ≤ f →
    wayG (stepL (rowB (g * a) (g * b))) i f (.int ((g * ((t * a) % (a + b)) + i : Nat) : Int)) ((List.range t).map fun k => g * ((k * a) % (a + b)) + i) = some (wayW a b g i) := by
  intro d
  induction d with
  | zero =>
    intro t f h1 h2 h3 _
    have : t = a + b := by omega
    subst this
    have e : ((a + b) * a) % (a + b) = 0 := Nat.mul_mod_right _ _
    rw [e, Nat.mul_zero, Nat.zero_add]
    cases f with
    | zero =>
      show (if ((i : Nat) : Int) = (i : Int) then _ else _) = _
      rw [if_pos rfl]
      rfl
    | succ f =>
      show (if ((i : Nat) : Int) = (i : Int) then _ else _) = _
      rw [if_pos rfl]
      rfl
  | succ d ih =>
    intro t f h1 h2 h3 hf
    match f, hf with
    | f + 1, hf =>
      have hu := Nat.mod_lt (t * a) hm
      have hne : (t * a) % (a + b) ≠ 0 := fun z => by
        have hd := Nat.dvd_of_mod_eq_zero z
        have hc : Nat.Coprime (a + b) a := by
          rw [Nat.Coprime, Nat.gcd_comm]
          exact gcd_a hb
        have := Nat.le_of_dvd (by omega) (hc.dvd_of_dvd_mul_right hd)
        omega
      have hnext : (g * ((t * a) % (a + b)) + i + g * a) % (g * a + g * b) = g * (((t + 1) * a) % (a + b)) + i := by
        rw [← Nat.mul_add, show g * ((t * a) % (a + b)) + i + g * a = g * ((t * a) % (a + b) + a) + i by rw [Nat.mul_add]; omega, place_mod hi hm, Nat.mod_add_mod, Nat.add_mul, Nat.one_mul]
      have hlt : g * ((t * a) % (a + b)) + i < g * a + g * b := by
        rw [← Nat.mul_add]
        exact place_lt hi hu
      have hstep := step_row hlt
      rw [hnext] at hstep
      have hji : ¬ (((g * ((t * a) % (a + b)) + i : Nat) : Int) = (i : Int)) := fun z => by
        have : g * ((t * a) % (a + b)) = 0 := by omega
        rcases Nat.mul_eq_zero.mp this with z | z
        · omega
        · exact hne z
      have this0 := ih (t + 1) f (by omega) (by omega) (by omega) (by omega)
      rw [List.range_succ, List.map_append] at this0
      have this : wayG (stepL (rowB (g * a) (g * b))) i f (.int ((g * (((t + 1) * a) % (a + b)) + i : Nat) : Int)) ((List.range t).map (fun k => g * ((k * a) % (a + b)) + i) ++ [g * ((t * a) % (a + b)) + i]) = some (wayW a b g i) := this0
      clear this0
      generalize g * ((t * a) % (a + b)) + i = j at *
      show (if ((j : Nat) : Int) = (i : Int) then _ else if 0 ≤ ((j : Nat) : Int) then _ else _) = _
      rw [if_neg hji, if_pos (by omega), Int.toNat_natCast, hstep]
      exact this
theorem way_ok (hb : Nat.gcd b (a + b) = 1) (hm : 0 < a + b) {i : Nat} (hi : i < g) : wayM (stepL (rowB (g * a) (g * b))) i = some (wayW a b g i) := by
  have hlt : i < g * a + g * b := by
    rw [← Nat.mul_add]
    have := place_lt (g := g) (u := 0) hi hm
    omega
  have hs := step_row hlt
  have e : (i + g * a) % (g * a + g * b) = g * ((1 * a) % (a + b)) + i := by
    rw [← Nat.mul_add, Nat.one_mul, show i + g * a = g * a + i by omega, place_mod hi hm]
  rw [e] at hs
  unfold wayM
  rw [hs]
  have hlen : (stepL (rowB (g * a) (g * b))).length = g * a + g * b := by rw [stepL_len, rowB_len]
  have h0 : [i] = (List.range 1).map fun k => g * ((k * a) % (a + b)) + i := by simp
  show wayG _ _ _ _ [i] = _
  rw [h0, hlen]
  refine way_go hb hm hi (a + b - 1) 1 _ rfl (Nat.le_refl _) (by omega) ?_
  have : a + b ≤ g * (a + b) := Nat.le_mul_of_pos_left _ (by omega)
  rw [Nat.mul_add] at this
  omega
/-- what is read along it -/
theorem read_ok (hm : 0 < a + b) {i : Nat} (hi : i < g) : readS (rowB (g * a) (g * b)) (wayW a b g i) = strL (W a b (a + b) 0) := by
  unfold readS strL
  congr 1
  congr 1
  apply List.ext_getElem?
  intro k
  unfold wayW
  by_cases hk : k < a + b
  · have hx : ((List.range (a + b)).map fun k => g * ((k * a) % (a + b)) + i).length = a + b := by simp
    rw [List.getElem?_map, List.getElem?_reverse (by rw [hx]; exact hk), hx, List.getElem?_map, List.getElem?_range (by omega)]
    unfold W
    rw [List.getElem?_map, List.getElem?_range hk]
    show some ((rowB (g * a) (g * b)).getD (g * (((a + b - 1 - k) * a) % (a + b)) + i) 0) = some (F a ((0 + k * b) % (a + b)))
    have hu := Nat.mod_lt ((a + b - 1 - k) * a) hm
    have e : ((a + b - 1 - k) * a) % (a + b) = ((k * b) % (a + b) + b) % (a + b) := by
      rw [Nat.mod_add_mod]
      have e1 : (a + b - 1 - k) * a + (k + 1) * (a + b) = (a + b) * a + (k * b + b) := by
        have e2 : (a + b - 1 - k) * a + (k + 1) * a = (a + b) * a := by rw [← Nat.add_mul]; congr 1; omega
        rw [Nat.mul_add (k + 1), ← Nat.add_assoc, e2, Nat.add_mul k 1 b, Nat.one_mul]
      have e3 : ((a + b - 1 - k) * a + (k + 1) * (a + b)) % (a + b) = ((a + b - 1 - k) * a) % (a + b) := Nat.add_mul_mod_self_right _ _ _
      rw [← e3, e1, Nat.mul_add_mod]
    rw [rowB_at (by rw [← Nat.mul_add]; exact place_lt hi hu)]
    have hR := R_next (a := a) (b := b) (Nat.mod_lt (k * b) hm)
    rw [← e] at hR
    rw [Nat.zero_add, ← hR]
    unfold R'
    generalize ((a + b - 1 - k) * a) % (a + b) = u at *
    by_cases hub : u < b
    · rw [if_pos hub, if_pos (place_lt hi hub)]
    · rw [if_neg hub, if_neg]
      have : g * b ≤ g * u := Nat.mul_le_mul_left g (by omega)
      omega
  · rw [List.getElem?_eq_none (by simp; omega), List.getElem?_eq_none (by rw [W_len]; omega)]
theorem least_ok (hm : 0 < a + b) : leastM (strL (W a b (a + b) 0)) = strL (W a b (a + b) 0) := by
  have e : (List.range (strL (W a b (a + b) 0)).cps.size).map (turnAt (strL (W a b (a + b) 0))) = (Lyn.turns (W a b (a + b) 0)).map strL := by
    unfold Lyn.turns
    rw [strL_size, List.map_map]
    refine List.map_congr_left fun k _ => ?_
    unfold turnAt
    rw [cutL, takeL, strL_add]
    rfl
  unfold leastM
  rw [e]
  cases h : Lyn.turns (W a b (a + b) 0) with
  | nil =>
    have := congrArg List.length h
    unfold Lyn.turns at this
    rw [List.length_map, List.length_range, W_len] at this
    simp at this
    omega
  | cons x xs =>
    show minS (strL x) (xs.map strL) = _
    rw [minS_L, W_least ⟨1, by omega⟩ hm hm h]
theorem cross_at : ∀ (ws : List Nat) (us : List Bool) (x : Nat), (crossM us ws)[x]? = if x ∈ ws then (us[x]?).map (fun _ => false) else us[x]?
  | [], us, x => by
    rw [if_neg List.not_mem_nil]
    rfl
  | y :: ws, us, x => by
    show (crossM (us.set y false) ws)[x]? = _
    rw [cross_at ws (us.set y false) x]
    by_cases h1 : x ∈ ws
    · rw [if_pos h1, if_pos (List.mem_cons_of_mem _ h1)]
      by_cases h2 : y = x
      · subst h2
        rw [List.getElem?_set]
        by_cases h3 : y < us.length
        · rw [if_pos rfl, if_pos h3, List.getElem?_eq_getElem h3]
          rfl
        · rw [if_pos rfl, if_neg h3, List.getElem?_eq_none (by omega)]
      · rw [List.getElem?_set_ne h2]
    · rw [if_neg h1]
      by_cases h2 : y = x
      · subst h2
        rw [if_pos List.mem_cons_self, List.getElem?_set]
        by_cases h3 : y < us.length
        · rw [if_pos rfl, if_pos h3, List.getElem?_eq_getElem h3]
          rfl
        · rw [if_pos rfl, if_neg h3, List.getElem?_eq_none (by omega)]
          rfl
      · rw [List.getElem?_set_ne h2, if_neg]
        intro h
        rcases List.mem_cons.mp h with h | h
        · exact h2 h.symm
        · exact h1 h
/-- what is unread when the rings from the first i places have been read -/
def usI (g n i : Nat) : List Bool := (List.range n).map fun x => decide (i ≤ x % g)
theorem way_mem (hb : Nat.gcd b (a + b) = 1) (hm : 0 < a + b) {i x : Nat} (hi : i < g) (hx : x < g * (a + b)) : x ∈ wayW a b g i ↔ x % g = i := by
  unfold wayW
  rw [List.mem_map]
  constructor
  · rintro ⟨k, _, rfl⟩
    rw [Nat.mul_add_mod, Nat.mod_eq_of_lt hi]
  · intro h
    have hd := Nat.div_add_mod x g
    have hu : x / g < a + b := by
      rw [Nat.div_lt_iff_lt_mul (by omega), Nat.mul_comm]
      exact hx
    obtain ⟨k, hk, ek⟩ := surj (b := a) hm (gcd_a hb) 0 (x / g) hu
    refine ⟨k, List.mem_range.mpr hk, ?_⟩
    rw [Nat.zero_add] at ek
    rw [ek, ← h]
    exact hd
theorem cross_us (hb : Nat.gcd b (a + b) = 1) (hm : 0 < a + b) {i : Nat} (hi : i < g) : crossM (usI g (g * (a + b)) i) (wayW a b g i) = usI g (g * (a + b)) (i + 1) := by
  apply List.ext_getElem?
  intro x
  rw [cross_at]
  unfold usI
  by_cases hx : x < g * (a + b)
  · rw [List.getElem?_map, List.getElem?_map, List.getElem?_range hx]
    by_cases h : x ∈ wayW a b g i
    · rw [if_pos h]
      have := (way_mem hb hm hi hx).mp h
      show some false = some (decide (i + 1 ≤ x % g))
      rw [decide_eq_false (by omega)]
    · rw [if_neg h]
      have : ¬ x % g = i := fun z => h ((way_mem hb hm hi hx).mpr z)
      show some (decide (i ≤ x % g)) = some (decide (i + 1 ≤ x % g))
      congr 1
      exact decide_eq_decide.mpr (by omega)
  · have n0 : ∀ (f : Nat → Bool), ((List.range (g * (a + b))).map f)[x]? = none := fun f => List.getElem?_eq_none (by simp; omega)
    rw [n0, n0]
    simp
theorem rings_go (hb : Nat.gcd b (a + b) = 1) (hm : 0 < a + b) (hg : 0 < g) : ∀ (d i : Nat) (rs : List Str), g * (a + b) - i = d → i ≤ g * (a + b) →
    ringsG (strL (rowB (g * a) (g * b))) (stepL (rowB (g * a) (g * b))) ((List.range (g * (a + b))).drop i) rs (usI g (g * (a + b)) (min i g)) = some (rs ++ List.replicate (g - i) (strL (W a b (a + b) 0))) := by
  have hgn : g ≤ g * (a + b) := Nat.le_mul_of_pos_right _ hm
  intro d
  induction d with
  | zero =>
    intro i rs h1 h2
    rw [List.drop_of_length_le (by simp; omega), show g - i = 0 by omega]
    show some rs = some (rs ++ [])
    rw [List.append_nil]
  | succ d ih =>
    intro i rs h1 h2
    have hi : i < g * (a + b) := by omega
    have ed : (List.range (g * (a + b))).drop i = i :: (List.range (g * (a + b))).drop (i + 1) := by
      rw [List.drop_eq_getElem_cons (by simp; exact hi)]
      simp
    rw [ed]
    have hus : ∀ j, (usI g (g * (a + b)) j)[i]? = some (decide (j ≤ i % g)) := fun j => by
      unfold usI
      rw [List.getElem?_map, List.getElem?_range hi]
      rfl
    by_cases hig : i < g
    · have hu := hus (min i g)
      rw [Nat.min_eq_left (by omega), Nat.mod_eq_of_lt hig, decide_eq_true (Nat.le_refl i)] at hu
      have hrest := ih (i + 1) (rs ++ [strL (W a b (a + b) 0)]) (by omega) (by omega)
      rw [Nat.min_eq_left (by omega), ← cross_us hb hm hig, List.append_assoc] at hrest
      have hall : ((wayW a b g i).all fun p => decide (p < (strL (rowB (g * a) (g * b))).cps.size)) = true := by
        rw [List.all_eq_true]
        intro x hx
        obtain ⟨k, _, rfl⟩ := List.mem_map.mp hx
        rw [strL_size, rowB_len, ← Nat.mul_add]
        exact decide_eq_true (place_lt hig (Nat.mod_lt _ hm))
      have hne : wayW a b g i ≠ [] := fun z => by
        have := congrArg List.length z
        unfold wayW at this
        simp at this
        omega
      rw [Nat.min_eq_left (by omega)]
      unfold ringsG
      rw [hu]
      show (match wayM _ i with | some ws => _ | none => none) = _
      rw [way_ok hb hm hig]
      show (if ((wayW a b g i).all fun p => decide (p < (strL (rowB (g * a) (g * b))).cps.size)) = true then _ else none) = _
      rw [if_pos hall, if_neg hne, strL_list, read_ok hm hig, least_ok hm, hrest]
      congr 2
      rw [show g - i = (g - (i + 1)) + 1 by omega, List.replicate_succ]
      rfl
    · have hu := hus (min i g)
      rw [Nat.min_eq_right (by omega), decide_eq_false (by have := Nat.mod_lt i hg; omega)] at hu
      have hrest := ih (i + 1) rs (by omega) (by omega)
      rw [Nat.min_eq_right (by omega), show g - (i + 1) = 0 by omega] at hrest
      rw [Nat.min_eq_right (by omega), show g - i = 0 by omega]
      unfold ringsG
      rw [hu]
      exact hrest
theorem readM_row (hb : Nat.gcd b (a + b) = 1) (hm : 0 < a + b) (hg : 0 < g) : readM (strL (rowB (g * a) (g * b))) = some ([], List.replicate g (strL (W a b (a + b) 0))) := by
  have hc : Txt.count (strL (rowB (g * a) (g * b))) "$" = 0 := by
    rw [show ("$" : Str) = ⟨#[36]⟩ from rfl, count_sgn]
    have : (rowB (g * a) (g * b)).count 36 = 0 := by
      unfold rowB
      rw [List.count_append, List.count_replicate, List.count_replicate]
      rfl
    rw [this]
    rfl
  have he : endsN (strL (rowB (g * a) (g * b))) = 0 := by
    unfold endsN
    rw [hc]
    rfl
  have hsz : (strL (rowB (g * a) (g * b))).cps.size = g * (a + b) := by rw [strL_size, rowB_len, Nat.mul_add]
  unfold readM
  rw [hc, he, hsz, if_pos ⟨by decide, Nat.zero_le _⟩]
  show (match ringsG _ _ (restL 0 (g * (a + b))) [] (List.replicate (g * (a + b)) true) with | some rs => some (([] : List Str), isort (dle PyData.str) rs) | none => none) = _
  have e1 : restL 0 (g * (a + b)) = (List.range (g * (a + b))).drop 0 := by
    unfold restL
    rw [List.drop_zero, Nat.sub_zero]
    exact (List.map_congr_left fun x _ => Nat.zero_add x).trans (List.map_id' _)
  have e2 : List.replicate (g * (a + b)) true = usI g (g * (a + b)) (min 0 g) := by
    unfold usI
    symm
    rw [List.eq_replicate_iff]
    refine ⟨by simp, fun x hx => ?_⟩
    obtain ⟨k, _, rfl⟩ := List.mem_map.mp hx
    rw [Nat.zero_min]
    exact decide_eq_true (Nat.zero_le _)
  rw [strL_list, e1, e2, rings_go hb hm hg (g * (a + b)) 0 [] rfl (Nat.zero_le _)]
  show some (([] : List Str), isort (dle PyData.str) (List.replicate g _)) = _
  congr 2
  rw [List.eq_replicate_iff]
  have hp := isort_perm (dle PyData.str) (List.replicate g (strL (W a b (a + b) 0)))
  refine ⟨by rw [hp.length_eq, List.length_replicate], fun x hx => ?_⟩
  exact (List.mem_replicate.mp (hp.mem_iff.mp hx)).2
end T86

set_option Elab.async false
set_option linter.all false
set_option maxRecDepth 100000
set_option maxHeartbeats 4000000
/-! IntsKit: tuples and lists of ints as data. -/
namespace L2
open PySem
def tI (ns : List Int) : PyData := .tuple (ns.map PyData.int)
def lI (ns : List Int) : PyData := .list (ns.map PyData.int)
theorem dp_ints {K : PySem.W.Frag} {H : Hp} : ∀ ns : List Int, DpAll K H (ns.map V.int) (ns.map PyData.int)
  | [] => .nil
  | n :: r => .cons (.int n) (dp_ints r)
theorem dp_tI {K : PySem.W.Frag} {H : Hp} {a : Addr} {ns : List Int} (h : SqT K H a (ns.map V.int)) : Dp K H (.ref a) (tI ns) := .tup h (dp_ints ns)
theorem dp_lI {K : PySem.W.Frag} {H : Hp} {a : Addr} {ns : List Int} (h : SqL K H a (ns.map V.int)) : Dp K H (.ref a) (lI ns) := .lst h (dp_ints ns)
theorem shaped_lI (ns : List Int) : SeqAt.shaped (lI ns) = true := PySem.W.ke_shaped_ints ns
theorem shaped_tI (ns : List Int) : SeqAt.shaped (tI ns) = true := by
  simp [tI, SeqAt.shaped, PyData.canLay0, PyData.depth, PySem.W.ke_canLayAll0, PySem.W.ke_depthAll]
theorem eqvAll_ints : ∀ ns ms : List Int, PyData.eqvAll (ns.map PyData.int) (ms.map PyData.int) = decide (ns = ms)
  | [], [] => by simp [PyData.eqvAll]
  | [], _ :: _ => by simp [PyData.eqvAll]
  | _ :: _, [] => by simp [PyData.eqvAll]
  | n :: r, k :: q => by
    simp only [List.map_cons, PyData.eqvAll, PyData.eqv, eqvAll_ints r q]
    by_cases h : n = k <;> simp [h]
theorem eqv_tI (ns ms : List Int) : PyData.eqv (tI ns) (tI ms) = decide (ns = ms) := by
  unfold tI
  simp only [PyData.eqv]
  exact eqvAll_ints ns ms
theorem eqv_lI (ns ms : List Int) : PyData.eqv (lI ns) (lI ms) = decide (ns = ms) := by
  unfold lI
  simp only [PyData.eqv]
  exact eqvAll_ints ns ms
theorem depth_tI (ns : List Int) : (tI ns).depth = 1 := by simp [tI, PyData.depth, PySem.W.ke_depthAll]
theorem flat_ints (ns : List Int) : (ns.map V.int).all flatV = true := by
  rw [List.all_map, List.all_eq_true]
  intro n _
  rfl
theorem inV_ints (k : Int) (ns : List Int) : inV (.int k) (ns.map V.int) = ns.any (· == k) := by
  unfold inV
  rw [List.any_map]
  rfl
/-- a tuple of ints -/
def RTup (H : Hp) (x : V) (ns : List Int) : Prop := ∃ p, x = .ref p ∧ H p = some (.tup (ns.map V.int))
theorem rtup_keep (H H' : Hp) (x : V) (ns : List Int) (k : KeepL H H') (r : RTup H x ns) : RTup H' x ns := by
  obtain ⟨p, rfl, e⟩ := r
  exact ⟨p, rfl, k _ _ e fun _ z => by cases z⟩
theorem rtup_same (H H' : Hp) (x : V) (ns : List Int) (s : ∀ b o, H b = some o → H' b = some o) (r : RTup H x ns) : RTup H' x ns := rtup_keep H H' x ns (.of s) r
def RInt (_ : Hp) (x : V) (n : Int) : Prop := x = .int n
theorem rint_keep (H H' : Hp) (x : V) (n : Int) (_ : KeepL H H') (r : RInt H x n) : RInt H' x n := r
theorem rint_map {H : Hp} {ys : List V} {ns : List Int} (h : All2 (RInt H) ys ns) : ys = ns.map V.int := All2.eq_map (f := V.int) h
/-- tuples of ints by their order -/
def leT (a b : List Int) : Bool := dle tI a b
def sortT (xs : List (List Int)) : List (List Int) := isort leT xs
theorem toks_tI (ns : List Int) : ∃ r, PySem.W.keyToks (tI ns) = r := ⟨_, rfl⟩
end L2
namespace L2
open PySem
theorem toksAll_inj : ∀ {ns ms : List Int}, PySem.W.keyToksAll (ns.map PyData.int) = PySem.W.keyToksAll (ms.map PyData.int) → ns = ms
  | [], [], _ => rfl
  | [], m :: r, h => by simp [PySem.W.keyToksAll] at h
  | n :: r, [], h => by simp [PySem.W.keyToksAll] at h
  | n :: r, m :: q, h => by
    simp only [List.map_cons, PySem.W.keyToksAll, PySem.W.keyToks, List.cons_append, List.nil_append] at h
    injection h with _ h
    injection h with h1 h2
    injection h1 with h1
    rw [h1, toksAll_inj h2]
theorem toks_inj {ns ms : List Int} (h : PySem.W.keyToks (tI ns) = PySem.W.keyToks (tI ms)) : ns = ms := by
  unfold tI at h
  simp only [PySem.W.keyToks] at h
  exact toksAll_inj h
theorem zip_snd {α β : Type} {R : α → β → Prop} {xs : List α} {zs : List β} (h : All2 R xs zs) : (xs.zip zs).map (·.2) = zs ∧ (∀ q ∈ xs.zip zs, R q.1 q.2) ∧ (xs.zip zs).map (·.1) = xs := by
  induction h with
  | nil => exact ⟨rfl, fun q hq => (by cases hq), rfl⟩
  | cons h t ih =>
    refine ⟨?_, fun q hq => ?_, ?_⟩
    · rw [List.zip_cons_cons, List.map_cons, ih.1]
    · rw [List.zip_cons_cons] at hq
      rcases List.mem_cons.mp hq with rfl | hq
      · exact h
      · exact ih.2.1 q hq
    · rw [List.zip_cons_cons, List.map_cons, ih.2.2]
theorem all2_of_pairs {α β : Type} {R : α → β → Prop} : ∀ {qs : List (α × β)}, (∀ q ∈ qs, R q.1 q.2) → All2 R (qs.map (·.1)) (qs.map (·.2))
  | [], _ => .nil
  | q :: qs, h => .cons (h q List.mem_cons_self) (all2_of_pairs fun p hp => h p (List.mem_cons_of_mem _ hp))
def prD (q : V × List Int) : V × PyData := (q.1, tI q.2)
theorem sorted_tups {R : V → List Int → Prop} {xs : List V} {zs : List (List Int)} (h : All2 R xs zs) : All2 R ((((xs.zip zs).map prD).mergeSort (PySem.W.dataLe false (·.2))).map (·.1)) (sortT zs) := by
  obtain ⟨e2, hR, _⟩ := zip_snd h
  have h1 := List.map_mergeSort (f := prD) (r := dle fun q : V × List Int => tI q.2) (s := PySem.W.dataLe false (·.2)) (l := xs.zip zs) fun a _ b _ => rfl
  rw [← h1, List.map_map]
  have hp := List.mergeSort_perm (xs.zip zs) (dle fun q : V × List Int => tI q.2)
  have hs : ((xs.zip zs).mergeSort (dle fun q : V × List Int => tI q.2)).Pairwise (fun x y => dle (fun q : V × List Int => tI q.2) x y = true) := List.pairwise_mergeSort (fun a b c => dle_trans _ a b c) (fun a b => dle_total _ a b) _
  have e3 : ((xs.zip zs).mergeSort (dle fun q : V × List Int => tI q.2)).map (·.2) = sortT zs := by
    refine sorted_uniq leT (fun x _ y _ a b => toks_inj (dle_anti a b)) ?_ ?_ (isort_sorted leT (dle_trans tI) (dle_total tI) zs)
    · have q := (hp.map (·.2)).trans (by rw [e2])
      exact q.trans (isort_perm leT zs).symm
    · rw [List.pairwise_map]
      exact hs
  rw [← e3]
  exact all2_of_pairs fun q hq => hR q (hp.mem_iff.mp hq)
theorem alike_ints : ∀ ns ms : List Int, PySem.W.alikeAll (ns.map PyData.int) (ms.map PyData.int) = true
  | [], [] => rfl
  | [], _ :: _ => rfl
  | _ :: _, [] => rfl
  | n :: r, m :: q => by simp [PySem.W.alikeAll, PySem.W.alike, alike_ints r q]
/-- sorted(xs) of tuples of ints, none empty -/
theorem sortedT_ok {K : PySem.W.Frag} {H : Hp} {a : Addr} {xs : List V} {zs : List (List Int)} {Q : VK} (hS : H a = some (.lst xs)) (h : All2 (RTup H) xs zs) (hne : ∀ z ∈ zs, z ≠ [])
    (k : ∀ p ys, H p = none → All2 (RTup H) ys (sortT zs) → Q (.ref p) (upd H p (.lst ys))) : rSortedD K [V.ref a] H Q := by
  obtain ⟨e2, hR, e1⟩ := zip_snd h
  have em : ((xs.zip zs).map prD).map (·.1) = xs := by
    rw [List.map_map]
    exact e1
  have ed : ((xs.zip zs).map prD).map (·.2) = zs.map tI := by
    rw [List.map_map]
    conv => rhs; rw [← e2, List.map_map]
    rfl
  refine ⟨a, (xs.zip zs).map prD, rfl, by rw [em]; exact .of hS, fun b hb => ?_, ?_, ?_, fun b hb => ?_, fun p hp => k p _ hp (sorted_tups h)⟩
  · obtain ⟨q, hq, rfl⟩ := List.mem_map.mp hb
    obtain ⟨p, e, hp⟩ := hR q hq
    show Dp K H q.1 (tI q.2)
    rw [e]
    exact dp_tI (.of hp)
  · rw [ed]
    intro d hd d' hd'
    obtain ⟨n, _, rfl⟩ := List.mem_map.mp hd
    obtain ⟨m, _, rfl⟩ := List.mem_map.mp hd'
    simp only [tI, PySem.W.alike]
    exact alike_ints n m
  · rw [ed]
    refine .inl fun d hd => ?_
    obtain ⟨n, hn, rfl⟩ := List.mem_map.mp hd
    cases n with
    | nil => exact absurd rfl (hne _ hn)
    | cons n r => exact ⟨.int n, r.map PyData.int, rfl⟩
  · obtain ⟨q, hq, rfl⟩ := List.mem_map.mp hb
    show (tI q.2).depth ≤ 50
    rw [depth_tI]
    decide
end L2
namespace L2
open PySem
theorem catA_ok {K : PySem.W.Frag} {H : Hp} {a b : Addr} {xs ys : List V} {Q : VK} (ha : H a = some (.tup xs)) (hb : H b = some (.tup ys)) (hl : xs.length + ys.length ≤ sizeLine) (k : ∀ p H', Same H H' → H' p = some (.tup (xs ++ ys)) → Q (.ref p) H') : rCatA K (.ref a) (.ref b) H Q :=
  ⟨a, b, xs, ys, rfl, rfl, .of ha, .of hb, hl, fun e => k _ _ (.refl _) (by rw [e]; exact hb), fun _ e => k _ _ (.refl _) (by rw [e, List.append_nil]; exact ha), fun _ _ p hp => k _ _ (fun c u e => by rw [upd_ne (ne_of_none e hp)]; exact e) upd_same⟩
theorem cutV_whole (xs : List V) (lo hi : Option Int) (h : HT.sIx xs.length 0 lo = 0 ∧ HT.sIx xs.length xs.length hi = xs.length) : cutV xs lo hi = xs := by
  unfold cutV
  rw [h.1, h.2]
  simp
theorem slA_ok {K : PySem.W.Frag} {H : Hp} {a : Addr} {xs : List V} {lo hi : Option Int} {Q : VK} (ha : H a = some (.tup xs)) (k : ∀ p H', Same H H' → H' p = some (.tup (cutV xs lo hi)) → Q (.ref p) H') : rSlA K (.ref a) lo hi H Q :=
  ⟨a, xs, rfl, .of ha, fun e => k _ _ (.refl _) (by rw [cutV_whole xs lo hi e]; exact ha), fun _ p hp => k _ _ (fun c u e => by rw [upd_ne (ne_of_none e hp)]; exact e) upd_same⟩
end L2
namespace L2
open PySem PySem.Spec PyProof.Rows
section
variable {X : Cx}
/-- xs + ys of lists that may be read only -/
def rCatS (K : PySem.W.Frag) : R2 := fun x y H Q => ∃ l b xs zs, x = .ref l ∧ y = .ref b ∧ SqL K H l xs ∧ SqL K H b zs ∧ xs.length + zs.length ≤ sizeLine ∧ ∀ p, H p = none → Q (.ref p) (upd H p (.lst (xs ++ zs)))
theorem op_catS : OpR X (binaryOp .Add) (rCatS X.K) := by
  intro pins s σ H x y v u Q I rx ry h
  obtain ⟨l, b, xs, zs, rfl, rfl, ha, hb, hz, q⟩ := h
  cases rx
  cases ry
  obtain ⟨its, r1, p1, _⟩ := I.list ha
  obtain ⟨its2, r2, p2, _⟩ := I.list hb
  obtain ⟨⟨cls, dd, data, sl⟩, n, ho, hc, hdn, hd⟩ := p1
  obtain ⟨⟨cls2, dd2, data2, sl2⟩, n2, ho2, hc2, hdn2, hd2⟩ := p2
  simp only at hc hdn hd hc2 hdn2 hd2
  subst hc hdn hd hc2 hdn2 hd2
  have l1 := r1.length
  have l2 := r2.length
  refine concat_meets ⟨_, ho, rfl⟩ ⟨_, ho2, rfl⟩ noFill_list_add seq_list_add PySem.F.slot_list_add PySem.F.entry_list_add (PySem.F.args_list_add_2 _ _)
    (list_addW l b its.toArray its2.toArray n n2 none none sl sl2 (by rw [List.size_toArray, List.size_toArray]; omega)) ⟨ho, ho2, ?_⟩
  have ea : its.toArray ++ its2.toArray = (its ++ its2).toArray := by simp
  rw [ea]
  exact ⟨.ref _, _, I.lnew (t' := s.toks) (r1.append r2) (by rw [List.length_append]; omega), rfl, q _ I.fresh⟩
end
end L2

set_option Elab.async false
set_option linter.all false
set_option maxRecDepth 100000
set_option maxHeartbeats 4000000
/-! SortGen: sorted(list) of things that are told by data: the plain isort of what tells them. -/
namespace L2
open PySem PySem.Spec PyProof.Rows EK
section
variable {β : Type} (key : β → PyData) (inj : ∀ a b, PySem.W.keyToks (key a) = PySem.W.keyToks (key b) → a = b)
def prG (q : V × β) : V × PyData := (q.1, key q.2)
include inj
theorem sorted_gen {R : V → β → Prop} {xs : List V} {zs : List β} (h : All2 R xs zs) : All2 R ((((xs.zip zs).map (prG key)).mergeSort (PySem.W.dataLe false (·.2))).map (·.1)) (isort (dle key) zs) := by
  obtain ⟨e2, hR, _⟩ := zip_snd h
  have h1 := List.map_mergeSort (f := prG key) (r := dle fun q : V × β => key q.2) (s := PySem.W.dataLe false (·.2)) (l := xs.zip zs) fun a _ b _ => rfl
  rw [← h1, List.map_map]
  have hp := List.mergeSort_perm (xs.zip zs) (dle fun q : V × β => key q.2)
  have hs : ((xs.zip zs).mergeSort (dle fun q : V × β => key q.2)).Pairwise (fun x y => dle (fun q : V × β => key q.2) x y = true) := List.pairwise_mergeSort (fun a b c => dle_trans _ a b c) (fun a b => dle_total _ a b) _
  have e3 : ((xs.zip zs).mergeSort (dle fun q : V × β => key q.2)).map (·.2) = isort (dle key) zs := by
    refine sorted_uniq (dle key) (fun x _ y _ a b => inj _ _ (dle_anti a b)) ?_ ?_ (isort_sorted (dle key) (dle_trans key) (dle_total key) zs)
    · have q := (hp.map (·.2)).trans (by rw [e2])
      exact q.trans (isort_perm (dle key) zs).symm
    · rw [List.pairwise_map]
      exact hs
  rw [← e3]
  exact all2_of_pairs fun q hq => hR q (hp.mem_iff.mp hq)
theorem sortedG_ok {K : PySem.W.Frag} {H : Hp} {a : Addr} {R : V → β → Prop} {xs : List V} {zs : List β} {Q : VK} (hS : H a = some (.lst xs)) (h : All2 R xs zs) (hd : ∀ x z, R x z → Dp K H x (key z))
    (al : ∀ x y, PySem.W.alike (key x) (key y) = true) (so : PySem.W.Sortable (zs.map key)) (dep : ∀ z, (key z).depth ≤ 50)
    (k : ∀ p ys, H p = none → All2 R ys (isort (dle key) zs) → Q (.ref p) (upd H p (.lst ys))) : rSortedD K [V.ref a] H Q := by
  obtain ⟨e2, hR, e1⟩ := zip_snd h
  have em : ((xs.zip zs).map (prG key)).map (·.1) = xs := by
    rw [List.map_map]
    exact e1
  have ed : ((xs.zip zs).map (prG key)).map (·.2) = zs.map key := by
    rw [List.map_map]
    conv => rhs; rw [← e2, List.map_map]
    rfl
  refine ⟨a, (xs.zip zs).map (prG key), rfl, by rw [em]; exact .of hS, fun b hb => ?_, ?_, ?_, fun b hb => ?_, fun p hp => k p _ hp (sorted_gen key inj h)⟩
  · obtain ⟨q, hq, rfl⟩ := List.mem_map.mp hb
    exact hd _ _ (hR q hq)
  · rw [ed]
    intro d hd d' hd'
    obtain ⟨n, _, rfl⟩ := List.mem_map.mp hd
    obtain ⟨m, _, rfl⟩ := List.mem_map.mp hd'
    exact al n m
  · rw [ed]
    exact so
  · obtain ⟨q, hq, rfl⟩ := List.mem_map.mp hb
    exact dep _
end
end L2

set_option Elab.async false
set_option linter.all false
set_option maxRecDepth 100000
set_option maxHeartbeats 4000000
/-! NumKit: math.factorial; x *= y, x //= y of great numbers. -/
namespace L2
open PySem PySem.Spec PyProof.Rows
theorem iteY {b : Bool} {P R : Prop} (h : b = true) (p : P) : if b = true then P else R := by rw [if_pos h]; exact p
theorem iteN {b : Bool} {P R : Prop} (h : b = false) (r : R) : if b = true then P else R := by rw [if_neg (by rw [h]; decide)]; exact r
section
variable {X : Cx}
def facI (n : Int) : Int := ((Builtin.Math.factorialNat n.toNat : Nat) : Int)
def rFact : List V → Hp → VK → Prop := fun vs H Q => ∃ a : Int, vs = [.int a] ∧ 0 ≤ a ∧ a ≤ 20000 ∧ Q (.int (facI a)) H
theorem call_fact : CallR X (.builtin "math.factorial") rFact := by
  intro pins s σ H vs us Q I r h
  obtain ⟨a, rfl, h0, h1, q⟩ := h
  obtain ⟨u, rfl, ru⟩ := vals1 r
  obtain ⟨t, rfl⟩ := ru
  exact PySem.W.mc_factorial h0 h1 fun _ => ⟨.int _, H, I.tok _, ⟨_, rfl⟩, q⟩
def ipMulW : TIp := fun x y H Q => ∃ i j, x = .int i ∧ y = .int j ∧ CMulW i j ∧ Q (.int (i * j)) H
theorem ip_mulW : PIp X .Mult ipMulW := by
  intro pins s σ H x y v u Q I r1 r2 h
  obtain ⟨i, j, rfl, rfl, hc, q⟩ := h
  obtain ⟨t, rfl⟩ := r1
  obtain ⟨t', rfl⟩ := r2
  exact AutoIntOps.imul_0 (show EP X pins σ Q (.int (i * j) s.toks) { s with toks := s.toks + 1 } from ⟨.int _, H, I.tok _, ⟨_, rfl⟩, q⟩) hc.ok
def ipFdivW : TIp := fun x y H Q => ∃ i j, x = .int i ∧ y = .int j ∧ CDivW i j ∧ Q (.int (i / j)) H
theorem ip_fdivW : PIp X .FloorDiv ipFdivW := by
  intro pins s σ H x y v u Q I r1 r2 h
  obtain ⟨i, j, rfl, rfl, hc, q⟩ := h
  obtain ⟨t, rfl⟩ := r1
  obtain ⟨t', rfl⟩ := r2
  have h1 : (0 : Int) < j := hc.1
  refine AutoIntOps.ifloordiv_1 (by simp; omega) (by rw [PyProof.noPylong_of_log2 hc.2]; simp) (show EP X pins σ Q (.int (i.fdiv j) s.toks) { s with toks := s.toks + 1 } from ⟨.int (i / j), H, I.tok _, ?_, q⟩)
  rw [Int.fdiv_eq_ediv_of_nonneg i (by omega)]
  exact ⟨_, rfl⟩
end
end L2

set_option Elab.async false
set_option linter.all false
set_option maxRecDepth 100000
set_option maxHeartbeats 4000000
namespace T86
open PySem PySem.Spec PyProof.Rows L2 EK
theorem yes_i {σ : L2.St} {H : Hp} {Q : Bool → Hp → Prop} (h : Q true H) : tYes σ H Q := h
theorem ix_tupK {X : Cx} {K : PySem.W.Frag} (h : X.K = K := by rfl) : IxR X (rIxT K) := by subst h; exact ix_tup
/-- a turn of a word and the sign ahead of it, as data -/
def tX (z : List Nat × Nat) : PyData := .tuple [.str (strL z.1), .str (strL [z.2])]
def aheadX (w : List Nat) (i : Nat) : Nat := if i = 0 then w.getD (w.length - 1) 0 else w.getD (i - 1) 0
def turnX (w : List Nat) (i : Nat) : List Nat × Nat := (w.drop i ++ w.take i, aheadX w i)
def rotX (w : List Nat) : List (List Nat × Nat) := (List.range w.length).map (turnX w)
def rowX (w : List Nat) : List Nat := (isort (dle tX) (rotX w)).map (·.2)
abbrev sRow : Stmt := top 24
abbrev NW : List Str := ["_law_word", "_law_turns_so", "_law_at", "_law_turn"]
theorem tX_inj (a b : List Nat × Nat) (h : PySem.W.keyToks (tX a) = PySem.W.keyToks (tX b)) : a = b := by
  have e1 : ∀ z : List Nat × Nat, PySem.W.keyToks (tX z) = [.inl 1, .inr z.1, .inl 1, .inr [z.2], .inl 0] := fun z => by
    simp [tX, strL, PySem.W.keyToks, PySem.W.keyToksAll]
  rw [e1, e1] at h
  injection h with _ h
  injection h with h1 h
  injection h with _ h
  injection h with h2 _
  injection h1 with h1
  injection h2 with h2
  injection h2 with h2 _
  exact Prod.ext h1 h2
def TurnAt (H : Hp) (x : V) (z : List Nat × Nat) : Prop := ∃ a, x = .ref a ∧ H a = some (.tup [.str (strL z.1), .str (strL [z.2])])
theorem TurnAt.same {H H' : Hp} {x : V} {z : List Nat × Nat} (h : TurnAt H x z) (s : ∀ b o, H b = some o → H' b = some o) : TurnAt H' x z := by
  obtain ⟨a, e, h⟩ := h
  exact ⟨a, e, s _ _ h⟩
theorem TurnAt.keepL {H H' : Hp} {x : V} {z : List Nat × Nat} (h : TurnAt H x z) (s : KeepL H H') : TurnAt H' x z := by
  obtain ⟨a, e, h⟩ := h
  exact ⟨a, e, s _ _ h fun _ z => by cases z⟩
def spRow : Sp := fun vs H Q _ => ∃ w : List Nat, vs = [.str (strL w)] ∧ w.length ≤ 300 ∧ ∀ H', Same H H' → Q (.str (strL (rowX w))) H'
theorem ahead_at {w : List Nat} {i : Nat} (h : i < w.length) : atI w ((i : Int) - 1) = some (aheadX w i) := by
  unfold atI ixN aheadX
  by_cases e : i = 0
  · subst e
    rw [if_neg (by omega), if_pos (by omega), if_pos rfl]
    show w[(((0 : Nat) : Int) - 1 + (w.length : Nat)).toNat]? = _
    rw [show (((0 : Nat) : Int) - 1 + (w.length : Nat)).toNat = w.length - 1 by omega, List.getD_eq_getElem?_getD, List.getElem?_eq_getElem (by omega)]
    rfl
  · rw [if_pos (by omega), if_pos (by omega), if_neg e]
    show w[((i : Int) - 1).toNat]? = _
    rw [show ((i : Int) - 1).toNat = i - 1 by omega, List.getD_eq_getElem?_getD, List.getElem?_eq_getElem (by omega)]
    rfl
theorem row_len (w : List Nat) : (rowX w).length = w.length := by
  unfold rowX rotX
  rw [List.length_map, (isort_perm (dle tX) _).length_eq, List.length_map, List.length_range]
section
variable {P : Program} {w : World} {K : PySem.W.Frag} {mg : Str → Option Value} {base : Heap}
theorem scRow : FnScope ["_law_word", "_law_turns_so", "_law_at", "_law_turn"] ["_law_word"] (defScope sRow) := ⟨rfl, rfl, rfl, by decide +kernel, rfl, by decide +kernel, by decide +kernel⟩
theorem ok_Row {f : Addr} {fd : FuncData} (F : Fun K "_law_row" "_law_row" sRow f fd) (T : TxtC K mg) : FnOk P w K mg base CX0 1 f fd ["_law_word"] spRow := by
  refine F.ok scRow (fun vs H Q E h => ?_) (fun cdv A outer s H vs Q E hr h => ?_)
  · obtain ⟨p, rfl, _⟩ := h
    rfl
  · obtain ⟨w, rfl, hw, kk⟩ := h
    have nd := scRow.nd
    have hu : (A.deeper (PyProof.Rows.envOfC "_law_row" (defScope sRow) s.heap.objs.size f cdv)).units + 64 < cLine := hr.units
    have hz : sizeLine = 2 ^ 24 := sizeLine_eq
    refine ⟨_, (pss_cons (ps_set (i := 1) nd rfl (Or.inl rfl) (pe_callB (cr_sortedD hu) (by rfl) T.sorted (by decide +kernel) (pa_cons (pe_lc (own := [("_law_at", 2)]) (g := gName 2) (tt := tYes) rfl nd (pi_range1 (by rfl) T.range (pa_cons (pe_callB call_len_str (by rfl) T.len (by decide +kernel) (pa_cons (pv 0) pa_nil)) pa_nil)) (blkOk_by (N := NW) (sc := defScope sRow) (by decide +kernel)) (fun _ _ _ _ _ => (pg_name (i := 2) nd rfl (Or.inl rfl))) (fun _ _ _ _ _ => pts_nil) (fun _ _ _ _ _ => (pe_tup (pa_cons (pe_op op_add_str (pe_slice sl_str (pv 0) (po_some (pv 2)) po_none) (pe_slice sl_str (pv 0) po_none (po_some (pv 2)))) (pa_cons (pe_ix ix_str (pv 0) (pe_op op_sub (pv 2) pe_int) (fun _ _ => rfl)) pa_nil))))) pa_nil)))
      (pss_one (ps_ret (pe_join pe_str (pe_lc (own := [("_law_turn", 3)]) (g := gName 3) (tt := tYes) rfl nd (pi_list (pv 1)) (blkOk_by (N := NW) (sc := defScope sRow) (by decide +kernel)) (fun _ _ _ _ _ => (pg_name (i := 3) nd rfl (Or.inl rfl))) (fun _ _ _ _ _ => pts_nil) (fun _ _ _ _ _ => (pe_ix (ix_tupK (K := K)) (pv 3) pe_int (fun _ _ => rfl)))))))), ?_⟩
    have wl : (strL w).length ≤ sizeLine := by rw [strL_len, hz]; omega
    refine ⟨_, rfl, strL w, rfl, wl, ((w.length : Nat) : Int), (by show [V.int (((strL w).length : Nat) : Int)] = _; rw [strL_len]), by omega, by omega, fun D nD => ?_⟩
    have hn : ((w.length : Nat) : Int).toNat = w.length := by omega
    refine lcM_range (lo := 0) (n := ((w.length : Nat) : Int).toNat) (R' := TurnAt) (fun _ => true) (turnX w) nD (fun _ _ _ _ s r => r.keepL s) (by omega) ?_ ?_
    · intro i G C C0 hi s yes no
      have hi2 : i < w.length := by omega
      rw [Int.zero_add]
      refine ⟨rfl, ?_⟩
      refine yes_i ?_
      refine iteY rfl ?_
      refine ⟨_, rfl, _, rfl, _, rfl, ?_⟩
      dsimp only [tNoPart]
      show rSlS _ _ none _ _
      refine ⟨_, rfl, wl, ?_⟩
      rw [cutL]
      refine ⟨_, rfl, _, rfl, _, rfl, _, rfl, wl, ?_⟩
      rw [takeL]
      refine ⟨_, _, rfl, rfl, (by rw [strL_len, strL_len, List.length_drop, List.length_take, hz]; omega), ?_⟩
      rw [strL_add]
      refine ⟨_, rfl, _, rfl, _, _, rfl, rfl, strL w, _, aheadX w i, rfl, rfl, wl, (by rw [strL_list]; exact ahead_at hi2), (by show 2 ≤ sizeLine; decide), fun t0 zt => ?_⟩
      obtain ⟨G1, g1, V1, B1⟩ := alloc (o := .tup [.str (strL (w.drop i ++ w.take i)), .str (strL [aheadX w i])]) zt
      have g1' : upd G t0 (.tup [.str (strL (w.drop i ++ w.take i)), .str ⟨#[aheadX w i]⟩]) = G1 := g1
      rw [g1']
      exact yes rfl _ _ V1 ⟨t0, rfl, B1⟩
    · intro ys H2 s2 hD hall
      rw [List.filter_eq_self.mpr (fun _ _ => rfl), hn] at hall
      dsimp only [tNil]
      show rSortedD K [V.ref D] H2 _
      refine sortedG_ok (K := K) tX tX_inj (R := TurnAt H2) hD hall (fun x z ⟨a, e, h⟩ => by rw [e]; exact .tup (.of h) (.cons (.str _) (.cons (.str _) .nil))) (fun x y => by simp [tX, PySem.W.alike, PySem.W.alikeAll]) (.inl fun d hd => ?_) (fun z => by simp [tX, PyData.depth, PyData.depthAll]) fun p zs hp hall2 => ?_
      · obtain ⟨z, _, rfl⟩ := List.mem_map.mp hd
        exact ⟨_, _, rfl⟩
      obtain ⟨H3, e3, S3, A3⟩ := alloc (o := .lst zs) hp
      rw [e3]
      have lz := hall2.length
      have lr : (isort (dle tX) (rotX w)).length = w.length := by
        rw [(isort_perm (dle tX) _).length_eq]
        unfold rotX
        rw [List.length_map, List.length_range]
      refine ⟨⟨_, rfl⟩, _, rfl, p, rfl, ⟨_, .of A3⟩, fun D2 nD2 => ?_⟩
      refine lcM_list (K := K) (a := p) (xs := zs) (zs := isort (dle tX) (rotX w)) (R := TurnAt) (R' := fun _ x z => x = V.str (strL [z])) (fun _ => true) (fun z => z.2) nD2 (.of A3) (hall2.mono fun _ _ _ r => r.same S3) (fun _ _ _ _ s r => r.same s) (fun _ _ _ _ _ r => r) (by omega) ?_ ?_
      · intro i x z G C C0 hz' s rx yes no
        obtain ⟨a, rfl, ha⟩ := rx
        refine ⟨rfl, ?_⟩
        refine yes_i ?_
        refine iteY rfl ?_
        refine ⟨_, rfl, a, _, 1, _, rfl, rfl, .of ha, rfl, ?_⟩
        exact yes rfl _ _ (fun _ _ q => q) rfl
      · intro ys2 H4 s4 hD4 hall4
        have e := hall4.eq_map
        rw [List.filter_eq_self.mpr (fun _ _ => rfl)] at e
        have hrow : (isort (dle tX) (rotX w)).map (fun z => z.2) = rowX w := rfl
        rw [hrow] at e
        have e2 : ys2 = (((rowX w).map fun c => [c]).map strL).map V.str := by rw [e, List.map_map, List.map_map]; rfl
        rw [e2] at hD4
        refine ⟨"", D2, _, rfl, rfl, .inl (.of hD4), ?_, ?_⟩
        · rw [sum_lenV, ones_flat, row_len]
          show w.length + _ * 0 ≤ _
          omega
        · rw [joinV, ones_flat]
          exact kk H4 fun b o e => s4 _ _ (S3 _ _ (s2 _ _ e))
end
end T86

set_option Elab.async false
set_option linter.all false
set_option maxRecDepth 100000
set_option maxHeartbeats 4000000
namespace T86
open PySem PySem.Spec PyProof.Rows L2 EK Bal
variable {a b g : Nat}
theorem toks_tX (z : List Nat × Nat) : PySem.W.keyToks (tX z) = [.inl 1, .inr z.1, .inl 1, .inr [z.2], .inl 0] := by
  simp [tX, PySem.W.keyToks, PySem.W.keyToksAll, strL]
theorem dle_tX (z w : List Nat × Nat) : dle tX z w = true ↔ ¬ w.1 < z.1 ∧ (z.1 < w.1 ∨ ¬ [w.2] < [z.2]) := by
  rw [dle_not, Bool.not_eq_true', toks_tX, toks_tX, lex_two, blt_r, blt_r, blt_r, decide_eq_false_iff_not, decide_eq_true_eq, decide_eq_false_iff_not]
def plT (a b n u : Nat) : List Nat × Nat := (W a b n u, R' b u)
theorem turn_pl (hm : 0 < a + b) (hg : 0 < g) {k : Nat} (hk : k < g * (a + b)) : turnX (W a b (g * (a + b)) 0) k = plT a b (g * (a + b)) ((k * b) % (a + b)) := by
  unfold turnX plT
  have h1 : (W a b (g * (a + b)) 0).drop k ++ (W a b (g * (a + b)) 0).take k = Lyn.rot (W a b (g * (a + b)) 0) k := rfl
  rw [h1, W_rot ⟨g, Nat.mul_comm _ _⟩ (by omega)]
  congr 1
  unfold aheadX
  rw [W_len]
  by_cases h : k = 0
  · subst h
    rw [if_pos rfl, W_at (by omega), Nat.zero_add, ← R_next (Nat.mod_lt _ hm), Nat.mod_add_mod]
    have e : (g * (a + b) - 1) * b + b = (a + b) * (g * b) := by
      have : (g * (a + b) - 1) * b + 1 * b = (g * (a + b)) * b := by rw [← Nat.add_mul]; congr 1; omega
      rw [Nat.one_mul] at this
      rw [this, Nat.mul_comm g, Nat.mul_assoc]
    rw [e, Nat.mul_mod_right, Nat.zero_mul, Nat.zero_mod]
  · rw [if_neg h, W_at (by omega), Nat.zero_add, ← R_next (Nat.mod_lt _ hm), Nat.mod_add_mod]
    have e : (k - 1) * b + b = k * b := by
      have : (k - 1) * b + 1 * b = k * b := by rw [← Nat.add_mul]; congr 1; omega
      rwa [Nat.one_mul] at this
    rw [e]
theorem rotX_pl (hm : 0 < a + b) (hg : 0 < g) : rotX (W a b (g * (a + b)) 0) = ((List.range (g * (a + b))).map fun k => (k * b) % (a + b)).map (plT a b (g * (a + b))) := by
  unfold rotX
  rw [W_len, List.map_map]
  exact List.map_congr_left fun k hk => turn_pl hm hg (List.mem_range.mp hk)
theorem div_lt' (hg : 0 < g) {x m : Nat} (h : x < g * m) : x / g < m := by
  rw [Nat.div_lt_iff_lt_mul hg, Nat.mul_comm]
  exact h
theorem row_told (hb : Nat.gcd b (a + b) = 1) (hm : 0 < a + b) (hg : 0 < g) : rowX (W a b (g * (a + b)) 0) = rowB (g * a) (g * b) := by
  have hs : isort (dle tX) (rotX (W a b (g * (a + b)) 0)) = ((List.range (g * (a + b))).map (· / g)).map (plT a b (g * (a + b))) := by
    refine sorted_uniq (dle tX) (fun x _ y _ h1 h2 => tX_inj _ _ (dle_anti h1 h2)) ((isort_perm _ _).trans ?_) (isort_sorted _ (dle_trans _) (dle_total _) _) ?_
    · rw [rotX_pl hm hg]
      exact (walks hb hm hg).map _
    · rw [List.map_map]
      refine List.Pairwise.map (R := fun x y => x < y ∧ y < g * (a + b)) _ (fun x y h => ?_) ?_
      · have hy := div_lt' hg h.2
        have hle : x / g ≤ y / g := Nat.div_le_div_right (by omega)
        show dle tX (plT a b (g * (a + b)) (x / g)) (plT a b (g * (a + b)) (y / g)) = true
        rw [dle_tX]
        generalize x / g = u at *
        generalize y / g = v at *
        refine ⟨mono _ _ _ hle hy, ?_⟩
        by_cases e : u = v
        · subst e
          exact .inr (List.lt_irrefl _)
        · left
          rcases Lyn.trich (W a b (g * (a + b)) u) (W a b (g * (a + b)) v) with z | z | z
          · exact z
          · exact absurd z (apart hb (by omega) hy (Nat.le_mul_of_pos_left _ hg))
          · exact absurd z (mono _ _ _ hle hy)
      · have h1 := List.pairwise_lt_range (n := g * (a + b))
        exact h1.imp_of_mem fun _ hy h => ⟨h, List.mem_range.mp hy⟩
  unfold rowX
  rw [hs, List.map_map, List.map_map]
  apply List.ext_getElem?
  intro x
  by_cases hx : x < g * (a + b)
  · rw [List.getElem?_map, List.getElem?_range hx]
    have hx2 : x < g * a + g * b := by rw [← Nat.mul_add]; exact hx
    have h2 : (rowB (g * a) (g * b))[x]? = some ((rowB (g * a) (g * b)).getD x 0) := by
      rw [List.getD_eq_getElem?_getD, List.getElem?_eq_getElem (by rw [rowB_len]; exact hx2)]
      rfl
    rw [h2, rowB_at hx2]
    show some (R' b (x / g)) = _
    unfold R'
    congr 1
    by_cases h : x / g < b
    · rw [if_pos h, if_pos]
      rw [Nat.div_lt_iff_lt_mul hg, Nat.mul_comm] at h
      exact h
    · rw [if_neg h, if_neg]
      rw [Nat.div_lt_iff_lt_mul hg, Nat.mul_comm] at h
      exact h
  · rw [List.getElem?_eq_none (by simp; omega), List.getElem?_eq_none (by rw [rowB_len, ← Nat.mul_add]; omega)]
/-- the ring as a word: all its rings one behind another -/
def ringW (p q : Nat) : List Nat := W (p / Nat.gcd p q) (q / Nat.gcd p q) (p + q) 0
structure Parted (p q a b g : Nat) : Prop where
  ga : p = g * a
  gb : q = g * b
  hb : Nat.gcd b (a + b) = 1
  hm : 0 < a + b
  hg : 0 < g
  eg : Nat.gcd p q = g
theorem parted {p q : Nat} (h : 0 < p + q) : Parted p q (p / Nat.gcd p q) (q / Nat.gcd p q) (Nat.gcd p q) := by
  have hg : 0 < Nat.gcd p q := by
    by_cases hp : 0 < p
    · exact Nat.gcd_pos_of_pos_left q hp
    · exact Nat.gcd_pos_of_pos_right p (by omega)
  have e1 : p = Nat.gcd p q * (p / Nat.gcd p q) := (Nat.mul_div_cancel' (Nat.gcd_dvd_left p q)).symm
  have e2 : q = Nat.gcd p q * (q / Nat.gcd p q) := (Nat.mul_div_cancel' (Nat.gcd_dvd_right p q)).symm
  refine ⟨e1, e2, ?_, ?_, hg, rfl⟩
  · rw [Nat.gcd_add_self_right, Nat.gcd_comm]
    exact Nat.coprime_div_gcd_div_gcd hg
  · generalize p / Nat.gcd p q = x at *
    generalize q / Nat.gcd p q = y at *
    by_cases z : x + y = 0
    · have zx : x = 0 := by omega
      have zy : y = 0 := by omega
      rw [zx, Nat.mul_zero] at e1
      rw [zy, Nat.mul_zero] at e2
      omega
    · omega
theorem Parted.word {p q a b g : Nat} (h : Parted p q a b g) : ringW p q = W a b (g * (a + b)) 0 ∧ p + q = g * (a + b) := by
  have h0 : p + q = g * (a + b) := by rw [h.ga, h.gb, Nat.mul_add]
  refine ⟨?_, h0⟩
  unfold ringW
  rw [h.eg, h0]
  have e1 : p / g = a := by rw [h.ga, Nat.mul_div_cancel_left _ h.hg]
  have e2 : q / g = b := by rw [h.gb, Nat.mul_div_cancel_left _ h.hg]
  rw [e1, e2]
theorem ringW_len {p q : Nat} : (ringW p q).length = p + q := by
  unfold ringW
  rw [W_len]
theorem ringW_count {p q : Nat} (h : 0 < p + q) : (ringW p q).count 97 = p := by
  have hp := parted h
  obtain ⟨e, _⟩ := hp.word
  rw [e, W_times, count_rep, count_a hp.hm]
  exact hp.ga.symm
theorem ringW_row {p q : Nat} (h : 0 < p + q) : rowX (ringW p q) = rowB p q := by
  have hp := parted h
  obtain ⟨e, _⟩ := hp.word
  rw [e, row_told hp.hb hp.hm hp.hg, ← hp.ga, ← hp.gb]
theorem ringW_least {p q : Nat} (h : 0 < p + q) {x : List Nat} {xs : List (List Nat)} (e : Lyn.turns (ringW p q) = x :: xs) : Lyn.minL x xs = ringW p q := by
  have hp := parted h
  obtain ⟨e1, e2⟩ := hp.word
  rw [e1] at e ⊢
  exact W_least ⟨_, Nat.mul_comm _ _⟩ (by omega) hp.hm e
theorem ringW_read {p q : Nat} (h : 0 < p + q) : ∃ rs : List (List Nat), readM (strL (rowB p q)) = some ([], rs.map strL) ∧ rs.flatten = ringW p q ∧ rs.length ≤ p + q := by
  have hp := parted h
  obtain ⟨e1, e2⟩ := hp.word
  have hr := readM_row hp.hb hp.hm hp.hg
  rw [← hp.ga, ← hp.gb] at hr
  refine ⟨List.replicate (Nat.gcd p q) (W (p / Nat.gcd p q) (q / Nat.gcd p q) (p / Nat.gcd p q + q / Nat.gcd p q) 0), ?_, ?_, ?_⟩
  · rw [hr, List.map_replicate]
  · rw [e1, W_times]
  · rw [List.length_replicate, e2]
    exact Nat.le_mul_of_pos_right _ hp.hm
/-- the law's own word: where the steps don't wrap round -/
theorem ringW_even {p q : Nat} (hp0 : 0 < p) (hq0 : 0 < q) : ringW p q = (List.replicate (Nat.gcd p q) ((List.range ((p + q) / Nat.gcd p q)).map fun k =>
    if (k * (q / Nat.gcd p q)) % ((p + q) / Nat.gcd p q) < ((k + 1) * (q / Nat.gcd p q)) % ((p + q) / Nat.gcd p q) then 97 else 98)).flatten := by
  have hp := parted (p := p) (q := q) (by omega)
  obtain ⟨e1, e2⟩ := hp.word
  have h1 := hp.hg
  have h2 := hp.hm
  have ha : 0 < p / Nat.gcd p q := Nat.div_pos (Nat.gcd_le_left q hp0) h1
  have hb' : 0 < q / Nat.gcd p q := Nat.div_pos (Nat.gcd_le_right p hq0) h1
  have es : (p + q) / Nat.gcd p q = p / Nat.gcd p q + q / Nat.gcd p q := by
    rw [e2, Nat.mul_div_cancel_left _ h1]
  rw [e1, W_times, es]
  generalize p / Nat.gcd p q = a at *
  generalize q / Nat.gcd p q = b at *
  congr 2
  unfold W
  refine List.map_congr_left fun k _ => ?_
  have hl := Nat.mod_lt (k * b) h2
  have en : ((k + 1) * b) % (a + b) = if (k * b) % (a + b) < a then (k * b) % (a + b) + b else (k * b) % (a + b) - a := by
    rw [← step_at hl, Nat.mod_add_mod, Nat.add_mul, Nat.one_mul]
  rw [en, Nat.zero_add]
  unfold F
  generalize (k * b) % (a + b) = u at *
  by_cases h : u < a
  · rw [if_pos h, if_pos h, if_pos (by omega)]
  · rw [if_neg h, if_neg h, if_neg (by omega)]
theorem flat_one (c : Nat) : ∀ k : Nat, (List.replicate k [c]).flatten = List.replicate k c
  | 0 => rfl
  | k + 1 => by rw [List.replicate_succ, List.flatten_cons, flat_one c k]; rfl
theorem ringW_p0 {q : Nat} (h : 0 < q) : ringW 0 q = List.replicate q 98 := by
  have hp := parted (p := 0) (q := q) (by omega)
  obtain ⟨e1, _⟩ := hp.word
  rw [e1, W_times]
  have e0 : 0 / Nat.gcd 0 q = 0 := Nat.zero_div _
  have e2 : q / Nat.gcd 0 q = 1 := by rw [Nat.gcd_zero_left, Nat.div_self h]
  rw [e0, e2, Nat.gcd_zero_left]
  exact flat_one 98 q
theorem ringW_q0 {p : Nat} (h : 0 < p) : ringW p 0 = List.replicate p 97 := by
  have hp := parted (p := p) (q := 0) (by omega)
  obtain ⟨e1, _⟩ := hp.word
  rw [e1, W_times]
  have e0 : 0 / Nat.gcd p 0 = 0 := Nat.zero_div _
  have e2 : p / Nat.gcd p 0 = 1 := by rw [Nat.gcd_zero_right, Nat.div_self h]
  rw [e0, e2, Nat.gcd_zero_right]
  exact flat_one 97 p
end T86

set_option Elab.async false
set_option linter.all false
set_option maxRecDepth 100000
set_option maxHeartbeats 4000000
/-! SayKit: isinstance of the error that a suite holds; a call of what a slot holds, one of several defs; a said: try: a() / except .. / return word. -/
namespace L2
open PySem PySem.Spec PyProof.Rows EK LamX
def rIsX (K : PySem.W.Frag) (a : Addr) (cls : Value) (d : Option Addr) : List V → Hp → VK → Prop := fun xs H Q => ∃ (C dd : Addr) (fs : List (Str × V)) (c : V) (u : Value) (b : Bool), xs = [.ref a, c] ∧ cls = .ref C ∧ d = some dd ∧ H dd = some (.xd fs) ∧ ExcC K C ∧ ClsV c u ∧ PySem.W.kitOne K (.ref C) u = some b ∧ Q (.bl b) H
theorem call_isX {X : Cx} {a : Addr} {oe : Obj} {cls : Value} {d : Option Addr} {pn : List (Addr × Obj)} (hz : Zc cls d oe) (hf : ∃ vs, oe.data = .fields vs) : CallR (X.suite a ((a, oe) :: pn)) (.builtin "isinstance") (rIsX X.K a cls d) := by
  intro pins s σ H xs us Q I r h
  obtain ⟨C, dd, fs, c, u, b, rfl, rfl, rfl, ed, T, k, e, q⟩ := h
  obtain ⟨u1, u2, rfl, r1, r2⟩ := vals2 r
  have e2 := k.eq r2
  subst e2
  cases r1
  obtain ⟨ha, _⟩ := I.pin (a, oe) (List.mem_append_left _ List.mem_cons_self)
  obtain ⟨vs, hd⟩ := hf
  have hcl : (PySem.W.clsIn X.K C).isSome = true := by
    obtain ⟨cd, hc, _⟩ := PySem.W.any_some T.hd
    rw [hc]
    rfl
  have hx : ObjOk X.prog X.w H s.heap dd (.xd fs) := I.hok dd _ ed
  obtain ⟨mA, ⟨od, es, ep, ho, hr⟩, _⟩ := hx
  have J : PySem.W.InstAt s.heap a oe C (some od) := ⟨ha, hz.1, by unfold PySem.W.notCls; rw [hd] <;> rfl, by rw [hz.2]; exact ho⟩
  exact PySem.W.kia_one (PySem.W.kitx_exc (od := some od) hcl T.hg T.hk T.hs T.ha T.hn T.ht T.hm) I.kIn J e (fun z => nomatch z) fun tk => ⟨.bl b, H, I.tok tk, rfl, q⟩
/-- x(..), x a slot that holds one of several defs of one promise -/
def tCallF (i : Nat) (fs : List Addr) (sp : Sp) (E : XK) (t : TA) : TE := fun σ H Q => ∃ f ∈ fs, σ[i]? = some (some (.ref f)) ∧ t σ H fun vs H1 => sp vs H1 Q E
section
variable {X : Cx} {CX : CXT} {k i : Nat} {sp : Sp} {E : XK} {x : Str} {p pos : Pos} {e : Expr} {es : List Expr} {t : TA}
theorem pe_callF {fs : List Addr} (F : ∀ f ∈ fs, ∃ (fd : FuncData) (ps : List Str), FnOk X.prog X.w X.K X.mg X.base CX k f fd ps sp ∧ PySem.W.keepIn X.K (.ref f) = true ∧ Binds X.K fd ps []) (hr : Room k X.A) (hN : X.N[i]? = some x) (hv : Vis X.env.scope x) (hx : Passes CX X E) (ha : PA X (e :: es) t)
    (hdb : (x == ("__debug__" : Str)) = false := by decide) (hcd : (x == ("__classdict__" : Str)) = false := by decide)
    (he : starEach (e :: es) X.env = (false, eval e X.env) :: starEach es X.env := by rfl) (hpl : (backTo pos (starEach es X.env)).any (·.1) = false := by rfl) : PE X (.Call (.Name x p) (e :: es) [] pos) (tCallF i fs sp E t) := by
  refine ⟨fun pins s σ H Q I h => ?_⟩
  obtain ⟨f, hf, hs, ht⟩ := h
  obtain ⟨fd, ps, G, hk, hb⟩ := F f hf
  refine (pe_callL (i := i) (f := f) (sp := sp) (dvs := []) (E := E) G hr hN hv hk hb .nil hx ha hdb hcd he hpl).run pins s σ H Q I ⟨hs, ?_⟩
  have e0 : (fun (vs : List V) (H1 : Hp) => sp (vs ++ []) H1 Q E) = fun vs H1 => sp vs H1 Q E := by
    funext vs H1
    rw [List.append_nil]
  show t σ H (fun vs H1 => sp (vs ++ []) H1 Q E)
  rw [e0]
  exact ht
end
theorem ite_yes {b : Bool} {P R : Prop} (h : b = true) (p : P) : if b = true then P else R := by rw [if_pos h]; exact p
/-- an error of the class at C, its one value told as [m, value] -/
def errL (C : Addr) (f m : Str) (Q : VK) : XK := fun cls d H => cls = .ref C ∧ ∃ (dd : Addr) (v : V), d = some dd ∧ H dd = some (.xd [(f, v)]) ∧ ∀ p, H p = none → Q (.ref p) (upd H p (.lst [.str m, v]))
/-- the clause: what it makes of the error it catches -/
def ClGives (X : Cx) (C : Addr) (suite : List Stmt) (R : VK → XK) : Prop := ∃ ts : Addr → Value → Option Addr → TS,
  (∀ (a : Addr) (oe : Obj) (cls : Value) (d : Option Addr) (pn : List (Addr × Obj)), Zc cls d oe → (∃ vs, oe.data = .fields vs) → PSs (X.suite a ((a, oe) :: pn)) suite (ts a cls d)) ∧
  ∀ (a : Addr) (cls : Value) (d : Option Addr) (D : Ends) (σ : St) (H : Hp), 2 < σ.length → H a = none → R D.rt cls d H → ts a cls d (D.drop 1) (σ.set 1 (some (.ref a))) H
end L2

set_option Elab.async false
set_option linter.all false
set_option maxRecDepth 100000
set_option maxHeartbeats 4000000
namespace T86
open PySem PySem.Spec PyProof.Rows L2 EK
abbrev sIsNum : Stmt := top 8
abbrev sCkN : Stmt := top 10
abbrev sBR : Stmt := top 19
abbrev sDiv : Stmt := top 25
abbrev sER : Stmt := top 26
abbrev sRG : Stmt := top 27
structure TxtN (K : PySem.W.Frag) (mg : Str → Option Value) : Prop where
  isinstance : mg "isinstance" = none
  int : mg "int" = none
  bool : mg "bool" = none
  len : mg "len" = none
  range : mg "range" = none
  min : mg "min" = none
def numB (x : V) (m : Int) : Bool := match x with
  | .int i => decide (m ≤ i)
  | _ => false
def spNumber : Sp := fun vs H Q _ => ∃ x m, vs = [x, .int m] ∧ Pl H x ∧ Q (.bl (numB x m)) H
def spCkN : Sp := fun vs H Q _ => ∃ i m : Int, vs = [.int i, .int m] ∧ m ≤ i ∧ Q .non H
def spDiv : Sp := fun vs H Q _ => ∃ a b : Nat, vs = [.int (a : Int), .int (b : Int)] ∧ Q (.int ((Nat.gcd a b : Nat) : Int)) H

def spBR : Sp := fun vs H Q _ => ∃ p q : Nat, vs = [.int (p : Int), .int (q : Int)] ∧ 0 < p + q ∧ p + q ≤ 300 ∧ ∀ H', Same H H' → Q (.str (strL (ringW p q))) H'
def spRG : Sp := fun vs H Q _ => ∃ p q : Nat, vs = [.int (p : Int), .int (q : Int)] ∧ 0 < p + q ∧ p + q ≤ 300 ∧ ∀ H', Same H H' → Q (.bl true) H'
theorem ix_listK {X : Cx} {K : PySem.W.Frag} (h : X.K = K := by rfl) : IxR X (rIxL K) := by subst h; exact ix_list
theorem repB (c k : Nat) : repS (strL [c]) k = strL (List.replicate k c) := by
  rw [repL, flat_one]
section
variable {P : Program} {w : World} {K : PySem.W.Frag} {mg : Str → Option Value} {base : Heap} {C : Addr}
theorem scNum : FnScope ["value", "least"] ["value", "least"] (defScope sIsNum) := ⟨rfl, rfl, rfl, by decide +kernel, rfl, by decide +kernel, by decide +kernel⟩
theorem ok_isNumber {f : Addr} {fd : FuncData} (F : Fun K "is_number" "is_number" sIsNum f fd) (T : TxtN K mg) : FnOk P w K mg base CX0 1 f fd ["value", "least"] spNumber := by
  refine F.ok scNum (fun vs H Q E h => ?_) (fun cdv A outer s H vs Q E hr h => ?_)
  · obtain ⟨x, m, rfl, _⟩ := h
    rfl
  · obtain ⟨x, m, rfl, hp, k⟩ := h
    have nd := scNum.nd
    refine ⟨_, (pss_one (ps_ret (pe_and (pe_callB call_isi (by rfl) T.isinstance (by decide +kernel) (pa_cons (pv 0) (pa_cons (pe_bltn (v := .ty "int") rfl T.int (by decide +kernel) rfl) pa_nil))) (pe_and (pe_not (pe_callB call_isi (by rfl) T.isinstance (by decide +kernel) (pa_cons (pv 0) (pa_cons (pe_bltn (v := .ty "bool") rfl T.bool (by decide +kernel) rfl) pa_nil)))) (pe_one (pe_cmpR op_ge (pv 0) (pv 1) (nomark _))))))), ?_⟩
    obtain ⟨t, ht, hk⟩ := hp.isInt (K := K)
    obtain ⟨t2, ht2, hk2⟩ := hp.isBl (K := K)
    refine ⟨_, rfl, _, _, _, _, _, rfl, .ty _, ht, hk, _, rfl, ?_⟩
    cases x with
    | int i =>
      exact ⟨_, rfl, _, _, _, _, _, rfl, .ty _, ht2, hk2, _, rfl, _, rfl, _, rfl, _, rfl, _, _, rfl, rfl, k⟩
    | bl b => exact ⟨_, rfl, _, _, _, _, _, rfl, .ty _, ht2, hk2, _, rfl, _, rfl, k⟩
    | _ => exact k
theorem scCkN : FnScope ["number", "least"] ["number", "least"] (defScope sCkN) := ⟨rfl, rfl, rfl, by decide +kernel, rfl, by decide +kernel, by decide +kernel⟩
theorem ok_ckN {f fN : Addr} {fd fdN : FuncData} (F : Fun K "check_number" "check_number" sCkN f fd)
    (GN : FnOk P w K mg base CX0 1 fN fdN ["value", "least"] spNumber) (gN : mg "is_number" = some (.ref fN)) (kN : PySem.W.keepIn K (.ref fN) = true) (bN : Binds K fdN ["value", "least"] []) :
    FnOk P w K mg base CX0 2 f fd ["number", "least"] spCkN := by
  refine F.ok scCkN (fun vs H Q E h => ?_) (fun cdv A outer s H vs Q E hr h => ?_)
  · obtain ⟨x, m, rfl, _⟩ := h
    rfl
  · obtain ⟨x, m, rfl, hm, k⟩ := h
    have nd := scCkN.nd
    have hr1 : Room 1 _ := hr
    refine ⟨_, pss_one (ps_if (pt_not (pt_val (pe_call GN hr1 rfl gN kN bN .nil pass0 (pa_cons (pv 0) (pa_cons (pv 1) pa_nil))))) pss_never pss_nil), ?_⟩
    refine ⟨_, rfl, _, rfl, .int x, m, rfl, .int _, _, rfl, ?_⟩
    rw [show numB (.int x) m = true from decide_eq_true hm]
    exact k
theorem scDiv : FnScope ["_law_one_here", "_law_other"] ["_law_one_here", "_law_other"] (defScope sDiv) := ⟨rfl, rfl, rfl, by decide +kernel, rfl, by decide +kernel, by decide +kernel⟩
theorem ok_Div {f : Addr} {fd : FuncData} (F : Fun K "_law_divisor" "_law_divisor" sDiv f fd) (T : TxtN K mg) : FnOk P w K mg base CX0 1 f fd ["_law_one_here", "_law_other"] spDiv := by
  refine F.ok scDiv (fun vs H Q E h => ?_) (fun cdv A outer s H vs Q E hr h => ?_)
  · obtain ⟨a, b, rfl, _⟩ := h
    rfl
  · obtain ⟨a, b, rfl, k⟩ := h
    have nd := scDiv.nd
    refine ⟨_, (pss_cons (ps_while PassesOwn.never (pt_cmpR op_ne (pv 1) pe_int (nomark _)) (pss_one (ps_par (i := 0) (j := 1) (by rfl) nd rfl rfl (by decide) rfl rfl (pa_cons (pv 1) (pa_cons (pe_op op_mod (pe_callTy call_int1 (by rfl) T.int (by decide +kernel) (pa_cons (pv 0) pa_nil)) (pv 1)) pa_nil)) (by rfl))))
      (pss_one (ps_ret (pv 0)))), ?_⟩
    refine ⟨fun m σ H' => ∃ x y : Nat, m = y ∧ σ = [some (.int (x : Int)), some (.int (y : Int))] ∧ H' = H ∧ Nat.gcd x y = Nat.gcd a b, ⟨b, a, b, rfl, rfl, rfl, rfl⟩, ?_⟩
    rintro m σ H' ⟨x, y, rfl, rfl, rfl, hg⟩
    refine ⟨_, rfl, ?_⟩
    by_cases h : m = 0
    · subst h
      refine ⟨rfl, false, by rw [decide_eq_true (show V.int ((0 : Nat) : Int) = V.int 0 from rfl)]; rfl, ?_⟩
      refine iteN rfl ?_
      rw [Nat.gcd_zero_right] at hg
      subst hg
      exact ⟨_, rfl, k⟩
    · have ne : ¬ (V.int ((m : Nat) : Int) = V.int 0) := fun z => by
        injection z with z
        omega
      refine ⟨rfl, true, by rw [decide_eq_false ne]; rfl, ?_⟩
      refine ite_yes rfl ?_
      refine ⟨fun σ' H'' => σ' = [some (.int (m : Int)), some (.int ((x % m : Nat) : Int))] ∧ H'' = H', fun σ' H'' h2 => ⟨x % m, Nat.mod_lt _ (by omega), m, x % m, rfl, h2.1, h2.2, by rw [← hg, Nat.gcd_comm m, ← Nat.gcd_rec, Nat.gcd_comm]⟩, ?_⟩
      refine ⟨_, rfl, _, rfl, .inl ⟨_, rfl, _, rfl, _, _, rfl, rfl, (by omega : (0 : Int) < (m : Int)), _, _, rfl, ?_, rfl⟩⟩
      show [some (V.int (m : Int)), some (V.int ((x : Int) % (m : Int)))] = _
      rw [Int.natCast_emod]

theorem scBR : FnScope ["p", "q"] ["p", "q"] (defScope sBR) := ⟨rfl, rfl, rfl, by decide +kernel, rfl, by decide +kernel, by decide +kernel⟩
theorem scER : FnScope ["_law_p", "_law_q", "_law_many", "_law_size", "_law_up", "_law_signs", "_law_at"] ["_law_p", "_law_q"] (defScope sER) := ⟨rfl, rfl, rfl, by decide +kernel, rfl, by decide +kernel, by decide +kernel⟩
theorem scRG : FnScope ["_law_p", "_law_q", "_law_told", "_law_at"] ["_law_p", "_law_q"] (defScope sRG) := ⟨rfl, rfl, rfl, by decide +kernel, rfl, by decide +kernel, by decide +kernel⟩
theorem row_isR (p q : Nat) : isR (strL (rowB p q)) = true := by
  unfold isR
  rw [strL_list, List.all_eq_true]
  intro c hc
  unfold rowB at hc
  rcases List.mem_append.mp hc with hc | hc
  · rw [(List.mem_replicate.mp hc).2]
    decide +kernel
  · rw [(List.mem_replicate.mp hc).2]
    decide +kernel
theorem ok_BR {f fCN fRB : Addr} {fd fdCN fdRB : FuncData} (F : Fun K "balanced_ring" "balanced_ring" sBR f fd)
    (GCN : FnOk P w K mg base CX0 2 fCN fdCN ["number", "least"] spCkN) (gCN : mg "check_number" = some (.ref fCN)) (kCN : PySem.W.keepIn K (.ref fCN) = true) (bCN : Binds K fdCN ["number", "least"] [])
    (GRB : FnOk P w K mg base (L2.CX P w) 5 fRB fdRB ["row"] (spRead C)) (gRB : mg "read_back" = some (.ref fRB)) (kRB : PySem.W.keepIn K (.ref fRB) = true) (bRB : Binds K fdRB ["row"] []) :
    FnOk P w K mg base CX0 6 f fd ["p", "q"] spBR := by
  refine F.ok scBR (fun vs H Q E h => ?_) (fun cdv A outer s H vs Q E hr h => ?_)
  · obtain ⟨p, q, rfl, _⟩ := h
    rfl
  · obtain ⟨p, q, rfl, h0, h3, k⟩ := h
    have nd := scBR.nd
    have hz : sizeLine = 2 ^ 24 := sizeLine_eq
    have hrRB : Room 5 _ := hr
    have hrCN : Room 2 _ := hr.mono (by decide)
    refine ⟨_, (pss_cons (ps_expr (pe_call GCN hrCN rfl gCN kCN bCN .nil pass0 (pa_cons (pv 0) (pa_cons pe_int pa_nil))))
      (pss_cons (ps_expr (pe_call GCN hrCN rfl gCN kCN bCN .nil pass0 (pa_cons (pv 1) (pa_cons (pe_ifExp (pt_cmpR op_eq (pv 0) pe_int (nomark _)) pe_int pe_int) pa_nil))))
      (pss_one (ps_ret (pe_join pe_str (pe_ix (ix_tupK (K := K)) (pe_call GRB hrRB rfl gRB kRB bRB .nil passL (pa_cons (pe_op op_add_str (pe_op op_mulS pe_str (pv 1)) (pe_op op_mulS pe_str (pv 0))) pa_nil)) pe_int (fun _ _ => rfl))))))), ?_⟩
    refine ⟨_, rfl, p, 0, rfl, by omega, ?_⟩
    refine ⟨_, rfl, _, rfl, rfl, _, rfl, ?_⟩
    by_cases hp0 : p = 0
    refine iteY (decide_eq_true (by rw [hp0]; rfl)) ?_
    refine ⟨q, 1, rfl, by omega, ?_⟩
    rotate_left 1
    refine iteN (decide_eq_false (fun z => hp0 (by injection z with z; omega))) ?_
    refine ⟨q, 0, rfl, by omega, ?_⟩
    all_goals
      obtain ⟨rs, hr1, hr2, hr3⟩ := ringW_read h0
      have lB : ∀ c k : Nat, k ≤ 300 → (strL [c]).cps.toList.length * ((k : Nat) : Int).toNat ≤ 2 ^ 24 := fun c k hk => by
        rw [strL_list, Int.toNat_natCast]
        show 1 * k ≤ _
        omega
      refine ⟨⟨_, rfl⟩, _, rfl, strL [98], (q : Int), rfl, rfl, by omega, by omega, lB 98 q (by omega), ?_⟩
      refine ⟨_, rfl, strL [97], (p : Int), rfl, rfl, by omega, by omega, lB 97 p (by omega), ?_⟩
      rw [Int.toNat_natCast, Int.toNat_natCast, repB, repB]
      refine ⟨_, _, rfl, rfl, (by rw [strL_len, strL_len, List.length_replicate, List.length_replicate]; omega), ?_⟩
      rw [strL_add]
      refine ⟨_, rfl, .str _, .inl ⟨strL (rowB p q), [], rs.map strL, rfl, row_isR p q, (by rw [strL_size, rowB_len]; omega), hr1, fun p1 a1 b1 H1 s1 e1 ea eb => ?_⟩⟩
      refine ⟨p1, _, 1, _, rfl, rfl, .of e1, rfl, ?_⟩
      refine ⟨"", b1, rs.map strL, rfl, rfl, .inr (.of eb), ?_, ?_⟩
      · rw [sum_lenV, hr2, ringW_len, List.length_map]
        show p + q + _ * 0 ≤ _
        omega
      · rw [joinV, hr2]
        exact k H1 s1
theorem ok_ER {f fDV : Addr} {fd fdDV : FuncData} (F : Fun K "_law_even_ring" "_law_even_ring" sER f fd) (T : TxtN K mg)
    (GDV : FnOk P w K mg base CX0 1 fDV fdDV ["_law_one_here", "_law_other"] spDiv) (gDV : mg "_law_divisor" = some (.ref fDV)) (kDV : PySem.W.keepIn K (.ref fDV) = true) (bDV : Binds K fdDV ["_law_one_here", "_law_other"] []) :
    FnOk P w K mg base CX0 2 f fd ["_law_p", "_law_q"] spBR := by
  refine F.ok scER (fun vs H Q E h => ?_) (fun cdv A outer s H vs Q E hr h => ?_)
  · obtain ⟨p, q, rfl, _⟩ := h
    rfl
  · obtain ⟨p, q, rfl, h0, h3, k⟩ := h
    have nd := scER.nd
    have hz : sizeLine = 2 ^ 24 := sizeLine_eq
    have hrDV : Room 1 _ := hr
    refine ⟨_, (pss_cons (ps_if (PW.pt (pw_or (pt_cmpR op_eq (pv 0) pe_int (nomark _)) (pw_or1 (pt_cmpR op_eq (pv 1) pe_int (nomark _))))) (pss_one (ps_ret (pe_op op_add_str (pe_op op_mulS pe_str (pv 0)) (pe_op op_mulS pe_str (pv 1))))) pss_nil)
      (pss_cons (ps_set (i := 2) nd rfl (Or.inl rfl) (pe_call GDV hrDV rfl gDV kDV bDV .nil pass0 (pa_cons (pv 0) (pa_cons (pv 1) pa_nil))))
      (pss_cons (ps_asg (pe_tup (pa_cons (pe_op op_fdiv (pe_op op_add (pv 0) (pv 1)) (pv 2)) (pa_cons (pe_op op_fdiv (pv 1) (pv 2)) pa_nil))) (pg_tup rfl (pgs_cons (pg_name (i := 3) nd rfl (Or.inr rfl)) (pgs_cons (pg_name (i := 4) nd rfl (Or.inr rfl)) pgs_nil))))
      (pss_cons (ps_setLc (i := 5) (own := [("_law_at", 6)]) (g := gName 6) (tt := tYes) rfl nd rfl rfl (sw_true rfl rfl rfl (by decide +kernel)) (pi_range1 (by rfl) T.range (pa_cons (pv 3) pa_nil)) (blkOk_by (N := ["_law_p", "_law_q", "_law_many", "_law_size", "_law_up", "_law_signs", "_law_at"]) (sc := defScope sER) (by decide +kernel)) (fun _ _ _ _ _ => (pg_name (i := 6) nd rfl (Or.inl rfl))) (fun _ _ _ _ _ => pts_nil) (fun _ _ _ _ _ => (pe_ix (ix_listK (K := K)) (pe_lst (pa_cons pe_str (pa_cons pe_str pa_nil))) (pe_callTy call_int1 (by rfl) T.int (by decide +kernel) (pa_cons (pe_cmpR op_lt (pe_op op_mod (pe_callTy call_int1 (by rfl) T.int (by decide +kernel) (pa_cons (pe_op op_mul (pv 6) (pv 4)) pa_nil)) (pv 3)) (pe_op op_mod (pe_callTy call_int1 (by rfl) T.int (by decide +kernel) (pa_cons (pe_op op_mul (pe_op op_add (pv 6) pe_int) (pv 4)) pa_nil)) (pv 3)) (nomark _)) pa_nil)) (fun _ _ => rfl))))
      (pss_one (ps_ret (pe_op op_mulS (pe_join pe_str (pv 5)) (pv 2)))))))), ?_⟩
    have lB : ∀ c k : Nat, k ≤ 300 → (strL [c]).cps.toList.length * ((k : Nat) : Int).toNat ≤ 2 ^ 24 := fun c k hk => by
      rw [strL_list, Int.toNat_natCast]
      show 1 * k ≤ _
      omega
    have small : (p = 0 ∨ q = 0) → tRet (tOp (fun x y H Q => ∃ i j, x = V.str i ∧ y = V.str j ∧ i.length + j.length ≤ sizeLine ∧ Q (V.str (i ++ j)) H) (tOp (fun x y H Q => ∃ z k, x = .str z ∧ y = .int k ∧ -(2 ^ 62) ≤ k ∧ k ≤ 2 ^ 24 ∧ z.cps.toList.length * k.toNat ≤ 2 ^ 24 ∧ Q (.str (repS z k.toNat)) H) (tC (.str "a")) (tVar 0)) (tOp (fun x y H Q => ∃ z k, x = .str z ∧ y = .int k ∧ -(2 ^ 62) ≤ k ∧ k ≤ 2 ^ 24 ∧ z.cps.toList.length * k.toNat ≤ 2 ^ 24 ∧ Q (.str (repS z k.toNat)) H) (tC (.str "b")) (tVar 1))) { nx := fun _ H' => Q .non H', rt := Q } [some (.int (p : Int)), some (.int (q : Int)), none, none, none, none, none] H := fun hz0 => by
      refine ⟨_, rfl, strL [97], (p : Int), rfl, rfl, by omega, by omega, lB 97 p (by omega), ?_⟩
      refine ⟨_, rfl, strL [98], (q : Int), rfl, rfl, by omega, by omega, lB 98 q (by omega), ?_⟩
      rw [Int.toNat_natCast, Int.toNat_natCast, repB, repB]
      refine ⟨_, _, rfl, rfl, (by rw [strL_len, strL_len, List.length_replicate, List.length_replicate]; omega), ?_⟩
      rw [strL_add]
      have hk := k H (.refl _)
      rcases hz0 with z | z
      · rw [z] at hk h0 ⊢
        rw [ringW_p0 (by omega)] at hk
        exact hk
      · rw [z] at hk h0 ⊢
        rw [ringW_q0 (by omega)] at hk
        rw [List.replicate_zero, List.append_nil]
        exact hk
    refine ⟨_, rfl, rfl, _, rfl, ?_⟩
    by_cases hp0 : p = 0
    · refine iteY (decide_eq_true (by rw [hp0]; rfl)) ?_
      exact small (.inl hp0)
    refine iteN (decide_eq_false (fun z => hp0 (by injection z with z; omega))) ?_
    refine ⟨_, rfl, rfl, _, rfl, ?_⟩
    by_cases hq0 : q = 0
    · refine iteY (decide_eq_true (by rw [hq0]; rfl)) ?_
      exact small (.inr hq0)
    refine iteN (decide_eq_false (fun z => hq0 (by injection z with z; omega))) ?_
    refine ⟨_, rfl, _, rfl, p, q, rfl, ?_⟩
    have hev := ringW_even (p := p) (q := q) (by omega) (by omega)
    have hg := (parted h0).hg
    have hgp : Nat.gcd p q ≤ p := Nat.gcd_le_left q (by omega)
    have hsz : (p + q) / Nat.gcd p q ≤ p + q := Nat.div_le_self _ _
    have hsz0 : 0 < (p + q) / Nat.gcd p q := Nat.div_pos (by omega) hg
    have hup : q / Nat.gcd p q ≤ q := Nat.div_le_self _ _
    refine ⟨_, rfl, _, rfl, _, _, rfl, rfl, _, rfl, _, _, rfl, rfl, ⟨by omega, by omega⟩, ?_⟩
    refine ⟨_, rfl, _, rfl, _, _, rfl, rfl, ⟨by omega, by omega⟩, ?_⟩
    have e1 : ((p : Int) + (q : Int)) / ((Nat.gcd p q : Nat) : Int) = (((p + q) / Nat.gcd p q : Nat) : Int) := by
      rw [← Int.natCast_add, Int.natCast_ediv]
    have e2 : (q : Int) / ((Nat.gcd p q : Nat) : Int) = ((q / Nat.gcd p q : Nat) : Int) := by
      rw [Int.natCast_ediv]
    refine ⟨(by show 2 ≤ sizeLine; omega), fun pt zt => ?_⟩
    obtain ⟨Ht, et, St, At⟩ := alloc (o := .tup [V.int (((p : Int) + (q : Int)) / ((Nat.gcd p q : Nat) : Int)), .int ((q : Int) / ((Nat.gcd p q : Nat) : Int))]) zt
    rw [et]
    rw [e1, e2] at At
    refine ⟨pt, _, rfl, .of At, rfl, _, _, rfl, _, _, rfl, rfl, ?_⟩
    generalize hm : (p + q) / Nat.gcd p q = m at *
    generalize hu : q / Nat.gcd p q = u at *
    refine ⟨_, rfl, _, rfl, by omega, by omega, fun D nD => ?_⟩
    refine lcM_range (lo := 0) (n := ((m : Nat) : Int).toNat) (R' := fun _ x z => x = V.str (strL [z])) (fun _ => true) (fun k => if (k * u) % m < ((k + 1) * u) % m then 97 else 98) nD (fun _ _ _ _ _ r => r) (by omega) ?_ ?_
    · intro i G C C0 hi s yes no
      have hi2 : i < m := by omega
      rw [Int.zero_add]
      refine ⟨rfl, ?_⟩
      refine yes_i ?_
      refine iteY rfl ?_
      refine ⟨(by show 2 ≤ sizeLine; omega), fun p1 z1 => ?_⟩
      obtain ⟨G1, g1, U1, B1⟩ := alloc (o := .lst [V.str "b", .str "a"]) z1
      rw [g1]
      have em1 : ((i : Int) * (u : Int)) % (m : Int) = (((i * u) % m : Nat) : Int) := by rw [Int.natCast_emod, Int.natCast_mul]
      have em2 : (((i : Int) + 1) * (u : Int)) % (m : Int) = ((((i + 1) * u) % m : Nat) : Int) := by rw [Int.natCast_emod, Int.natCast_mul, Int.natCast_add]; rfl
      refine ⟨_, rfl, _, rfl, _, _, rfl, rfl, .inl ⟨by omega, by omega⟩, .inl ⟨_, rfl, _, rfl, _, _, rfl, rfl, (by omega), ?_⟩⟩
      refine ⟨_, rfl, _, _, rfl, rfl, _, rfl, _, _, rfl, rfl, .inl ⟨by omega, by omega⟩, .inl ⟨_, rfl, _, rfl, _, _, rfl, rfl, (by omega), ?_⟩⟩
      refine ⟨_, _, rfl, rfl, .inr ⟨_, rfl, ?_⟩⟩
      by_cases hlt : (i * u) % m < ((i + 1) * u) % m
      · have hI : decide (((i : Int) * (u : Int)) % (m : Int) < (((i : Int) + 1) * (u : Int)) % (m : Int)) = true := decide_eq_true (by rw [em1, em2]; omega)
        refine ⟨p1, _, (if decide (((i : Int) * (u : Int)) % (m : Int) < (((i : Int) + 1) * (u : Int)) % (m : Int)) = true then 1 else 0), .str "a", rfl, rfl, .of B1, by rw [hI]; rfl, ?_⟩
        exact yes rfl _ _ U1 (by rw [if_pos hlt]; rfl)
      · have hI : decide (((i : Int) * (u : Int)) % (m : Int) < (((i : Int) + 1) * (u : Int)) % (m : Int)) = false := decide_eq_false (by rw [em1, em2]; omega)
        refine ⟨p1, _, (if decide (((i : Int) * (u : Int)) % (m : Int) < (((i : Int) + 1) * (u : Int)) % (m : Int)) = true then 1 else 0), .str "b", rfl, rfl, .of B1, by rw [hI]; rfl, ?_⟩
        exact yes rfl _ _ U1 (by rw [if_neg hlt]; rfl)
    · intro ys H2 s2 hD hall
      have ey := hall.eq_map
      rw [List.filter_eq_self.mpr fun _ _ => rfl, show ((m : Nat) : Int).toNat = m by omega] at ey
      obtain ⟨w1, hw1⟩ : ∃ w1, (List.range m).map (fun k => if (k * u) % m < ((k + 1) * u) % m then 97 else 98) = w1 := ⟨_, rfl⟩
      rw [hw1] at ey hev
      have hwl : w1.length = m := by rw [← hw1]; simp
      have ey2 : ys = ((w1.map fun c => [c]).map strL).map V.str := by rw [ey, List.map_map, List.map_map]; rfl
      rw [ey2] at hD
      refine ⟨⟨_, rfl⟩, _, rfl, "", D, (w1.map fun c => [c]).map strL, rfl, rfl, .inl (.of hD), ?_, ?_⟩
      · rw [sum_lenV, ones_flat]
        show w1.length + _ * 0 ≤ _
        omega
      rw [joinV, ones_flat]
      refine ⟨_, rfl, _, _, rfl, rfl, by omega, by omega, ?_, ?_⟩
      · rw [strL_list, Int.toNat_natCast, hwl]
        exact Nat.le_trans (Nat.mul_le_mul (show m ≤ 300 by omega) (show Nat.gcd p q ≤ 300 by omega)) (by decide)
      · rw [repL, Int.toNat_natCast, ← hev]
        exact k H2 (St.trans s2)
theorem ok_RG {f fBR fER fRW : Addr} {fd fdBR fdER fdRW : FuncData} (F : Fun K "_law_right" "_law_right" sRG f fd) (T : TxtN K mg)
    (GBR : FnOk P w K mg base CX0 6 fBR fdBR ["p", "q"] spBR) (gBR : mg "balanced_ring" = some (.ref fBR)) (kBR : PySem.W.keepIn K (.ref fBR) = true) (bBR : Binds K fdBR ["p", "q"] [])
    (GER : FnOk P w K mg base CX0 2 fER fdER ["_law_p", "_law_q"] spBR) (gER : mg "_law_even_ring" = some (.ref fER)) (kER : PySem.W.keepIn K (.ref fER) = true) (bER : Binds K fdER ["_law_p", "_law_q"] [])
    (GRW : FnOk P w K mg base CX0 1 fRW fdRW ["_law_word"] spRow) (gRW : mg "_law_row" = some (.ref fRW)) (kRW : PySem.W.keepIn K (.ref fRW) = true) (bRW : Binds K fdRW ["_law_word"] []) :
    FnOk P w K mg base CX0 7 f fd ["_law_p", "_law_q"] spRG := by
  refine F.ok scRG (fun vs H Q E h => ?_) (fun cdv A outer s H vs Q E hr h => ?_)
  · obtain ⟨p, q, rfl, _⟩ := h
    rfl
  · obtain ⟨p, q, rfl, h0, h3, k⟩ := h
    have nd := scRG.nd
    have hz : sizeLine = 2 ^ 24 := sizeLine_eq
    have hu : (A.deeper (PyProof.Rows.envOfC "_law_right" (defScope sRG) s.heap.objs.size f cdv)).units + 64 < cLine := hr.units
    have hrBR : Room 6 _ := hr
    have hrER : Room 2 _ := hr.mono (by decide)
    have hrRW : Room 1 _ := hr.mono (by decide)
    refine ⟨_, (pss_cons (ps_set (i := 2) nd rfl (Or.inr rfl) (pe_call GBR hrBR rfl gBR kBR bBR .nil pass0 (pa_cons (pv 0) (pa_cons (pv 1) pa_nil))))
      (pss_cons (ps_if (PW.pt (pw_or (pt_cmpR op_ne (pv 2) (pe_call GER hrER rfl gER kER bER .nil pass0 (pa_cons (pv 0) (pa_cons (pv 1) pa_nil))) (nomark _)) (pw_or (pt_cmpR op_ne (pe_m1 PySem.F.slot_str_count PySem.F.type_str_count mt_count (pv 2) pe_str) (pv 0) (nomark _)) (pw_or1 (pt_cmpR op_ne (pe_callB call_len_str (by rfl) T.len (by decide +kernel) (pa_cons (pv 2) pa_nil)) (pe_op op_add (pv 0) (pv 1)) (nomark _)))))) (pss_one (ps_ret pe_bl)) pss_nil)
      (pss_cons (ps_if (pt_cmpR op_gt (pe_op op_add (pv 0) (pv 1)) pe_int (nomark _)) (pss_one (ps_ret pe_bl)) pss_nil)
      (pss_cons (ps_if (pt_cmpR op_ne (pv 2) (pe_callB (cr_minS rfl hu) (by rfl) T.min (by decide +kernel) (pa_cons (pe_lc (own := [("_law_at", 3)]) (g := gName 3) (tt := tYes) rfl nd (pi_range1 (by rfl) T.range (pa_cons (pe_callB call_len_str (by rfl) T.len (by decide +kernel) (pa_cons (pv 2) pa_nil)) pa_nil)) (blkOk_by (N := ["_law_p", "_law_q", "_law_told", "_law_at"]) (sc := defScope sRG) (by decide +kernel)) (fun _ _ _ _ _ => (pg_name (i := 3) nd rfl (Or.inl rfl))) (fun _ _ _ _ _ => pts_nil) (fun _ _ _ _ _ => (pe_op op_add_str (pe_slice sl_str (pv 2) (po_some (pv 3)) po_none) (pe_slice sl_str (pv 2) po_none (po_some (pv 3)))))) pa_nil)) (nomark _)) (pss_one (ps_ret pe_bl)) pss_nil)
      (pss_one (ps_ret (pe_cmpR op_eq (pe_call GRW hrRW rfl gRW kRW bRW .nil pass0 (pa_cons (pv 2) pa_nil)) (pe_op op_add_str (pe_op op_mulS pe_str (pv 1)) (pe_op op_mulS pe_str (pv 0))) (nomark _)))))))), ?_⟩
    have neq : ∀ v : V, (!decide (v = v)) = false := fun v => by rw [decide_eq_true rfl]; rfl
    refine ⟨_, rfl, _, rfl, p, q, rfl, h0, h3, fun H1 s1 => ?_⟩
    refine ⟨_, rfl, _, rfl, _, rfl, p, q, rfl, h0, h3, fun H2 s2 => ?_⟩
    refine ⟨rfl, _, rfl, ?_⟩
    refine iteN (neq _) ?_
    refine ⟨_, rfl, ⟨_, rfl⟩, _, _, rfl, rfl, ?_⟩
    rw [show ("a" : Str) = ⟨#[97]⟩ from rfl, count_sgn, ringW_count h0]
    refine ⟨_, rfl, rfl, _, rfl, ?_⟩
    refine iteN (neq _) ?_
    have wl : (strL (ringW p q)).length ≤ sizeLine := by rw [strL_len, ringW_len]; omega
    refine ⟨_, rfl, _, rfl, wl, ?_⟩
    refine ⟨_, rfl, _, rfl, _, _, rfl, rfl, rfl, _, rfl, ?_⟩
    refine iteN (by rw [strL_len, ringW_len, Int.natCast_add]; exact neq _) ?_
    refine ⟨_, rfl, _, rfl, _, _, rfl, rfl, _, _, rfl, rfl, _, rfl, ?_⟩
    by_cases h40 : 40 < p + q
    · refine iteY (decide_eq_true (by omega)) ?_
      exact k H2 (s1.trans s2)
    refine iteN (decide_eq_false (by omega)) ?_
    refine ⟨_, rfl, _, rfl, strL (ringW p q), rfl, wl, (((ringW p q).length : Nat) : Int), (by show [V.int (((strL (ringW p q)).length : Nat) : Int)] = _; rw [strL_len]), by rw [ringW_len]; omega, by rw [ringW_len]; omega, fun D nD => ?_⟩
    have rl : (ringW p q).length = p + q := ringW_len
    refine lcM_range (lo := 0) (n := (((ringW p q).length : Nat) : Int).toNat) (R' := fun _ x z => x = V.str (strL z)) (fun _ => true) (Lyn.rot (ringW p q)) nD (fun _ _ _ _ _ r => r) (by omega) ?_ ?_
    · intro i G C C0 hi s yes no
      have hi2 : i < p + q := by omega
      rw [Int.zero_add]
      refine ⟨rfl, ?_⟩
      refine yes_i ?_
      refine iteY rfl ?_
      refine ⟨_, rfl, _, rfl, _, rfl, strL (ringW p q), rfl, wl, ?_⟩
      rw [cutL]
      refine ⟨_, rfl, _, rfl, _, rfl, strL (ringW p q), rfl, wl, ?_⟩
      rw [takeL]
      refine ⟨_, _, rfl, rfl, (by rw [strL_len, strL_len, List.length_drop, List.length_take]; omega), ?_⟩
      rw [strL_add]
      exact yes rfl _ _ (fun _ _ q => q) rfl
    · intro ys H3 s3' hD hall
      have e := hall.eq_map
      rw [List.filter_eq_self.mpr fun _ _ => rfl, show (((ringW p q).length : Nat) : Int).toNat = (ringW p q).length by omega] at e
      have e2 : ys = ((Lyn.turns (ringW p q)).map strL).map V.str := by
        rw [e, List.map_map (f := strL)]
        rfl
      rw [e2] at hD
      obtain ⟨x, xs, hx⟩ : ∃ x xs, Lyn.turns (ringW p q) = x :: xs := by
        cases h : Lyn.turns (ringW p q) with
        | nil =>
          have := congrArg List.length h
          unfold Lyn.turns at this
          rw [List.length_map, List.length_range, rl] at this
          simp at this
          omega
        | cons x xs => exact ⟨x, xs, rfl⟩
      rw [hx] at hD
      refine ⟨D, strL x, xs.map strL, rfl, .of hD, ?_⟩
      rw [minS_L, ringW_least h0 hx]
      refine ⟨rfl, _, rfl, ?_⟩
      refine iteN (neq _) ?_
      refine ⟨_, rfl, ringW p q, rfl, by omega, fun H4 s4 => ?_⟩
      rw [ringW_row h0]
      have lB : ∀ c k : Nat, k ≤ 300 → (strL [c]).cps.toList.length * ((k : Nat) : Int).toNat ≤ 2 ^ 24 := fun c k hk => by
        rw [strL_list, Int.toNat_natCast]
        show 1 * k ≤ _
        omega
      refine ⟨_, rfl, strL [98], (q : Int), rfl, rfl, by omega, by omega, lB 98 q (by omega), ?_⟩
      refine ⟨_, rfl, strL [97], (p : Int), rfl, rfl, by omega, by omega, lB 97 p (by omega), ?_⟩
      rw [Int.toNat_natCast, Int.toNat_natCast, repB, repB]
      refine ⟨_, _, rfl, rfl, (by rw [strL_len, strL_len, List.length_replicate, List.length_replicate]; omega), ?_⟩
      rw [strL_add]
      refine ⟨rfl, ?_⟩
      show Q (.bl (decide (V.str (strL (rowB p q)) = V.str (strL (rowB p q))))) H4
      rw [decide_eq_true rfl]
      exact k H4 fun b o e => s4 _ _ (s3' _ _ (s2 _ _ (s1 _ _ e)))
end
end T86

set_option Elab.async false
set_option linter.all false
set_option maxRecDepth 100000
set_option maxHeartbeats 4000000
namespace T86
open PySem PySem.Spec PyProof.Rows L2 EK
abbrev sLaw : Stmt := top 28
theorem cut_ints (ns : List Int) (lo hi : Option Int) : ∃ ms : List Int, cutV (ns.map V.int) lo hi = ms.map V.int ∧ ms.length ≤ ns.length := by
  have h := cutV_length (ns.map V.int) lo hi
  have e : ∃ ms : List Int, cutV (ns.map V.int) lo hi = ms.map V.int := by
    unfold cutV
    rw [← List.map_drop, ← List.map_take]
    exact ⟨_, rfl⟩
  obtain ⟨ms, e⟩ := e
  rw [e, List.length_map, List.length_map] at h
  exact ⟨ms, e, h⟩
theorem ints_at {ns : List Int} {i : Nat} {x : V} (h : (ns.map V.int)[i]? = some x) : ∃ n, ns[i]? = some n ∧ x = .int n := by
  rw [List.getElem?_map] at h
  obtain ⟨n, hn, e⟩ := Option.map_eq_some_iff.mp h
  exact ⟨n, hn, e.symm⟩
theorem many_in {x : V} (h : x ∈ [V.int 4, .int 12, .int 30, .int 50]) : ∃ g : Nat, x = .int (g : Int) ∧ 0 < g ∧ g ≤ 50 := by
  simp only [List.mem_cons, List.not_mem_nil, or_false] at h
  rcases h with rfl | rfl | rfl | rfl
  · exact ⟨4, rfl, by decide, by decide⟩
  · exact ⟨12, rfl, by decide, by decide⟩
  · exact ⟨30, rfl, by decide, by decide⟩
  · exact ⟨50, rfl, by decide, by decide⟩
theorem WellAt.mono {H : Hp} {a : Addr} {n m : Int} (h : WellAt H a n) (hm : n ≤ m) : WellAt H a m := by
  obtain ⟨w0, w1, w2, e, h1, h2, h3, h4⟩ := h
  exact ⟨w0, w1, w2, e, h1, h2, h3, by omega⟩
theorem WellAt.keep {H H' : Hp} {a : Addr} {n : Int} (h : WellAt H a n) (s : ∀ o, H a = some o → H' a = some o) : WellAt H' a n := by
  obtain ⟨w0, w1, w2, e, h1⟩ := h
  exact ⟨w0, w1, w2, s _ e, h1⟩
theorem KeepB.of {a : Addr} {H H' : Hp} (s : ∀ b o, H b = some o → H' b = some o) : KeepB a H H' := fun b o e _ => s b o e
theorem KeepB.rfl {a : Addr} {H : Hp} : KeepB a H H := fun _ _ e _ => e
theorem KeepB.trans {a : Addr} {H H1 H2 : Hp} (s : KeepB a H H1) (t : KeepB a H1 H2) : KeepB a H H2 := fun b o e n => t b o (s b o e n) n
def spLaw (K : PySem.W.Frag) : Sp := fun vs H Q _ => ∃ (a : Addr) (ns : List Int), vs = [.ref a] ∧ SqL K H a (ns.map V.int) ∧ ns.length ≤ 63 ∧ ∀ H', Q (.bl true) H'
section
variable {P : Program} {w : World} {K : PySem.W.Frag} {mg : Str → Option Value} {base : Heap} {C : Addr}
theorem scLaw : FnScope ["_law_script", "_law_cell", "_law_well_here", "_law_turn", "_law_many", "_law_by", "_law_p", "_law_q"] ["_law_script"] (defScope sLaw) := ⟨rfl, rfl, rfl, by decide +kernel, rfl, by decide +kernel, by decide +kernel⟩
theorem ok_law {f fW fDR fO fBR fRG : Addr} {fd fdW fdDR fdO fdBR fdRG : FuncData} (F : Fun K "law" "law" sLaw f fd) (T : TxtN K mg)
    (GW : FnOk P w K mg base CX0 1 fW fdW ["_law_cell"] spWell) (gW : mg "_law_well" = some (.ref fW)) (kW : PySem.W.keepIn K (.ref fW) = true) (bW : Binds K fdW ["_law_cell"] [])
    (GDR : FnOk P w K mg base CX0 1 fDR fdDR ["_law_well_here", "_law_many"] spDraw) (gDR : mg "_law_draw" = some (.ref fDR)) (kDR : PySem.W.keepIn K (.ref fDR) = true) (bDR : Binds K fdDR ["_law_well_here", "_law_many"] [])
    (GO : FnOk P w K mg base CX0 2 fO fdO ["_law_well_here", "_law_some"] spOne) (gO : mg "_law_one" = some (.ref fO)) (kO : PySem.W.keepIn K (.ref fO) = true) (bO : Binds K fdO ["_law_well_here", "_law_some"] [])
    (GBR : FnOk P w K mg base CX0 6 fBR fdBR ["p", "q"] spBR) (gBR : mg "balanced_ring" = some (.ref fBR)) (kBR : PySem.W.keepIn K (.ref fBR) = true) (bBR : Binds K fdBR ["p", "q"] [])
    (GRG : FnOk P w K mg base CX0 7 fRG fdRG ["_law_p", "_law_q"] spRG) (gRG : mg "_law_right" = some (.ref fRG)) (kRG : PySem.W.keepIn K (.ref fRG) = true) (bRG : Binds K fdRG ["_law_p", "_law_q"] []) :
    FnOk P w K mg base CX0 8 f fd ["_law_script"] (spLaw K) := by
  refine F.ok scLaw (fun vs H Q E h => ?_) (fun cdv A outer s H vs Q E hr h => ?_)
  · obtain ⟨a, ns, rfl, _⟩ := h
    rfl
  · obtain ⟨a, ns, rfl, hS, hlen, k⟩ := h
    have nd := scLaw.nd
    have hz : sizeLine = 2 ^ 24 := sizeLine_eq
    have hrRG : Room 7 _ := hr
    have hrBR : Room 6 _ := hr.mono (by decide)
    have hrO : Room 2 _ := hr.mono (by decide)
    have hrW : Room 1 _ := hr.mono (by decide)
    have hrDR : Room 1 _ := hr.mono (by decide)
    refine ⟨_, (pss_cons (ps_for PassesOwn.never rfl (pi_list (pe_op op_cat (pe_slice sl_list (pv 0) po_none (po_some pe_int)) (pe_lst (pa_cons pe_int pa_nil)))) (pg_name (i := 1) nd rfl (Or.inl rfl)) (pss_cons (ps_set (i := 2) nd rfl (Or.inl rfl) (pe_call GW hrW rfl gW kW bW .nil pass0 (pa_cons (pv 1) pa_nil)))
      (pss_one (ps_for PassesOwn.never rfl (pi_range1 (by rfl) T.range (pa_cons pe_int pa_nil)) (pg_name (i := 3) nd rfl (Or.inl rfl)) (pss_cons (ps_par (i := 4) (j := 5) (by rfl) nd rfl rfl (by decide) rfl rfl (pa_cons (pe_call GO hrO rfl gO kO bO .nil pass0 (pa_cons (pv 2) (pa_cons (pe_lst (pa_cons pe_int (pa_cons pe_int (pa_cons pe_int (pa_cons pe_int pa_nil))))) pa_nil))) (pa_cons (pe_op op_add pe_int (pe_call GDR hrDR rfl gDR kDR bDR .nil pass0 (pa_cons (pv 2) (pa_cons pe_int pa_nil)))) pa_nil)) (by rfl))
      (pss_cons (ps_par (i := 6) (j := 7) (by rfl) nd rfl rfl (by decide) rfl rfl (pa_cons (pe_op op_mul (pv 5) (pe_call GDR hrDR rfl gDR kDR bDR .nil pass0 (pa_cons (pv 2) (pa_cons (pv 4) pa_nil)))) (pa_cons (pe_op op_mul (pv 5) (pe_op op_add pe_int (pe_call GDR hrDR rfl gDR kDR bDR .nil pass0 (pa_cons (pv 2) (pa_cons (pv 4) pa_nil))))) pa_nil)) (by rfl))
      (pss_one (ps_if (PW.pt (pw_or (pt_not (pt_val (pe_call GRG hrRG rfl gRG kRG bRG .nil pass0 (pa_cons (pv 6) (pa_cons (pv 7) pa_nil))))) (pw_or1 (pt_not (pt_val (pe_call GRG hrRG rfl gRG kRG bRG .nil pass0 (pa_cons (pv 7) (pa_cons (pv 6) pa_nil)))))))) (pss_one (ps_ret pe_bl)) pss_nil))))))))
      (pss_one (ps_ret (pe_and (pe_cmpR op_eq (pe_call GBR hrBR rfl gBR kBR bBR .nil pass0 (pa_cons pe_int (pa_cons pe_int pa_nil))) pe_str (nomark _)) (pe_and (pe_cmpR op_eq (pe_call GBR hrBR rfl gBR kBR bBR .nil pass0 (pa_cons pe_int (pa_cons pe_int pa_nil))) pe_str (nomark _)) (pe_one (pe_cmpR op_eq (pe_call GBR hrBR rfl gBR kBR bBR .nil pass0 (pa_cons pe_int (pa_cons pe_int pa_nil))) pe_str (nomark _)))))))), ?_⟩
    obtain ⟨ms, hms, hml⟩ := cut_ints ns none (some 6)
    refine ⟨_, rfl, _, rfl, a, _, rfl, hS, fun p0 z0 => ?_⟩
    rw [hms]
    obtain ⟨K1, e1, S1, A1⟩ := alloc (o := .lst (ms.map V.int)) z0
    rw [e1]
    refine ⟨(by show 1 ≤ sizeLine; decide), fun p1' z1' => ?_⟩
    obtain ⟨K2, e2, S2, A2⟩ := alloc (o := .lst [.int 0]) z1'
    rw [e2]
    refine ⟨p0, p1', _, _, rfl, rfl, S2 _ _ A1, A2, ?_, fun p2' z2' => ?_⟩
    · rw [List.length_map]
      exact Nat.le_trans (Nat.add_le_add_right (Nat.le_trans hml hlen) 1) (by show 64 ≤ sizeLine; decide)
    have em : ms.map V.int ++ [V.int 0] = (ms ++ [0]).map V.int := by rw [List.map_append]; rfl
    rw [em]
    obtain ⟨K3, e3, S3, A3⟩ := alloc (o := .lst ((ms ++ [0]).map V.int)) z2'
    rw [e3]
    refine ⟨p2', rfl, ⟨_, .of A3⟩, for_list (K := K) (a := p2') (xs := (ms ++ [0]).map V.int) (fun i σ H' => ∃ v1 v2 v3 v4 v5 v6 v7 : Option V, σ = [some (.ref a), v1, v2, v3, v4, v5, v6, v7] ∧ Same K3 H') ⟨none, none, none, none, none, none, none, rfl, .refl _⟩ (fun i σ H' _ ⟨_, _, _, _, _, _, _, _, s⟩ => .of (s _ _ A3)) ?_ ?_⟩
    · rintro i y σ H4 hi ⟨v1, v2, v3, v4, v5, v6, v7, rfl, s4⟩
      obtain ⟨z, _, rfl⟩ := ints_at hi
      refine ⟨_, rfl, z, rfl, fun wl H5 nwl hw sw => ?_⟩
      refine ⟨_, rfl, by decide, by decide, for_range (lo := 0) (n := 3) (fun j σ H' => ∃ v3 v4 v5 v6 v7 : Option V, σ = [some (.ref a), some (.int z), some (.ref wl), v3, v4, v5, v6, v7] ∧ WellAt H' wl ((10 * j : Nat) : Int) ∧ KeepB wl H5 H') ⟨v3, v4, v5, v6, v7, rfl, hw, .rfl⟩ ?_ ?_⟩
      · rintro j σ H6 hj ⟨u3, u4, u5, u6, u7, rfl, hw6, kb6⟩
        refine ⟨_, rfl, (by show 4 ≤ sizeLine; decide), fun q5 y5 => ?_⟩
        obtain ⟨M5, m5, V5, D5⟩ := alloc (o := .lst [V.int 4, .int 12, .int 30, .int 50]) y5
        rw [m5]
        have q5w : q5 ≠ wl := fun e => by
          obtain ⟨_, _, _, e2, _⟩ := hw6
          rw [e, e2] at y5
          cases y5
        refine ⟨wl, q5, _, _, rfl, hw6.keep (V5 wl), by omega, D5, q5w, by decide, by decide, fun x H7 hx hw7 kb7 => ?_⟩
        obtain ⟨mn, rfl, mn0, mn1⟩ := many_in hx
        refine ⟨_, rfl, wl, 3, _, rfl, hw7, by omega, by decide, by decide, fun d1 H8 d10 d11 hw8 kb8 => ?_⟩
        obtain ⟨by', rfl⟩ : ∃ p : Nat, d1 = (p : Int) := ⟨d1.toNat, by omega⟩
        refine ⟨_, _, rfl, rfl, ?_⟩
        refine ⟨_, _, rfl, ?_⟩
        refine ⟨_, rfl, _, rfl, _, rfl, wl, (mn : Int), _, rfl, hw8, by omega, by omega, by omega, fun d2 H9 d20 d21 hw9 kb9 => ?_⟩
        obtain ⟨x2, rfl⟩ : ∃ p : Nat, d2 = (p : Int) := ⟨d2.toNat, by omega⟩
        refine ⟨_, _, rfl, rfl, .inl ⟨by omega, by omega⟩, ?_⟩
        refine ⟨_, rfl, _, rfl, _, rfl, wl, (mn : Int), _, rfl, hw9, by omega, by omega, by omega, fun d3 H10 d30 d31 hw10 kb10 => ?_⟩
        obtain ⟨x3, rfl⟩ : ∃ p : Nat, d3 = (p : Int) := ⟨d3.toNat, by omega⟩
        refine ⟨_, _, rfl, rfl, _, _, rfl, rfl, .inl ⟨by omega, by omega⟩, ?_⟩
        refine ⟨_, _, rfl, ?_⟩
        have ep : ((1 : Int) + (by' : Int)) * (x2 : Int) = (((1 + by') * x2 : Nat) : Int) := by rw [Int.natCast_mul, Int.natCast_add]; rfl
        have eq : ((1 : Int) + (by' : Int)) * (1 + (x3 : Int)) = (((1 + by') * (1 + x3) : Nat) : Int) := by rw [Int.natCast_mul, Int.natCast_add 1 x3, Int.natCast_add 1 by']; rfl
        simp only [ep, eq]
        have hp : (1 + by') * x2 ≤ 147 := Nat.le_trans (Nat.mul_le_mul (show 1 + by' ≤ 3 by omega) (show x2 ≤ 49 by omega)) (by decide)
        have hq : (1 + by') * (1 + x3) ≤ 150 := Nat.le_trans (Nat.mul_le_mul (show 1 + by' ≤ 3 by omega) (show 1 + x3 ≤ 50 by omega)) (by decide)
        have hq0 : 0 < (1 + by') * (1 + x3) := Nat.mul_pos (by omega) (by omega)
        generalize (1 + by') * x2 = p at *
        generalize (1 + by') * (1 + x3) = q at *
        refine ⟨_, rfl, _, rfl, p, q, rfl, by omega, by omega, fun H11 s11 => ?_⟩
        refine ⟨_, rfl, ?_⟩
        refine iteN rfl ?_
        refine ⟨_, rfl, _, rfl, q, p, rfl, by omega, by omega, fun H12 s12 => ?_⟩
        refine ⟨_, rfl, ?_⟩
        refine iteN rfl ?_
        refine ⟨_, _, _, _, _, rfl, ((hw10.keep (s11 wl)).keep (s12 wl)).mono (by omega), ?_⟩
        exact (((((kb6.trans (.of V5)).trans kb7).trans kb8).trans kb9).trans kb10).trans ((KeepB.of s11).trans (.of s12))
      · rintro σ H6 ⟨u3, u4, u5, u6, u7, rfl, hw6, kb6⟩
        refine ⟨_, _, _, _, _, _, _, rfl, fun b o e => ?_⟩
        exact kb6 _ _ (sw _ _ (s4 _ _ e)) (ne_of_none (s4 _ _ e) nwl)
    · rintro σ H9 ⟨v1, v2, v3, v4, v5, v6, v7, rfl, s4⟩
      have known : ∀ (p q : Nat) (l : List Nat), ringW p q = l → decide (V.str (strL (ringW p q)) = V.str (strL l)) = true := fun p q l e => by rw [e]; exact decide_eq_true rfl
      refine ⟨2, 3, rfl, by decide, by decide, fun H10 s10 => ⟨rfl, _, rfl, ?_⟩⟩
      refine iteY (known 2 3 [97, 98, 97, 98, 98] (by decide +kernel)) ?_
      refine ⟨0, 2, rfl, by decide, by decide, fun H11 s11 => ⟨rfl, _, rfl, ?_⟩⟩
      refine iteY (known 0 2 [98, 98] (by decide +kernel)) ?_
      refine ⟨3, 0, rfl, by decide, by decide, fun H12 s12 => ⟨rfl, ?_⟩⟩
      show Q (.bl (decide (V.str (strL (ringW 3 0)) = V.str (strL [97, 97, 97])))) H12
      rw [known 3 0 [97, 97, 97] (by decide +kernel)]
      exact k _
end
end T86

set_option Elab.async false
set_option linter.all false
set_option maxRecDepth 100000
set_option maxHeartbeats 4000000
/-! ErrEnd: an error class's facts, from what the top has written. -/
namespace EK
open PySem PySem.W L2
def errB (K : Frag) (C fI : Addr) (f : Str) : Bool :=
  xfB K C && (decide (findIn K (.ref C) "__setattr__" = some (some (.builtin "object.__setattr__"))) && (decide (findIn K (.ref C) f = some none) && (decide (typeIn K (.ref fI) = some (.type "function")) && (keepIn K (.ref C) &&
  (decide (typeIn K (.ref C) = some (.type "type")) && (decide (exmOne K (.ref C) (.ref C) = some true) && (decide (subIn K (.ref C) (.type "ValueError") = some true) && (decide (ks_superIn K C C "__init__" = some (some (.builtin "ValueError.__init__"))) &&
  (decide (mroIn K C (.ref C) = some true) && (decide (findIn K (.ref C) "__class__" = some (some (.builtin "object.__class__"))) && decide (mroIn K C (.type "object") = some true)))))))))))
theorem and2 {a b : Bool} (h : (a && b) = true) : a = true ∧ b = true := Bool.and_eq_true_iff.mp h
theorem err_mk {P : Program} {K : Frag} {h : Heap} {mg : Str → Option Value} {x f : Str} {C fI N cda cc : Addr} (X : K.In h) (G : h.Ns mainGlobals mg)
    {nm q qn msg file : Str} {bs bm : List Value} {sn : List Str} {sub : List Value} {ab : Bool} {col : Option Bool} {dd od an cdd cld : Option Addr} {m0 m1 m2 m3 m5 : Option Value} {oc doc pm ct ccl cl : Value} {osl ccs csl : Array (Option Value)} {vs : Array Value} {tf : Tok}
    {p1 p2 a1 a2 a3 a4 a5 a6 b1 b2 b3 b4 : Pos}
    (aC : nsIn K mainGlobals x = some (some (.ref C))) (xL : K.lookup C = some (excClassObj nm q C N bs bm true sn sub ab col dd m0 m1 m2 m3 m5 "ValueError.__new__")) (rv : HandSPX.refsVE bm = true)
    (iC : findIn K (.ref C) "__init__" = some (some (.ref fI)))
    (l1 : K.lookup fI = some ⟨oc, od, .func (ksFn "__init__" qn (eArgs f p1 p2) (eBody f msg a1 a2 a3 a4 a5 a6 b1 b2 b3 b4) (eScope f) .none .none doc pm an (.ref cda) ct cc), osl⟩) (c1 : codeIn K (.ref cda) qn = true)
    (bd : ∀ u v : Value, bindArgs (ksFn "__init__" qn (eArgs f p1 p2) (eBody f msg a1 a2 a3 a4 a5 a6 b1 b2 b3 b4) (eScope f) .none .none doc pm an (.ref cda) ct cc) ⟨[u, v], []⟩ = pure [(("self" : Str), u), (f, v)])
    (sc : ∀ L : Addr, SupCall a1 a2 a3 a4 a5 msg (callEnv (ksFn "__init__" qn (eArgs f p1 p2) (eBody f msg a1 a2 a3 a4 a5 a6 b1 b2 b3 b4) (eScope f) .none .none doc pm an (.ref cda) ct cc) L fI))
    (cd : K.lookup cda = some ⟨ccl, cdd, .fields vs, ccs⟩) (vf : vs[2]? = some (.str file tf)) (pf : ((P.main.file : Str) == file) = true) (cL : K.lookup cc = some ⟨cl, cld, .cell (some (.ref C)), csl⟩)
    (eB : errB K C fI f = true) (ho : nsIn K cStatics "thirdparty.any" = some none) (su : nsIn K mainGlobals "super" = some none) (fok : f ≠ "self" ∧ f ≠ "__class__" ∧ f ≠ "super" ∧ f ≠ "__debug__") (top : (P.main.scope.names.lookup ("super" : Str)).isSome = false) :
    ErrTxt P K mg x f C fI := by
  obtain ⟨h1, eB⟩ := and2 eB
  obtain ⟨h2, eB⟩ := and2 eB
  obtain ⟨h3, eB⟩ := and2 eB
  obtain ⟨h4, eB⟩ := and2 eB
  obtain ⟨h5, eB⟩ := and2 eB
  obtain ⟨h6, eB⟩ := and2 eB
  obtain ⟨h7, eB⟩ := and2 eB
  obtain ⟨h8, eB⟩ := and2 eB
  obtain ⟨h9, eB⟩ := and2 eB
  obtain ⟨h10, eB⟩ := and2 eB
  have T := xfB_ok h1
  exact { gC := mg_of X G aC, cls := ⟨nm, q, N, bs, bm, sn, sub, ab, col, dd, m0, m1, m2, m3, m5, xL, rv⟩, sa := of_decide_eq_true h2, ga := T.ga, gg := T.gg, noN := of_decide_eq_true h3, iC := iC, tC := of_decide_eq_true h4, kC := h5, exC := T.exC,
          tyC := of_decide_eq_true h6, hdC := T.hdC, te := of_decide_eq_true h7, hB := of_decide_eq_true h8, si := of_decide_eq_true h9, ho := ho, su := mg_none_of X G su, mC := of_decide_eq_true h10, fok := fok, top := top,
          fn := ⟨oc, od, qn, msg, doc, pm, an, cda, cc, ct, osl, p1, p2, a1, a2, a3, a4, a5, a6, b1, b2, b3, b4, l1, c1, bd, sc, ⟨ccl, cdd, ccs, vs, file, tf, cd, vf, pf⟩, ⟨cl, cld, csl, cL⟩⟩ }
theorem excC_of {K : Frag} {C fI : Addr} {f : Str} (eB : errB K C fI f = true) (hn : specialIn K (.builtin "object.__class__") "__get__" = some (some (.builtin "getset_descriptor.__get__"))) (ht : takesIn K (.builtin "object.__class__") = some true) : ExcC K C := by
  obtain ⟨h1, eB⟩ := and2 eB
  obtain ⟨h2, eB⟩ := and2 eB
  obtain ⟨h3, eB⟩ := and2 eB
  obtain ⟨h4, eB⟩ := and2 eB
  obtain ⟨h5, eB⟩ := and2 eB
  obtain ⟨h6, eB⟩ := and2 eB
  obtain ⟨h7, eB⟩ := and2 eB
  obtain ⟨h8, eB⟩ := and2 eB
  obtain ⟨h9, eB⟩ := and2 eB
  obtain ⟨h10, eB⟩ := and2 eB
  obtain ⟨h11, h12⟩ := and2 eB
  have T := xfB_ok h1
  exact ⟨T.ga, T.gg, T.exC, T.hdC, of_decide_eq_true h11, hn, ht, of_decide_eq_true h12⟩
/-- which class is which, told apart -/
def kindsB (K : Frag) (E : Addr) (Cs : List Addr) : Bool :=
  (Cs.zipIdx.all fun p => Cs.zipIdx.all fun q => decide (kitOne K (.ref p.1) (.ref q.1) = some (decide (p.2 = q.2)))) && (Cs.all fun C => decide (kitOne K (.ref C) (.ref E) = some true) && decide (kitOne K (.ref C) (.type "ValueError") = some true))
theorem kinds_kt {K : Frag} {E : Addr} {Cs : List Addr} (h : kindsB K E Cs = true) (i j : Nat) (C D : Addr) (h1 : Cs[i]? = some C) (h2 : Cs[j]? = some D) : kitOne K (.ref C) (.ref D) = some (decide (i = j)) := by
  obtain ⟨h, _⟩ := and2 h
  have q := List.all_eq_true.mp h (C, i) (List.mk_mem_zipIdx_iff_getElem?.mpr h1)
  have q := List.all_eq_true.mp q (D, j) (List.mk_mem_zipIdx_iff_getElem?.mpr h2)
  exact of_decide_eq_true q
theorem kinds_ke {K : Frag} {E : Addr} {Cs : List Addr} (h : kindsB K E Cs = true) (C : Addr) (hC : C ∈ Cs) : kitOne K (.ref C) (.ref E) = some true ∧ kitOne K (.ref C) (.type "ValueError") = some true := by
  obtain ⟨_, h⟩ := and2 h
  obtain ⟨a, b⟩ := and2 (List.all_eq_true.mp h C hC)
  exact ⟨of_decide_eq_true a, of_decide_eq_true b⟩
end EK

set_option Elab.async false
set_option linter.all false
set_option maxRecDepth 100000
set_option maxHeartbeats 4000000
namespace T86
open PySem L2 EK
theorem all_mk {l : PySem.W.OpenLaw} {w : World} {K : PySem.W.Frag} {h : Heap} {mg : Str → Option Value} {fa C1 i1 : Addr} {t1 t2 : Tok} (X : K.In h) (G : h.Ns mainGlobals mg) (hfa : mg "law" = some (.ref fa))
    {fU : Addr} {odU anU : Option Addr} {slU : Array (Option Value)} {ocU kVU dcU pmU cdU ctU : Value}
    {fN : Addr} {odN anN : Option Addr} {slN : Array (Option Value)} {ocN kVN dcN pmN cdN ctN : Value}
    {fR : Addr} {odR anR : Option Addr} {slR : Array (Option Value)} {ocR kVR dcR pmR cdR ctR : Value}
    {fCN : Addr} {odCN anCN : Option Addr} {slCN : Array (Option Value)} {ocCN kVCN dcCN pmCN cdCN ctCN : Value}
    {f6 : Addr} {od6 an6 : Option Addr} {sl6 : Array (Option Value)} {oc6 kV6 dc6 pm6 cd6 ct6 : Value}
    {fRB : Addr} {odRB anRB : Option Addr} {slRB : Array (Option Value)} {ocRB kVRB dcRB pmRB cdRB ctRB : Value}
    {f8 : Addr} {od8 an8 : Option Addr} {sl8 : Array (Option Value)} {oc8 kV8 dc8 pm8 cd8 ct8 : Value}
    {f9 : Addr} {od9 an9 : Option Addr} {sl9 : Array (Option Value)} {oc9 kV9 dc9 pm9 cd9 ct9 : Value}
    {f0 : Addr} {od0 an0 : Option Addr} {sl0 : Array (Option Value)} {oc0 kV0 dc0 pm0 cd0 ct0 : Value}
    {fQ : Addr} {odQ anQ : Option Addr} {slQ : Array (Option Value)} {ocQ kVQ dcQ pmQ cdQ ctQ : Value}
    {fBR : Addr} {odBR anBR : Option Addr} {slBR : Array (Option Value)} {ocBR kVBR dcBR pmBR cdBR ctBR : Value}
    {fW : Addr} {odW anW : Option Addr} {slW : Array (Option Value)} {ocW kVW dcW pmW cdW ctW : Value}
    {fDR : Addr} {odDR anDR : Option Addr} {slDR : Array (Option Value)} {ocDR kVDR dcDR pmDR cdDR ctDR : Value}
    {fO : Addr} {odO anO : Option Addr} {slO : Array (Option Value)} {ocO kVO dcO pmO cdO ctO : Value}
    {fRW : Addr} {odRW anRW : Option Addr} {slRW : Array (Option Value)} {ocRW kVRW dcRW pmRW cdRW ctRW : Value}
    {fDV : Addr} {odDV anDV : Option Addr} {slDV : Array (Option Value)} {ocDV kVDV dcDV pmDV cdDV ctDV : Value}
    {fER : Addr} {odER anER : Option Addr} {slER : Array (Option Value)} {ocER kVER dcER pmER cdER ctER : Value}
    {fRG : Addr} {odRG anRG : Option Addr} {slRG : Array (Option Value)} {ocRG kVRG dcRG pmRG cdRG ctRG : Value}
    {fZ : Addr} {odZ anZ : Option Addr} {slZ : Array (Option Value)} {ocZ kVZ dcZ pmZ cdZ ctZ : Value}
    (T1 : ErrTxt l.prog K mg "NoRow" "row" C1 i1) 
    (aU : PySem.W.nsIn K mainGlobals "is_row" = some (some (.ref fU))) (lU : K.lookup fU = some ⟨ocU, odU, .func (PySem.W.fnOf "is_row" "is_row" (defArgs sIsRow) (defBody sIsRow) (defScope sIsRow) .none kVU dcU pmU anU cdU ctU), slU⟩) (cU : PySem.W.codeIn K cdU "is_row" = true) (kU : PySem.W.keepIn K (.ref fU) = true)
    (aN : PySem.W.nsIn K mainGlobals "is_number" = some (some (.ref fN))) (lN : K.lookup fN = some ⟨ocN, odN, .func (PySem.W.fnOf "is_number" "is_number" (defArgs sIsNum) (defBody sIsNum) (defScope sIsNum) .none kVN dcN pmN anN cdN ctN), slN⟩) (cN : PySem.W.codeIn K cdN "is_number" = true) (kN : PySem.W.keepIn K (.ref fN) = true)
    (aR : PySem.W.nsIn K mainGlobals "check_row" = some (some (.ref fR))) (lR : K.lookup fR = some ⟨ocR, odR, .func (PySem.W.fnOf "check_row" "check_row" (defArgs sCkRow) (defBody sCkRow) (defScope sCkRow) .none kVR dcR pmR anR cdR ctR), slR⟩) (cR : PySem.W.codeIn K cdR "check_row" = true) (kR : PySem.W.keepIn K (.ref fR) = true)
    (aCN : PySem.W.nsIn K mainGlobals "check_number" = some (some (.ref fCN))) (lCN : K.lookup fCN = some ⟨ocCN, odCN, .func (PySem.W.fnOf "check_number" "check_number" (defArgs sCkN) (defBody sCkN) (defScope sCkN) .none kVCN dcCN pmCN anCN cdCN ctCN), slCN⟩) (cCN : PySem.W.codeIn K cdCN "check_number" = true) (kCN : PySem.W.keepIn K (.ref fCN) = true)
    (a6 : PySem.W.nsIn K mainGlobals "step_back" = some (some (.ref f6))) (l6 : K.lookup f6 = some ⟨oc6, od6, .func (PySem.W.fnOf "step_back" "step_back" (defArgs sStep) (defBody sStep) (defScope sStep) .none kV6 dc6 pm6 an6 cd6 ct6), sl6⟩) (c6 : PySem.W.codeIn K cd6 "step_back" = true) (k6 : PySem.W.keepIn K (.ref f6) = true)
    (aRB : PySem.W.nsIn K mainGlobals "read_back" = some (some (.ref fRB))) (lRB : K.lookup fRB = some ⟨ocRB, odRB, .func (PySem.W.fnOf "read_back" "read_back" (defArgs sRead) (defBody sRead) (defScope sRead) .none kVRB dcRB pmRB anRB cdRB ctRB), slRB⟩) (cRB : PySem.W.codeIn K cdRB "read_back" = true) (kRB : PySem.W.keepIn K (.ref fRB) = true)
    (a8 : PySem.W.nsIn K mainGlobals "_way" = some (some (.ref f8))) (l8 : K.lookup f8 = some ⟨oc8, od8, .func (PySem.W.fnOf "_way" "_way" (defArgs sWay) (defBody sWay) (defScope sWay) .none kV8 dc8 pm8 an8 cd8 ct8), sl8⟩) (c8 : PySem.W.codeIn K cd8 "_way" = true) (k8 : PySem.W.keepIn K (.ref f8) = true)
    (a9 : PySem.W.nsIn K mainGlobals "_cross_out" = some (some (.ref f9))) (l9 : K.lookup f9 = some ⟨oc9, od9, .func (PySem.W.fnOf "_cross_out" "_cross_out" (defArgs sCross) (defBody sCross) (defScope sCross) .none kV9 dc9 pm9 an9 cd9 ct9), sl9⟩) (c9 : PySem.W.codeIn K cd9 "_cross_out" = true) (k9 : PySem.W.keepIn K (.ref f9) = true)
    (a0 : PySem.W.nsIn K mainGlobals "_read" = some (some (.ref f0))) (l0 : K.lookup f0 = some ⟨oc0, od0, .func (PySem.W.fnOf "_read" "_read" (defArgs sRd) (defBody sRd) (defScope sRd) .none kV0 dc0 pm0 an0 cd0 ct0), sl0⟩) (c0 : PySem.W.codeIn K cd0 "_read" = true) (k0 : PySem.W.keepIn K (.ref f0) = true)
    (aQ : PySem.W.nsIn K mainGlobals "_least_turn" = some (some (.ref fQ))) (lQ : K.lookup fQ = some ⟨ocQ, odQ, .func (PySem.W.fnOf "_least_turn" "_least_turn" (defArgs sLeast) (defBody sLeast) (defScope sLeast) .none kVQ dcQ pmQ anQ cdQ ctQ), slQ⟩) (cQ : PySem.W.codeIn K cdQ "_least_turn" = true) (kQ : PySem.W.keepIn K (.ref fQ) = true)
    (aBR : PySem.W.nsIn K mainGlobals "balanced_ring" = some (some (.ref fBR))) (lBR : K.lookup fBR = some ⟨ocBR, odBR, .func (PySem.W.fnOf "balanced_ring" "balanced_ring" (defArgs sBR) (defBody sBR) (defScope sBR) .none kVBR dcBR pmBR anBR cdBR ctBR), slBR⟩) (cBR : PySem.W.codeIn K cdBR "balanced_ring" = true) (kBR : PySem.W.keepIn K (.ref fBR) = true)
    (aW : PySem.W.nsIn K mainGlobals "_law_well" = some (some (.ref fW))) (lW : K.lookup fW = some ⟨ocW, odW, .func (PySem.W.fnOf "_law_well" "_law_well" (defArgs sWell) (defBody sWell) (defScope sWell) .none kVW dcW pmW anW cdW ctW), slW⟩) (cW : PySem.W.codeIn K cdW "_law_well" = true) (kW : PySem.W.keepIn K (.ref fW) = true)
    (aDR : PySem.W.nsIn K mainGlobals "_law_draw" = some (some (.ref fDR))) (lDR : K.lookup fDR = some ⟨ocDR, odDR, .func (PySem.W.fnOf "_law_draw" "_law_draw" (defArgs sDraw) (defBody sDraw) (defScope sDraw) .none kVDR dcDR pmDR anDR cdDR ctDR), slDR⟩) (cDR : PySem.W.codeIn K cdDR "_law_draw" = true) (kDR : PySem.W.keepIn K (.ref fDR) = true)
    (aO : PySem.W.nsIn K mainGlobals "_law_one" = some (some (.ref fO))) (lO : K.lookup fO = some ⟨ocO, odO, .func (PySem.W.fnOf "_law_one" "_law_one" (defArgs sOne) (defBody sOne) (defScope sOne) .none kVO dcO pmO anO cdO ctO), slO⟩) (cO : PySem.W.codeIn K cdO "_law_one" = true) (kO : PySem.W.keepIn K (.ref fO) = true)
    (aRW : PySem.W.nsIn K mainGlobals "_law_row" = some (some (.ref fRW))) (lRW : K.lookup fRW = some ⟨ocRW, odRW, .func (PySem.W.fnOf "_law_row" "_law_row" (defArgs sRow) (defBody sRow) (defScope sRow) .none kVRW dcRW pmRW anRW cdRW ctRW), slRW⟩) (cRW : PySem.W.codeIn K cdRW "_law_row" = true) (kRW : PySem.W.keepIn K (.ref fRW) = true)
    (aDV : PySem.W.nsIn K mainGlobals "_law_divisor" = some (some (.ref fDV))) (lDV : K.lookup fDV = some ⟨ocDV, odDV, .func (PySem.W.fnOf "_law_divisor" "_law_divisor" (defArgs sDiv) (defBody sDiv) (defScope sDiv) .none kVDV dcDV pmDV anDV cdDV ctDV), slDV⟩) (cDV : PySem.W.codeIn K cdDV "_law_divisor" = true) (kDV : PySem.W.keepIn K (.ref fDV) = true)
    (aER : PySem.W.nsIn K mainGlobals "_law_even_ring" = some (some (.ref fER))) (lER : K.lookup fER = some ⟨ocER, odER, .func (PySem.W.fnOf "_law_even_ring" "_law_even_ring" (defArgs sER) (defBody sER) (defScope sER) .none kVER dcER pmER anER cdER ctER), slER⟩) (cER : PySem.W.codeIn K cdER "_law_even_ring" = true) (kER : PySem.W.keepIn K (.ref fER) = true)
    (aRG : PySem.W.nsIn K mainGlobals "_law_right" = some (some (.ref fRG))) (lRG : K.lookup fRG = some ⟨ocRG, odRG, .func (PySem.W.fnOf "_law_right" "_law_right" (defArgs sRG) (defBody sRG) (defScope sRG) .none kVRG dcRG pmRG anRG cdRG ctRG), slRG⟩) (cRG : PySem.W.codeIn K cdRG "_law_right" = true) (kRG : PySem.W.keepIn K (.ref fRG) = true)
    (aZ : PySem.W.nsIn K mainGlobals "law" = some (some (.ref fZ))) (lZ : K.lookup fZ = some ⟨ocZ, odZ, .func (PySem.W.fnOf "law" "law" (defArgs sLaw) (defBody sLaw) (defScope sLaw) .none kVZ dcZ pmZ anZ cdZ ctZ), slZ⟩) (cZ : PySem.W.codeIn K cdZ "law" = true) (kZ : PySem.W.keepIn K (.ref fZ) = true)
    (y1 : PySem.W.nsIn K mainGlobals "LETTERS" = some (some (.str "abcdefghijklmnopqrstuvwxyz" t1))) (y2 : PySem.W.nsIn K mainGlobals "END" = some (some (.str "$" t2)))
    (z1 : PySem.W.nsIn K mainGlobals "isinstance" = some none) (z2 : PySem.W.nsIn K mainGlobals "str" = some none) (z3 : PySem.W.nsIn K mainGlobals "tuple" = some none) (z4 : PySem.W.nsIn K mainGlobals "all" = some none) (z5 : PySem.W.nsIn K mainGlobals "len" = some none) (z6 : PySem.W.nsIn K mainGlobals "min" = some none) (z7 : PySem.W.nsIn K mainGlobals "range" = some none) (z8 : PySem.W.nsIn K mainGlobals "sorted" = some none) (z9 : PySem.W.nsIn K mainGlobals "reversed" = some none) (z10 : PySem.W.nsIn K mainGlobals "enumerate" = some none) (z11 : PySem.W.nsIn K mainGlobals "int" = some none) (z12 : PySem.W.nsIn K mainGlobals "bool" = some none) :
    ∃ fd : FuncData, (∀ (s : Shared) (v : Value), BindsTo s fd ⟨[v], []⟩ [("_law_script", v)]) ∧ ∀ base : Heap, K.In base → base.Ns mainGlobals mg → FnOk l.prog w K mg base CX0 8 fa fd ["_law_script"] (spLaw K) := by
  have e := hfa.symm.trans (PySem.W.mg_of X G aZ)
  cases e
  have TD : TxtD K mg := ⟨PySem.W.mg_none_of X G z11, PySem.W.mg_none_of X G z5⟩
  have TC : TxtC K mg := ⟨PySem.W.mg_none_of X G z1, PySem.W.mg_none_of X G z2, PySem.W.mg_none_of X G z3, PySem.W.mg_none_of X G z4, PySem.W.mg_none_of X G z5, PySem.W.mg_none_of X G z6, PySem.W.mg_none_of X G z7, PySem.W.mg_none_of X G z8, PySem.W.mg_none_of X G z9, PySem.W.mg_none_of X G z10, ⟨_, PySem.W.mg_of X G y1, ⟨_, rfl⟩⟩, ⟨_, PySem.W.mg_of X G y2, ⟨_, rfl⟩⟩⟩
  have TN : TxtN K mg := ⟨PySem.W.mg_none_of X G z1, PySem.W.mg_none_of X G z11, PySem.W.mg_none_of X G z12, PySem.W.mg_none_of X G z5, PySem.W.mg_none_of X G z7, PySem.W.mg_none_of X G z6⟩
  have FU := fun_mk (st := sIsRow) lU cU kU
  have FN := fun_mk (st := sIsNum) lN cN kN
  have FR := fun_mk (st := sCkRow) lR cR kR
  have FCN := fun_mk (st := sCkN) lCN cCN kCN
  have F6 := fun_mk (st := sStep) l6 c6 k6
  have FRB := fun_mk (st := sRead) lRB cRB kRB
  have F8 := fun_mk (st := sWay) l8 c8 k8
  have F9 := fun_mk (st := sCross) l9 c9 k9
  have F0 := fun_mk (st := sRd) l0 c0 k0
  have FQ := fun_mk (st := sLeast) lQ cQ kQ
  have FBR := fun_mk (st := sBR) lBR cBR kBR
  have FW := fun_mk (st := sWell) lW cW kW
  have FDR := fun_mk (st := sDraw) lDR cDR kDR
  have FO := fun_mk (st := sOne) lO cO kO
  have FRW := fun_mk (st := sRow) lRW cRW kRW
  have FDV := fun_mk (st := sDiv) lDV cDV kDV
  have FER := fun_mk (st := sER) lER cER kER
  have FRG := fun_mk (st := sRG) lRG cRG kRG
  have FZ := fun_mk (st := sLaw) lZ cZ kZ
  have bU := FU.binds (ps := ["value"]) fun _ _ _ _ _ _ us hl => match us, hl with | [_], _ => rfl
  have bN := FN.binds (ps := ["value", "least"]) fun _ _ _ _ _ _ us hl => match us, hl with | [_, _], _ => rfl
  have bR := FR.binds (ps := ["row"]) fun _ _ _ _ _ _ us hl => match us, hl with | [_], _ => rfl
  have bCN := FCN.binds (ps := ["number", "least"]) fun _ _ _ _ _ _ us hl => match us, hl with | [_, _], _ => rfl
  have b6 := F6.binds (ps := ["row"]) fun _ _ _ _ _ _ us hl => match us, hl with | [_], _ => rfl
  have bRB := FRB.binds (ps := ["row"]) fun _ _ _ _ _ _ us hl => match us, hl with | [_], _ => rfl
  have b8 := F8.binds (ps := ["back", "place"]) fun _ _ _ _ _ _ us hl => match us, hl with | [_, _], _ => rfl
  have b9 := F9.binds (ps := ["unread", "way"]) fun _ _ _ _ _ _ us hl => match us, hl with | [_, _], _ => rfl
  have b0 := F0.binds (ps := ["row", "way"]) fun _ _ _ _ _ _ us hl => match us, hl with | [_, _], _ => rfl
  have bQ := FQ.binds (ps := ["word"]) fun _ _ _ _ _ _ us hl => match us, hl with | [_], _ => rfl
  have bBR := FBR.binds (ps := ["p", "q"]) fun _ _ _ _ _ _ us hl => match us, hl with | [_, _], _ => rfl
  have bW := FW.binds (ps := ["_law_cell"]) fun _ _ _ _ _ _ us hl => match us, hl with | [_], _ => rfl
  have bDR := FDR.binds (ps := ["_law_well_here", "_law_many"]) fun _ _ _ _ _ _ us hl => match us, hl with | [_, _], _ => rfl
  have bO := FO.binds (ps := ["_law_well_here", "_law_some"]) fun _ _ _ _ _ _ us hl => match us, hl with | [_, _], _ => rfl
  have bRW := FRW.binds (ps := ["_law_word"]) fun _ _ _ _ _ _ us hl => match us, hl with | [_], _ => rfl
  have bDV := FDV.binds (ps := ["_law_one_here", "_law_other"]) fun _ _ _ _ _ _ us hl => match us, hl with | [_, _], _ => rfl
  have bER := FER.binds (ps := ["_law_p", "_law_q"]) fun _ _ _ _ _ _ us hl => match us, hl with | [_, _], _ => rfl
  have bRG := FRG.binds (ps := ["_law_p", "_law_q"]) fun _ _ _ _ _ _ us hl => match us, hl with | [_, _], _ => rfl
  have gU := PySem.W.mg_of X G aU
  have gN := PySem.W.mg_of X G aN
  have gR := PySem.W.mg_of X G aR
  have gCN := PySem.W.mg_of X G aCN
  have g6 := PySem.W.mg_of X G a6
  have gRB := PySem.W.mg_of X G aRB
  have g8 := PySem.W.mg_of X G a8
  have g9 := PySem.W.mg_of X G a9
  have g0 := PySem.W.mg_of X G a0
  have gQ := PySem.W.mg_of X G aQ
  have gBR := PySem.W.mg_of X G aBR
  have gW := PySem.W.mg_of X G aW
  have gDR := PySem.W.mg_of X G aDR
  have gO := PySem.W.mg_of X G aO
  have gRW := PySem.W.mg_of X G aRW
  have gDV := PySem.W.mg_of X G aDV
  have gER := PySem.W.mg_of X G aER
  have gRG := PySem.W.mg_of X G aRG
  have gZ := PySem.W.mg_of X G aZ
  refine ⟨PySem.W.fnOf "law" "law" (defArgs sLaw) (defBody sLaw) (defScope sLaw) .none kVZ dcZ pmZ anZ cdZ ctZ, fun s v => .of_eq rfl, fun base _ _ => ?_⟩
  have GU : FnOk l.prog w K mg base CX0 1 fU _ ["value"] (spIsRow) := ok_isRow FU TC
  have GN : FnOk l.prog w K mg base CX0 1 fN _ ["value", "least"] (spNumber) := ok_isNumber FN TN
  have GR : FnOk l.prog w K mg base (L2.CX l.prog w) 3 fR _ ["row"] (spCkRow C1) := ok_ckRow FR T1 GU gU kU bU
  have GCN : FnOk l.prog w K mg base CX0 2 fCN _ ["number", "least"] (spCkN) := ok_ckN FCN GN gN kN bN
  have G6 : FnOk l.prog w K mg base (L2.CX l.prog w) 4 f6 _ ["row"] (spStep C1) := ok_step F6 TC GR gR kR bR
  have G8 : FnOk l.prog w K mg base CX0 1 f8 _ ["back", "place"] (spWay K) := ok_way F8
  have G9 : FnOk l.prog w K mg base CX0 1 f9 _ ["unread", "way"] (spCross K) := ok_cross F9
  have G0 : FnOk l.prog w K mg base CX0 1 f0 _ ["row", "way"] (spRd K) := ok_rd F0 TC
  have GQ : FnOk l.prog w K mg base CX0 1 fQ _ ["word"] (spLeast) := ok_least FQ TC
  have GRB : FnOk l.prog w K mg base (L2.CX l.prog w) 5 fRB _ ["row"] (spRead C1) := ok_read FRB TC G6 g6 k6 b6 G8 g8 k8 b8 G9 g9 k9 b9 G0 g0 k0 b0 GQ gQ kQ bQ
  have GBR : FnOk l.prog w K mg base CX0 6 fBR _ ["p", "q"] (spBR) := ok_BR FBR GCN gCN kCN bCN GRB gRB kRB bRB
  have GW : FnOk l.prog w K mg base CX0 1 fW _ ["_law_cell"] (spWell) := ok_well FW TD
  have GDR : FnOk l.prog w K mg base CX0 1 fDR _ ["_law_well_here", "_law_many"] (spDraw) := ok_draw FDR TD
  have GO : FnOk l.prog w K mg base CX0 2 fO _ ["_law_well_here", "_law_some"] (spOne) := ok_one FO TD FDR gDR bDR
  have GRW : FnOk l.prog w K mg base CX0 1 fRW _ ["_law_word"] (spRow) := ok_Row FRW TC
  have GDV : FnOk l.prog w K mg base CX0 1 fDV _ ["_law_one_here", "_law_other"] (spDiv) := ok_Div FDV TN
  have GER : FnOk l.prog w K mg base CX0 2 fER _ ["_law_p", "_law_q"] (spBR) := ok_ER FER TN GDV gDV kDV bDV
  have GRG : FnOk l.prog w K mg base CX0 7 fRG _ ["_law_p", "_law_q"] (spRG) := ok_RG FRG TN GBR gBR kBR bBR GER gER kER bER GRW gRW kRW bRW
  exact ok_law FZ TN GW gW kW bW GDR gDR kDR bDR GO gO kO bO GBR gBR kBR bBR GRG gRG kRG bRG
theorem walk {l : PySem.W.OpenLaw} {q : Program} {loose : List Str} {XP : (Str → Option Value) → Heap → Prop} {YP : World → Heap → Prop} {d : DefRec} {K : Params → PySem.W.Frag} (hn : l.most = some 63) (hdf : d.params.defaults = [])
    (hY : ∀ (w : World) (h : Heap), YP w h → (K w.params).In h)
    (F : ∀ (w : World) (mg : Str → Option Value) (fa : Addr) (h : Heap), (K w.params).In h → h.Ns mainGlobals mg → mg d.name = some (.ref fa) →
      ∃ fd : FuncData, (∀ (s : Shared) (u : Value), BindsTo s fd ⟨[u], []⟩ [("_law_script", u)]) ∧ ∀ base : Heap, (K w.params).In base → base.Ns mainGlobals mg → FnOk l.prog w (K w.params) mg base CX0 8 fa fd ["_law_script"] (spLaw (K w.params))) :
    PySem.W.WalkO q loose XP YP l.row.toRowW d [] (fun f vs => PySem.call f vs) :=
  L2.walk_of (n := 63) (k := 8) (x := "_law_script") (CX := fun _ => CX0) (sp := fun w => spLaw (K w.params)) hn (by decide) hdf ⟨rfl, by decide, by decide⟩ hY F (fun _ _ a ns hl _ hS => ⟨a, ns, rfl, hS, hl, fun _ => rfl⟩) fun _ _ _ _ _ z => z
end T86
open PySem PySem.W PyProof.Rows
set_option maxRecDepth 100000 in
set_option maxHeartbeats 0 in
theorem PySem.Challenge.cw_turnindex_k86_whole_balanced_rings_holds : PySem.Challenge.rw_turnindex_k86_whole_balanced_rings.Holds := by
  w_on; o_law; k_head; (case hw => w_witness2)
  k_fill
  refine T86.walk (l := PySem.Challenge.rw_turnindex_k86_whole_balanced_rings) rfl rfl (fun w h Y => PySem.W.kIn_of Y) ?F
  case F =>
    intro w mg fa h KX G hmg
    refine' T86.all_mk KX G hmg (EK.err_mk (x := "NoRow") (f := "row") KX G ?aC1 ?xL1 ?rv1 ?iC1 ?l11 ?c11 ?bd1 ?sc1 ?cd1 ?vf1 ?pf1 ?cL1 ?eB1 ?ho1 ?su1 ?fok1 ?top1)  ?paU ?plU ?pcU ?pkU ?paN ?plN ?pcN ?pkN ?paR ?plR ?pcR ?pkR ?paCN ?plCN ?pcCN ?pkCN ?pa6 ?pl6 ?pc6 ?pk6 ?paRB ?plRB ?pcRB ?pkRB ?pa8 ?pl8 ?pc8 ?pk8 ?pa9 ?pl9 ?pc9 ?pk9 ?pa0 ?pl0 ?pc0 ?pk0 ?paQ ?plQ ?pcQ ?pkQ ?paBR ?plBR ?pcBR ?pkBR ?paW ?plW ?pcW ?pkW ?paDR ?plDR ?pcDR ?pkDR ?paO ?plO ?pcO ?pkO ?paRW ?plRW ?pcRW ?pkRW ?paDV ?plDV ?pcDV ?pkDV ?paER ?plER ?pcER ?pkER ?paRG ?plRG ?pcRG ?pkRG ?paZ ?plZ ?pcZ ?pkZ ?y1 ?y2 ?z1 ?z2 ?z3 ?z4 ?z5 ?z6 ?z7 ?z8 ?z9 ?z10 ?z11 ?z12
    (case aC1 => k_is); (case xL1 => k_is); (case rv1 => kernel_rfl); (case iC1 => k_is); (case l11 => k_is); (case c11 => k_is); (case bd1 => exact fun _ _ => rfl); (case sc1 => exact fun L => ⟨_, rfl⟩); (case cd1 => k_is); (case vf1 => rfl); (case pf1 => kernel_rfl); (case cL1 => k_is); (case eB1 => kernel_rfl); (case ho1 => k_is); (case su1 => k_is); (case fok1 => exact ⟨by decide +kernel, by decide +kernel, by decide +kernel, by decide +kernel⟩); (case top1 => kernel_rfl)
    (case paU => k_is); (case plU => k_is); (case pcU => k_is); (case pkU => k_is)
    (case paN => k_is); (case plN => k_is); (case pcN => k_is); (case pkN => k_is)
    (case paR => k_is); (case plR => k_is); (case pcR => k_is); (case pkR => k_is)
    (case paCN => k_is); (case plCN => k_is); (case pcCN => k_is); (case pkCN => k_is)
    (case pa6 => k_is); (case pl6 => k_is); (case pc6 => k_is); (case pk6 => k_is)
    (case paRB => k_is); (case plRB => k_is); (case pcRB => k_is); (case pkRB => k_is)
    (case pa8 => k_is); (case pl8 => k_is); (case pc8 => k_is); (case pk8 => k_is)
    (case pa9 => k_is); (case pl9 => k_is); (case pc9 => k_is); (case pk9 => k_is)
    (case pa0 => k_is); (case pl0 => k_is); (case pc0 => k_is); (case pk0 => k_is)
    (case paQ => k_is); (case plQ => k_is); (case pcQ => k_is); (case pkQ => k_is)
    (case paBR => k_is); (case plBR => k_is); (case pcBR => k_is); (case pkBR => k_is)
    (case paW => k_is); (case plW => k_is); (case pcW => k_is); (case pkW => k_is)
    (case paDR => k_is); (case plDR => k_is); (case pcDR => k_is); (case pkDR => k_is)
    (case paO => k_is); (case plO => k_is); (case pcO => k_is); (case pkO => k_is)
    (case paRW => k_is); (case plRW => k_is); (case pcRW => k_is); (case pkRW => k_is)
    (case paDV => k_is); (case plDV => k_is); (case pcDV => k_is); (case pkDV => k_is)
    (case paER => k_is); (case plER => k_is); (case pcER => k_is); (case pkER => k_is)
    (case paRG => k_is); (case plRG => k_is); (case pcRG => k_is); (case pkRG => k_is)
    (case paZ => k_is); (case plZ => k_is); (case pcZ => k_is); (case pkZ => k_is)
    (case y1 => k_is)
    (case y2 => k_is)
    (case z1 => k_is); (case z2 => k_is); (case z3 => k_is); (case z4 => k_is); (case z5 => k_is); (case z6 => k_is); (case z7 => k_is); (case z8 => k_is); (case z9 => k_is); (case z10 => k_is); (case z11 => k_is); (case z12 => k_is)
