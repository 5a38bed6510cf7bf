import PyProof.Rows.All
import Wide.All
import OpenK.AllK
import Wide.FinOn
import KE.KExcSuper
import HandS.ForMost
import HandS.Exc
import HandS.ExcInit
import HandS.ExcField
import HandS.ExcValue
import HandS.Style
import HandS.Walk
import HandS.IsInst
import HandS.More
import KE.KExcIs
import PyProof.NeKinds
import KE.KEqDict
import HandS.ExcIs
import PySem.Challenge.RW_turnindex_k14_errors_by_hand
set_option Elab.async false
set_option linter.all false
set_option maxRecDepth 100000
set_option maxHeartbeats 4000000
/-! ErrKit: an error class of the program: __init__ says super().__init__(text), then keeps its one value. -/
namespace EK
open PySem PySem.W PySem.Calls PyProof.Rows PySem.HandSPX L2
/-! ### the text of such an __init__ -/
def eArgs (f : Str) (p1 p2 : Pos) : Arguments := { posonlyargs := [], args := [{ arg := "self", annotation := none, pos := p1 }, { arg := f, annotation := none, pos := p2 }], vararg := none, kwonlyargs := [], kw_defaults := [], kwarg := none, defaults := [] }
def eBody (f msg : Str) (a1 a2 a3 a4 a5 a6 b1 b2 b3 b4 : Pos) : List Stmt :=
  [.Expr (.Call (.Attribute (.Call (.Name "super" a1) [] [] a2) "__init__" a3) [.Constant (.str msg) 0 a4] [] a5) a6, .Assign [.Attribute (.Name "self" b1) f b2] (.Name f b3) b4]
def eScope (f : Str) : Scope := { kind := .function, names := [(PySem.Str.ofString "self", .local), (f, .local), (PySem.Str.ofString "__class__", .free), (PySem.Str.ofString "super", .globalImplicit)], isGenerator := false, isCoroutine := false, more := [] }

/-- the row super().__init__(msg) of the text, as a call of a method -/
def SupCall (a1 a2 a3 a4 a5 : Pos) (msg : Str) (env : Env) : Prop := ∃ pl : Sem Bool,
  eval (.Call (.Attribute (.Call (.Name "super" a1) [] [] a2) "__init__" a3) [.Constant (.str msg) 0 a4] [] a5) env = (do
    let ov ← attributeBase (.Call (.Name "super" a1) [] [] a2) "__init__" env (eval (.Call (.Name "super" a1) [] [] a2) env)
    standAt a3.atName
    let (g, first) ← holding [ov] (getMethod ov "__init__" pl)
    callWith a5 g first (backTo a5 (starEach [.Constant (.str msg) 0 a4] env)) [])
/-- what the top has written of the class x at C, of its __init__ at fI -/
structure ErrTxt (P : Program) (K : Frag) (mg : Str → Option Value) (x f : Str) (C fI : Addr) : Prop where
  gC : mg x = some (.ref C)
  cls : ∃ nm q N bs bm sn sub ab col dd k0 k1 k2 k3 k5, K.lookup C = some (excClassObj nm q C N bs bm true sn sub ab col dd k0 k1 k2 k3 k5 "ValueError.__new__") ∧ refsVE bm = true
  sa : findIn K (.ref C) "__setattr__" = some (some (.builtin "object.__setattr__"))
  ga : findIn K (.ref C) "__getattribute__" = some (some (.builtin "BaseException.__getattribute__"))
  gg : findIn K (.ref C) "__getattr__" = some none
  noN : findIn K (.ref C) f = some none
  iC : findIn K (.ref C) "__init__" = some (some (.ref fI))
  tC : typeIn K (.ref fI) = some (.type "function")
  kC : keepIn K (.ref C) = true
  exC : subIn K (.ref C) (.type "BaseException") = some true
  tyC : typeIn K (.ref C) = some (.type "type")
  hdC : hasDictIn K C = true
  te : exmOne K (.ref C) (.ref C) = some true
  hB : subIn K (.ref C) (.type "ValueError") = some true
  si : ks_superIn K C C "__init__" = some (some (.builtin "ValueError.__init__"))
  ho : nsIn K cStatics "thirdparty.any" = some none
  su : mg "super" = none
  mC : mroIn K C (.ref C) = some true
  fok : f ≠ "self" ∧ f ≠ "__class__" ∧ f ≠ "super" ∧ f ≠ "__debug__"
  top : (P.main.scope.names.lookup ("super" : Str)).isSome = false
  fn : ∃ (oc : Value) (od : Option Addr) (qn msg : Str) (doc pm : Value) (an : Option Addr) (cda cc : Addr) (ct : Value) (osl : Array (Option Value)) (p1 p2 a1 a2 a3 a4 a5 a6 b1 b2 b3 b4 : Pos),
    K.lookup fI = some ⟨oc, od, .func (ksFn "__init__" qn (eArgs f p1 p2) (eBody f msg a1 a2 a3 a4 a5 a6 b1 b2 b3 b4) (eScope f) .none .none doc pm an (.ref cda) ct cc), osl⟩ ∧ codeIn K (.ref cda) qn = true ∧
    (∀ u v : Value, bindArgs (ksFn "__init__" qn (eArgs f p1 p2) (eBody f msg a1 a2 a3 a4 a5 a6 b1 b2 b3 b4) (eScope f) .none .none doc pm an (.ref cda) ct cc) ⟨[u, v], []⟩ = pure [(("self" : Str), u), (f, v)]) ∧
    (∀ L : Addr, SupCall a1 a2 a3 a4 a5 msg (callEnv (ksFn "__init__" qn (eArgs f p1 p2) (eBody f msg a1 a2 a3 a4 a5 a6 b1 b2 b3 b4) (eScope f) .none .none doc pm an (.ref cda) ct cc) L fI)) ∧
    (∃ (ccl : Value) (cdd : Option Addr) (ccs : Array (Option Value)) (vs : Array Value) (file : Str) (tf : Tok), K.lookup cda = some ⟨ccl, cdd, .fields vs, ccs⟩ ∧ vs[2]? = some (.str file tf) ∧ ((P.main.file : Str) == file) = true) ∧
    ∃ (cl : Value) (cld : Option Addr) (csl : Array (Option Value)), K.lookup cc = some ⟨cl, cld, .cell (some (.ref C)), csl⟩
theorem one_size (v : Value) : [v].length ≤ sizeLine := by
  rw [sizeLine_eq]
  exact (by decide : 1 ≤ 16777216)
/-- what __init__ leaves of the exception at y -/
structure MadeI (h h' : Heap) (y C dx : Addr) (f : Str) (v : Value) : Prop where
  keep : ∀ b o, b ≠ y → h.get? b = some o → h'.get? b = some o
  obj : ∃ t1 : Addr, h'.get? y = some { cls := .ref C, dict := some dx, data := .fields #[.ref t1, .none, .none, .none, .bool false, .none] }
  dbig : h.objs.size ≤ dx
  dne : dx ≠ y
  ns : h'.Ns1 dx (fun z => if z = f then some v else none)
theorem kept_but {K : Frag} {h h' : Heap} {x : Addr} (X : K.In h) (hx : K.lookup x = none) (k : ∀ b o, b ≠ x → h.get? b = some o → h'.get? b = some o) : K.In h' := fun a o e =>
  k a o (fun z => by rw [z, hx] at e; cases e) (X a o e)
section
variable {prog : Program} {w : World} {A : Around} {E : Value → Shared → Prop} {R : Result → Shared → Prop} {s : Shared} {K : Frag} {mg : Str → Option Value} {C fI : Addr} {x f : Str}
/-- the method-wrapper that super().__init__ gives is called -/
theorem call_mw {u e t0 : Addr} {rest : List Value} {nm q : Str} {C N : Addr} {bs bm : List Value} {hdct : Bool} {sn : List Str} {sub : List Value} {ab : Bool} {col : Option Bool} {dd : Option Addr} {k0 k1 k2 k3 k5 : Option Value} {Q : Value → Shared → Prop}
    (hC : s.heap.get? C = some (excClassObj nm q C N bs bm hdct sn sub ab col dd k0 k1 k2 k3 k5 "ValueError.__new__")) (he : s.heap.get? e = some (excO C t0)) (hu : s.heap.get? u = some (kxs_mw "ValueError.__init__" e)) (hrest : rest.length ≤ sizeLine)
    (hq : ∀ h' t1, (∀ b o, b ≠ e → s.heap.get? b = some o → h'.get? b = some o) → h'.get? e = some (excO C t1) → Q .none { s with heap := h' }) :
    wpAny (model prog w) A (call (.ref u) rest) Q E s := by
  obtain ⟨hh, g, d, tk, os⟩ := s
  refine wpAny_call (codeAny_of_tree ?_)
  show wpAny _ A.in1 (callAny (.ref u) ⟨rest, []⟩) _ _ _
  simp only [callAny]
  refine wpAny_bind (wpAny_load hu ?_)
  simp only [kxs_mw, show (Value.type "method-wrapper" == Value.type "method" || Value.type "method-wrapper" == Value.type "builtin_function_or_method" || Value.type "method-wrapper" == Value.type "method-wrapper") = true by decide, if_true]
  refine KFB.if_so (by decide) ?_
  refine wpAny_bind (check_bound_init F.excBase_ValueError.toExcCallFacts hC he rfl ?_)
  refine wpAny_bind (wpAny_pure (wpAny_pure ?_))
  refine ⟨plainId_quiet F.excBase_ValueError.init.plain _, codeAny_builtin F.excBase_ValueError.initEntry ?_⟩
  exact exc_init_tree (cls := .ref C) (t0 := t0) (dv := none) (c2 := .none) (c3 := .none) (b4 := .bool false) he hrest fun h' k o _ => hq h' _ k o
theorem look_self (f : Str) : (eScope f).names.lookup ("self" : Str) = some .local := by
  show List.lookup ("self" : Str) ((("self" : Str), NameKind.local) :: _) = _
  rw [List.lookup_cons]
  simp
theorem look_f {f : Str} (h : f ≠ "self") : (eScope f).names.lookup f = some .local := by
  have e : (f == ("self" : Str)) = false := by simpa using h
  show List.lookup f ((("self" : Str), NameKind.local) :: (f, NameKind.local) :: _) = _
  rw [List.lookup_cons, e, List.lookup_cons]
  simp
theorem look_cls {f : Str} (h : f ≠ "__class__") : (eScope f).names.lookup ("__class__" : Str) = some .free := by
  have e : ((("__class__" : Str)) == f) = false := by simpa using Ne.symm h
  have e2 : ((("__class__" : Str)) == ("self" : Str)) = false := by decide +kernel
  show List.lookup ("__class__" : Str) ((("self" : Str), NameKind.local) :: (f, NameKind.local) :: (("__class__" : Str), NameKind.free) :: _) = _
  rw [List.lookup_cons, e2, List.lookup_cons, e, List.lookup_cons]
  simp
theorem look_super {f : Str} (h : f ≠ "super") : (eScope f).names.lookup ("super" : Str) = some .globalImplicit := by
  have e : ((("super" : Str)) == f) = false := by simpa using Ne.symm h
  have e2 : ((("super" : Str)) == ("self" : Str)) = false := by decide +kernel
  have e3 : ((("super" : Str)) == ("__class__" : Str)) = false := by decide +kernel
  show List.lookup ("super" : Str) ((("self" : Str), NameKind.local) :: (f, NameKind.local) :: (("__class__" : Str), NameKind.free) :: (("super" : Str), NameKind.globalImplicit) :: []) = _
  rw [List.lookup_cons, e2, List.lookup_cons, e, List.lookup_cons, e3, List.lookup_cons]
  simp
theorem bl_self {f : Str} (h : f ≠ "self") (a v : Value) : List.lookup ("self" : Str) ([(("self" : Str), a), (f, v)].reverse) = some a := by
  have e : ((("self" : Str)) == f) = false := by simpa using Ne.symm h
  show List.lookup ("self" : Str) ((f, v) :: (("self" : Str), a) :: []) = _
  rw [List.lookup_cons, e, List.lookup_cons]
  simp
theorem bl_f {f : Str} (a v : Value) : List.lookup f ([(("self" : Str), a), (f, v)].reverse) = some v := by
  show List.lookup f ((f, v) :: (("self" : Str), a) :: []) = _
  rw [List.lookup_cons]
  simp
theorem err_init (T : ErrTxt prog K mg x f C fI) {y t0 : Addr} {v : Value} (X : K.In s.heap) (hlim : s.heap.NoLimit) (hg : s.heap.Ns mainGlobals mg) (hb : ∃ mb, s.heap.Ns builtinsNs mb ∧ ∀ z : Str, z ≠ "__name__" → mb z = bootBuiltins z)
    (hx : s.heap.get? y = some (excO C t0)) (hnx : K.lookup y = none) (hroom : A.depth < recursionLimit)
    (hq : ∀ h' tk dx, MadeI s.heap h' y C dx f v → R (.ok (.ret .none)) { s with heap := h', toks := tk }) :
    codeAny (model prog w) A (.call (.ref fI) ⟨[.ref y, v], []⟩) R s := by
  obtain ⟨oc, od, qn, msg, doc, pm, an, cda, cc, ct, osl, p1, p2, a1, a2, a3, a4, a5, a6, b1, b2, b3, b4, ho, hcd, hB, hS, ⟨ccl, cdd, ccs, vs, file, tf, hcda, hvs, hfile⟩, ⟨cl, cld, csl, hcell⟩⟩ := T.fn
  obtain ⟨nm, q, N, bs, bm, sn, sub, ab, col, dd, k0, k1, k2, k3, k5, hC, hbm⟩ := T.cls
  obtain ⟨mb, hbn, hbv⟩ := hb
  obtain ⟨hf1, hf2, hf3, hf4⟩ := T.fok
  have hcl : clsIn K C = some { name := nm, bases := bs, mro := .ref C :: bm, ns := N, qualname := q, hasDict := true, slotNames := sn, subclasses := sub, abstract := ab, collection := col, hasDel := false } := by unfold clsIn; rw [hC] <;> rfl
  refine ks_codeAny_call_defAt (fd := ksFn "__init__" qn (eArgs f p1 p2) (eBody f msg a1 a2 a3 a4 a5 a6 b1 b2 b3 b4) (eScope f) .none .none doc pm an (.ref cda) ct cc) (body := eBody f msg a1 a2 a3 a4 a5 a6 b1 b2 b3 b4) (binds := [(("self" : Str), Value.ref y), (f, v)]) hroom (X _ _ ho) rfl hlim (codeRec_of X hcd) rfl (BindsTo.of_eq (hB _ _)) ?_ ?_ (fun h₁ hns k => ?_) rfl rfl rfl
  · intro z hz
    rcases List.mem_cons.mp hz with rfl | hz
    · exact fun e => nomatch e
    rcases List.mem_cons.mp hz with rfl | hz
    · exact fun e => nomatch e
    rcases List.mem_cons.mp hz with rfl | hz
    · exact fun e => nomatch e
    rcases List.mem_cons.mp hz with rfl | hz
    · exact fun e => nomatch e
    · cases hz
  · intro z hz
    rcases List.mem_cons.mp hz with rfl | hz
    · exact look_self f
    rcases List.mem_cons.mp hz with rfl | hz
    · exact look_f hf1
    · cases hz
  · have X₁ : K.In h₁ := X.keeps k
    have hyL : s.heap.objs.size ≠ y := Nat.ne_of_gt (Heap.lt_size hx)
    have ks : (callEnv (ksFn "__init__" qn (eArgs f p1 p2) (eBody f msg a1 a2 a3 a4 a5 a6 b1 b2 b3 b4) (eScope f) .none .none doc pm an (.ref cda) ct cc) s.heap.objs.size fI).kindOf "super" = some .globalImplicit := look_super hf3
    obtain ⟨oD, hD⟩ : ∃ oD, h₁.get? C = some oD ∧ ∃ cd : ClassData, oD.data = .cls cd := ⟨_, X₁ _ _ hC, _, rfl⟩
    obtain ⟨hD1, cdD, hD2⟩ := hD
    have IY : ∀ {h : Heap}, h.get? y = some (excO C t0) → InstAt h y (excO C t0) C none := fun e => ⟨e, rfl, rfl, trivial⟩
    have hyC : y ≠ C := fun z => by rw [z, hC] at hnx; cases hnx
    obtain ⟨pl, hpl⟩ := hS s.heap.objs.size
    refine ks_wpAt_execs_cons (ks_wpAt_Expr_any (ks_wpAt_MethodCall ?_ hpl) (by rfl) (by rfl))
    refine ks_wpAt_super_base ks (look_cls hf2) (by decide +kernel) rfl (X₁ _ _ ho) rfl rfl rfl (X₁ _ _ hcda) rfl hvs hfile T.top ?_
    refine ks_loadName_global rfl ks (loadGlobal_builtin (hg.keeps k) T.su (hbn.keeps k) (hbv _ (by decide +kernel)) ⟨by rfl, ?_⟩)
    refine wpAny_loadName_free rfl (look_cls hf2) rfl ⟨_, X₁ _ _ hcell, rfl⟩ ?_
    refine wpAny_loadName_local rfl (look_self f) hns (bl_self hf1 _ _) ?_
    refine ks_wpAny_isType_cls hD1 hD2 ⟨rfl, ?_⟩
    refine ks_wpAny_call_super hD1 hD2 (k _ _ hx) rfl (fun c e => nomatch e) (looks_mroIn X₁ T.mC) (fun h2 hso k2 => ?_)
    have X2 : K.In h2 := X₁.keeps k2
    refine kxs_getMethod kxs_ValueError hso (looks_opaque X2 T.ho) (l₀ := .ref C :: bm) ((looks_clsIn X2 hcl).andThen .now) rfl X2 ?_ ((IY (k2 _ _ (k _ _ hx))).type.andThen (looks_subIn X2 T.hB)) hyC (by decide +kernel) ?_
    · have e := T.si
      unfold ks_superIn at e
      rw [hcl] at e
      exact e
    have k3 : ∀ b o, h2.get? b = some o → (h2.push (kxs_mw "ValueError.__init__" y)).get? b = some o := fun b o e => Heap.get?_push_of_some _ e
    have hu : (h2.push (kxs_mw "ValueError.__init__" y)).get? h2.objs.size = some (kxs_mw "ValueError.__init__" y) := Heap.get?_push_at rfl rfl
    refine kxs_callWith (i := "ValueError.__init__") (x := y) (by rfl) (evalArgs_plain (Calls.spliced_cons (Calls.Constant_str (k := 0) (pos := a4) (Calls.spliced_nil ⟨hu, ?_⟩))))
    refine call_mw (X2.keeps k3 _ _ hC) (k3 _ _ (k2 _ _ (k _ _ hx))) hu (one_size _) fun h4 t1 k4 hy4 => ?_
    have X4 : K.In h4 := kept_but (X2.keeps k3) hnx k4
    have kk : ∀ b o, b ≠ y → h₁.get? b = some o → h4.get? b = some o := fun b o n e => k4 b o n (k3 b o (k2 b o e))
    have n4 : h4.Ns s.heap.objs.size fun z => [(("self" : Str), Value.ref y), (f, v)].reverse.lookup z := by
      obtain ⟨o, es, ep, e1, r⟩ := hns
      exact ⟨o, es, ep, kk _ _ hyL e1, r⟩
    have hfd : (f == ("__debug__" : Str)) = false := by simpa using hf4
    refine wpAt_of_wpAny (wpAny_execs_cons (plainObj_wpAny_Assign_Attribute ?_))
    refine wpAny_Name (wpAny_loadName_local rfl (look_f hf1) n4 (bl_f _ _) ?_) hfd
    refine wpAny_Name (wpAny_loadName_local rfl (look_self f) n4 (bl_self hf1 _ _) ?_) (by decide +kernel)
    refine set_plain X4 (ox := excO C t1) (od := none) ⟨hy4, rfl, rfl, trivial⟩ T.sa ?_
    refine exc_osa X4 hy4 hcl (show refsVE (.ref C :: bm) = true from hbm) rfl T.noN (fun h5 tk5 dx k5 dn dne hx5 hn5 => ?_)
    refine wpAny_execs_nil (hq h5 tk5 dx ⟨fun b o hb e => k5 b o hb (kk b o hb (k b o e)), ⟨_, hx5⟩, ?_, dne, hn5⟩)
    have z1 : s.heap.objs.size < h4.objs.size := n4.lt
    exact Nat.le_of_lt (Nat.lt_of_lt_of_le z1 dn)
/-- an error that was made: the object at e, its own dict at d -/
structure MadeE (h h' : Heap) (e C d : Addr) (f : Str) (v : Value) : Prop where
  keep : ∀ b o, h.get? b = some o → h'.get? b = some o
  new : h.objs.size ≤ e
  obj : ∃ t1 : Addr, h'.get? e = some { cls := .ref C, dict := some d, data := .fields #[.ref t1, .none, .none, .none, .bool false, .none] }
  dbig : h.objs.size ≤ d
  dne : d ≠ e
  ns : h'.Ns1 d (fun z => if z = f then some v else none)
theorem not_in {K : Frag} {h : Heap} {a : Addr} (X : K.In h) (ha : h.objs.size ≤ a) : K.lookup a = none := by
  cases e : K.lookup a with
  | none => rfl
  | some o => exact absurd (Nat.lt_of_lt_of_le (Heap.lt_size (X _ _ e)) ha) (Nat.lt_irrefl _)
theorem err_made (T : ErrTxt prog K mg x f C fI) {v : Value} (X : K.In s.heap) (hlim : s.heap.NoLimit) (hg : s.heap.Ns mainGlobals mg) (hb : ∃ mb, s.heap.Ns builtinsNs mb ∧ ∀ z : Str, z ≠ "__name__" → mb z = bootBuiltins z)
    (hroom : A.depth + 1 < recursionLimit) (hq : ∀ h' tk e d, MadeE s.heap h' e C d f v → R (.ok (.ret (.ref e))) { s with heap := h', toks := tk }) :
    codeAny (model prog w) A (.call (.ref C) ⟨[v], []⟩) R s := by
  obtain ⟨nm, q, N, bs, bm, sn, sub, ab, col, dd, k0, k1, k2, k3, k5, hC, hbm⟩ := T.cls
  obtain ⟨mb, hbn, hbv⟩ := hb
  obtain ⟨hp, g, dr, tk, os⟩ := s
  have k : ∀ b o, hp.get? b = some o → ((hp.push (kdv_tup [v])).push (excO C hp.objs.size)).get? b = some o := fun b o e => Heap.get?_push_of_some _ (Heap.get?_push_of_some _ e)
  have hget : ((hp.push (kdv_tup [v])).push (excO C hp.objs.size)).get? (hp.objs.size + 1) = some (excO C hp.objs.size) := by heap_get
  have hnx : K.lookup (hp.objs.size + 1) = none := not_in X (Nat.le_succ _)
  refine call_own F.excBase_ValueError (fun X => refsVE_contains X bm hbm) (X _ _ hC) (looks_findIn X T.iC) (fun self => bind_fn X self T.tC) (one_size v) ?_
  refine err_init (s := ⟨(hp.push (kdv_tup [v])).push (excO C hp.objs.size), g, dr, tk, os⟩) T (X.keeps k) (hlim.keeps k) (hg.keeps k) ⟨mb, hbn.keeps k, hbv⟩ hget hnx ?_ fun h' tk' dx ⟨k', ⟨t1, hx⟩, dn, dne, hns⟩ => ?_
  · show A.depth + 1 < recursionLimit
    exact hroom
  · have old : ∀ b o, hp.get? b = some o → h'.get? b = some o := fun b o e => k' b o (Nat.ne_of_lt (Nat.lt_succ_of_lt (Heap.lt_size e))) (k b o e)
    have z : hp.objs.size + 1 + 1 ≤ dx := by
      have q := dn
      rw [Heap.size_push, Heap.size_push] at q
      exact q
    exact ⟨rfl, hq h' tk' (hp.objs.size + 1) dx ⟨old, Nat.le_succ _, ⟨t1, hx⟩, Nat.le_trans (Nat.le_trans (Nat.le_succ _) (Nat.le_succ _)) z, dne, hns⟩⟩
end
end EK
namespace L2
open PySem PySem.Spec PyProof.Rows EK
theorem relO_one {f : Str} {v : V} {u : Value} (r : RelV v u) (g : Str) : RelO (List.lookup g [(f, v)]) (if g = f then some u else none) := relO_put (fs := []) (mA := fun _ => none) r (fun _ => True.intro) g
section
variable {X : Cx} {C fI : Addr} {x f : Str}
/-- x(e) as a value: a new error at a, its dict at d -/
def tErrV (C : Addr) (f : Str) (ta : TA) : TE := fun σ H Q => ta σ H fun vs H1 => ∃ v, vs = [v] ∧ ∀ a d, H1 a = none → H1 d = none → d ≠ a → Q (.ref a) (upd (upd H1 d (exd d [(f, v)])) a (exo a C (some d)))
theorem pe_errV {a : Expr} {ta : TA} {p pos : Pos} {k : Nat} (T : ErrTxt X.prog X.K X.mg x f C fI) (hr : Room k X.A) (ha : PA X [a] ta) (hg : Gl X x) (hd : (x == ("__debug__" : Str)) = false := by decide)
    (he : starEach (a :: []) X.env = (false, eval a X.env) :: starEach [] X.env := by rfl) (hpl : (backTo pos (starEach [] X.env)).any (·.1) = false := by rfl) :
    PE X (.Call (.Name x p) [a] [] pos) (tErrV C f ta) := by
  refine ⟨fun pins s σ H Q I h => ?_⟩
  refine wpAny_Call_Name_kw (ld_glob I hg T.gC ?_ hd)
  refine PySem.W.callWith_K (h₀ := X.base) I.ok.mod.kin T.kC (thn (ha.run pos pins s σ H _ I h) fun us s1 hh => ?_) he hpl
  obtain ⟨vs, H1, I1, r1, v, ev, q1⟩ := hh
  subst ev
  refine ⟨I1.kIn, ?_⟩
  cases r1 with
  | cons rv rn =>
    rename_i v' us'
    cases rn
    show wpAny _ _ (call (.ref C) [v']) _ _ _
    have hlim := I1.nolimit
    obtain ⟨hp, g, dr, tk, os⟩ := s1
    obtain ⟨mb, hb1, hb2⟩ := I1.mod.blt
    refine wpAny_call (err_made T I1.kIn hlim (I1.mod.glob.keeps I1.bk) ⟨mb, hb1.keeps I1.bk, hb2⟩ (by have := hr.dp; omega) fun h' tk' e d M => ?_)
    obtain ⟨t1, hoe⟩ := M.obj
    have nd : H1 d = none := I1.hok.fresh M.dbig
    have ne : H1 e = none := I1.hok.fresh M.new
    obtain ⟨G, g1, g2⟩ := restrict h' fun b => decide (b ≠ e)
    have gk : ∀ b, b ≠ e → G.get? b = h'.get? b := fun b hb => g1 b (decide_eq_true hb)
    have ge : G.get? e = none := g2 e (by simp)
    have old : ∀ b o, hp.get? b = some o → G.get? b = some o := fun b o q => (gk b (Nat.ne_of_lt (Nat.lt_of_lt_of_le (Heap.lt_size q) M.new))).trans (M.keep b o q)
    have gs : ∀ b o, G.get? b = some o → h'.get? b = some o := fun b o q => by
      by_cases hbe : b = e
      · rw [hbe, ge] at q
        cases q
      · exact (gk b hbe).symm.trans q
    have J : Inv X pins σ (upd H1 d (exd d [(f, v)])) ⟨G, g, dr, tk', os⟩ := I1.laid (t' := tk') old M.dbig (exd_ok (M.ns.at fun o q => (gk d M.dne).trans q) (relO_one rv))
    have hne : (upd H1 d (exd d [(f, v)])) e = none := by
      rw [upd_ne (Ne.symm M.dne)]
      exact ne
    exact ⟨.ref e, _, J.laidN (t' := tk') gs ge hne (exo_ok hoe), rfl, q1 e d ne nd M.dne⟩
/-- a field of an error, read -/
def tErrF (K : PySem.W.Frag) (f : Str) (te : TE) : TE := fun σ H Q => te σ H fun x H1 => ∃ (a C d : Addr) (fs : List (Str × V)) (v : V), x = .ref a ∧ H1 a = some (exo a C (some d)) ∧ H1 d = some (exd d fs) ∧ XfC K C ∧ PySem.W.findIn K (.ref C) f = some none ∧ fs.lookup f = some v ∧ Q v H1
theorem pe_errF {e : Expr} {te : TE} {pos : Pos} (he : PE X e te) (hb : attributeBase e f X.env (eval e X.env) = eval e X.env := by rfl) : PE X (.Attribute e f pos) (tErrF X.K f te) := by
  refine ⟨fun pins s σ H Q I h => ?_⟩
  refine attr_of hb (thn (he.run pins s σ H _ I h) fun u s1 hh => ?_)
  obtain ⟨y, H1, I1, ry, a, C, d, fs, v, ey, ea, ed, T, hno, l, q⟩ := hh
  subst ey
  obtain rfl : u = Value.ref a := ry
  obtain ⟨t1, ha⟩ := exo_at I1.hok ea
  obtain ⟨mA, hns, hr⟩ := exd_at I1.hok ed
  obtain ⟨od, ho, hl⟩ := lookIn_ns hns
  obtain ⟨u, hu, ru⟩ := RelO.some_of (v := v) (o := mA f) (by rw [← l]; exact hr f)
  have J : PySem.W.InstAt s1.heap a _ C (some od) := ⟨ha, rfl, rfl, ho⟩
  exact HandSPX.exc_get I1.kIn J T.ga T.gg T.exC (PySem.W.findObj_own T.hdC hno rfl (by rw [hl, hu])) (handed_of ru) ⟨v, H1, I1.tok _, ru, q⟩
end
end L2

set_option Elab.async false
set_option linter.all false
set_option maxRecDepth 100000
set_option maxHeartbeats 4000000
/-! EqKit: things that are told equal, whatever they hold; isinstance of errors. -/
namespace L2
open PySem PySem.Spec PyProof.Rows
/-- x and y compare equal, at most n deep: one thing, or lists, tuples of such -/
inductive Sm (K : PySem.W.Frag) (H : Hp) : Nat → V → V → Prop
  | rf {n : Nat} (x : V) (h : ∀ b, x ≠ .flt b) : Sm K H n x x
  | ls {n : Nat} {a b : Addr} {xs ys : List V} (h1 : SqL K H a xs) (h2 : SqL K H b ys) (hl : xs.length = ys.length) (h : ∀ (i : Nat) x y, xs[i]? = some x → ys[i]? = some y → Sm K H n x y) : Sm K H (n + 1) (.ref a) (.ref b)
  | tp {n : Nat} {a b : Addr} {xs ys : List V} (h1 : SqT K H a xs) (h2 : SqT K H b ys) (hl : xs.length = ys.length) (h : ∀ (i : Nat) x y, xs[i]? = some x → ys[i]? = some y → Sm K H n x y) : Sm K H (n + 1) (.ref a) (.ref b)
section
variable {X : Cx} {pins : List (Addr × Obj)} {σ : St} {H : Hp} {s : Shared}
theorem sm_items {xs ys : List V} {us vs : List Value} {A : Around} (rx : Vals xs us) (ry : Vals ys vs)
    (h : ∀ (i : Nat) x y, xs[i]? = some x → ys[i]? = some y → ∀ u v, RelV x u → RelV y v → SeqAt.EqAt A s u v true) :
    ∀ j (h1 : j < us.toArray.size) (h2 : j < vs.toArray.size), SeqAt.EqAt A s us.toArray[j] vs.toArray[j] true := by
  intro j h1 h2
  have l1 := rx.length
  have l2 := ry.length
  have j1 : j < xs.length := by rw [l1]; simpa using h1
  have j2 : j < ys.length := by rw [l2]; simpa using h2
  obtain ⟨u, e1, r1⟩ := rx.get (List.getElem?_eq_getElem j1)
  obtain ⟨v, e2, r2⟩ := ry.get (List.getElem?_eq_getElem j2)
  have f1 : us.toArray[j] = u := by
    have q : us[j]? = some (us[j]'(by simpa using h1)) := List.getElem?_eq_getElem _
    rw [e1] at q
    simpa using (Option.some.inj q).symm
  have f2 : vs.toArray[j] = v := by
    have q : vs[j]? = some (vs[j]'(by simpa using h2)) := List.getElem?_eq_getElem _
    rw [e2] at q
    simpa using (Option.some.inj q).symm
  rw [f1, f2]
  exact h j _ _ (List.getElem?_eq_getElem j1) (List.getElem?_eq_getElem j2) u v r1 r2
theorem all_true {n : Nat} : ((List.range n).all fun _ => true) = true := by
  induction n with
  | zero => rfl
  | succ n ih => simp
theorem sm_at (I : Inv X pins σ H s) : ∀ {n : Nat} {x y : V} {u v : Value} {A : Around}, Sm X.K H n x y → RelV x u → RelV y v → A.units + n < cLine → SeqAt.EqAt A s u v true := by
  intro n x y u v A h
  induction h generalizing u v A with
  | rf x hf =>
    intro r1 r2 _
    cases x with
    | non => cases r1; cases r2; exact .same _
    | bl b => cases r1; cases r2; exact .same _
    | int i =>
      obtain ⟨t, rfl⟩ := r1
      obtain ⟨t', rfl⟩ := r2
      have q := SeqAt.EqAt.int_int (A := A) (s := s) i t i t'
      rw [beq_self_eq_true] at q
      exact q
    | str z =>
      obtain ⟨t, rfl⟩ := r1
      obtain ⟨t', rfl⟩ := r2
      have q := SeqAt.EqAt.str_str (A := A) (s := s) z t z t'
      rw [beq_self_eq_true] at q
      exact q
    | byt b =>
      obtain ⟨t, rfl⟩ := (show ∃ t, u = Value.bytes b t from r1)
      obtain ⟨t', rfl⟩ := (show ∃ t, v = Value.bytes b t from r2)
      exact fun prog w E Q h => PySem.W.eqBool_bytes (by simpa using h)
    | flt b => exact absurd rfl (hf b)
    | ref a => cases r1; cases r2; exact .same _
    | ty n => cases r1; cases r2; exact .same _
  | @ls n a b xs ys h1 h2 hl _ ih =>
    intro r1 r2 hu
    cases r1; cases r2
    by_cases e : a = b
    · rw [e]; exact .same _
    · obtain ⟨us, ru, ⟨o, m, ho, hc, _, hd⟩, _⟩ := I.list h1
      obtain ⟨vs, rv, ⟨o', m', ho', hc', _, hd'⟩, _⟩ := I.list h2
      have hs : us.toArray.size = vs.toArray.size := by simp only [List.size_toArray]; rw [← ru.length, ← rv.length, hl]
      refine .of_refs e ?_
      have q := SeqAt.RcAt.lists (A := A) (s := s) (e := fun _ => true) ⟨o, ho, hc, m, hd⟩ ⟨o', ho', hc', m', hd'⟩ hs (by omega) (sm_items (A := A.in1) ru rv fun i x y e1 e2 u v s1 s2 => ih i x y e1 e2 s1 s2 (by show A.units + 1 + n < cLine; omega))
      rw [all_true] at q
      exact q
  | @tp n a b xs ys h1 h2 hl _ ih =>
    intro r1 r2 hu
    cases r1; cases r2
    by_cases e : a = b
    · rw [e]; exact .same _
    · obtain ⟨us, ru, ⟨o, ho, hc, m, hd⟩, _⟩ := I.tuple h1
      obtain ⟨vs, rv, ⟨o', ho', hc', m', hd'⟩, _⟩ := I.tuple h2
      have hs : us.toArray.size = vs.toArray.size := by simp only [List.size_toArray]; rw [← ru.length, ← rv.length, hl]
      refine .of_refs e ?_
      have q := SeqAt.RcAt.tuples (A := A) (s := s) (e := fun _ => true) ⟨o, ho, hc, m, hd⟩ ⟨o', ho', hc', m', hd'⟩ (by omega) (sm_items (A := A.in1) ru rv fun i x y e1 e2 u v s1 s2 => ih i x y e1 e2 s1 s2 (by show A.units + 1 + n < cLine; omega))
      rw [all_true, hs, beq_self_eq_true] at q
      exact q
/-- what may stand on both sides of a comparison that is told equal -/
inductive SmT (K : PySem.W.Frag) (H : Hp) : V → V → Prop
  | sc (x : V) (h : scal x x = true) : SmT K H x x
  | ls {a b : Addr} {xs ys : List V} (h1 : SqL K H a xs) (h2 : SqL K H b ys) (hl : xs.length = ys.length) (h : ∀ (i : Nat) x y, xs[i]? = some x → ys[i]? = some y → Sm K H 60 x y) : SmT K H (.ref a) (.ref b)
  | tp {a b : Addr} {xs ys : List V} (h1 : SqT K H a xs) (h2 : SqT K H b ys) (hl : xs.length = ys.length) (h : ∀ (i : Nat) x y, xs[i]? = some x → ys[i]? = some y → Sm K H 60 x y) : SmT K H (.ref a) (.ref b)
  | dk {a b : Addr} {kvs : List (Key × V)} (h1 : H a = some (.dK kvs)) (h2 : H b = some (.dK kvs)) (nd : (kvs.map (·.1)).Nodup) (fl : ∀ p ∈ kvs, flatB p.2 = true) : SmT K H (.ref a) (.ref b)
theorem op_neS (hu : X.A.units + 64 < cLine) : OpR X (compareOp .NotEq) (fun x y H Q => SmT X.K H x y ∧ Q (.bl false) H) := by
  intro pins s σ H x y v u Q I rx ry ⟨h, q⟩
  cases h with
  | sc x h => exact op_ne pins s σ H x x v u Q I rx ry ⟨h, by rw [decide_eq_true rfl]; exact q⟩
  | ls h1 h2 hl h =>
    cases rx; cases ry
    obtain ⟨us, ru, ⟨o, m, ho, hc, _, hd⟩, _⟩ := I.list h1
    obtain ⟨vs, rv, ⟨o', m', ho', hc', _, hd'⟩, _⟩ := I.list h2
    have hs : us.toArray.size = vs.toArray.size := by simp only [List.size_toArray]; rw [← ru.length, ← rv.length, hl]
    have z := SeqAt.RcNeAt.lists (A := X.A) (s := s) (e := fun _ => true) ⟨o, ho, hc, m, hd⟩ ⟨o', ho', hc', m', hd'⟩ hs (by omega) (sm_items (A := X.A.in1) ru rv fun i x y e1 e2 u v s1 s2 => sm_at I (h i x y e1 e2) s1 s2 (by show X.A.units + 1 + 60 < cLine; omega))
    rw [all_true] at z
    exact z X.prog X.w _ _ ⟨.bl false, H, I, rfl, q⟩
  | tp h1 h2 hl h =>
    cases rx; cases ry
    obtain ⟨us, ru, ⟨o, ho, hc, m, hd⟩, _⟩ := I.tuple h1
    obtain ⟨vs, rv, ⟨o', ho', hc', m', hd'⟩, _⟩ := I.tuple h2
    have hs : us.toArray.size = vs.toArray.size := by simp only [List.size_toArray]; rw [← ru.length, ← rv.length, hl]
    have z := SeqAt.RcNeAt.tuples (A := X.A) (s := s) (e := fun _ => true) ⟨o, ho, hc, m, hd⟩ ⟨o', ho', hc', m', hd'⟩ (by omega) (sm_items (A := X.A.in1) ru rv fun i x y e1 e2 u v s1 s2 => sm_at I (h i x y e1 e2) s1 s2 (by show X.A.units + 1 + 60 < cLine; omega))
    rw [all_true, hs, beq_self_eq_true] at z
    exact z X.prog X.w _ _ ⟨.bl false, H, I, rfl, q⟩
  | @dk a b kvs h1 h2 nd fl =>
    cases rx; cases ry
    obtain ⟨_, ya, va, ra, da⟩ := (show ObjOk X.prog X.w H s.heap a (.dK kvs) from I.hok a _ h1)
    obtain ⟨_, yb, vb, rb, db⟩ := (show ObjOk X.prog X.w H s.heap b (.dK kvs) from I.hok b _ h2)
    have hl : va.length = vb.length := ra.length.symm.trans rb.length
    exact PySem.W.keq_ne (knd := mixKind X.prog X.w) (r := true) ya yb da db (by omega) (fun _ => hits_all rb ra fun p hp => ⟨val_nodup nd p hp, fl p hp⟩) (fin_bl I q (by simp [hl]))
theorem op_eqS (hu : X.A.units + 64 < cLine) : OpR X (compareOp .Eq) (fun x y H Q => SmT X.K H x y ∧ Q (.bl true) H) := by
  intro pins s σ H x y v u Q I rx ry ⟨h, q⟩
  cases h with
  | sc x h => exact op_eq pins s σ H x x v u Q I rx ry ⟨h, by rw [decide_eq_true rfl]; exact q⟩
  | ls h1 h2 hl h =>
    cases rx; cases ry
    obtain ⟨us, ru, ⟨o, m, ho, hc, _, hd⟩, _⟩ := I.list h1
    obtain ⟨vs, rv, ⟨o', m', ho', hc', _, hd'⟩, _⟩ := I.list h2
    have hs : us.toArray.size = vs.toArray.size := by simp only [List.size_toArray]; rw [← ru.length, ← rv.length, hl]
    have z := SeqAt.RcAt.lists (A := X.A) (s := s) (e := fun _ => true) ⟨o, ho, hc, m, hd⟩ ⟨o', ho', hc', m', hd'⟩ hs (by omega) (sm_items (A := X.A.in1) ru rv fun i x y e1 e2 u v s1 s2 => sm_at I (h i x y e1 e2) s1 s2 (by show X.A.units + 1 + 60 < cLine; omega))
    rw [all_true] at z
    exact z X.prog X.w _ _ ⟨.bl true, H, I, rfl, q⟩
  | tp h1 h2 hl h =>
    cases rx; cases ry
    obtain ⟨us, ru, ⟨o, ho, hc, m, hd⟩, _⟩ := I.tuple h1
    obtain ⟨vs, rv, ⟨o', ho', hc', m', hd'⟩, _⟩ := I.tuple h2
    have hs : us.toArray.size = vs.toArray.size := by simp only [List.size_toArray]; rw [← ru.length, ← rv.length, hl]
    have z := SeqAt.RcAt.tuples (A := X.A) (s := s) (e := fun _ => true) ⟨o, ho, hc, m, hd⟩ ⟨o', ho', hc', m', hd'⟩ (by omega) (sm_items (A := X.A.in1) ru rv fun i x y e1 e2 u v s1 s2 => sm_at I (h i x y e1 e2) s1 s2 (by show X.A.units + 1 + 60 < cLine; omega))
    rw [all_true, hs, beq_self_eq_true] at z
    exact z X.prog X.w _ _ ⟨.bl true, H, I, rfl, q⟩
  | @dk a b kvs h1 h2 nd fl =>
    exact op_eq_dict (by omega) pins s σ H _ _ v u Q I rx ry ⟨a, b, kvs, rfl, rfl, h1, h2, nd, fl, q⟩
/-- isinstance(e, c), e an error that is held as a value -/
def rIsErr (K : PySem.W.Frag) : List V → Hp → VK → Prop := fun xs H Q => ∃ (a C : Addr) (d : Option Addr) (fs : List (Str × V)) (c : V) (u : Value) (b : Bool), xs = [.ref a, c] ∧ H a = some (exo a C d) ∧ (∀ dd, d = some dd → H dd = some (exd dd fs)) ∧ ExcC K C ∧ ClsV c u ∧ PySem.W.kitOne K (.ref C) u = some b ∧ Q (.bl b) H
theorem call_isErr : CallR X (.builtin "isinstance") (rIsErr X.K) := by
  intro pins s σ H xs us Q I r h
  obtain ⟨a, C, d, fs, c, u, b, rfl, ea, ed, T, k, e, q⟩ := h
  obtain ⟨u1, u2, rfl, r1, r2⟩ := vals2 r
  have e2 := k.eq r2
  subst e2
  cases r1
  obtain ⟨t1, ha⟩ := exo_at I.hok ea
  have hcl : (PySem.W.clsIn X.K C).isSome = true := by
    obtain ⟨cd, hc, _⟩ := PySem.W.any_some T.hd
    rw [hc]
    rfl
  cases d with
  | none => exact PySem.W.kia_one (PySem.W.kitx_exc (od := none) hcl T.hg T.hk T.hs T.ha T.hn T.ht T.hm) I.kIn (show PySem.W.InstAt s.heap a _ C none from ⟨ha, rfl, rfl, trivial⟩) e (fun z => nomatch z) fun tk => ⟨.bl b, H, I.tok tk, rfl, q⟩
  | some dd =>
    obtain ⟨mA, ⟨od, es, ep, ho, hr⟩, _⟩ := exd_at I.hok (ed dd rfl)
    exact PySem.W.kia_one (PySem.W.kitx_exc (od := some od) hcl T.hg T.hk T.hs T.ha T.hn T.ht T.hm) I.kIn (show PySem.W.InstAt s.heap a _ C (some od) from ⟨ha, rfl, rfl, ho⟩) e (fun z => nomatch z) fun tk => ⟨.bl b, H, I.tok tk, rfl, q⟩
end
end L2

set_option Elab.async false
set_option linter.all false
set_option maxRecDepth 100000
set_option maxHeartbeats 4000000
/-! ErrEnd: an error class's facts, from what the top has written. -/
namespace EK
open PySem PySem.W L2
def errB (K : Frag) (C fI : Addr) (f : Str) : Bool :=
  xfB K C && (decide (findIn K (.ref C) "__setattr__" = some (some (.builtin "object.__setattr__"))) && (decide (findIn K (.ref C) f = some none) && (decide (typeIn K (.ref fI) = some (.type "function")) && (keepIn K (.ref C) &&
  (decide (typeIn K (.ref C) = some (.type "type")) && (decide (exmOne K (.ref C) (.ref C) = some true) && (decide (subIn K (.ref C) (.type "ValueError") = some true) && (decide (ks_superIn K C C "__init__" = some (some (.builtin "ValueError.__init__"))) &&
  (decide (mroIn K C (.ref C) = some true) && (decide (findIn K (.ref C) "__class__" = some (some (.builtin "object.__class__"))) && decide (mroIn K C (.type "object") = some true)))))))))))
theorem and2 {a b : Bool} (h : (a && b) = true) : a = true ∧ b = true := Bool.and_eq_true_iff.mp h
theorem err_mk {P : Program} {K : Frag} {h : Heap} {mg : Str → Option Value} {x f : Str} {C fI N cda cc : Addr} (X : K.In h) (G : h.Ns mainGlobals mg)
    {nm q qn msg file : Str} {bs bm : List Value} {sn : List Str} {sub : List Value} {ab : Bool} {col : Option Bool} {dd od an cdd cld : Option Addr} {m0 m1 m2 m3 m5 : Option Value} {oc doc pm ct ccl cl : Value} {osl ccs csl : Array (Option Value)} {vs : Array Value} {tf : Tok}
    {p1 p2 a1 a2 a3 a4 a5 a6 b1 b2 b3 b4 : Pos}
    (aC : nsIn K mainGlobals x = some (some (.ref C))) (xL : K.lookup C = some (excClassObj nm q C N bs bm true sn sub ab col dd m0 m1 m2 m3 m5 "ValueError.__new__")) (rv : HandSPX.refsVE bm = true)
    (iC : findIn K (.ref C) "__init__" = some (some (.ref fI)))
    (l1 : K.lookup fI = some ⟨oc, od, .func (ksFn "__init__" qn (eArgs f p1 p2) (eBody f msg a1 a2 a3 a4 a5 a6 b1 b2 b3 b4) (eScope f) .none .none doc pm an (.ref cda) ct cc), osl⟩) (c1 : codeIn K (.ref cda) qn = true)
    (bd : ∀ u v : Value, bindArgs (ksFn "__init__" qn (eArgs f p1 p2) (eBody f msg a1 a2 a3 a4 a5 a6 b1 b2 b3 b4) (eScope f) .none .none doc pm an (.ref cda) ct cc) ⟨[u, v], []⟩ = pure [(("self" : Str), u), (f, v)])
    (sc : ∀ L : Addr, SupCall a1 a2 a3 a4 a5 msg (callEnv (ksFn "__init__" qn (eArgs f p1 p2) (eBody f msg a1 a2 a3 a4 a5 a6 b1 b2 b3 b4) (eScope f) .none .none doc pm an (.ref cda) ct cc) L fI))
    (cd : K.lookup cda = some ⟨ccl, cdd, .fields vs, ccs⟩) (vf : vs[2]? = some (.str file tf)) (pf : ((P.main.file : Str) == file) = true) (cL : K.lookup cc = some ⟨cl, cld, .cell (some (.ref C)), csl⟩)
    (eB : errB K C fI f = true) (ho : nsIn K cStatics "thirdparty.any" = some none) (su : nsIn K mainGlobals "super" = some none) (fok : f ≠ "self" ∧ f ≠ "__class__" ∧ f ≠ "super" ∧ f ≠ "__debug__") (top : (P.main.scope.names.lookup ("super" : Str)).isSome = false) :
    ErrTxt P K mg x f C fI := by
  obtain ⟨h1, eB⟩ := and2 eB
  obtain ⟨h2, eB⟩ := and2 eB
  obtain ⟨h3, eB⟩ := and2 eB
  obtain ⟨h4, eB⟩ := and2 eB
  obtain ⟨h5, eB⟩ := and2 eB
  obtain ⟨h6, eB⟩ := and2 eB
  obtain ⟨h7, eB⟩ := and2 eB
  obtain ⟨h8, eB⟩ := and2 eB
  obtain ⟨h9, eB⟩ := and2 eB
  obtain ⟨h10, eB⟩ := and2 eB
  have T := xfB_ok h1
  exact { gC := mg_of X G aC, cls := ⟨nm, q, N, bs, bm, sn, sub, ab, col, dd, m0, m1, m2, m3, m5, xL, rv⟩, sa := of_decide_eq_true h2, ga := T.ga, gg := T.gg, noN := of_decide_eq_true h3, iC := iC, tC := of_decide_eq_true h4, kC := h5, exC := T.exC,
          tyC := of_decide_eq_true h6, hdC := T.hdC, te := of_decide_eq_true h7, hB := of_decide_eq_true h8, si := of_decide_eq_true h9, ho := ho, su := mg_none_of X G su, mC := of_decide_eq_true h10, fok := fok, top := top,
          fn := ⟨oc, od, qn, msg, doc, pm, an, cda, cc, ct, osl, p1, p2, a1, a2, a3, a4, a5, a6, b1, b2, b3, b4, l1, c1, bd, sc, ⟨ccl, cdd, ccs, vs, file, tf, cd, vf, pf⟩, ⟨cl, cld, csl, cL⟩⟩ }
theorem excC_of {K : Frag} {C fI : Addr} {f : Str} (eB : errB K C fI f = true) (hn : specialIn K (.builtin "object.__class__") "__get__" = some (some (.builtin "getset_descriptor.__get__"))) (ht : takesIn K (.builtin "object.__class__") = some true) : ExcC K C := by
  obtain ⟨h1, eB⟩ := and2 eB
  obtain ⟨h2, eB⟩ := and2 eB
  obtain ⟨h3, eB⟩ := and2 eB
  obtain ⟨h4, eB⟩ := and2 eB
  obtain ⟨h5, eB⟩ := and2 eB
  obtain ⟨h6, eB⟩ := and2 eB
  obtain ⟨h7, eB⟩ := and2 eB
  obtain ⟨h8, eB⟩ := and2 eB
  obtain ⟨h9, eB⟩ := and2 eB
  obtain ⟨h10, eB⟩ := and2 eB
  obtain ⟨h11, h12⟩ := and2 eB
  have T := xfB_ok h1
  exact ⟨T.ga, T.gg, T.exC, T.hdC, of_decide_eq_true h11, hn, ht, of_decide_eq_true h12⟩
/-- which class is which, told apart -/
def kindsB (K : Frag) (E : Addr) (Cs : List Addr) : Bool :=
  (Cs.zipIdx.all fun p => Cs.zipIdx.all fun q => decide (kitOne K (.ref p.1) (.ref q.1) = some (decide (p.2 = q.2)))) && (Cs.all fun C => decide (kitOne K (.ref C) (.ref E) = some true) && decide (kitOne K (.ref C) (.type "ValueError") = some true))
theorem kinds_kt {K : Frag} {E : Addr} {Cs : List Addr} (h : kindsB K E Cs = true) (i j : Nat) (C D : Addr) (h1 : Cs[i]? = some C) (h2 : Cs[j]? = some D) : kitOne K (.ref C) (.ref D) = some (decide (i = j)) := by
  obtain ⟨h, _⟩ := and2 h
  have q := List.all_eq_true.mp h (C, i) (List.mk_mem_zipIdx_iff_getElem?.mpr h1)
  have q := List.all_eq_true.mp q (D, j) (List.mk_mem_zipIdx_iff_getElem?.mpr h2)
  exact of_decide_eq_true q
theorem kinds_ke {K : Frag} {E : Addr} {Cs : List Addr} (h : kindsB K E Cs = true) (C : Addr) (hC : C ∈ Cs) : kitOne K (.ref C) (.ref E) = some true ∧ kitOne K (.ref C) (.type "ValueError") = some true := by
  obtain ⟨_, h⟩ := and2 h
  obtain ⟨a, b⟩ := and2 (List.all_eq_true.mp h C hC)
  exact ⟨of_decide_eq_true a, of_decide_eq_true b⟩
end EK

set_option Elab.async false
set_option linter.all false
set_option maxRecDepth 100000
set_option maxHeartbeats 4000000
namespace T14
open PySem L2
def top (i : Nat) : Stmt := PySem.Challenge.pw_turnindex_k14_errors_by_hand.main.body.getD i (.Pass ⟨0, 0, 0, 0⟩)
abbrev sWell : Stmt := top 13
abbrev sDraw : Stmt := top 14
abbrev sOne : Stmt := top 15
/-- a well of draws: its own digits left, its number, how often it was asked -/
def WellAt (H : Hp) (a : Addr) (n : Int) : Prop := ∃ w0 w1 w2 : Int, H a = some (.lst [.int w0, .int w1, .int w2]) ∧ 0 ≤ w1 ∧ w1 < 2147483647 ∧ 0 ≤ w2 ∧ w2 ≤ n
def KeepB (a : Addr) (H H' : Hp) : Prop := ∀ b o, H b = some o → b ≠ a → H' b = some o
def spWell : Sp := fun vs H Q _ => ∃ c : Int, vs = [.int c] ∧ ∀ p H', H p = none → WellAt H' p 0 → Same H H' → Q (.ref p) H'
def spDraw : Sp := fun vs H Q _ => ∃ (a : Addr) (m n : Int), vs = [.ref a, .int m] ∧ WellAt H a n ∧ n ≤ 1000000 ∧ 0 < m ∧ m < 1073741824 ∧ ∀ (d : Int) H', 0 ≤ d → d < m → WellAt H' a (n + 1) → KeepB a H H' → Q (.int d) H'
structure TxtD (K : PySem.W.Frag) (mg : Str → Option Value) : Prop where
  int : mg "int" = none
  len : mg "len" = none
theorem well_at (n : Int) (h : 0 ≤ n) (w : n < 7) : ∃ p : Int, atI [V.int 2147483647, V.int 2147483629, V.int 2147483587, V.int 2147483579, V.int 2147483563, V.int 2147483549, V.int 2147483543] n = some (V.int p) ∧ 0 < p ∧ p ≤ 2147483647 := by
  obtain e | e | e | e | e | e | e : n = 0 ∨ n = 1 ∨ n = 2 ∨ n = 3 ∨ n = 4 ∨ n = 5 ∨ n = 6 := by omega
  all_goals (subst e; exact ⟨_, rfl, by decide, by decide⟩)
section
variable {P : Program} {w : World} {K : PySem.W.Frag} {mg : Str → Option Value} {base : Heap}
theorem scWell : FnScope ["_law_cell"] ["_law_cell"] (defScope sWell) := ⟨rfl, rfl, rfl, by decide +kernel, rfl, by decide +kernel, by decide +kernel⟩
theorem ok_well {f : Addr} {fd : FuncData} (F : Fun K "_law_well" "_law_well" sWell f fd) (T : TxtD K mg) : FnOk P w K mg base CX0 1 f fd ["_law_cell"] spWell := by
  refine F.ok scWell (fun vs H Q E h => ?_) (fun cdv A outer s H vs Q E hr h => ?_)
  · obtain ⟨c, rfl, _⟩ := h
    rfl
  · obtain ⟨c, rfl, k⟩ := h
    refine ⟨_, pss_one (ps_ret (pe_lst (pa_cons (pe_op op_mul (pv 0) (pe_callTy call_int1 (by rfl) T.int (by decide +kernel) (pa_cons (pe_cmpR op_ge (pv 0) (pe_op op_pow pe_int pe_int) (nomark _)) pa_nil)))
      (pa_cons (pe_op op_mod (pe_callTy call_int1 (by rfl) T.int (by decide +kernel) (pa_cons (pv 0) pa_nil)) pe_int) (pa_cons pe_int pa_nil))))), ?_⟩
    refine ⟨_, rfl, _, rfl, _, _, rfl, rfl, ⟨by decide, by decide, by decide⟩, _, _, rfl, rfl, .inr ⟨_, rfl, _, _, rfl, rfl, .inr ?_, ?_⟩⟩
    · by_cases h : (10 : Int) ^ (18 : Int).toNat ≤ c
      · rw [decide_eq_true h]; decide
      · rw [decide_eq_false h]; decide
    refine ⟨_, rfl, .inl ⟨_, rfl, _, _, rfl, rfl, (by show (0 : Int) < 2147483647; decide), (by show 3 ≤ sizeLine; decide), fun p hp => ?_⟩⟩
    refine k p _ hp ⟨_, _, _, upd_same, Int.emod_nonneg _ (by decide), Int.emod_lt_of_pos _ (by decide), by decide, by decide⟩ fun b o e => ?_
    rw [upd_ne (ne_of_none e hp)]
    exact e
theorem scDraw : FnScope ["_law_well_here", "_law_many", "_law_digit", "_law_prime", "_law_number"] ["_law_well_here", "_law_many"] (defScope sDraw) := ⟨rfl, rfl, rfl, by decide +kernel, rfl, by decide +kernel, by decide +kernel⟩
theorem ok_draw {f : Addr} {fd : FuncData} (F : Fun K "_law_draw" "_law_draw" sDraw f fd) (T : TxtD K mg) : FnOk P w K mg base CX0 1 f fd ["_law_well_here", "_law_many"] spDraw := by
  refine F.ok scDraw (fun vs H Q E h => ?_) (fun cdv A outer s H vs Q E hr h => ?_)
  · obtain ⟨a, m, n, rfl, _⟩ := h
    rfl
  · obtain ⟨a, m, n, rfl, ⟨w0, w1, w2, ha, h1, h2, h3, h4⟩, hn, hm, hm2, k⟩ := h
    have nd := scDraw.nd
    refine ⟨_, pss_cons (ps_if (pt_cmpR op_gt (pe_ix ix_list (pv 0) pe_int (fun _ _ => rfl)) pe_int (nomark _))
        (pss_cons (ps_set (i := 2) nd rfl (Or.inl rfl) (pe_op op_mod (pe_callTy call_int1 (by rfl) T.int (by decide +kernel) (pa_cons (pe_ix ix_list (pv 0) pe_int (fun _ _ => rfl)) pa_nil)) (pv 1)))
        (pss_cons (ps_asg (pe_op op_fdiv (pe_ix ix_list (pv 0) pe_int (fun _ _ => rfl)) (pv 1)) (pg_sub (pv 0) pe_int set_list))
        (pss_one (ps_ret (pv 2))))) pss_nil)
      (pss_cons (ps_asg (pe_op op_add (pe_ix ix_list (pv 0) pe_int (fun _ _ => rfl)) pe_int) (pg_sub (pv 0) pe_int set_list))
      (pss_cons (ps_set (i := 3) nd rfl (Or.inl rfl) (pe_ix ix_list (pe_lst (pa_cons pe_int (pa_cons pe_int (pa_cons pe_int (pa_cons pe_int (pa_cons pe_int (pa_cons pe_int (pa_cons pe_int pa_nil))))))))
          (pe_op op_mod (pe_callTy call_int1 (by rfl) T.int (by decide +kernel) (pa_cons (pe_ix ix_list (pv 0) pe_int (fun _ _ => rfl)) pa_nil)) pe_int) (fun _ _ => rfl)))
      (pss_cons (ps_set (i := 4) nd rfl (Or.inl rfl) (pe_op op_mod (pe_callTy call_int1 (by rfl) T.int (by decide +kernel) (pa_cons (pe_op op_pow (pe_op op_add (pe_op op_add (pe_ix ix_list (pv 0) pe_int (fun _ _ => rfl)) (pe_op op_mul pe_int (pe_ix ix_list (pv 0) pe_int (fun _ _ => rfl)))) pe_int) pe_int) pa_nil)) (pv 3)))
      (pss_cons (ps_set (i := 4) nd rfl (Or.inl rfl) (pe_op op_mod (pe_callTy call_int1 (by rfl) T.int (by decide +kernel) (pa_cons (pe_op op_mul (pe_op op_add (pv 4) (pe_ix ix_list (pv 0) pe_int (fun _ _ => rfl))) (pe_op op_add (pe_op op_fdiv (pv 4) pe_int) pe_int)) pa_nil)) (pv 3)))
      (pss_one (ps_ret (pe_op op_mod (pe_callTy call_int1 (by rfl) T.int (by decide +kernel) (pa_cons (pe_op op_fdiv (pv 4) pe_int) pa_nil)) (pv 1)))))))), ?_⟩
    refine ⟨_, rfl, a, _, 0, _, rfl, rfl, .of ha, rfl, _, _, rfl, rfl, _, rfl, ?_⟩
    refine ite2 (fun h0 => ?_) (fun h0 => ?_)
    · refine ⟨_, rfl, a, _, 0, _, rfl, rfl, .of ha, rfl, .inl ⟨_, rfl, _, rfl, _, _, rfl, rfl, hm, ?_⟩⟩
      refine ⟨_, rfl, a, _, 0, _, rfl, rfl, .of ha, rfl, _, rfl, _, _, rfl, rfl, ⟨hm, hm2⟩, _, rfl, a, _, 0, 0, rfl, rfl, ha, rfl, _, rfl, ?_⟩
      refine k _ _ (Int.emod_nonneg _ (by omega)) (Int.emod_lt_of_pos _ hm) ⟨_, _, _, upd_same, h1, h2, h3, by omega⟩ fun b o e n => ?_
      rw [upd_ne n]
      exact e
    · refine ⟨_, rfl, a, _, 2, _, rfl, rfl, .of ha, rfl, _, _, rfl, rfl, _, rfl, a, _, 2, 2, rfl, rfl, ha, rfl, ?_⟩
      have ha2 : ∀ {p : Addr} {H' : Hp}, H' = upd H a (.lst ([V.int w0, V.int w1, V.int w2].set 2 (V.int (w2 + 1)))) → H' a = some (.lst [.int w0, .int w1, .int (w2 + 1)]) := fun e => by rw [e]; exact upd_same
      refine ⟨by show 7 ≤ sizeLine; decide, fun p hp => ?_⟩
      have hpa : a ≠ p := ne_of_none (ha2 (p := p) rfl) hp
      have ha3 : (upd (upd H a (.lst ([V.int w0, V.int w1, V.int w2].set 2 (V.int (w2 + 1))))) p (.lst [V.int 2147483647, V.int 2147483629, V.int 2147483587, V.int 2147483579, V.int 2147483563, V.int 2147483549, V.int 2147483543])) a = some (.lst [.int w0, .int w1, .int (w2 + 1)]) := by
        rw [upd_ne hpa]
        exact ha2 (p := p) rfl
      obtain ⟨q, hq, q0, q1⟩ := well_at ((w2 + 1) % 7) (Int.emod_nonneg _ (by decide)) (Int.emod_lt_of_pos _ (by decide))
      refine ⟨_, rfl, a, _, 2, _, rfl, rfl, .of ha3, rfl, .inl ⟨_, rfl, _, _, rfl, rfl, (by show (0 : Int) < 7; decide), p, _, _, _, rfl, rfl, .of upd_same, hq, ?_⟩⟩
      refine ⟨_, rfl, a, _, 1, _, rfl, rfl, .of ha3, rfl, _, rfl, a, _, 2, _, rfl, rfl, .of ha3, rfl, _, _, rfl, rfl, .inl ⟨by decide, by decide⟩, _, _, rfl, rfl, _, _, rfl, rfl, _, _, rfl, rfl, ⟨by decide, by decide, by omega⟩, .inl ⟨_, rfl, _, rfl, _, _, rfl, rfl, q0, ?_⟩⟩
      have g0 := Int.emod_nonneg ((w1 + 7919 * (w2 + 1) + 1) ^ (5 : Int).toNat) (show q ≠ 0 by omega)
      have g1 := Int.emod_lt_of_pos ((w1 + 7919 * (w2 + 1) + 1) ^ (5 : Int).toNat) q0
      refine ⟨_, rfl, _, rfl, a, _, 2, _, rfl, rfl, .of ha3, rfl, _, _, rfl, rfl, _, rfl, _, _, rfl, rfl, ⟨by decide, by decide⟩, _, _, rfl, rfl, _, _, rfl, rfl, .inl ⟨by omega, by omega⟩, .inl ⟨_, rfl, _, rfl, _, _, rfl, rfl, q0, ?_⟩⟩
      refine ⟨_, rfl, _, _, rfl, rfl, ⟨by decide, by decide⟩, .inl ⟨_, rfl, _, rfl, _, _, rfl, rfl, hm, ?_⟩⟩
      refine k _ _ (Int.emod_nonneg _ (by omega)) (Int.emod_lt_of_pos _ hm) ⟨_, _, _, ha3, h1, h2, by omega, by omega⟩ fun b o e n => ?_
      rw [upd_ne (fun z => ?_), upd_ne n]
      · exact e
      · rw [← z, upd_ne n, e] at hp
        cases hp
/-- one of a list of things -/
def spOne : Sp := fun vs H Q _ => ∃ (a l : Addr) (n : Int) (xs : List V), vs = [.ref a, .ref l] ∧ WellAt H a n ∧ n ≤ 1000000 ∧ H l = some (.lst xs) ∧ l ≠ a ∧ 0 < xs.length ∧ xs.length ≤ 1000 ∧ ∀ (x : V) H', x ∈ xs → WellAt H' a (n + 1) → KeepB a H H' → Q x H'
theorem scOne : FnScope ["_law_well_here", "_law_some"] ["_law_well_here", "_law_some"] (defScope sOne) := ⟨rfl, rfl, rfl, by decide +kernel, rfl, by decide +kernel, by decide +kernel⟩
theorem ok_one {f fD : Addr} {fd fdD : FuncData} (F : Fun K "_law_one" "_law_one" sOne f fd) (T : TxtD K mg) (FD : Fun K "_law_draw" "_law_draw" sDraw fD fdD) (gD : mg "_law_draw" = some (.ref fD)) (bD : Binds K fdD ["_law_well_here", "_law_many"] []) :
    FnOk P w K mg base CX0 2 f fd ["_law_well_here", "_law_some"] spOne := by
  have GD : FnOk P w K mg base CX0 1 fD fdD ["_law_well_here", "_law_many"] spDraw := ok_draw FD T
  refine F.ok scOne (fun vs H Q E h => ?_) (fun cdv A outer s H vs Q E hr h => ?_)
  · obtain ⟨a, l, n, xs, rfl, _⟩ := h
    rfl
  · obtain ⟨a, l, n, xs, rfl, hw, hn, hl, hla, h1, h2, k⟩ := h
    refine ⟨_, pss_one (ps_ret (pe_ix ix_list (pv 1) (pe_call GD hr rfl gD FD.kp bD .nil pass0 (pa_cons (pv 0) (pa_cons (pe_callB call_len_seq (by rfl) T.len PySem.boot_len (pa_cons (pv 1) pa_nil)) pa_nil))) (fun _ _ => rfl))), ?_⟩
    refine ⟨_, rfl, _, rfl, _, rfl, l, xs, rfl, .inl (.of hl), a, _, n, rfl, hw, hn, by omega, by omega, fun d H' hd hd2 hw' hk => ?_⟩
    obtain ⟨j, rfl⟩ : ∃ j : Nat, d = (j : Int) := ⟨d.toNat, by omega⟩
    have hj : j < xs.length := by omega
    refine ⟨l, xs, _, xs[j], rfl, rfl, .of (hk l _ hl hla), atI_nat (List.getElem?_eq_getElem hj), ?_⟩
    exact k _ _ (List.getElem_mem hj) hw' hk
end
end T14

set_option Elab.async false
set_option linter.all false
set_option maxRecDepth 100000
set_option maxHeartbeats 4000000
namespace L2
open PySem EK
theorem alloc {H : Hp} {p : Addr} {o : HO} (hp : H p = none) : ∃ H1, upd H p o = H1 ∧ Same H H1 ∧ H1 p = some o :=
  ⟨_, rfl, fun b u e => by rw [upd_ne (ne_of_none e hp)]; exact e, upd_same⟩
/-- an error of the class at C stands at a, its one value v -/
def ErrAt (H : Hp) (a d C : Addr) (f : Str) (v : V) : Prop := H a = some (exo a C (some d)) ∧ H d = some (exd d [(f, v)])
theorem ErrAt.keep {H H' : Hp} {a d C : Addr} {f : Str} {v : V} (e : ErrAt H a d C f v) (s : Same H H') : ErrAt H' a d C f v := ⟨s _ _ e.1, s _ _ e.2⟩
theorem alloc_err {H : Hp} {a d C : Addr} {f : Str} {v : V} (ha : H a = none) (hd : H d = none) (hne : d ≠ a) : ∃ H1, upd (upd H d (exd d [(f, v)])) a (exo a C (some d)) = H1 ∧ Same H H1 ∧ ErrAt H1 a d C f v :=
  ⟨_, rfl, fun b u e => by rw [upd_ne (ne_of_none e ha), upd_ne (ne_of_none e hd)]; exact e, upd_same, by rw [upd_ne hne, upd_same]⟩
theorem look1 (f : Str) (v : V) : List.lookup f [(f, v)] = some v := by rw [lookup_put, if_pos rfl]
theorem _root_.EK.ErrTxt.xf {P : Program} {K : PySem.W.Frag} {mg : Str → Option Value} {x f : Str} {C fI : Addr} (T : ErrTxt P K mg x f C fI) : XfC K C := ⟨T.ga, T.gg, T.exC, T.hdC⟩
end L2
namespace T14
open PySem L2 EK
abbrev sLines : Stmt := top 16
abbrev sSorts : Stmt := top 17
abbrev sLaw : Stmt := top 18
/-- a pair of an error of the class at C and v -/
def LineAt (H : Hp) (t C : Addr) (v : V) : Prop := ∃ a d f, H t = some (.tup [.ref a, v]) ∧ ErrAt H a d C f v
theorem LineAt.keep {H H' : Hp} {t C : Addr} {v : V} (e : LineAt H t C v) (s : Same H H') : LineAt H' t C v := by
  obtain ⟨a, d, f, h1, h2⟩ := e
  exact ⟨a, d, f, s _ _ h1, h2.keep s⟩
def LinesAt (H : Hp) (ts Cs : List Addr) (v : V) : Prop := ts.length = Cs.length ∧ ∀ (i : Nat) t C, ts[i]? = some t → Cs[i]? = some C → LineAt H t C v
theorem LinesAt.keep {H H' : Hp} {ts Cs : List Addr} {v : V} (e : LinesAt H ts Cs v) (s : Same H H') : LinesAt H' ts Cs v := ⟨e.1, fun i t C h1 h2 => (e.2 i t C h1 h2).keep s⟩
theorem lines_nil {H : Hp} {v : V} : LinesAt H [] [] v := ⟨rfl, fun i t C h => by cases h⟩
theorem lines_cons {H : Hp} {t C : Addr} {ts Cs : List Addr} {v : V} (h : LineAt H t C v) (r : LinesAt H ts Cs v) : LinesAt H (t :: ts) (C :: Cs) v := by
  refine ⟨by simp [r.1], fun i u D h1 h2 => ?_⟩
  cases i with
  | zero => cases h1; cases h2; exact h
  | succ i => exact r.2 i u D h1 h2
def spLines (Cs : List Addr) : Sp := fun vs H Q _ => ∃ v, vs = [v] ∧ ∀ p H' ts, Same H H' → H' p = some (.lst (ts.map V.ref)) → LinesAt H' ts Cs v → Q (.ref p) H'
theorem lines_app {H : Hp} {ts Cs us Ds : List Addr} {v : V} (h : LinesAt H ts Cs v) (r : LinesAt H us Ds v) : LinesAt H (ts ++ us) (Cs ++ Ds) v := by
  refine ⟨by simp [h.1, r.1], fun i u D h1 h2 => ?_⟩
  rw [List.getElem?_append] at h1 h2
  rw [h.1] at h1
  split at h1
  · rename_i hi
    rw [if_pos hi] at h2
    exact h.2 i u D h1 h2
  · rename_i hi
    rw [if_neg hi] at h2
    exact r.2 _ u D h1 h2
section
variable {P : Program} {w : World} {K : PySem.W.Frag} {mg : Str → Option Value} {base : Heap} {C1 C2 C3 C4 C5 C6 C7 C8 C9 f1 f2 f3 f4 f5 f6 f7 f8 f9 : Addr}
theorem scLines : FnScope ["_law_thing", "_law_one_here", "_law_two", "_law_three", "_law_found"] ["_law_thing"] (defScope sLines) := ⟨rfl, rfl, rfl, by decide +kernel, rfl, by decide +kernel, by decide +kernel⟩
theorem ok_lines {f : Addr} {fd : FuncData} (F : Fun K "_law_lines" "_law_lines" sLines f fd) (T1 : ErrTxt P K mg "NoText" "text" C1 f1) (T2 : ErrTxt P K mg "NoRow" "row" C2 f2) (T3 : ErrTxt P K mg "NoNumber" "number" C3 f3) (T4 : ErrTxt P K mg "NoCounts" "counts" C4 f4) (T5 : ErrTxt P K mg "NoOrder" "order" C5 f5) (T6 : ErrTxt P K mg "NoSampling" "samples" C6 f6) (T7 : ErrTxt P K mg "NoMarks" "marks" C7 f7) (T8 : ErrTxt P K mg "NoShape" "shape" C8 f8) (T9 : ErrTxt P K mg "Unordered" "shape" C9 f9) :
    FnOk P w K mg base CX0 2 f fd ["_law_thing"] (spLines [C1, C2, C3, C4, C5, C6, C7, C8, C9]) := by
  refine F.ok scLines (fun vs H Q E h => ?_) (fun cdv A outer s H vs Q E hr h => ?_)
  · obtain ⟨v, rfl, _⟩ := h
    rfl
  · obtain ⟨v, rfl, k⟩ := h
    have nd := scLines.nd
    refine ⟨_, (pss_cons (ps_par3 (i := 1) (j := 2) (l := 3) rfl nd rfl rfl rfl (by decide) (by decide) (by decide) rfl rfl rfl (pa_cons (pe_errV T1 hr (pa_cons (pv 0) pa_nil) (by rfl)) (pa_cons (pe_errV T2 hr (pa_cons (pv 0) pa_nil) (by rfl)) (pa_cons (pe_errV T3 hr (pa_cons (pv 0) pa_nil) (by rfl)) pa_nil))) (by rfl))
      (pss_cons (ps_set (i := 4) nd rfl (Or.inl rfl) (pe_lst (pa_cons (pe_tup (pa_cons (pv 1) (pa_cons (pe_errF (pv 1)) pa_nil))) (pa_cons (pe_tup (pa_cons (pv 2) (pa_cons (pe_errF (pv 2)) pa_nil))) (pa_cons (pe_tup (pa_cons (pv 3) (pa_cons (pe_errF (pv 3)) pa_nil))) pa_nil)))))
      (pss_cons (ps_par3 (i := 1) (j := 2) (l := 3) rfl nd rfl rfl rfl (by decide) (by decide) (by decide) rfl rfl rfl (pa_cons (pe_errV T4 hr (pa_cons (pv 0) pa_nil) (by rfl)) (pa_cons (pe_errV T5 hr (pa_cons (pv 0) pa_nil) (by rfl)) (pa_cons (pe_errV T6 hr (pa_cons (pv 0) pa_nil) (by rfl)) pa_nil))) (by rfl))
      (pss_cons (ps_set (i := 4) nd rfl (Or.inl rfl) (pe_op op_cat (pv 4) (pe_lst (pa_cons (pe_tup (pa_cons (pv 1) (pa_cons (pe_errF (pv 1)) pa_nil))) (pa_cons (pe_tup (pa_cons (pv 2) (pa_cons (pe_errF (pv 2)) pa_nil))) (pa_cons (pe_tup (pa_cons (pv 3) (pa_cons (pe_errF (pv 3)) pa_nil))) pa_nil))))))
      (pss_cons (ps_par3 (i := 1) (j := 2) (l := 3) rfl nd rfl rfl rfl (by decide) (by decide) (by decide) rfl rfl rfl (pa_cons (pe_errV T7 hr (pa_cons (pv 0) pa_nil) (by rfl)) (pa_cons (pe_errV T8 hr (pa_cons (pv 0) pa_nil) (by rfl)) (pa_cons (pe_errV T9 hr (pa_cons (pv 0) pa_nil) (by rfl)) pa_nil))) (by rfl))
      (pss_one (ps_ret (pe_op op_cat (pv 4) (pe_lst (pa_cons (pe_tup (pa_cons (pv 1) (pa_cons (pe_errF (pv 1)) pa_nil))) (pa_cons (pe_tup (pa_cons (pv 2) (pa_cons (pe_errF (pv 2)) pa_nil))) (pa_cons (pe_tup (pa_cons (pv 3) (pa_cons (pe_errF (pv 3)) pa_nil))) pa_nil)))))))))))), ?_⟩
    refine ⟨_, rfl, v, rfl, fun a1 d1 n1 m1 q1 => ?_⟩
    obtain ⟨H1, e1, S1, A1⟩ := alloc_err (C := C1) (f := "text") (v := v) n1 m1 q1
    rw [e1]
    refine ⟨_, rfl, v, rfl, fun a2 d2 n2 m2 q2 => ?_⟩
    obtain ⟨H2, e2, S2, A2⟩ := alloc_err (C := C2) (f := "row") (v := v) n2 m2 q2
    rw [e2]
    refine ⟨_, rfl, v, rfl, fun a3 d3 n3 m3 q3 => ?_⟩
    obtain ⟨H3, e3, S3, A3⟩ := alloc_err (C := C3) (f := "number") (v := v) n3 m3 q3
    rw [e3]
    refine ⟨_, _, _, rfl, ?_⟩
    have B1 := A1.keep (S2.trans S3)
    refine ⟨_, rfl, _, rfl, a1, C1, d1, _, v, rfl, B1.1, B1.2, T1.xf, T1.noN, look1 _ _, (by show 2 ≤ sizeLine; decide), fun t1 z1 => ?_⟩
    obtain ⟨G1, f1, U1, W1⟩ := alloc (o := .tup [.ref a1, v]) z1
    rw [f1]
    have B2 := A2.keep (S3.trans U1)
    refine ⟨_, rfl, _, rfl, a2, C2, d2, _, v, rfl, B2.1, B2.2, T2.xf, T2.noN, look1 _ _, (by show 2 ≤ sizeLine; decide), fun t2 z2 => ?_⟩
    obtain ⟨G2, f2, U2, W2⟩ := alloc (o := .tup [.ref a2, v]) z2
    rw [f2]
    have B3 := A3.keep (U1.trans U2)
    refine ⟨_, rfl, _, rfl, a3, C3, d3, _, v, rfl, B3.1, B3.2, T3.xf, T3.noN, look1 _ _, (by show 2 ≤ sizeLine; decide), fun t3 z3 => ?_⟩
    obtain ⟨G3, f3, U3, W3⟩ := alloc (o := .tup [.ref a3, v]) z3
    rw [f3]
    refine ⟨(by show 3 ≤ sizeLine; decide), fun l0 y0 => ?_⟩
    obtain ⟨L0, g0, V0, X0⟩ := alloc (o := .lst [.ref t1, .ref t2, .ref t3]) y0
    rw [g0]
    refine ⟨_, rfl, v, rfl, fun a4 d4 n4 m4 q4 => ?_⟩
    obtain ⟨H4, e4, S4, A4⟩ := alloc_err (C := C4) (f := "counts") (v := v) n4 m4 q4
    rw [e4]
    refine ⟨_, rfl, v, rfl, fun a5 d5 n5 m5 q5 => ?_⟩
    obtain ⟨H5, e5, S5, A5⟩ := alloc_err (C := C5) (f := "order") (v := v) n5 m5 q5
    rw [e5]
    refine ⟨_, rfl, v, rfl, fun a6 d6 n6 m6 q6 => ?_⟩
    obtain ⟨H6, e6, S6, A6⟩ := alloc_err (C := C6) (f := "samples") (v := v) n6 m6 q6
    rw [e6]
    refine ⟨_, _, _, rfl, ?_⟩
    have B4 := A4.keep (S5.trans S6)
    refine ⟨_, rfl, _, rfl, _, rfl, a4, C4, d4, _, v, rfl, B4.1, B4.2, T4.xf, T4.noN, look1 _ _, (by show 2 ≤ sizeLine; decide), fun t4 z4 => ?_⟩
    obtain ⟨G4, f4, U4, W4⟩ := alloc (o := .tup [.ref a4, v]) z4
    rw [f4]
    have B5 := A5.keep (S6.trans U4)
    refine ⟨_, rfl, _, rfl, a5, C5, d5, _, v, rfl, B5.1, B5.2, T5.xf, T5.noN, look1 _ _, (by show 2 ≤ sizeLine; decide), fun t5 z5 => ?_⟩
    obtain ⟨G5, f5, U5, W5⟩ := alloc (o := .tup [.ref a5, v]) z5
    rw [f5]
    have B6 := A6.keep (U4.trans U5)
    refine ⟨_, rfl, _, rfl, a6, C6, d6, _, v, rfl, B6.1, B6.2, T6.xf, T6.noN, look1 _ _, (by show 2 ≤ sizeLine; decide), fun t6 z6 => ?_⟩
    obtain ⟨G6, f6, U6, W6⟩ := alloc (o := .tup [.ref a6, v]) z6
    rw [f6]
    refine ⟨(by show 3 ≤ sizeLine; decide), fun l1 y1 => ?_⟩
    obtain ⟨L1, g1, V1, X1⟩ := alloc (o := .lst [.ref t4, .ref t5, .ref t6]) y1
    rw [g1]
    have Y1 : L1 l0 = some (.lst [.ref t1, .ref t2, .ref t3]) := (((((((S4.trans S5).trans S6).trans U4).trans U5).trans U6).trans V1)) _ _ X0
    refine ⟨l0, l1, _, _, rfl, rfl, Y1, X1, (by show 6 ≤ sizeLine; decide), fun c1 w1 => ?_⟩
    obtain ⟨M1, k1, R1, N1⟩ := alloc (o := .lst ([.ref t1, .ref t2, .ref t3] ++ [.ref t4, .ref t5, .ref t6])) w1
    rw [k1]
    refine ⟨_, rfl, v, rfl, fun a7 d7 n7 m7 q7 => ?_⟩
    obtain ⟨H7, e7, S7, A7⟩ := alloc_err (C := C7) (f := "marks") (v := v) n7 m7 q7
    rw [e7]
    refine ⟨_, rfl, v, rfl, fun a8 d8 n8 m8 q8 => ?_⟩
    obtain ⟨H8, e8, S8, A8⟩ := alloc_err (C := C8) (f := "shape") (v := v) n8 m8 q8
    rw [e8]
    refine ⟨_, rfl, v, rfl, fun a9 d9 n9 m9 q9 => ?_⟩
    obtain ⟨H9, e9, S9, A9⟩ := alloc_err (C := C9) (f := "shape") (v := v) n9 m9 q9
    rw [e9]
    refine ⟨_, _, _, rfl, ?_⟩
    have B7 := A7.keep (S8.trans S9)
    refine ⟨_, rfl, _, rfl, _, rfl, a7, C7, d7, _, v, rfl, B7.1, B7.2, T7.xf, T7.noN, look1 _ _, (by show 2 ≤ sizeLine; decide), fun t7 z7 => ?_⟩
    obtain ⟨G7, f7, U7, W7⟩ := alloc (o := .tup [.ref a7, v]) z7
    rw [f7]
    have B8 := A8.keep (S9.trans U7)
    refine ⟨_, rfl, _, rfl, a8, C8, d8, _, v, rfl, B8.1, B8.2, T8.xf, T8.noN, look1 _ _, (by show 2 ≤ sizeLine; decide), fun t8 z8 => ?_⟩
    obtain ⟨G8, f8, U8, W8⟩ := alloc (o := .tup [.ref a8, v]) z8
    rw [f8]
    have B9 := A9.keep (U7.trans U8)
    refine ⟨_, rfl, _, rfl, a9, C9, d9, _, v, rfl, B9.1, B9.2, T9.xf, T9.noN, look1 _ _, (by show 2 ≤ sizeLine; decide), fun t9 z9 => ?_⟩
    obtain ⟨G9, f9, U9, W9⟩ := alloc (o := .tup [.ref a9, v]) z9
    rw [f9]
    refine ⟨(by show 3 ≤ sizeLine; decide), fun l2 y2 => ?_⟩
    obtain ⟨L2, g2, V2, X2⟩ := alloc (o := .lst [.ref t7, .ref t8, .ref t9]) y2
    rw [g2]
    have Y2 := ((((((S7.trans S8).trans S9).trans U7).trans U8).trans U9).trans V2) _ _ N1
    refine ⟨c1, l2, _, _, rfl, rfl, Y2, X2, (by show 9 ≤ sizeLine; decide), fun c2 w2 => ?_⟩
    obtain ⟨M2, k2, R2, N2⟩ := alloc (o := .lst (([.ref t1, .ref t2, .ref t3] ++ [.ref t4, .ref t5, .ref t6]) ++ [.ref t7, .ref t8, .ref t9])) w2
    rw [k2]
    have Z3 : Same L0 L1 := (((((S4.trans S5).trans S6).trans U4).trans U5).trans U6).trans V1
    have Z5 : Same M1 L2 := (((((S7.trans S8).trans S9).trans U7).trans U8).trans U9).trans V2
    have E1 : LinesAt L0 [t1, t2, t3] [C1, C2, C3] v := lines_cons ⟨_, _, _, ((U2.trans U3).trans V0) _ _ W1, B1.keep (((U1.trans U2).trans U3).trans V0)⟩ (lines_cons ⟨_, _, _, (U3.trans V0) _ _ W2, B2.keep ((U2.trans U3).trans V0)⟩ (lines_cons ⟨_, _, _, V0 _ _ W3, B3.keep (U3.trans V0)⟩ lines_nil))
    have E2 : LinesAt L1 [t4, t5, t6] [C4, C5, C6] v := lines_cons ⟨_, _, _, ((U5.trans U6).trans V1) _ _ W4, B4.keep (((U4.trans U5).trans U6).trans V1)⟩ (lines_cons ⟨_, _, _, (U6.trans V1) _ _ W5, B5.keep ((U5.trans U6).trans V1)⟩ (lines_cons ⟨_, _, _, V1 _ _ W6, B6.keep (U6.trans V1)⟩ lines_nil))
    have E3 : LinesAt L2 [t7, t8, t9] [C7, C8, C9] v := lines_cons ⟨_, _, _, ((U8.trans U9).trans V2) _ _ W7, B7.keep (((U7.trans U8).trans U9).trans V2)⟩ (lines_cons ⟨_, _, _, (U9.trans V2) _ _ W8, B8.keep ((U8.trans U9).trans V2)⟩ (lines_cons ⟨_, _, _, V2 _ _ W9, B9.keep (U9.trans V2)⟩ lines_nil))
    exact k c2 M2 [t1, t2, t3, t4, t5, t6, t7, t8, t9] (((((((((((S1.trans S2).trans S3).trans U1).trans U2).trans U3).trans V0).trans Z3).trans R1).trans Z5).trans R2)) N2
      (lines_app (ts := [t1, t2, t3, t4, t5, t6]) (Cs := [C1, C2, C3, C4, C5, C6]) (lines_app (ts := [t1, t2, t3]) (Cs := [C1, C2, C3]) (E1.keep (((Z3.trans R1).trans Z5).trans R2)) (E2.keep ((R1.trans Z5).trans R2))) (E3.keep R2))
end
end T14

set_option Elab.async false
set_option linter.all false
set_option maxRecDepth 100000
set_option maxHeartbeats 4000000
namespace T14
open PySem L2 EK
/-- what the law asks of the classes -/
structure Kinds (K : PySem.W.Frag) (E : Addr) (Cs : List Addr) : Prop where
  xc : ∀ C ∈ Cs, ExcC K C
  kt : ∀ (i j : Nat) C D, Cs[i]? = some C → Cs[j]? = some D → PySem.W.kitOne K (.ref C) (.ref D) = some (decide (i = j))
  ke : ∀ C ∈ Cs, PySem.W.kitOne K (.ref C) (.ref E) = some true
  kv : ∀ C ∈ Cs, PySem.W.kitOne K (.ref C) (.type "ValueError") = some true
def nine (i : Nat) : List V := [.bl (decide (i = 0)), .bl (decide (i = 1)), .bl (decide (i = 2)), .bl (decide (i = 3)), .bl (decide (i = 4)), .bl (decide (i = 5)), .bl (decide (i = 6)), .bl (decide (i = 7)), .bl (decide (i = 8))]
def spSorts (Cs : List Addr) : Sp := fun vs H Q _ => ∃ (a d C : Addr) (f : Str) (v : V) (i : Nat), vs = [.ref a] ∧ Cs[i]? = some C ∧ ErrAt H a d C f v ∧ ∀ p H', Same H H' → H' p = some (.lst (nine i)) → Q (.ref p) H'
structure TxtL (K : PySem.W.Frag) (mg : Str → Option Value) (E : Addr) : Prop where
  isinstance : mg "isinstance" = none
  enumerate : mg "enumerate" = none
  range : mg "range" = none
  bool : mg "bool" = none
  ve : mg "ValueError" = none
  gE : mg "TurnError" = some (.ref E)
section
variable {P : Program} {w : World} {K : PySem.W.Frag} {mg : Str → Option Value} {base : Heap} {E0 C1 C2 C3 C4 C5 C6 C7 C8 C9 f1 f2 f3 f4 f5 f6 f7 f8 f9 : Addr}
theorem scSorts : FnScope ["_law_error", "_law_found"] ["_law_error"] (defScope sSorts) := ⟨rfl, rfl, rfl, by decide +kernel, rfl, by decide +kernel, by decide +kernel⟩
theorem ok_sorts {f : Addr} {fd : FuncData} (F : Fun K "_law_sorts" "_law_sorts" sSorts f fd) (TL : TxtL K mg E0) (T : Kinds K E0 [C1, C2, C3, C4, C5, C6, C7, C8, C9]) (g1 : mg "NoText" = some (.ref C1)) (g2 : mg "NoRow" = some (.ref C2)) (g3 : mg "NoNumber" = some (.ref C3)) (g4 : mg "NoCounts" = some (.ref C4)) (g5 : mg "NoOrder" = some (.ref C5)) (g6 : mg "NoSampling" = some (.ref C6)) (g7 : mg "NoMarks" = some (.ref C7)) (g8 : mg "NoShape" = some (.ref C8)) (g9 : mg "Unordered" = some (.ref C9)) :
    FnOk P w K mg base CX0 1 f fd ["_law_error"] (spSorts [C1, C2, C3, C4, C5, C6, C7, C8, C9]) := by
  refine F.ok scSorts (fun vs H Q E h => ?_) (fun cdv A outer s H vs Q E hr h => ?_)
  · obtain ⟨a, d, C, f, v, i, rfl, _⟩ := h
    rfl
  · obtain ⟨a, d, C, f, v, i, rfl, hi, hE, k⟩ := h
    have nd := scSorts.nd
    refine ⟨_, (pss_cons (ps_set (i := 1) nd rfl (Or.inl rfl) (pe_lst (pa_cons (pe_callB call_isErr (by rfl) TL.isinstance (by decide +kernel) (pa_cons (pv 0) (pa_cons (pe_glob (v := .ref C1) rfl g1 rfl) pa_nil))) (pa_cons (pe_callB call_isErr (by rfl) TL.isinstance (by decide +kernel) (pa_cons (pv 0) (pa_cons (pe_glob (v := .ref C2) rfl g2 rfl) pa_nil))) (pa_cons (pe_callB call_isErr (by rfl) TL.isinstance (by decide +kernel) (pa_cons (pv 0) (pa_cons (pe_glob (v := .ref C3) rfl g3 rfl) pa_nil))) pa_nil)))))
      (pss_cons (ps_set (i := 1) nd rfl (Or.inl rfl) (pe_op op_cat (pv 1) (pe_lst (pa_cons (pe_callB call_isErr (by rfl) TL.isinstance (by decide +kernel) (pa_cons (pv 0) (pa_cons (pe_glob (v := .ref C4) rfl g4 rfl) pa_nil))) (pa_cons (pe_callB call_isErr (by rfl) TL.isinstance (by decide +kernel) (pa_cons (pv 0) (pa_cons (pe_glob (v := .ref C5) rfl g5 rfl) pa_nil))) (pa_cons (pe_callB call_isErr (by rfl) TL.isinstance (by decide +kernel) (pa_cons (pv 0) (pa_cons (pe_glob (v := .ref C6) rfl g6 rfl) pa_nil))) pa_nil))))))
      (pss_one (ps_ret (pe_op op_cat (pv 1) (pe_lst (pa_cons (pe_callB call_isErr (by rfl) TL.isinstance (by decide +kernel) (pa_cons (pv 0) (pa_cons (pe_glob (v := .ref C7) rfl g7 rfl) pa_nil))) (pa_cons (pe_callB call_isErr (by rfl) TL.isinstance (by decide +kernel) (pa_cons (pv 0) (pa_cons (pe_glob (v := .ref C8) rfl g8 rfl) pa_nil))) (pa_cons (pe_callB call_isErr (by rfl) TL.isinstance (by decide +kernel) (pa_cons (pv 0) (pa_cons (pe_glob (v := .ref C9) rfl g9 rfl) pa_nil))) pa_nil))))))))), ?_⟩
    refine ⟨_, rfl, a, C, some d, _, _, _, _, rfl, hE.1, (fun dd e => by cases e; exact hE.2), T.xc _ (List.mem_of_getElem? hi), .own C1, T.kt i 0 _ _ hi rfl, _, rfl, a, C, some d, _, _, _, _, rfl, hE.1, (fun dd e => by cases e; exact hE.2), T.xc _ (List.mem_of_getElem? hi), .own C2, T.kt i 1 _ _ hi rfl, _, rfl, a, C, some d, _, _, _, _, rfl, hE.1, (fun dd e => by cases e; exact hE.2), T.xc _ (List.mem_of_getElem? hi), .own C3, T.kt i 2 _ _ hi rfl, (by show 3 ≤ sizeLine; decide), fun p1 z1 => ?_⟩
    obtain ⟨H1, e1, S1, A1⟩ := alloc (o := .lst [.bl (decide (i = 0)), .bl (decide (i = 1)), .bl (decide (i = 2))]) z1
    rw [e1]
    have hE := hE.keep S1
    refine ⟨_, rfl, _, rfl, a, C, some d, _, _, _, _, rfl, hE.1, (fun dd e => by cases e; exact hE.2), T.xc _ (List.mem_of_getElem? hi), .own C4, T.kt i 3 _ _ hi rfl, _, rfl, a, C, some d, _, _, _, _, rfl, hE.1, (fun dd e => by cases e; exact hE.2), T.xc _ (List.mem_of_getElem? hi), .own C5, T.kt i 4 _ _ hi rfl, _, rfl, a, C, some d, _, _, _, _, rfl, hE.1, (fun dd e => by cases e; exact hE.2), T.xc _ (List.mem_of_getElem? hi), .own C6, T.kt i 5 _ _ hi rfl, (by show 3 ≤ sizeLine; decide), fun p2 z2 => ?_⟩
    obtain ⟨H2, e2, S2, A2⟩ := alloc (o := .lst [.bl (decide (i = 3)), .bl (decide (i = 4)), .bl (decide (i = 5))]) z2
    rw [e2]
    have hE := hE.keep S2
    refine ⟨p1, p2, _, _, rfl, rfl, S2 _ _ A1, A2, (by show 6 ≤ sizeLine; decide), fun p3 z3 => ?_⟩
    obtain ⟨H3, e3, S3, A3⟩ := alloc (o := .lst ([.bl (decide (i = 0)), .bl (decide (i = 1)), .bl (decide (i = 2))] ++ [.bl (decide (i = 3)), .bl (decide (i = 4)), .bl (decide (i = 5))])) z3
    rw [e3]
    have hE := hE.keep S3
    refine ⟨_, rfl, _, rfl, a, C, some d, _, _, _, _, rfl, hE.1, (fun dd e => by cases e; exact hE.2), T.xc _ (List.mem_of_getElem? hi), .own C7, T.kt i 6 _ _ hi rfl, _, rfl, a, C, some d, _, _, _, _, rfl, hE.1, (fun dd e => by cases e; exact hE.2), T.xc _ (List.mem_of_getElem? hi), .own C8, T.kt i 7 _ _ hi rfl, _, rfl, a, C, some d, _, _, _, _, rfl, hE.1, (fun dd e => by cases e; exact hE.2), T.xc _ (List.mem_of_getElem? hi), .own C9, T.kt i 8 _ _ hi rfl, (by show 3 ≤ sizeLine; decide), fun p4 z4 => ?_⟩
    obtain ⟨H4, e4, S4, A4⟩ := alloc (o := .lst [.bl (decide (i = 6)), .bl (decide (i = 7)), .bl (decide (i = 8))]) z4
    rw [e4]
    refine ⟨p3, p4, _, _, rfl, rfl, S4 _ _ A3, A4, (by show 9 ≤ sizeLine; decide), fun p5 z5 => ?_⟩
    obtain ⟨H5, e5, S5, A5⟩ := alloc (o := .lst (([.bl (decide (i = 0)), .bl (decide (i = 1)), .bl (decide (i = 2))] ++ [.bl (decide (i = 3)), .bl (decide (i = 4)), .bl (decide (i = 5))]) ++ [.bl (decide (i = 6)), .bl (decide (i = 7)), .bl (decide (i = 8))])) z5
    rw [e5]
    exact k p5 H5 ((((S1.trans S2).trans S3).trans S4).trans S5) A5
end
end T14

set_option Elab.async false
set_option linter.all false
set_option maxRecDepth 100000
set_option maxHeartbeats 4000000
namespace T14
open PySem L2 EK
theorem cut_ints (ns : List Int) (lo hi : Option Int) : ∃ ms : List Int, cutV (ns.map V.int) lo hi = ms.map V.int ∧ ms.length ≤ ns.length := by
  have h := cutV_length (ns.map V.int) lo hi
  have e : ∃ ms : List Int, cutV (ns.map V.int) lo hi = ms.map V.int := by
    unfold cutV
    rw [← List.map_drop, ← List.map_take]
    exact ⟨_, rfl⟩
  obtain ⟨ms, e⟩ := e
  rw [e, List.length_map, List.length_map] at h
  exact ⟨ms, e, h⟩
theorem int_at {ms : List Int} {i : Nat} {y : V} (h : (ms.map V.int)[i]? = some y) : ∃ z, y = V.int z := by
  rw [List.getElem?_map] at h
  cases e : ms[i]? with
  | none => rw [e] at h; cases h
  | some z => rw [e] at h; exact ⟨z, (Option.some.inj h).symm⟩
theorem WellAt.keep {H H' : Hp} {a : Addr} {n : Int} (h : WellAt H a n) (s : Same H H') : WellAt H' a n := by
  obtain ⟨w0, w1, w2, e, r⟩ := h
  exact ⟨w0, w1, w2, s _ _ e, r⟩
/-- the things of the law's menu, none of them the well at wl -/
inductive Thing (wl : Addr) (H : Hp) : V → Prop
  | non : Thing wl H .non
  | int (i : Int) : Thing wl H (.int i)
  | str (z : Str) : Thing wl H (.str z)
  | bl (b : Bool) : Thing wl H (.bl b)
  | tup {a : Addr} {xs : List V} (e : H a = some (.tup xs)) (n : a ≠ wl) (f : ∀ x ∈ xs, flatV x = true) : Thing wl H (.ref a)
  | lst {a : Addr} {xs : List V} (e : H a = some (.lst xs)) (n : a ≠ wl) (f : ∀ x ∈ xs, flatV x = true) : Thing wl H (.ref a)
  | dct {a : Addr} (e : H a = some (.dK [])) (n : a ≠ wl) : Thing wl H (.ref a)
theorem Thing.keepB {wl : Addr} {H H' : Hp} {x : V} (h : Thing wl H x) (s : KeepB wl H H') : Thing wl H' x := by
  cases h with
  | non => exact .non
  | int i => exact .int i
  | str z => exact .str z
  | bl b => exact .bl b
  | tup e n f => exact .tup (s _ _ e n) n f
  | lst e n f => exact .lst (s _ _ e n) n f
  | dct e n => exact .dct (s _ _ e n) n
theorem Thing.keep {wl : Addr} {H H' : Hp} {x : V} (h : Thing wl H x) (s : Same H H') : Thing wl H' x := h.keepB fun b o e _ => s b o e
theorem flat_ok {K : PySem.W.Frag} {H : Hp} {xs : List V} (f : ∀ x ∈ xs, flatV x = true) : ∀ (i : Nat) x y, xs[i]? = some x → xs[i]? = some y → Sm K H 60 x y := fun i x y h1 h2 => by
  have e : x = y := Option.some.inj (h1.symm.trans h2)
  subst e
  exact .rf x fun b z => by have q := f x (List.mem_of_getElem? h1); rw [z] at q; cases q
theorem Thing.sm {K : PySem.W.Frag} {wl : Addr} {H : Hp} {x : V} (h : Thing wl H x) : SmT K H x x := by
  cases h with
  | non => exact .sc _ rfl
  | int i => exact .sc _ rfl
  | str z => exact .sc _ rfl
  | bl b => exact .sc _ rfl
  | tup e n f => exact .tp (.of e) (.of e) rfl (flat_ok f)
  | lst e n f => exact .ls (.of e) (.of e) rfl (flat_ok f)
  | dct e n => exact .dk e e List.nodup_nil fun p h => by cases h
theorem Thing.ty {K : PySem.W.Frag} {wl : Addr} {H : Hp} {x : V} (h : Thing wl H x) : ∃ t b, TyX K H x t ∧ PySem.W.kitOne K t (.type "bool") = some b := by
  cases h with
  | non => exact ⟨_, false, .base .non, kit_ty (by decide +kernel)⟩
  | int i => exact ⟨_, false, .base (.int i), kit_ty (by decide +kernel)⟩
  | str z => exact ⟨_, false, .base (.str z), kit_ty (by decide +kernel)⟩
  | bl b => exact ⟨_, true, .base (.bl b), kit_ty (by decide +kernel)⟩
  | tup e n f => exact ⟨_, false, .base (.tup e), kit_ty (by decide +kernel)⟩
  | lst e n f => exact ⟨_, false, .base (.lst e), kit_ty (by decide +kernel)⟩
  | dct e n => exact ⟨_, false, .base (.dK e), kit_ty (by decide +kernel)⟩
def spLaw (K : PySem.W.Frag) : Sp := fun vs H Q _ => ∃ (a : Addr) (ns : List Int), vs = [.ref a] ∧ SqL K H a (ns.map V.int) ∧ ns.length ≤ 63 ∧ ∀ H', Q (.bl true) H'
theorem range_nine (j : Nat) : ((List.range 9).map fun k => V.bl (decide (V.int (j : Int) = V.int (0 + (k : Nat))))) = nine j := by
  have q : ∀ k : Nat, decide (V.int (j : Int) = V.int (0 + (k : Int))) = decide (j = k) := fun k => by
    by_cases h : j = k
    · subst h; simp
    · rw [decide_eq_false h, decide_eq_false]
      intro z
      injection z with z
      omega
  simp only [q]
  rfl
section
variable {P : Program} {w : World} {K : PySem.W.Frag} {mg : Str → Option Value} {base : Heap} {E0 C1 C2 C3 C4 C5 C6 C7 C8 C9 f1 f2 f3 f4 f5 f6 f7 f8 f9 : Addr}
theorem scLaw : FnScope ["_law_script", "_law_cell", "_law_well_here", "_law_thing", "_law_k", "_law_line", "_law_error", "_law_kept", "_law_spot"] ["_law_script"] (defScope sLaw) := ⟨rfl, rfl, rfl, by decide +kernel, rfl, by decide +kernel, by decide +kernel⟩
theorem ok_law {f fW fO fL fS : Addr} {fd fdW fdO fdL fdS : FuncData} (F : Fun K "law" "law" sLaw f fd) (TL : TxtL K mg E0) (T : Kinds K E0 [C1, C2, C3, C4, C5, C6, C7, C8, C9])
    (GW : FnOk P w K mg base CX0 1 fW fdW ["_law_cell"] spWell) (gW : mg "_law_well" = some (.ref fW)) (kW : PySem.W.keepIn K (.ref fW) = true) (bW : Binds K fdW ["_law_cell"] [])
    (GO : FnOk P w K mg base CX0 2 fO fdO ["_law_well_here", "_law_some"] spOne) (gO : mg "_law_one" = some (.ref fO)) (kO : PySem.W.keepIn K (.ref fO) = true) (bO : Binds K fdO ["_law_well_here", "_law_some"] [])
    (GL : FnOk P w K mg base CX0 2 fL fdL ["_law_thing"] (spLines [C1, C2, C3, C4, C5, C6, C7, C8, C9])) (gL : mg "_law_lines" = some (.ref fL)) (kL : PySem.W.keepIn K (.ref fL) = true) (bL : Binds K fdL ["_law_thing"] [])
    (GS : FnOk P w K mg base CX0 1 fS fdS ["_law_error"] (spSorts [C1, C2, C3, C4, C5, C6, C7, C8, C9])) (gS : mg "_law_sorts" = some (.ref fS)) (kS : PySem.W.keepIn K (.ref fS) = true) (bS : Binds K fdS ["_law_error"] []) :
    FnOk P w K mg base CX0 3 f fd ["_law_script"] (spLaw K) := by
  refine F.ok scLaw (fun vs H Q E h => ?_) (fun cdv A outer s H vs Q E hr h => ?_)
  · obtain ⟨a, ns, rfl, _⟩ := h
    rfl
  · obtain ⟨a, ns, rfl, hS, hlen, k⟩ := h
    have nd := scLaw.nd
    have hu := hu_of hr
    have hu : (A.deeper (PyProof.Rows.envOfC "law" (defScope sLaw) s.heap.objs.size f cdv)).units + 64 < cLine := hr.units
    have hr1 : Room 1 _ := hr.mono (by decide)
    have hr2 : Room 2 _ := hr.mono (by decide)
    refine ⟨_, (pss_cons (ps_for PassesOwn.never rfl (pi_list (pe_op op_cat (pe_slice sl_list (pv 0) po_none (po_some pe_int)) (pe_lst (pa_cons pe_int pa_nil)))) (pg_name (i := 1) nd rfl (Or.inl rfl)) (pss_cons (ps_set (i := 2) nd rfl (Or.inl rfl) (pe_call GW hr1 rfl gW kW bW .nil pass0 (pa_cons (pv 1) pa_nil)))
      (pss_cons (ps_set (i := 3) nd rfl (Or.inl rfl) (pe_call GO hr2 rfl gO kO bO .nil pass0 (pa_cons (pv 2) (pa_cons (pe_lst (pa_cons pe_non (pa_cons pe_int (pa_cons (pe_un un_neg pe_int) (pa_cons pe_str (pa_cons pe_str (pa_cons (pe_tup (pa_cons pe_int (pa_cons pe_int pa_nil))) (pa_cons (pe_cmpR op_eq pe_int pe_int (nomark _)) (pa_cons (pe_lst pa_nil) (pa_cons pe_dnewK (pa_cons (pe_lst (pa_cons pe_non pa_nil)) (pa_cons (pe_op op_pow pe_int pe_int) (pa_cons (pe_cmpR op_eq pe_int pe_int (nomark _)) pa_nil))))))))))))) pa_nil))))
      (pss_one (ps_for PassesOwn.never rfl (pi_enum (by rfl) TL.enumerate (pa_cons (pe_call GL hr2 rfl gL kL bL .nil pass0 (pa_cons (pv 3) pa_nil)) pa_nil)) (pg_tup rfl (pgs_cons (pg_name (i := 4) nd rfl (Or.inr rfl)) (pgs_cons (pg_name (i := 5) nd rfl (Or.inl rfl)) pgs_nil))) (pss_cons (ps_asg (pv 5) (pg_tup rfl (pgs_cons (pg_name (i := 6) nd rfl (Or.inl rfl)) (pgs_cons (pg_name (i := 7) nd rfl (Or.inl rfl)) pgs_nil))))
      (pss_cons (ps_if (PW.pt (pw_or (pt_not (pt_val (pe_callB call_isErr (by rfl) TL.isinstance (by decide +kernel) (pa_cons (pv 6) (pa_cons (pe_glob (v := .ref E0) rfl TL.gE rfl) pa_nil))))) (pw_or1 (pt_not (pt_val (pe_callB call_isErr (by rfl) TL.isinstance (by decide +kernel) (pa_cons (pv 6) (pa_cons (pe_bltn (v := .ty "ValueError") rfl TL.ve (by decide +kernel) rfl) pa_nil)))))))) (pss_one (ps_ret pe_bl)) pss_nil)
      (pss_cons (ps_if (pt_cmpR (op_neS hu) (pe_call GS hr1 rfl gS kS bS .nil pass0 (pa_cons (pv 6) pa_nil)) (pe_lc (own := [("_law_spot", 8)]) (g := gName 8) (tt := tYes) rfl nd (pi_range1 (by rfl) TL.range (pa_cons pe_int pa_nil)) (blkOk_by (N := ["_law_script", "_law_cell", "_law_well_here", "_law_thing", "_law_k", "_law_line", "_law_error", "_law_kept", "_law_spot"]) (sc := defScope sLaw) (by decide +kernel)) (fun _ _ _ _ _ => (pg_name (i := 8) nd rfl (Or.inl rfl))) (fun _ _ _ _ _ => pts_nil) (fun _ _ _ _ _ => (pe_cmpR op_eq (pv 4) (pv 8) (nomark _)))) (nomark _)) (pss_one (ps_ret pe_bl)) pss_nil)
      (pss_one (ps_if (PW.pt (pw_or (pt_cmpR (op_neS hu) (pv 7) (pv 3) (nomark _)) (pw_or1 (pt_cmpR op_ne (pe_callB call_isi (by rfl) TL.isinstance (by decide +kernel) (pa_cons (pv 7) (pa_cons (pe_bltn (v := .ty "bool") rfl TL.bool (by decide +kernel) rfl) pa_nil))) (pe_callB call_isi (by rfl) TL.isinstance (by decide +kernel) (pa_cons (pv 3) (pa_cons (pe_bltn (v := .ty "bool") rfl TL.bool (by decide +kernel) rfl) pa_nil))) (nomark _))))) (pss_one (ps_ret pe_bl)) pss_nil))))))))))
      (pss_one (ps_ret pe_bl))), ?_⟩
    obtain ⟨ms, hms, hml⟩ := cut_ints ns none (some 6)
    refine ⟨_, rfl, _, rfl, a, _, rfl, hS, fun p0 z0 => ?_⟩
    rw [hms]
    obtain ⟨H1, e1, S1, A1⟩ := alloc (o := .lst (ms.map V.int)) z0
    rw [e1]
    refine ⟨(by show 1 ≤ sizeLine; decide), fun p1 z1 => ?_⟩
    obtain ⟨H2, e2, S2, A2⟩ := alloc (o := .lst [.int 0]) z1
    rw [e2]
    refine ⟨p0, p1, _, _, rfl, rfl, S2 _ _ A1, A2, ?_, fun p2 z2 => ?_⟩
    · rw [List.length_map]
      exact Nat.le_trans (Nat.add_le_add_right (Nat.le_trans hml hlen) 1) (by show 64 ≤ sizeLine; decide)
    have em : ms.map V.int ++ [V.int 0] = (ms ++ [0]).map V.int := by rw [List.map_append]; rfl
    rw [em]
    obtain ⟨H3, e3, S3, A3⟩ := alloc (o := .lst ((ms ++ [0]).map V.int)) z2
    rw [e3]
    refine ⟨p2, rfl, ⟨_, .of A3⟩, for_list (K := K) (a := p2) (xs := (ms ++ [0]).map V.int) (fun i σ H' => ∃ v1 v2 v3 v4 v5 v6 v7 v8 : Option V, σ = [some (.ref a), v1, v2, v3, v4, v5, v6, v7, v8] ∧ Same H3 H') ⟨none, none, none, none, none, none, none, none, rfl, .refl _⟩ (fun i σ H' _ ⟨_, _, _, _, _, _, _, _, _, s⟩ => .of (s _ _ A3)) ?_ ?_⟩
    · rintro i y σ H4 hi ⟨v1, v2, v3, v4, v5, v6, v7, v8, rfl, s4⟩
      obtain ⟨z, rfl⟩ := int_at hi
      refine ⟨_, rfl, z, rfl, fun wl H5 nwl hw s5 => ?_⟩
      -- the menu
      refine ⟨_, rfl, _, rfl, (by show 2 ≤ sizeLine; decide), fun q1 y1 => ?_⟩
      obtain ⟨G1, g1, U1, B1⟩ := alloc (o := .tup [.int 1, .int 2]) y1
      rw [g1]
      refine ⟨rfl, (by show 0 ≤ sizeLine; decide), fun q2 y2 => ?_⟩
      obtain ⟨G2, g2, U2, B2⟩ := alloc (o := .lst []) y2
      rw [g2]
      intro q3 y3
      obtain ⟨G3, g3, U3, B3⟩ := alloc (o := .dK []) y3
      rw [g3]
      refine ⟨(by show 1 ≤ sizeLine; decide), fun q4 y4 => ?_⟩
      obtain ⟨G4, g4, U4, B4⟩ := alloc (o := .lst [.non]) y4
      rw [g4]
      refine ⟨_, _, rfl, rfl, ⟨by decide, by decide, by decide⟩, rfl, (by show 12 ≤ sizeLine; decide), fun q5 y5 => ?_⟩
      obtain ⟨G5, g5, U5, B5⟩ := alloc (o := .lst [.non, .int 0, .int (-1), .str "", .str "rows", .ref q1, .bl (decide (V.int 1 = V.int 1)), .ref q2, .ref q3, .ref q4, .int (10 ^ (30 : Int).toNat), .bl (decide (V.int 0 = V.int 1))]) y5
      rw [g5]
      have nw1 : q1 ≠ wl := fun e => by obtain ⟨_, _, _, e2, _⟩ := hw; rw [e, e2] at y1; cases y1
      have hw1 := hw.keep U1
      have nw2 : q2 ≠ wl := fun e => by obtain ⟨_, _, _, e2, _⟩ := hw1; rw [e, e2] at y2; cases y2
      have hw2 := hw1.keep U2
      have nw3 : q3 ≠ wl := fun e => by obtain ⟨_, _, _, e2, _⟩ := hw2; rw [e, e2] at y3; cases y3
      have hw3 := hw2.keep U3
      have nw4 : q4 ≠ wl := fun e => by obtain ⟨_, _, _, e2, _⟩ := hw3; rw [e, e2] at y4; cases y4
      have hw4 := hw3.keep U4
      have nw5 : q5 ≠ wl := fun e => by obtain ⟨_, _, _, e2, _⟩ := hw4; rw [e, e2] at y5; cases y5
      have V2 := (((U2.trans U3).trans U4).trans U5)
      have V3 := ((U3.trans U4).trans U5)
      have things : ∀ x ∈ [V.non, .int 0, .int (-1), .str "", .str "rows", .ref q1, .bl (decide (V.int 1 = V.int 1)), .ref q2, .ref q3, .ref q4, .int (10 ^ (30 : Int).toNat), .bl (decide (V.int 0 = V.int 1))], Thing wl G5 x := by
        intro x hx
        rcases List.mem_cons.mp hx with rfl | hx
        · exact .non
        rcases List.mem_cons.mp hx with rfl | hx
        · exact .int _
        rcases List.mem_cons.mp hx with rfl | hx
        · exact .int _
        rcases List.mem_cons.mp hx with rfl | hx
        · exact .str _
        rcases List.mem_cons.mp hx with rfl | hx
        · exact .str _
        rcases List.mem_cons.mp hx with rfl | hx
        · exact .tup (V2 _ _ B1) nw1 (fun x hx => by
            rcases List.mem_cons.mp hx with rfl | hx
            · rfl
            rcases List.mem_cons.mp hx with rfl | hx
            · rfl
            cases hx)
        rcases List.mem_cons.mp hx with rfl | hx
        · exact .bl _
        rcases List.mem_cons.mp hx with rfl | hx
        · exact .lst (V3 _ _ B2) nw2 (fun x hx => by cases hx)
        rcases List.mem_cons.mp hx with rfl | hx
        · exact .dct ((U4.trans U5) _ _ B3) nw3
        rcases List.mem_cons.mp hx with rfl | hx
        · exact .lst (U5 _ _ B4) nw4 (fun x hx => by
            rcases List.mem_cons.mp hx with rfl | hx
            · rfl
            cases hx)
        rcases List.mem_cons.mp hx with rfl | hx
        · exact .int _
        rcases List.mem_cons.mp hx with rfl | hx
        · exact .bl _
        cases hx
      refine ⟨wl, q5, 0, _, rfl, hw4.keep U5, by decide, B5, nw5, (by show 0 < 12; decide), (by show 12 ≤ 1000; decide), fun x H6 hx hw6 kb => ?_⟩
      have tx := (things x hx).keepB kb
      have s6 : Same H3 H6 := fun b o e => kb b o (((((U1.trans U2).trans U3).trans U4).trans U5) _ _ (s5 _ _ (s4 _ _ e))) (ne_of_none (s4 _ _ e) nwl)
      refine ⟨_, rfl, x, rfl, fun p H7 ts s7 hp hl => ?_⟩
      refine ⟨p, _, rfl, .of hp, for_it (walk_enum (K := K) (a := p) (xs := ts.map V.ref)) (fun j σ H' => ∃ v4 v5 v6 v7 v8 : Option V, σ = [some (.ref a), some (.int z), some (.ref wl), some x, v4, v5, v6, v7, v8] ∧ Same H7 H') ⟨_, _, _, _, _, rfl, .refl _⟩ (fun j σ H' _ ⟨_, _, _, _, _, _, s⟩ => .of (s _ _ hp)) ?_ ?_⟩
      · rintro j y σ H8 H9 hj ⟨v4, v5, v6, v7, v8, rfl, s8⟩ ⟨T0, x1, y1, rfl, hT, rfl, e1, e2⟩
        obtain ⟨H10, f10, S10, A10⟩ := alloc (o := .tup [x1, y1]) hT
        rw [f10]
        obtain rfl : V.int (j : Nat) = x1 := Option.some.inj e1
        obtain ⟨t, ht, rfl⟩ : ∃ t, ts[j]? = some t ∧ y1 = V.ref t := by
          have e2 : (ts.map V.ref)[j]? = some y1 := e2
          rw [List.getElem?_map] at e2
          cases e : ts[j]? with
          | none => rw [e] at e2; cases e2
          | some t => rw [e] at e2; exact ⟨t, rfl, (Option.some.inj e2).symm⟩
        have hj9 : j < 9 := by rw [List.length_map, hl.1] at hj; exact hj
        obtain ⟨C, hC⟩ : ∃ C, [C1, C2, C3, C4, C5, C6, C7, C8, C9][j]? = some C := ⟨_, List.getElem?_eq_getElem hj9⟩
        obtain ⟨e, d, f, ht1, hE⟩ := (hl.2 j t C ht hC).keep (s8.trans S10)
        refine ⟨T0, _, rfl, .of A10, rfl, _, _, rfl, _, _, rfl, rfl, ?_⟩
        refine ⟨_, rfl, t, _, rfl, .of ht1, rfl, _, _, rfl, _, _, rfl, rfl, ?_⟩
        -- isinstance twice
        refine ⟨_, rfl, e, C, some d, _, _, _, true, rfl, hE.1, (fun dd q => by cases q; exact hE.2), T.xc _ (List.mem_of_getElem? hC), .own E0, T.ke _ (List.mem_of_getElem? hC), _, rfl, iteF ?_⟩
        refine ⟨_, rfl, e, C, some d, _, _, _, true, rfl, hE.1, (fun dd q => by cases q; exact hE.2), T.xc _ (List.mem_of_getElem? hC), .ty _, T.kv _ (List.mem_of_getElem? hC), _, rfl, iteF ?_⟩
        -- the sorts
        refine ⟨_, rfl, e, d, C, f, x, j, rfl, hC, hE, fun p8 H11 s11 A11 => ?_⟩
        refine ⟨9, rfl, (by decide), (by decide), fun D hD => lc_range (lo := 0) (n := 9) (fun i H' => Same H11 H' ∧ H' D = some (.lst ((List.range i).map fun k => V.bl (decide (V.int (j : Int) = V.int (0 + (k : Nat))))))) ⟨fun b o e => by rw [upd_ne (ne_of_none e hD)]; exact e, upd_same⟩ ?_ ?_⟩
        · rintro i H12 hi ⟨s12, hD12⟩
          refine ⟨rfl, ?_⟩
          refine ⟨_, rfl, _, rfl, rfl, _, hD12, ?_, fun b o e => ?_, ?_⟩
          · rw [List.length_map, List.length_range]
            exact Nat.lt_of_lt_of_le hi (by show 9 ≤ sizeLine; decide)
          · rw [upd_ne (ne_of_none e hD)]
            exact s12 _ _ e
          · rw [upd_same, List.range_succ, List.map_append]
            rfl
        · rintro H12 ⟨s12, hD12⟩
          rw [range_nine] at hD12
          refine ⟨.ls (.of (s12 _ _ A11)) (.of hD12) rfl (fun i x y h1 h2 => ?_), _, rfl, iteF ?_⟩
          · have q : x = y := Option.some.inj (h1.symm.trans h2)
            subst q
            refine .rf x fun b z => ?_
            have m := List.mem_of_getElem? h1
            rw [z] at m
            simp [nine] at m
          have ty := (((((tx.keep s7).keep s8).keep S10).keep s11).keep s12)
          obtain ⟨tt, bb, ht2, hb2⟩ := ty.ty (K := K)
          refine ⟨_, rfl, _, rfl, ty.sm, _, rfl, iteF ?_⟩
          refine ⟨_, rfl, _, _, _, _, bb, rfl, .ty _, ht2, hb2, _, rfl, _, _, _, _, bb, rfl, .ty _, ht2, hb2, (by cases bb <;> rfl), _, rfl, iteNS rfl ?_⟩
          exact ⟨_, _, _, _, _, rfl, (((s8.trans S10).trans s11).trans s12)⟩
      · rintro σ H8 ⟨v4, v5, v6, v7, v8, rfl, s8⟩
        exact ⟨_, _, _, _, _, _, _, _, rfl, (s6.trans s7).trans s8⟩
    · rintro σ H4 ⟨v1, v2, v3, v4, v5, v6, v7, v8, rfl, s4⟩
      exact k H4
end
end T14

set_option Elab.async false
set_option linter.all false
set_option maxRecDepth 100000
set_option maxHeartbeats 4000000
namespace T14
open PySem L2 EK
theorem all_mk {l : PySem.W.OpenLaw} {w : World} {K : PySem.W.Frag} {h : Heap} {mg : Str → Option Value} {fa E0 C1 C2 C3 C4 C5 C6 C7 C8 C9 i1 i2 i3 i4 i5 i6 i7 i8 i9 : Addr} (X : K.In h) (G : h.Ns mainGlobals mg) (hfa : mg "law" = some (.ref fa))
    {fW : Addr} {odW anW : Option Addr} {slW : Array (Option Value)} {ocW kVW dcW pmW cdW ctW : Value}
    {fD : Addr} {odD anD : Option Addr} {slD : Array (Option Value)} {ocD kVD dcD pmD cdD ctD : Value}
    {fO : Addr} {odO anO : Option Addr} {slO : Array (Option Value)} {ocO kVO dcO pmO cdO ctO : Value}
    {fL : Addr} {odL anL : Option Addr} {slL : Array (Option Value)} {ocL kVL dcL pmL cdL ctL : Value}
    {fS : Addr} {odS anS : Option Addr} {slS : Array (Option Value)} {ocS kVS dcS pmS cdS ctS : Value}
    {fA : Addr} {odA anA : Option Addr} {slA : Array (Option Value)} {ocA kVA dcA pmA cdA ctA : Value}
    (T1 : ErrTxt l.prog K mg "NoText" "text" C1 i1) (T2 : ErrTxt l.prog K mg "NoRow" "row" C2 i2) (T3 : ErrTxt l.prog K mg "NoNumber" "number" C3 i3) (T4 : ErrTxt l.prog K mg "NoCounts" "counts" C4 i4) (T5 : ErrTxt l.prog K mg "NoOrder" "order" C5 i5) (T6 : ErrTxt l.prog K mg "NoSampling" "samples" C6 i6) (T7 : ErrTxt l.prog K mg "NoMarks" "marks" C7 i7) (T8 : ErrTxt l.prog K mg "NoShape" "shape" C8 i8) (T9 : ErrTxt l.prog K mg "Unordered" "shape" C9 i9)
    (x1 : errB K C1 i1 "text" = true) (x2 : errB K C2 i2 "row" = true) (x3 : errB K C3 i3 "number" = true) (x4 : errB K C4 i4 "counts" = true) (x5 : errB K C5 i5 "order" = true) (x6 : errB K C6 i6 "samples" = true) (x7 : errB K C7 i7 "marks" = true) (x8 : errB K C8 i8 "shape" = true) (x9 : errB K C9 i9 "shape" = true)
    (hn : PySem.W.specialIn K (.builtin "object.__class__") "__get__" = some (some (.builtin "getset_descriptor.__get__"))) (ht : PySem.W.takesIn K (.builtin "object.__class__") = some true)
    (aE : PySem.W.nsIn K mainGlobals "TurnError" = some (some (.ref E0))) (kB : kindsB K E0 [C1, C2, C3, C4, C5, C6, C7, C8, C9] = true)
    (aW : PySem.W.nsIn K mainGlobals "_law_well" = some (some (.ref fW))) (lW : K.lookup fW = some ⟨ocW, odW, .func (PySem.W.fnOf "_law_well" "_law_well" (defArgs sWell) (defBody sWell) (defScope sWell) .none kVW dcW pmW anW cdW ctW), slW⟩) (cW : PySem.W.codeIn K cdW "_law_well" = true) (kW : PySem.W.keepIn K (.ref fW) = true)
    (aD : PySem.W.nsIn K mainGlobals "_law_draw" = some (some (.ref fD))) (lD : K.lookup fD = some ⟨ocD, odD, .func (PySem.W.fnOf "_law_draw" "_law_draw" (defArgs sDraw) (defBody sDraw) (defScope sDraw) .none kVD dcD pmD anD cdD ctD), slD⟩) (cD : PySem.W.codeIn K cdD "_law_draw" = true) (kD : PySem.W.keepIn K (.ref fD) = true)
    (aO : PySem.W.nsIn K mainGlobals "_law_one" = some (some (.ref fO))) (lO : K.lookup fO = some ⟨ocO, odO, .func (PySem.W.fnOf "_law_one" "_law_one" (defArgs sOne) (defBody sOne) (defScope sOne) .none kVO dcO pmO anO cdO ctO), slO⟩) (cO : PySem.W.codeIn K cdO "_law_one" = true) (kO : PySem.W.keepIn K (.ref fO) = true)
    (aL : PySem.W.nsIn K mainGlobals "_law_lines" = some (some (.ref fL))) (lL : K.lookup fL = some ⟨ocL, odL, .func (PySem.W.fnOf "_law_lines" "_law_lines" (defArgs sLines) (defBody sLines) (defScope sLines) .none kVL dcL pmL anL cdL ctL), slL⟩) (cL : PySem.W.codeIn K cdL "_law_lines" = true) (kL : PySem.W.keepIn K (.ref fL) = true)
    (aS : PySem.W.nsIn K mainGlobals "_law_sorts" = some (some (.ref fS))) (lS : K.lookup fS = some ⟨ocS, odS, .func (PySem.W.fnOf "_law_sorts" "_law_sorts" (defArgs sSorts) (defBody sSorts) (defScope sSorts) .none kVS dcS pmS anS cdS ctS), slS⟩) (cS : PySem.W.codeIn K cdS "_law_sorts" = true) (kS : PySem.W.keepIn K (.ref fS) = true)
    (aA : PySem.W.nsIn K mainGlobals "law" = some (some (.ref fA))) (lA : K.lookup fA = some ⟨ocA, odA, .func (PySem.W.fnOf "law" "law" (defArgs sLaw) (defBody sLaw) (defScope sLaw) .none kVA dcA pmA anA cdA ctA), slA⟩) (cA : PySem.W.codeIn K cdA "law" = true) (kA : PySem.W.keepIn K (.ref fA) = true)
    (z1 : PySem.W.nsIn K mainGlobals "int" = some none) (z2 : PySem.W.nsIn K mainGlobals "len" = some none) (z3 : PySem.W.nsIn K mainGlobals "isinstance" = some none) (z4 : PySem.W.nsIn K mainGlobals "enumerate" = some none)
    (z5 : PySem.W.nsIn K mainGlobals "range" = some none) (z6 : PySem.W.nsIn K mainGlobals "bool" = some none) (z7 : PySem.W.nsIn K mainGlobals "ValueError" = some none) :
    ∃ fd : FuncData, (∀ (s : Shared) (v : Value), BindsTo s fd ⟨[v], []⟩ [("_law_script", v)]) ∧ ∀ base : Heap, K.In base → base.Ns mainGlobals mg → FnOk l.prog w K mg base CX0 3 fa fd ["_law_script"] (spLaw K) := by
  have e := hfa.symm.trans (PySem.W.mg_of X G aA)
  cases e
  have TD : TxtD K mg := ⟨PySem.W.mg_none_of X G z1, PySem.W.mg_none_of X G z2⟩
  have TL : TxtL K mg E0 := ⟨PySem.W.mg_none_of X G z3, PySem.W.mg_none_of X G z4, PySem.W.mg_none_of X G z5, PySem.W.mg_none_of X G z6, PySem.W.mg_none_of X G z7, PySem.W.mg_of X G aE⟩
  have FW := fun_mk (st := sWell) lW cW kW
  have FD := fun_mk (st := sDraw) lD cD kD
  have FO := fun_mk (st := sOne) lO cO kO
  have FL := fun_mk (st := sLines) lL cL kL
  have FS := fun_mk (st := sSorts) lS cS kS
  have FA := fun_mk (st := sLaw) lA cA kA
  have bW := FW.binds (ps := ["_law_cell"]) fun _ _ _ _ _ _ us hl => match us, hl with | [_], _ => rfl
  have bD := FD.binds (ps := ["_law_well_here", "_law_many"]) fun _ _ _ _ _ _ us hl => match us, hl with | [_, _], _ => rfl
  have bO := FO.binds (ps := ["_law_well_here", "_law_some"]) fun _ _ _ _ _ _ us hl => match us, hl with | [_, _], _ => rfl
  have bL := FL.binds (ps := ["_law_thing"]) fun _ _ _ _ _ _ us hl => match us, hl with | [_], _ => rfl
  have bS := FS.binds (ps := ["_law_error"]) fun _ _ _ _ _ _ us hl => match us, hl with | [_], _ => rfl
  have TK : Kinds K E0 [C1, C2, C3, C4, C5, C6, C7, C8, C9] := ⟨fun C hC => by
      simp only [List.mem_cons, List.not_mem_nil, or_false] at hC
      rcases hC with rfl | rfl | rfl | rfl | rfl | rfl | rfl | rfl | rfl
      · exact excC_of x1 hn ht
      · exact excC_of x2 hn ht
      · exact excC_of x3 hn ht
      · exact excC_of x4 hn ht
      · exact excC_of x5 hn ht
      · exact excC_of x6 hn ht
      · exact excC_of x7 hn ht
      · exact excC_of x8 hn ht
      · exact excC_of x9 hn ht, kinds_kt kB, fun C hC => (kinds_ke kB C hC).1, fun C hC => (kinds_ke kB C hC).2⟩
  refine ⟨PySem.W.fnOf "law" "law" (defArgs sLaw) (defBody sLaw) (defScope sLaw) .none kVA dcA pmA anA cdA ctA, fun s v => .of_eq rfl, fun base _ _ => ?_⟩
  have GW : FnOk l.prog w K mg base CX0 1 fW _ ["_law_cell"] spWell := ok_well FW TD
  have GO : FnOk l.prog w K mg base CX0 2 fO _ ["_law_well_here", "_law_some"] spOne := ok_one FO TD FD (PySem.W.mg_of X G aD) bD
  have GL : FnOk l.prog w K mg base CX0 2 fL _ ["_law_thing"] (spLines [C1, C2, C3, C4, C5, C6, C7, C8, C9]) := ok_lines FL T1 T2 T3 T4 T5 T6 T7 T8 T9
  have GS : FnOk l.prog w K mg base CX0 1 fS _ ["_law_error"] (spSorts [C1, C2, C3, C4, C5, C6, C7, C8, C9]) := ok_sorts FS TL TK T1.gC T2.gC T3.gC T4.gC T5.gC T6.gC T7.gC T8.gC T9.gC
  exact ok_law FA TL TK GW (PySem.W.mg_of X G aW) kW bW GO (PySem.W.mg_of X G aO) kO bO GL (PySem.W.mg_of X G aL) kL bL GS (PySem.W.mg_of X G aS) kS bS
theorem walk {l : PySem.W.OpenLaw} {q : Program} {loose : List Str} {XP : (Str → Option Value) → Heap → Prop} {YP : World → Heap → Prop} {d : DefRec} {K : Params → PySem.W.Frag} (hn : l.most = some 63) (hdf : d.params.defaults = [])
    (hY : ∀ (w : World) (h : Heap), YP w h → (K w.params).In h)
    (F : ∀ (w : World) (mg : Str → Option Value) (fa : Addr) (h : Heap), (K w.params).In h → h.Ns mainGlobals mg → mg d.name = some (.ref fa) →
      ∃ fd : FuncData, (∀ (s : Shared) (u : Value), BindsTo s fd ⟨[u], []⟩ [("_law_script", u)]) ∧ ∀ base : Heap, (K w.params).In base → base.Ns mainGlobals mg → FnOk l.prog w (K w.params) mg base CX0 3 fa fd ["_law_script"] (spLaw (K w.params))) :
    PySem.W.WalkO q loose XP YP l.row.toRowW d [] (fun f vs => PySem.call f vs) :=
  L2.walk_of (n := 63) (k := 3) (x := "_law_script") (CX := fun _ => CX0) (sp := fun w => spLaw (K w.params)) hn (by decide) hdf ⟨rfl, by decide, by decide⟩ hY F (fun _ _ a ns hl _ hS => ⟨a, ns, rfl, hS, hl, fun _ => rfl⟩) fun _ _ _ _ _ z => z
end T14
open PySem PySem.W PyProof.Rows
set_option maxRecDepth 100000 in
set_option maxHeartbeats 0 in
theorem PySem.Challenge.cw_turnindex_k14_errors_by_hand_holds : PySem.Challenge.rw_turnindex_k14_errors_by_hand.Holds := by
  w_on; o_law; k_head; (case hw => w_witness2)
  k_fill
  refine T14.walk (l := PySem.Challenge.rw_turnindex_k14_errors_by_hand) rfl rfl (fun w h Y => PySem.W.kIn_of Y) ?F
  case F =>
    intro w mg fa h KX G hmg
    refine' T14.all_mk KX G hmg (EK.err_mk (x := "NoText") (f := "text") KX G ?aC1 ?xL1 ?rv1 ?iC1 ?l11 ?c11 ?bd1 ?sc1 ?cd1 ?vf1 ?pf1 ?cL1 ?eB1 ?ho1 ?su1 ?fok1 ?top1) (EK.err_mk (x := "NoRow") (f := "row") KX G ?aC2 ?xL2 ?rv2 ?iC2 ?l12 ?c12 ?bd2 ?sc2 ?cd2 ?vf2 ?pf2 ?cL2 ?eB2 ?ho2 ?su2 ?fok2 ?top2) (EK.err_mk (x := "NoNumber") (f := "number") KX G ?aC3 ?xL3 ?rv3 ?iC3 ?l13 ?c13 ?bd3 ?sc3 ?cd3 ?vf3 ?pf3 ?cL3 ?eB3 ?ho3 ?su3 ?fok3 ?top3) (EK.err_mk (x := "NoCounts") (f := "counts") KX G ?aC4 ?xL4 ?rv4 ?iC4 ?l14 ?c14 ?bd4 ?sc4 ?cd4 ?vf4 ?pf4 ?cL4 ?eB4 ?ho4 ?su4 ?fok4 ?top4) (EK.err_mk (x := "NoOrder") (f := "order") KX G ?aC5 ?xL5 ?rv5 ?iC5 ?l15 ?c15 ?bd5 ?sc5 ?cd5 ?vf5 ?pf5 ?cL5 ?eB5 ?ho5 ?su5 ?fok5 ?top5) (EK.err_mk (x := "NoSampling") (f := "samples") KX G ?aC6 ?xL6 ?rv6 ?iC6 ?l16 ?c16 ?bd6 ?sc6 ?cd6 ?vf6 ?pf6 ?cL6 ?eB6 ?ho6 ?su6 ?fok6 ?top6) (EK.err_mk (x := "NoMarks") (f := "marks") KX G ?aC7 ?xL7 ?rv7 ?iC7 ?l17 ?c17 ?bd7 ?sc7 ?cd7 ?vf7 ?pf7 ?cL7 ?eB7 ?ho7 ?su7 ?fok7 ?top7) (EK.err_mk (x := "NoShape") (f := "shape") KX G ?aC8 ?xL8 ?rv8 ?iC8 ?l18 ?c18 ?bd8 ?sc8 ?cd8 ?vf8 ?pf8 ?cL8 ?eB8 ?ho8 ?su8 ?fok8 ?top8) (EK.err_mk (x := "Unordered") (f := "shape") KX G ?aC9 ?xL9 ?rv9 ?iC9 ?l19 ?c19 ?bd9 ?sc9 ?cd9 ?vf9 ?pf9 ?cL9 ?eB9 ?ho9 ?su9 ?fok9 ?top9) ?x1 ?x2 ?x3 ?x4 ?x5 ?x6 ?x7 ?x8 ?x9 ?hn ?ht ?aE ?kB ?aW ?lW ?cW ?kW ?aD ?lD ?cD ?kD ?aO ?lO ?cO ?kO ?aL ?lL ?cL ?kL ?aS ?lS ?cS ?kS ?aA ?lA ?cA ?kA ?z1 ?z2 ?z3 ?z4 ?z5 ?z6 ?z7
    (case aC1 => k_is); (case xL1 => k_is); (case rv1 => kernel_rfl); (case iC1 => k_is); (case l11 => k_is); (case c11 => k_is); (case bd1 => exact fun _ _ => rfl); (case sc1 => exact fun L => ⟨_, rfl⟩); (case cd1 => k_is); (case vf1 => rfl); (case pf1 => kernel_rfl); (case cL1 => k_is); (case eB1 => kernel_rfl); (case ho1 => k_is); (case su1 => k_is); (case fok1 => exact ⟨by decide +kernel, by decide +kernel, by decide +kernel, by decide +kernel⟩); (case top1 => kernel_rfl)
    (case aC2 => k_is); (case xL2 => k_is); (case rv2 => kernel_rfl); (case iC2 => k_is); (case l12 => k_is); (case c12 => k_is); (case bd2 => exact fun _ _ => rfl); (case sc2 => exact fun L => ⟨_, rfl⟩); (case cd2 => k_is); (case vf2 => rfl); (case pf2 => kernel_rfl); (case cL2 => k_is); (case eB2 => kernel_rfl); (case ho2 => k_is); (case su2 => k_is); (case fok2 => exact ⟨by decide +kernel, by decide +kernel, by decide +kernel, by decide +kernel⟩); (case top2 => kernel_rfl)
    (case aC3 => k_is); (case xL3 => k_is); (case rv3 => kernel_rfl); (case iC3 => k_is); (case l13 => k_is); (case c13 => k_is); (case bd3 => exact fun _ _ => rfl); (case sc3 => exact fun L => ⟨_, rfl⟩); (case cd3 => k_is); (case vf3 => rfl); (case pf3 => kernel_rfl); (case cL3 => k_is); (case eB3 => kernel_rfl); (case ho3 => k_is); (case su3 => k_is); (case fok3 => exact ⟨by decide +kernel, by decide +kernel, by decide +kernel, by decide +kernel⟩); (case top3 => kernel_rfl)
    (case aC4 => k_is); (case xL4 => k_is); (case rv4 => kernel_rfl); (case iC4 => k_is); (case l14 => k_is); (case c14 => k_is); (case bd4 => exact fun _ _ => rfl); (case sc4 => exact fun L => ⟨_, rfl⟩); (case cd4 => k_is); (case vf4 => rfl); (case pf4 => kernel_rfl); (case cL4 => k_is); (case eB4 => kernel_rfl); (case ho4 => k_is); (case su4 => k_is); (case fok4 => exact ⟨by decide +kernel, by decide +kernel, by decide +kernel, by decide +kernel⟩); (case top4 => kernel_rfl)
    (case aC5 => k_is); (case xL5 => k_is); (case rv5 => kernel_rfl); (case iC5 => k_is); (case l15 => k_is); (case c15 => k_is); (case bd5 => exact fun _ _ => rfl); (case sc5 => exact fun L => ⟨_, rfl⟩); (case cd5 => k_is); (case vf5 => rfl); (case pf5 => kernel_rfl); (case cL5 => k_is); (case eB5 => kernel_rfl); (case ho5 => k_is); (case su5 => k_is); (case fok5 => exact ⟨by decide +kernel, by decide +kernel, by decide +kernel, by decide +kernel⟩); (case top5 => kernel_rfl)
    (case aC6 => k_is); (case xL6 => k_is); (case rv6 => kernel_rfl); (case iC6 => k_is); (case l16 => k_is); (case c16 => k_is); (case bd6 => exact fun _ _ => rfl); (case sc6 => exact fun L => ⟨_, rfl⟩); (case cd6 => k_is); (case vf6 => rfl); (case pf6 => kernel_rfl); (case cL6 => k_is); (case eB6 => kernel_rfl); (case ho6 => k_is); (case su6 => k_is); (case fok6 => exact ⟨by decide +kernel, by decide +kernel, by decide +kernel, by decide +kernel⟩); (case top6 => kernel_rfl)
    (case aC7 => k_is); (case xL7 => k_is); (case rv7 => kernel_rfl); (case iC7 => k_is); (case l17 => k_is); (case c17 => k_is); (case bd7 => exact fun _ _ => rfl); (case sc7 => exact fun L => ⟨_, rfl⟩); (case cd7 => k_is); (case vf7 => rfl); (case pf7 => kernel_rfl); (case cL7 => k_is); (case eB7 => kernel_rfl); (case ho7 => k_is); (case su7 => k_is); (case fok7 => exact ⟨by decide +kernel, by decide +kernel, by decide +kernel, by decide +kernel⟩); (case top7 => kernel_rfl)
    (case aC8 => k_is); (case xL8 => k_is); (case rv8 => kernel_rfl); (case iC8 => k_is); (case l18 => k_is); (case c18 => k_is); (case bd8 => exact fun _ _ => rfl); (case sc8 => exact fun L => ⟨_, rfl⟩); (case cd8 => k_is); (case vf8 => rfl); (case pf8 => kernel_rfl); (case cL8 => k_is); (case eB8 => kernel_rfl); (case ho8 => k_is); (case su8 => k_is); (case fok8 => exact ⟨by decide +kernel, by decide +kernel, by decide +kernel, by decide +kernel⟩); (case top8 => kernel_rfl)
    (case aC9 => k_is); (case xL9 => k_is); (case rv9 => kernel_rfl); (case iC9 => k_is); (case l19 => k_is); (case c19 => k_is); (case bd9 => exact fun _ _ => rfl); (case sc9 => exact fun L => ⟨_, rfl⟩); (case cd9 => k_is); (case vf9 => rfl); (case pf9 => kernel_rfl); (case cL9 => k_is); (case eB9 => kernel_rfl); (case ho9 => k_is); (case su9 => k_is); (case fok9 => exact ⟨by decide +kernel, by decide +kernel, by decide +kernel, by decide +kernel⟩); (case top9 => kernel_rfl)
    (case x1 => kernel_rfl); (case x2 => kernel_rfl); (case x3 => kernel_rfl); (case x4 => kernel_rfl); (case x5 => kernel_rfl); (case x6 => kernel_rfl); (case x7 => kernel_rfl); (case x8 => kernel_rfl); (case x9 => kernel_rfl)
    (case hn => k_is); (case ht => k_is); (case aE => k_is); (case kB => kernel_rfl)
    (case aW => k_is); (case lW => k_is); (case cW => k_is); (case kW => k_is)
    (case aD => k_is); (case lD => k_is); (case cD => k_is); (case kD => k_is)
    (case aO => k_is); (case lO => k_is); (case cO => k_is); (case kO => k_is)
    (case aL => k_is); (case lL => k_is); (case cL => k_is); (case kL => k_is)
    (case aS => k_is); (case lS => k_is); (case cS => k_is); (case kS => k_is)
    (case aA => k_is); (case lA => k_is); (case cA => k_is); (case kA => k_is)
    (case z1 => k_is); (case z2 => k_is); (case z3 => k_is); (case z4 => k_is); (case z5 => k_is); (case z6 => k_is); (case z7 => k_is)
#print axioms PySem.Challenge.cw_turnindex_k14_errors_by_hand_holds
