import PyProof.Rows.All
import Wide.All
import OpenK.AllK
import Wide.FinOn
import KE.KExcSuper
import HandS.ForMost
import HandS.Exc
import HandS.ExcInit
import HandS.ExcField
import HandS.ExcValue
import HandS.Style
import HandS.Walk
import HandS.IsInst
import HandS.More
import KE.KExcIs
import PyProof.NeKinds
import KE.KEqDict
import HandS.ExcIs
import HandS.TryMany
import HandS.Lambda
import HandS.EndTab
import HandS.Strs
import KE.SortData
import KE.DataMinMax
import PyProof.Draws
import PyProof.EnumMake
import HandS.Codes
import HandS.WordsExc
import KE.KNestM
import PySem.Challenge.RW_turnindex_k05_what_is_no_row
set_option Elab.async false
set_option linter.all false
set_option maxRecDepth 100000
set_option maxHeartbeats 4000000
/-! ErrKit: an error class of the program: __init__ says super().__init__(text), then keeps its one value. -/
namespace EK
open PySem PySem.W PySem.Calls PyProof.Rows PySem.HandSPX L2
/-! ### the text of such an __init__ -/
def eArgs (f : Str) (p1 p2 : Pos) : Arguments := { posonlyargs := [], args := [{ arg := "self", annotation := none, pos := p1 }, { arg := f, annotation := none, pos := p2 }], vararg := none, kwonlyargs := [], kw_defaults := [], kwarg := none, defaults := [] }
def eBody (f msg : Str) (a1 a2 a3 a4 a5 a6 b1 b2 b3 b4 : Pos) : List Stmt :=
  [.Expr (.Call (.Attribute (.Call (.Name "super" a1) [] [] a2) "__init__" a3) [.Constant (.str msg) 0 a4] [] a5) a6, .Assign [.Attribute (.Name "self" b1) f b2] (.Name f b3) b4]
def eScope (f : Str) : Scope := { kind := .function, names := [(PySem.Str.ofString "self", .local), (f, .local), (PySem.Str.ofString "__class__", .free), (PySem.Str.ofString "super", .globalImplicit)], isGenerator := false, isCoroutine := false, more := [] }

/-- the row super().__init__(msg) of the text, as a call of a method -/
def SupCall (a1 a2 a3 a4 a5 : Pos) (msg : Str) (env : Env) : Prop := ∃ pl : Sem Bool,
  eval (.Call (.Attribute (.Call (.Name "super" a1) [] [] a2) "__init__" a3) [.Constant (.str msg) 0 a4] [] a5) env = (do
    let ov ← attributeBase (.Call (.Name "super" a1) [] [] a2) "__init__" env (eval (.Call (.Name "super" a1) [] [] a2) env)
    standAt a3.atName
    let (g, first) ← holding [ov] (getMethod ov "__init__" pl)
    callWith a5 g first (backTo a5 (starEach [.Constant (.str msg) 0 a4] env)) [])
/-- what the top has written of the class x at C, of its __init__ at fI -/
structure ErrTxt (P : Program) (K : Frag) (mg : Str → Option Value) (x f : Str) (C fI : Addr) : Prop where
  gC : mg x = some (.ref C)
  cls : ∃ nm q N bs bm sn sub ab col dd k0 k1 k2 k3 k5, K.lookup C = some (excClassObj nm q C N bs bm true sn sub ab col dd k0 k1 k2 k3 k5 "ValueError.__new__") ∧ refsVE bm = true
  sa : findIn K (.ref C) "__setattr__" = some (some (.builtin "object.__setattr__"))
  ga : findIn K (.ref C) "__getattribute__" = some (some (.builtin "BaseException.__getattribute__"))
  gg : findIn K (.ref C) "__getattr__" = some none
  noN : findIn K (.ref C) f = some none
  iC : findIn K (.ref C) "__init__" = some (some (.ref fI))
  tC : typeIn K (.ref fI) = some (.type "function")
  kC : keepIn K (.ref C) = true
  exC : subIn K (.ref C) (.type "BaseException") = some true
  tyC : typeIn K (.ref C) = some (.type "type")
  hdC : hasDictIn K C = true
  te : exmOne K (.ref C) (.ref C) = some true
  hB : subIn K (.ref C) (.type "ValueError") = some true
  si : ks_superIn K C C "__init__" = some (some (.builtin "ValueError.__init__"))
  ho : nsIn K cStatics "thirdparty.any" = some none
  su : mg "super" = none
  mC : mroIn K C (.ref C) = some true
  fok : f ≠ "self" ∧ f ≠ "__class__" ∧ f ≠ "super" ∧ f ≠ "__debug__"
  top : (P.main.scope.names.lookup ("super" : Str)).isSome = false
  fn : ∃ (oc : Value) (od : Option Addr) (qn msg : Str) (doc pm : Value) (an : Option Addr) (cda cc : Addr) (ct : Value) (osl : Array (Option Value)) (p1 p2 a1 a2 a3 a4 a5 a6 b1 b2 b3 b4 : Pos),
    K.lookup fI = some ⟨oc, od, .func (ksFn "__init__" qn (eArgs f p1 p2) (eBody f msg a1 a2 a3 a4 a5 a6 b1 b2 b3 b4) (eScope f) .none .none doc pm an (.ref cda) ct cc), osl⟩ ∧ codeIn K (.ref cda) qn = true ∧
    (∀ u v : Value, bindArgs (ksFn "__init__" qn (eArgs f p1 p2) (eBody f msg a1 a2 a3 a4 a5 a6 b1 b2 b3 b4) (eScope f) .none .none doc pm an (.ref cda) ct cc) ⟨[u, v], []⟩ = pure [(("self" : Str), u), (f, v)]) ∧
    (∀ L : Addr, SupCall a1 a2 a3 a4 a5 msg (callEnv (ksFn "__init__" qn (eArgs f p1 p2) (eBody f msg a1 a2 a3 a4 a5 a6 b1 b2 b3 b4) (eScope f) .none .none doc pm an (.ref cda) ct cc) L fI)) ∧
    (∃ (ccl : Value) (cdd : Option Addr) (ccs : Array (Option Value)) (vs : Array Value) (file : Str) (tf : Tok), K.lookup cda = some ⟨ccl, cdd, .fields vs, ccs⟩ ∧ vs[2]? = some (.str file tf) ∧ ((P.main.file : Str) == file) = true) ∧
    ∃ (cl : Value) (cld : Option Addr) (csl : Array (Option Value)), K.lookup cc = some ⟨cl, cld, .cell (some (.ref C)), csl⟩
theorem one_size (v : Value) : [v].length ≤ sizeLine := by
  rw [sizeLine_eq]
  exact (by decide : 1 ≤ 16777216)
/-- what __init__ leaves of the exception at y -/
structure MadeI (h h' : Heap) (y C dx : Addr) (f : Str) (v : Value) : Prop where
  keep : ∀ b o, b ≠ y → h.get? b = some o → h'.get? b = some o
  obj : ∃ t1 : Addr, h'.get? y = some { cls := .ref C, dict := some dx, data := .fields #[.ref t1, .none, .none, .none, .bool false, .none] }
  dbig : h.objs.size ≤ dx
  dne : dx ≠ y
  ns : h'.Ns1 dx (fun z => if z = f then some v else none)
theorem kept_but {K : Frag} {h h' : Heap} {x : Addr} (X : K.In h) (hx : K.lookup x = none) (k : ∀ b o, b ≠ x → h.get? b = some o → h'.get? b = some o) : K.In h' := fun a o e =>
  k a o (fun z => by rw [z, hx] at e; cases e) (X a o e)
section
variable {prog : Program} {w : World} {A : Around} {E : Value → Shared → Prop} {R : Result → Shared → Prop} {s : Shared} {K : Frag} {mg : Str → Option Value} {C fI : Addr} {x f : Str}
/-- the method-wrapper that super().__init__ gives is called -/
theorem call_mw {u e t0 : Addr} {rest : List Value} {nm q : Str} {C N : Addr} {bs bm : List Value} {hdct : Bool} {sn : List Str} {sub : List Value} {ab : Bool} {col : Option Bool} {dd : Option Addr} {k0 k1 k2 k3 k5 : Option Value} {Q : Value → Shared → Prop}
    (hC : s.heap.get? C = some (excClassObj nm q C N bs bm hdct sn sub ab col dd k0 k1 k2 k3 k5 "ValueError.__new__")) (he : s.heap.get? e = some (excO C t0)) (hu : s.heap.get? u = some (kxs_mw "ValueError.__init__" e)) (hrest : rest.length ≤ sizeLine)
    (hq : ∀ h' t1, (∀ b o, b ≠ e → s.heap.get? b = some o → h'.get? b = some o) → h'.get? e = some (excO C t1) → Q .none { s with heap := h' }) :
    wpAny (model prog w) A (call (.ref u) rest) Q E s := by
  obtain ⟨hh, g, d, tk, os⟩ := s
  refine wpAny_call (codeAny_of_tree ?_)
  show wpAny _ A.in1 (callAny (.ref u) ⟨rest, []⟩) _ _ _
  simp only [callAny]
  refine wpAny_bind (wpAny_load hu ?_)
  simp only [kxs_mw, show (Value.type "method-wrapper" == Value.type "method" || Value.type "method-wrapper" == Value.type "builtin_function_or_method" || Value.type "method-wrapper" == Value.type "method-wrapper") = true by decide, if_true]
  refine KFB.if_so (by decide) ?_
  refine wpAny_bind (check_bound_init F.excBase_ValueError.toExcCallFacts hC he rfl ?_)
  refine wpAny_bind (wpAny_pure (wpAny_pure ?_))
  refine ⟨plainId_quiet F.excBase_ValueError.init.plain _, codeAny_builtin F.excBase_ValueError.initEntry ?_⟩
  exact exc_init_tree (cls := .ref C) (t0 := t0) (dv := none) (c2 := .none) (c3 := .none) (b4 := .bool false) he hrest fun h' k o _ => hq h' _ k o
theorem look_self (f : Str) : (eScope f).names.lookup ("self" : Str) = some .local := by
  show List.lookup ("self" : Str) ((("self" : Str), NameKind.local) :: _) = _
  rw [List.lookup_cons]
  simp
theorem look_f {f : Str} (h : f ≠ "self") : (eScope f).names.lookup f = some .local := by
  have e : (f == ("self" : Str)) = false := by simpa using h
  show List.lookup f ((("self" : Str), NameKind.local) :: (f, NameKind.local) :: _) = _
  rw [List.lookup_cons, e, List.lookup_cons]
  simp
theorem look_cls {f : Str} (h : f ≠ "__class__") : (eScope f).names.lookup ("__class__" : Str) = some .free := by
  have e : ((("__class__" : Str)) == f) = false := by simpa using Ne.symm h
  have e2 : ((("__class__" : Str)) == ("self" : Str)) = false := by decide +kernel
  show List.lookup ("__class__" : Str) ((("self" : Str), NameKind.local) :: (f, NameKind.local) :: (("__class__" : Str), NameKind.free) :: _) = _
  rw [List.lookup_cons, e2, List.lookup_cons, e, List.lookup_cons]
  simp
theorem look_super {f : Str} (h : f ≠ "super") : (eScope f).names.lookup ("super" : Str) = some .globalImplicit := by
  have e : ((("super" : Str)) == f) = false := by simpa using Ne.symm h
  have e2 : ((("super" : Str)) == ("self" : Str)) = false := by decide +kernel
  have e3 : ((("super" : Str)) == ("__class__" : Str)) = false := by decide +kernel
  show List.lookup ("super" : Str) ((("self" : Str), NameKind.local) :: (f, NameKind.local) :: (("__class__" : Str), NameKind.free) :: (("super" : Str), NameKind.globalImplicit) :: []) = _
  rw [List.lookup_cons, e2, List.lookup_cons, e, List.lookup_cons, e3, List.lookup_cons]
  simp
theorem bl_self {f : Str} (h : f ≠ "self") (a v : Value) : List.lookup ("self" : Str) ([(("self" : Str), a), (f, v)].reverse) = some a := by
  have e : ((("self" : Str)) == f) = false := by simpa using Ne.symm h
  show List.lookup ("self" : Str) ((f, v) :: (("self" : Str), a) :: []) = _
  rw [List.lookup_cons, e, List.lookup_cons]
  simp
theorem bl_f {f : Str} (a v : Value) : List.lookup f ([(("self" : Str), a), (f, v)].reverse) = some v := by
  show List.lookup f ((f, v) :: (("self" : Str), a) :: []) = _
  rw [List.lookup_cons]
  simp
theorem err_init (T : ErrTxt prog K mg x f C fI) {y t0 : Addr} {v : Value} (X : K.In s.heap) (hlim : s.heap.NoLimit) (hg : s.heap.Ns mainGlobals mg) (hb : ∃ mb, s.heap.Ns builtinsNs mb ∧ ∀ z : Str, z ≠ "__name__" → mb z = bootBuiltins z)
    (hx : s.heap.get? y = some (excO C t0)) (hnx : K.lookup y = none) (hroom : A.depth < recursionLimit)
    (hq : ∀ h' tk dx, MadeI s.heap h' y C dx f v → R (.ok (.ret .none)) { s with heap := h', toks := tk }) :
    codeAny (model prog w) A (.call (.ref fI) ⟨[.ref y, v], []⟩) R s := by
  obtain ⟨oc, od, qn, msg, doc, pm, an, cda, cc, ct, osl, p1, p2, a1, a2, a3, a4, a5, a6, b1, b2, b3, b4, ho, hcd, hB, hS, ⟨ccl, cdd, ccs, vs, file, tf, hcda, hvs, hfile⟩, ⟨cl, cld, csl, hcell⟩⟩ := T.fn
  obtain ⟨nm, q, N, bs, bm, sn, sub, ab, col, dd, k0, k1, k2, k3, k5, hC, hbm⟩ := T.cls
  obtain ⟨mb, hbn, hbv⟩ := hb
  obtain ⟨hf1, hf2, hf3, hf4⟩ := T.fok
  have hcl : clsIn K C = some { name := nm, bases := bs, mro := .ref C :: bm, ns := N, qualname := q, hasDict := true, slotNames := sn, subclasses := sub, abstract := ab, collection := col, hasDel := false } := by unfold clsIn; rw [hC] <;> rfl
  refine ks_codeAny_call_defAt (fd := ksFn "__init__" qn (eArgs f p1 p2) (eBody f msg a1 a2 a3 a4 a5 a6 b1 b2 b3 b4) (eScope f) .none .none doc pm an (.ref cda) ct cc) (body := eBody f msg a1 a2 a3 a4 a5 a6 b1 b2 b3 b4) (binds := [(("self" : Str), Value.ref y), (f, v)]) hroom (X _ _ ho) rfl hlim (codeRec_of X hcd) rfl (BindsTo.of_eq (hB _ _)) ?_ ?_ (fun h₁ hns k => ?_) rfl rfl rfl
  · intro z hz
    rcases List.mem_cons.mp hz with rfl | hz
    · exact fun e => nomatch e
    rcases List.mem_cons.mp hz with rfl | hz
    · exact fun e => nomatch e
    rcases List.mem_cons.mp hz with rfl | hz
    · exact fun e => nomatch e
    rcases List.mem_cons.mp hz with rfl | hz
    · exact fun e => nomatch e
    · cases hz
  · intro z hz
    rcases List.mem_cons.mp hz with rfl | hz
    · exact look_self f
    rcases List.mem_cons.mp hz with rfl | hz
    · exact look_f hf1
    · cases hz
  · have X₁ : K.In h₁ := X.keeps k
    have hyL : s.heap.objs.size ≠ y := Nat.ne_of_gt (Heap.lt_size hx)
    have ks : (callEnv (ksFn "__init__" qn (eArgs f p1 p2) (eBody f msg a1 a2 a3 a4 a5 a6 b1 b2 b3 b4) (eScope f) .none .none doc pm an (.ref cda) ct cc) s.heap.objs.size fI).kindOf "super" = some .globalImplicit := look_super hf3
    obtain ⟨oD, hD⟩ : ∃ oD, h₁.get? C = some oD ∧ ∃ cd : ClassData, oD.data = .cls cd := ⟨_, X₁ _ _ hC, _, rfl⟩
    obtain ⟨hD1, cdD, hD2⟩ := hD
    have IY : ∀ {h : Heap}, h.get? y = some (excO C t0) → InstAt h y (excO C t0) C none := fun e => ⟨e, rfl, rfl, trivial⟩
    have hyC : y ≠ C := fun z => by rw [z, hC] at hnx; cases hnx
    obtain ⟨pl, hpl⟩ := hS s.heap.objs.size
    refine ks_wpAt_execs_cons (ks_wpAt_Expr_any (ks_wpAt_MethodCall ?_ hpl) (by rfl) (by rfl))
    refine ks_wpAt_super_base ks (look_cls hf2) (by decide +kernel) rfl (X₁ _ _ ho) rfl rfl rfl (X₁ _ _ hcda) rfl hvs hfile T.top ?_
    refine ks_loadName_global rfl ks (loadGlobal_builtin (hg.keeps k) T.su (hbn.keeps k) (hbv _ (by decide +kernel)) ⟨by rfl, ?_⟩)
    refine wpAny_loadName_free rfl (look_cls hf2) rfl ⟨_, X₁ _ _ hcell, rfl⟩ ?_
    refine wpAny_loadName_local rfl (look_self f) hns (bl_self hf1 _ _) ?_
    refine ks_wpAny_isType_cls hD1 hD2 ⟨rfl, ?_⟩
    refine ks_wpAny_call_super hD1 hD2 (k _ _ hx) rfl (fun c e => nomatch e) (looks_mroIn X₁ T.mC) (fun h2 hso k2 => ?_)
    have X2 : K.In h2 := X₁.keeps k2
    refine kxs_getMethod kxs_ValueError hso (looks_opaque X2 T.ho) (l₀ := .ref C :: bm) ((looks_clsIn X2 hcl).andThen .now) rfl X2 ?_ ((IY (k2 _ _ (k _ _ hx))).type.andThen (looks_subIn X2 T.hB)) hyC (by decide +kernel) ?_
    · have e := T.si
      unfold ks_superIn at e
      rw [hcl] at e
      exact e
    have k3 : ∀ b o, h2.get? b = some o → (h2.push (kxs_mw "ValueError.__init__" y)).get? b = some o := fun b o e => Heap.get?_push_of_some _ e
    have hu : (h2.push (kxs_mw "ValueError.__init__" y)).get? h2.objs.size = some (kxs_mw "ValueError.__init__" y) := Heap.get?_push_at rfl rfl
    refine kxs_callWith (i := "ValueError.__init__") (x := y) (by rfl) (evalArgs_plain (Calls.spliced_cons (Calls.Constant_str (k := 0) (pos := a4) (Calls.spliced_nil ⟨hu, ?_⟩))))
    refine call_mw (X2.keeps k3 _ _ hC) (k3 _ _ (k2 _ _ (k _ _ hx))) hu (one_size _) fun h4 t1 k4 hy4 => ?_
    have X4 : K.In h4 := kept_but (X2.keeps k3) hnx k4
    have kk : ∀ b o, b ≠ y → h₁.get? b = some o → h4.get? b = some o := fun b o n e => k4 b o n (k3 b o (k2 b o e))
    have n4 : h4.Ns s.heap.objs.size fun z => [(("self" : Str), Value.ref y), (f, v)].reverse.lookup z := by
      obtain ⟨o, es, ep, e1, r⟩ := hns
      exact ⟨o, es, ep, kk _ _ hyL e1, r⟩
    have hfd : (f == ("__debug__" : Str)) = false := by simpa using hf4
    refine wpAt_of_wpAny (wpAny_execs_cons (plainObj_wpAny_Assign_Attribute ?_))
    refine wpAny_Name (wpAny_loadName_local rfl (look_f hf1) n4 (bl_f _ _) ?_) hfd
    refine wpAny_Name (wpAny_loadName_local rfl (look_self f) n4 (bl_self hf1 _ _) ?_) (by decide +kernel)
    refine set_plain X4 (ox := excO C t1) (od := none) ⟨hy4, rfl, rfl, trivial⟩ T.sa ?_
    refine exc_osa X4 hy4 hcl (show refsVE (.ref C :: bm) = true from hbm) rfl T.noN (fun h5 tk5 dx k5 dn dne hx5 hn5 => ?_)
    refine wpAny_execs_nil (hq h5 tk5 dx ⟨fun b o hb e => k5 b o hb (kk b o hb (k b o e)), ⟨_, hx5⟩, ?_, dne, hn5⟩)
    have z1 : s.heap.objs.size < h4.objs.size := n4.lt
    exact Nat.le_of_lt (Nat.lt_of_lt_of_le z1 dn)
/-- an error that was made: the object at e, its own dict at d -/
structure MadeE (h h' : Heap) (e C d : Addr) (f : Str) (v : Value) : Prop where
  keep : ∀ b o, h.get? b = some o → h'.get? b = some o
  new : h.objs.size ≤ e
  obj : ∃ t1 : Addr, h'.get? e = some { cls := .ref C, dict := some d, data := .fields #[.ref t1, .none, .none, .none, .bool false, .none] }
  dbig : h.objs.size ≤ d
  dne : d ≠ e
  ns : h'.Ns1 d (fun z => if z = f then some v else none)
theorem not_in {K : Frag} {h : Heap} {a : Addr} (X : K.In h) (ha : h.objs.size ≤ a) : K.lookup a = none := by
  cases e : K.lookup a with
  | none => rfl
  | some o => exact absurd (Nat.lt_of_lt_of_le (Heap.lt_size (X _ _ e)) ha) (Nat.lt_irrefl _)
theorem err_made (T : ErrTxt prog K mg x f C fI) {v : Value} (X : K.In s.heap) (hlim : s.heap.NoLimit) (hg : s.heap.Ns mainGlobals mg) (hb : ∃ mb, s.heap.Ns builtinsNs mb ∧ ∀ z : Str, z ≠ "__name__" → mb z = bootBuiltins z)
    (hroom : A.depth + 1 < recursionLimit) (hq : ∀ h' tk e d, MadeE s.heap h' e C d f v → R (.ok (.ret (.ref e))) { s with heap := h', toks := tk }) :
    codeAny (model prog w) A (.call (.ref C) ⟨[v], []⟩) R s := by
  obtain ⟨nm, q, N, bs, bm, sn, sub, ab, col, dd, k0, k1, k2, k3, k5, hC, hbm⟩ := T.cls
  obtain ⟨mb, hbn, hbv⟩ := hb
  obtain ⟨hp, g, dr, tk, os⟩ := s
  have k : ∀ b o, hp.get? b = some o → ((hp.push (kdv_tup [v])).push (excO C hp.objs.size)).get? b = some o := fun b o e => Heap.get?_push_of_some _ (Heap.get?_push_of_some _ e)
  have hget : ((hp.push (kdv_tup [v])).push (excO C hp.objs.size)).get? (hp.objs.size + 1) = some (excO C hp.objs.size) := by heap_get
  have hnx : K.lookup (hp.objs.size + 1) = none := not_in X (Nat.le_succ _)
  refine call_own F.excBase_ValueError (fun X => refsVE_contains X bm hbm) (X _ _ hC) (looks_findIn X T.iC) (fun self => bind_fn X self T.tC) (one_size v) ?_
  refine err_init (s := ⟨(hp.push (kdv_tup [v])).push (excO C hp.objs.size), g, dr, tk, os⟩) T (X.keeps k) (hlim.keeps k) (hg.keeps k) ⟨mb, hbn.keeps k, hbv⟩ hget hnx ?_ fun h' tk' dx ⟨k', ⟨t1, hx⟩, dn, dne, hns⟩ => ?_
  · show A.depth + 1 < recursionLimit
    exact hroom
  · have old : ∀ b o, hp.get? b = some o → h'.get? b = some o := fun b o e => k' b o (Nat.ne_of_lt (Nat.lt_succ_of_lt (Heap.lt_size e))) (k b o e)
    have z : hp.objs.size + 1 + 1 ≤ dx := by
      have q := dn
      rw [Heap.size_push, Heap.size_push] at q
      exact q
    exact ⟨rfl, hq h' tk' (hp.objs.size + 1) dx ⟨old, Nat.le_succ _, ⟨t1, hx⟩, Nat.le_trans (Nat.le_trans (Nat.le_succ _) (Nat.le_succ _)) z, dne, hns⟩⟩
end
end EK
namespace L2
open PySem PySem.Spec PyProof.Rows EK
theorem relO_one {f : Str} {v : V} {u : Value} (r : RelV v u) (g : Str) : RelO (List.lookup g [(f, v)]) (if g = f then some u else none) := relO_put (fs := []) (mA := fun _ => none) r (fun _ => True.intro) g
section
variable {X : Cx} {C fI : Addr} {x f : Str}
/-- x(e) as a value: a new error at a, its dict at d -/
def tErrV (C : Addr) (f : Str) (ta : TA) : TE := fun σ H Q => ta σ H fun vs H1 => ∃ v, vs = [v] ∧ ∀ a d, H1 a = none → H1 d = none → d ≠ a → Q (.ref a) (upd (upd H1 d (exd d [(f, v)])) a (exo a C (some d)))
theorem pe_errV {a : Expr} {ta : TA} {p pos : Pos} {k : Nat} (T : ErrTxt X.prog X.K X.mg x f C fI) (hr : Room k X.A) (ha : PA X [a] ta) (hg : Gl X x) (hd : (x == ("__debug__" : Str)) = false := by decide)
    (he : starEach (a :: []) X.env = (false, eval a X.env) :: starEach [] X.env := by rfl) (hpl : (backTo pos (starEach [] X.env)).any (·.1) = false := by rfl) :
    PE X (.Call (.Name x p) [a] [] pos) (tErrV C f ta) := by
  refine ⟨fun pins s σ H Q I h => ?_⟩
  refine wpAny_Call_Name_kw (ld_glob I hg T.gC ?_ hd)
  refine PySem.W.callWith_K (h₀ := X.base) I.ok.mod.kin T.kC (thn (ha.run pos pins s σ H _ I h) fun us s1 hh => ?_) he hpl
  obtain ⟨vs, H1, I1, r1, v, ev, q1⟩ := hh
  subst ev
  refine ⟨I1.kIn, ?_⟩
  cases r1 with
  | cons rv rn =>
    rename_i v' us'
    cases rn
    show wpAny _ _ (call (.ref C) [v']) _ _ _
    have hlim := I1.nolimit
    obtain ⟨hp, g, dr, tk, os⟩ := s1
    obtain ⟨mb, hb1, hb2⟩ := I1.mod.blt
    refine wpAny_call (err_made T I1.kIn hlim (I1.mod.glob.keeps I1.bk) ⟨mb, hb1.keeps I1.bk, hb2⟩ (by have := hr.dp; omega) fun h' tk' e d M => ?_)
    obtain ⟨t1, hoe⟩ := M.obj
    have nd : H1 d = none := I1.hok.fresh M.dbig
    have ne : H1 e = none := I1.hok.fresh M.new
    obtain ⟨G, g1, g2⟩ := restrict h' fun b => decide (b ≠ e)
    have gk : ∀ b, b ≠ e → G.get? b = h'.get? b := fun b hb => g1 b (decide_eq_true hb)
    have ge : G.get? e = none := g2 e (by simp)
    have old : ∀ b o, hp.get? b = some o → G.get? b = some o := fun b o q => (gk b (Nat.ne_of_lt (Nat.lt_of_lt_of_le (Heap.lt_size q) M.new))).trans (M.keep b o q)
    have gs : ∀ b o, G.get? b = some o → h'.get? b = some o := fun b o q => by
      by_cases hbe : b = e
      · rw [hbe, ge] at q
        cases q
      · exact (gk b hbe).symm.trans q
    have J : Inv X pins σ (upd H1 d (exd d [(f, v)])) ⟨G, g, dr, tk', os⟩ := I1.laid (t' := tk') old M.dbig (exd_ok (M.ns.at fun o q => (gk d M.dne).trans q) (relO_one rv))
    have hne : (upd H1 d (exd d [(f, v)])) e = none := by
      rw [upd_ne (Ne.symm M.dne)]
      exact ne
    exact ⟨.ref e, _, J.laidN (t' := tk') gs ge hne (exo_ok hoe), rfl, q1 e d ne nd M.dne⟩
/-- a field of an error, read -/
def tErrF (K : PySem.W.Frag) (f : Str) (te : TE) : TE := fun σ H Q => te σ H fun x H1 => ∃ (a C d : Addr) (fs : List (Str × V)) (v : V), x = .ref a ∧ H1 a = some (exo a C (some d)) ∧ H1 d = some (exd d fs) ∧ XfC K C ∧ PySem.W.findIn K (.ref C) f = some none ∧ fs.lookup f = some v ∧ Q v H1
theorem pe_errF {e : Expr} {te : TE} {pos : Pos} (he : PE X e te) (hb : attributeBase e f X.env (eval e X.env) = eval e X.env := by rfl) : PE X (.Attribute e f pos) (tErrF X.K f te) := by
  refine ⟨fun pins s σ H Q I h => ?_⟩
  refine attr_of hb (thn (he.run pins s σ H _ I h) fun u s1 hh => ?_)
  obtain ⟨y, H1, I1, ry, a, C, d, fs, v, ey, ea, ed, T, hno, l, q⟩ := hh
  subst ey
  obtain rfl : u = Value.ref a := ry
  obtain ⟨t1, ha⟩ := exo_at I1.hok ea
  obtain ⟨mA, hns, hr⟩ := exd_at I1.hok ed
  obtain ⟨od, ho, hl⟩ := lookIn_ns hns
  obtain ⟨u, hu, ru⟩ := RelO.some_of (v := v) (o := mA f) (by rw [← l]; exact hr f)
  have J : PySem.W.InstAt s1.heap a _ C (some od) := ⟨ha, rfl, rfl, ho⟩
  exact HandSPX.exc_get I1.kIn J T.ga T.gg T.exC (PySem.W.findObj_own T.hdC hno rfl (by rw [hl, hu])) (handed_of ru) ⟨v, H1, I1.tok _, ru, q⟩
end
end L2

set_option Elab.async false
set_option linter.all false
set_option maxRecDepth 100000
set_option maxHeartbeats 4000000
/-! EqKit: things that are told equal, whatever they hold; isinstance of errors. -/
namespace L2
open PySem PySem.Spec PyProof.Rows
/-- x and y compare equal, at most n deep: one thing, or lists, tuples of such -/
inductive Sm (K : PySem.W.Frag) (H : Hp) : Nat → V → V → Prop
  | rf {n : Nat} (x : V) (h : ∀ b, x ≠ .flt b) : Sm K H n x x
  | ls {n : Nat} {a b : Addr} {xs ys : List V} (h1 : SqL K H a xs) (h2 : SqL K H b ys) (hl : xs.length = ys.length) (h : ∀ (i : Nat) x y, xs[i]? = some x → ys[i]? = some y → Sm K H n x y) : Sm K H (n + 1) (.ref a) (.ref b)
  | tp {n : Nat} {a b : Addr} {xs ys : List V} (h1 : SqT K H a xs) (h2 : SqT K H b ys) (hl : xs.length = ys.length) (h : ∀ (i : Nat) x y, xs[i]? = some x → ys[i]? = some y → Sm K H n x y) : Sm K H (n + 1) (.ref a) (.ref b)
section
variable {X : Cx} {pins : List (Addr × Obj)} {σ : St} {H : Hp} {s : Shared}
theorem sm_items {xs ys : List V} {us vs : List Value} {A : Around} (rx : Vals xs us) (ry : Vals ys vs)
    (h : ∀ (i : Nat) x y, xs[i]? = some x → ys[i]? = some y → ∀ u v, RelV x u → RelV y v → SeqAt.EqAt A s u v true) :
    ∀ j (h1 : j < us.toArray.size) (h2 : j < vs.toArray.size), SeqAt.EqAt A s us.toArray[j] vs.toArray[j] true := by
  intro j h1 h2
  have l1 := rx.length
  have l2 := ry.length
  have j1 : j < xs.length := by rw [l1]; simpa using h1
  have j2 : j < ys.length := by rw [l2]; simpa using h2
  obtain ⟨u, e1, r1⟩ := rx.get (List.getElem?_eq_getElem j1)
  obtain ⟨v, e2, r2⟩ := ry.get (List.getElem?_eq_getElem j2)
  have f1 : us.toArray[j] = u := by
    have q : us[j]? = some (us[j]'(by simpa using h1)) := List.getElem?_eq_getElem _
    rw [e1] at q
    simpa using (Option.some.inj q).symm
  have f2 : vs.toArray[j] = v := by
    have q : vs[j]? = some (vs[j]'(by simpa using h2)) := List.getElem?_eq_getElem _
    rw [e2] at q
    simpa using (Option.some.inj q).symm
  rw [f1, f2]
  exact h j _ _ (List.getElem?_eq_getElem j1) (List.getElem?_eq_getElem j2) u v r1 r2
theorem all_true {n : Nat} : ((List.range n).all fun _ => true) = true := by
  induction n with
  | zero => rfl
  | succ n ih => simp
theorem sm_at (I : Inv X pins σ H s) : ∀ {n : Nat} {x y : V} {u v : Value} {A : Around}, Sm X.K H n x y → RelV x u → RelV y v → A.units + n < cLine → SeqAt.EqAt A s u v true := by
  intro n x y u v A h
  induction h generalizing u v A with
  | rf x hf =>
    intro r1 r2 _
    cases x with
    | non => cases r1; cases r2; exact .same _
    | bl b => cases r1; cases r2; exact .same _
    | int i =>
      obtain ⟨t, rfl⟩ := r1
      obtain ⟨t', rfl⟩ := r2
      have q := SeqAt.EqAt.int_int (A := A) (s := s) i t i t'
      rw [beq_self_eq_true] at q
      exact q
    | str z =>
      obtain ⟨t, rfl⟩ := r1
      obtain ⟨t', rfl⟩ := r2
      have q := SeqAt.EqAt.str_str (A := A) (s := s) z t z t'
      rw [beq_self_eq_true] at q
      exact q
    | byt b =>
      obtain ⟨t, rfl⟩ := (show ∃ t, u = Value.bytes b t from r1)
      obtain ⟨t', rfl⟩ := (show ∃ t, v = Value.bytes b t from r2)
      exact fun prog w E Q h => PySem.W.eqBool_bytes (by simpa using h)
    | flt b => exact absurd rfl (hf b)
    | ref a => cases r1; cases r2; exact .same _
    | ty n => cases r1; cases r2; exact .same _
  | @ls n a b xs ys h1 h2 hl _ ih =>
    intro r1 r2 hu
    cases r1; cases r2
    by_cases e : a = b
    · rw [e]; exact .same _
    · obtain ⟨us, ru, ⟨o, m, ho, hc, _, hd⟩, _⟩ := I.list h1
      obtain ⟨vs, rv, ⟨o', m', ho', hc', _, hd'⟩, _⟩ := I.list h2
      have hs : us.toArray.size = vs.toArray.size := by simp only [List.size_toArray]; rw [← ru.length, ← rv.length, hl]
      refine .of_refs e ?_
      have q := SeqAt.RcAt.lists (A := A) (s := s) (e := fun _ => true) ⟨o, ho, hc, m, hd⟩ ⟨o', ho', hc', m', hd'⟩ hs (by omega) (sm_items (A := A.in1) ru rv fun i x y e1 e2 u v s1 s2 => ih i x y e1 e2 s1 s2 (by show A.units + 1 + n < cLine; omega))
      rw [all_true] at q
      exact q
  | @tp n a b xs ys h1 h2 hl _ ih =>
    intro r1 r2 hu
    cases r1; cases r2
    by_cases e : a = b
    · rw [e]; exact .same _
    · obtain ⟨us, ru, ⟨o, ho, hc, m, hd⟩, _⟩ := I.tuple h1
      obtain ⟨vs, rv, ⟨o', ho', hc', m', hd'⟩, _⟩ := I.tuple h2
      have hs : us.toArray.size = vs.toArray.size := by simp only [List.size_toArray]; rw [← ru.length, ← rv.length, hl]
      refine .of_refs e ?_
      have q := SeqAt.RcAt.tuples (A := A) (s := s) (e := fun _ => true) ⟨o, ho, hc, m, hd⟩ ⟨o', ho', hc', m', hd'⟩ (by omega) (sm_items (A := A.in1) ru rv fun i x y e1 e2 u v s1 s2 => ih i x y e1 e2 s1 s2 (by show A.units + 1 + n < cLine; omega))
      rw [all_true, hs, beq_self_eq_true] at q
      exact q
/-- what may stand on both sides of a comparison that is told equal -/
inductive SmT (K : PySem.W.Frag) (H : Hp) : V → V → Prop
  | sc (x : V) (h : scal x x = true) : SmT K H x x
  | ls {a b : Addr} {xs ys : List V} (h1 : SqL K H a xs) (h2 : SqL K H b ys) (hl : xs.length = ys.length) (h : ∀ (i : Nat) x y, xs[i]? = some x → ys[i]? = some y → Sm K H 60 x y) : SmT K H (.ref a) (.ref b)
  | tp {a b : Addr} {xs ys : List V} (h1 : SqT K H a xs) (h2 : SqT K H b ys) (hl : xs.length = ys.length) (h : ∀ (i : Nat) x y, xs[i]? = some x → ys[i]? = some y → Sm K H 60 x y) : SmT K H (.ref a) (.ref b)
  | dk {a b : Addr} {kvs : List (Key × V)} (h1 : H a = some (.dK kvs)) (h2 : H b = some (.dK kvs)) (nd : (kvs.map (·.1)).Nodup) (fl : ∀ p ∈ kvs, flatB p.2 = true) : SmT K H (.ref a) (.ref b)
theorem op_neS (hu : X.A.units + 64 < cLine) : OpR X (compareOp .NotEq) (fun x y H Q => SmT X.K H x y ∧ Q (.bl false) H) := by
  intro pins s σ H x y v u Q I rx ry ⟨h, q⟩
  cases h with
  | sc x h => exact op_ne pins s σ H x x v u Q I rx ry ⟨h, by rw [decide_eq_true rfl]; exact q⟩
  | ls h1 h2 hl h =>
    cases rx; cases ry
    obtain ⟨us, ru, ⟨o, m, ho, hc, _, hd⟩, _⟩ := I.list h1
    obtain ⟨vs, rv, ⟨o', m', ho', hc', _, hd'⟩, _⟩ := I.list h2
    have hs : us.toArray.size = vs.toArray.size := by simp only [List.size_toArray]; rw [← ru.length, ← rv.length, hl]
    have z := SeqAt.RcNeAt.lists (A := X.A) (s := s) (e := fun _ => true) ⟨o, ho, hc, m, hd⟩ ⟨o', ho', hc', m', hd'⟩ hs (by omega) (sm_items (A := X.A.in1) ru rv fun i x y e1 e2 u v s1 s2 => sm_at I (h i x y e1 e2) s1 s2 (by show X.A.units + 1 + 60 < cLine; omega))
    rw [all_true] at z
    exact z X.prog X.w _ _ ⟨.bl false, H, I, rfl, q⟩
  | tp h1 h2 hl h =>
    cases rx; cases ry
    obtain ⟨us, ru, ⟨o, ho, hc, m, hd⟩, _⟩ := I.tuple h1
    obtain ⟨vs, rv, ⟨o', ho', hc', m', hd'⟩, _⟩ := I.tuple h2
    have hs : us.toArray.size = vs.toArray.size := by simp only [List.size_toArray]; rw [← ru.length, ← rv.length, hl]
    have z := SeqAt.RcNeAt.tuples (A := X.A) (s := s) (e := fun _ => true) ⟨o, ho, hc, m, hd⟩ ⟨o', ho', hc', m', hd'⟩ (by omega) (sm_items (A := X.A.in1) ru rv fun i x y e1 e2 u v s1 s2 => sm_at I (h i x y e1 e2) s1 s2 (by show X.A.units + 1 + 60 < cLine; omega))
    rw [all_true, hs, beq_self_eq_true] at z
    exact z X.prog X.w _ _ ⟨.bl false, H, I, rfl, q⟩
  | @dk a b kvs h1 h2 nd fl =>
    cases rx; cases ry
    obtain ⟨_, ya, va, ra, da⟩ := (show ObjOk X.prog X.w H s.heap a (.dK kvs) from I.hok a _ h1)
    obtain ⟨_, yb, vb, rb, db⟩ := (show ObjOk X.prog X.w H s.heap b (.dK kvs) from I.hok b _ h2)
    have hl : va.length = vb.length := ra.length.symm.trans rb.length
    exact PySem.W.keq_ne (knd := mixKind X.prog X.w) (r := true) ya yb da db (by omega) (fun _ => hits_all rb ra fun p hp => ⟨val_nodup nd p hp, fl p hp⟩) (fin_bl I q (by simp [hl]))
theorem op_eqS (hu : X.A.units + 64 < cLine) : OpR X (compareOp .Eq) (fun x y H Q => SmT X.K H x y ∧ Q (.bl true) H) := by
  intro pins s σ H x y v u Q I rx ry ⟨h, q⟩
  cases h with
  | sc x h => exact op_eq pins s σ H x x v u Q I rx ry ⟨h, by rw [decide_eq_true rfl]; exact q⟩
  | ls h1 h2 hl h =>
    cases rx; cases ry
    obtain ⟨us, ru, ⟨o, m, ho, hc, _, hd⟩, _⟩ := I.list h1
    obtain ⟨vs, rv, ⟨o', m', ho', hc', _, hd'⟩, _⟩ := I.list h2
    have hs : us.toArray.size = vs.toArray.size := by simp only [List.size_toArray]; rw [← ru.length, ← rv.length, hl]
    have z := SeqAt.RcAt.lists (A := X.A) (s := s) (e := fun _ => true) ⟨o, ho, hc, m, hd⟩ ⟨o', ho', hc', m', hd'⟩ hs (by omega) (sm_items (A := X.A.in1) ru rv fun i x y e1 e2 u v s1 s2 => sm_at I (h i x y e1 e2) s1 s2 (by show X.A.units + 1 + 60 < cLine; omega))
    rw [all_true] at z
    exact z X.prog X.w _ _ ⟨.bl true, H, I, rfl, q⟩
  | tp h1 h2 hl h =>
    cases rx; cases ry
    obtain ⟨us, ru, ⟨o, ho, hc, m, hd⟩, _⟩ := I.tuple h1
    obtain ⟨vs, rv, ⟨o', ho', hc', m', hd'⟩, _⟩ := I.tuple h2
    have hs : us.toArray.size = vs.toArray.size := by simp only [List.size_toArray]; rw [← ru.length, ← rv.length, hl]
    have z := SeqAt.RcAt.tuples (A := X.A) (s := s) (e := fun _ => true) ⟨o, ho, hc, m, hd⟩ ⟨o', ho', hc', m', hd'⟩ (by omega) (sm_items (A := X.A.in1) ru rv fun i x y e1 e2 u v s1 s2 => sm_at I (h i x y e1 e2) s1 s2 (by show X.A.units + 1 + 60 < cLine; omega))
    rw [all_true, hs, beq_self_eq_true] at z
    exact z X.prog X.w _ _ ⟨.bl true, H, I, rfl, q⟩
  | @dk a b kvs h1 h2 nd fl =>
    exact op_eq_dict (by omega) pins s σ H _ _ v u Q I rx ry ⟨a, b, kvs, rfl, rfl, h1, h2, nd, fl, q⟩
/-- isinstance(e, c), e an error that is held as a value -/
def rIsErr (K : PySem.W.Frag) : List V → Hp → VK → Prop := fun xs H Q => ∃ (a C : Addr) (d : Option Addr) (fs : List (Str × V)) (c : V) (u : Value) (b : Bool), xs = [.ref a, c] ∧ H a = some (exo a C d) ∧ (∀ dd, d = some dd → H dd = some (exd dd fs)) ∧ ExcC K C ∧ ClsV c u ∧ PySem.W.kitOne K (.ref C) u = some b ∧ Q (.bl b) H
theorem call_isErr : CallR X (.builtin "isinstance") (rIsErr X.K) := by
  intro pins s σ H xs us Q I r h
  obtain ⟨a, C, d, fs, c, u, b, rfl, ea, ed, T, k, e, q⟩ := h
  obtain ⟨u1, u2, rfl, r1, r2⟩ := vals2 r
  have e2 := k.eq r2
  subst e2
  cases r1
  obtain ⟨t1, ha⟩ := exo_at I.hok ea
  have hcl : (PySem.W.clsIn X.K C).isSome = true := by
    obtain ⟨cd, hc, _⟩ := PySem.W.any_some T.hd
    rw [hc]
    rfl
  cases d with
  | none => exact PySem.W.kia_one (PySem.W.kitx_exc (od := none) hcl T.hg T.hk T.hs T.ha T.hn T.ht T.hm) I.kIn (show PySem.W.InstAt s.heap a _ C none from ⟨ha, rfl, rfl, trivial⟩) e (fun z => nomatch z) fun tk => ⟨.bl b, H, I.tok tk, rfl, q⟩
  | some dd =>
    obtain ⟨mA, ⟨od, es, ep, ho, hr⟩, _⟩ := exd_at I.hok (ed dd rfl)
    exact PySem.W.kia_one (PySem.W.kitx_exc (od := some od) hcl T.hg T.hk T.hs T.ha T.hn T.ht T.hm) I.kIn (show PySem.W.InstAt s.heap a _ C (some od) from ⟨ha, rfl, rfl, ho⟩) e (fun z => nomatch z) fun tk => ⟨.bl b, H, I.tok tk, rfl, q⟩
end
end L2

set_option Elab.async false
set_option linter.all false
set_option maxRecDepth 100000
set_option maxHeartbeats 4000000
namespace L2
open PySem EK
theorem alloc {H : Hp} {p : Addr} {o : HO} (hp : H p = none) : ∃ H1, upd H p o = H1 ∧ Same H H1 ∧ H1 p = some o :=
  ⟨_, rfl, fun b u e => by rw [upd_ne (ne_of_none e hp)]; exact e, upd_same⟩
/-- an error of the class at C stands at a, its one value v -/
def ErrAt (H : Hp) (a d C : Addr) (f : Str) (v : V) : Prop := H a = some (exo a C (some d)) ∧ H d = some (exd d [(f, v)])
theorem ErrAt.keep {H H' : Hp} {a d C : Addr} {f : Str} {v : V} (e : ErrAt H a d C f v) (s : Same H H') : ErrAt H' a d C f v := ⟨s _ _ e.1, s _ _ e.2⟩
theorem alloc_err {H : Hp} {a d C : Addr} {f : Str} {v : V} (ha : H a = none) (hd : H d = none) (hne : d ≠ a) : ∃ H1, upd (upd H d (exd d [(f, v)])) a (exo a C (some d)) = H1 ∧ Same H H1 ∧ ErrAt H1 a d C f v :=
  ⟨_, rfl, fun b u e => by rw [upd_ne (ne_of_none e ha), upd_ne (ne_of_none e hd)]; exact e, upd_same, by rw [upd_ne hne, upd_same]⟩
theorem look1 (f : Str) (v : V) : List.lookup f [(f, v)] = some v := by rw [lookup_put, if_pos rfl]
theorem _root_.EK.ErrTxt.xf {P : Program} {K : PySem.W.Frag} {mg : Str → Option Value} {x f : Str} {C fI : Addr} (T : ErrTxt P K mg x f C fI) : XfC K C := ⟨T.ga, T.gg, T.exC, T.hdC⟩
end L2

set_option Elab.async false
set_option linter.all false
set_option maxRecDepth 100000
set_option maxHeartbeats 4000000
/-! RaiseKit: an error raised; several clauses, with and without names; what a lambda handed over says. -/
namespace L2
open PySem PySem.Spec PyProof.Rows EK
section
variable {X : Cx} {C fI : Addr} {x f : Str}
/-- x(e), made to be raised: its own dict, new, holds the value -/
def tErrMk (C : Addr) (f : Str) (ta : TA) : St → Hp → XK → Prop := fun σ H Q => ta σ H fun vs H1 => ∃ v, vs = [v] ∧ ∀ d, H1 d = none → Q (.ref C) (some d) (upd H1 d (.xd [(f, v)]))
theorem pmk_err {a : Expr} {ta : TA} {p pos : Pos} {k : Nat} (T : ErrTxt X.prog X.K X.mg x f C fI) (hr : Room k X.A) (ha : PA X [a] ta) (hg : Gl X x) (hd : (x == ("__debug__" : Str)) = false := by decide)
    (he : starEach (a :: []) X.env = (false, eval a X.env) :: starEach [] X.env := by rfl) (hpl : (backTo pos (starEach [] X.env)).any (·.1) = false := by rfl) :
    PMk X (.Call (.Name x p) [a] [] pos) (tErrMk C f ta) := by
  intro pins s σ H Q I h
  refine wpAny_Call_Name_kw (ld_glob I hg T.gC ?_ hd)
  refine PySem.W.callWith_K (h₀ := X.base) I.ok.mod.kin T.kC (thn (ha.run pos pins s σ H _ I h) fun us s1 hh => ?_) he hpl
  obtain ⟨vs, H1, I1, r1, v, ev, q1⟩ := hh
  subst ev
  refine ⟨I1.kIn, ?_⟩
  cases r1 with
  | cons rv rn =>
    rename_i v' us'
    cases rn
    show wpAny _ _ (call (.ref C) [v']) _ _ _
    have hlim := I1.nolimit
    obtain ⟨hp, g, dr, tk, os⟩ := s1
    obtain ⟨mb, hb1, hb2⟩ := I1.mod.blt
    refine wpAny_call (err_made T I1.kIn hlim (I1.mod.glob.keeps I1.bk) ⟨mb, hb1.keeps I1.bk, hb2⟩ (by have := hr.dp; omega) fun h' tk' e d M => ?_)
    show MkP X pins σ Q (.ref e) ⟨h', g, dr, tk', os⟩
    obtain ⟨t1, hoe⟩ := M.obj
    obtain ⟨G, g1, g2⟩ := restrict h' fun b => decide (b ≠ e)
    have gk : ∀ b, b ≠ e → G.get? b = h'.get? b := fun b hb => g1 b (decide_eq_true hb)
    have ge : G.get? e = none := g2 e (by simp)
    have gs : ∀ b o, G.get? b = some o → h'.get? b = some o := fun b o q => by
      by_cases hbe : b = e
      · rw [hbe, ge] at q
        cases q
      · exact (gk b hbe).symm.trans q
    have old : ∀ b o, hp.get? b = some o → G.get? b = some o := fun b o q => (gk b (Nat.ne_of_lt (Nat.lt_of_lt_of_le (Heap.lt_size q) M.new))).trans (M.keep b o q)
    have ob : ObjOk X.prog X.w (upd H1 d (.xd [(f, v)])) G d (.xd [(f, v)]) := ⟨_, M.ns.at (fun o q => (gk d M.dne).trans q), relO_one rv⟩
    have J : Inv X pins σ (upd H1 d (.xd [(f, v)])) ⟨G, g, dr, tk', os⟩ := I1.laid (t' := tk') old M.dbig ob
    have ne : (upd H1 d (.xd [(f, v)])) e = none := by
      rw [upd_ne (Ne.symm M.dne)]
      exact I1.hok.fresh M.new
    exact ⟨e, _, _, ⟨G, g, dr, tk', os⟩, _, .ref C, some d, rfl, J, gs, ge, hoe, ⟨rfl, rfl⟩, rfl, rfl, ne, rfl, I1.bare, raises_own T.exC T.tyC, q1 d (I1.hok.fresh M.dbig)⟩
theorem ps_raiseErr {a : Expr} {ta : TA} {W : WX} {p pos pos2 : Pos} {k : Nat} (hc : X.calm = true) (T : ErrTxt X.prog X.K X.mg x f C fI) (hr : Room k X.A) (tk : Takes X W) (ha : PA X [a] ta) (hg : Gl X x) (hd : (x == ("__debug__" : Str)) = false := by decide)
    (he : starEach (a :: []) X.env = (false, eval a X.env) :: starEach [] X.env := by rfl) (hpl : (backTo pos (starEach [] X.env)).any (·.1) = false := by rfl) :
    PS X (.Raise (some (.Call (.Name x p) [a] [] pos)) none pos2) (fun _ σ H => tErrMk C f ta σ H fun cls d H' => W cls d σ H') := ps_raise hc tk (pmk_err T hr ha hg hd he hpl)
end
/-! ### try with several clauses -/
structure Cl where
  c : Value
  i : Option Nat
  ts : Addr → Value → Option Addr → TS
def Ends.drop (D : Ends) (i : Nat) : Ends := { nx := fun s h => D.nx (s.set i none) h, rt := D.rt, bk := fun s h => D.bk (s.set i none) h, ct := fun s h => D.ct (s.set i none) h }
def Cl.run (k : Cl) (a : Addr) (cls : Value) (d : Option Addr) : TS := fun D σ H => match k.i with
  | none => k.ts a cls d D σ H
  | some i => i < σ.length → k.ts a cls d (D.drop i) (σ.set i (some (.ref a))) H
def wCl (K : PySem.W.Frag) (Wout : WX) (D : Ends) : List Cl → WX
  | [] => Wout
  | k :: r => fun cls d σ H => ∃ b, PySem.W.exmOne K cls k.c = some b ∧ (b = true → ∀ a, H a = none → k.run a cls d D σ H) ∧ (b = false → wCl K Wout D r cls d σ H)
inductive ClOk (X : Cx) : List ExceptHandler → List Cl → Prop
  | nil : ClOk X [] []
  | un {x : Str} {c : Value} {ts : Addr → Value → Option Addr → TS} {b1 : Stmt} {suite : List Stmt} {np pos' : Pos} {hds : List ExceptHandler} {l : List Cl} (hc : Names X x c)
      (hsu : ∀ (a : Addr) (oe : Obj) (cls : Value) (d : Option Addr) (pn : List (Addr × Obj)), Zc cls d oe → (∃ vs, oe.data = .fields vs) → PSs (X.suite a ((a, oe) :: pn)) (b1 :: suite) (ts a cls d)) (r : ClOk X hds l) :
      ClOk X (.ExceptHandler (some (.Name x np)) none (b1 :: suite) pos' :: hds) (⟨c, none, ts⟩ :: l)
  | as {x n : Str} {i : Nat} {c : Value} {ts : Addr → Value → Option Addr → TS} {b1 : Stmt} {suite : List Stmt} {np pos' : Pos} {hds : List ExceptHandler} {l : List Cl} (hi : X.N[i]? = some n) (hln : X.env.kindOf n = some .local) (hc : Names X x c)
      (hsu : ∀ (a : Addr) (oe : Obj) (cls : Value) (d : Option Addr) (pn : List (Addr × Obj)), Zc cls d oe → (∃ vs, oe.data = .fields vs) → PSs (X.suite a ((a, oe) :: pn)) (b1 :: suite) (ts a cls d)) (r : ClOk X hds l) :
      ClOk X (.ExceptHandler (some (.Name x np)) (some n) (b1 :: suite) pos' :: hds) (⟨c, some i, ts⟩ :: l)
section
variable {X : Cx} {body : List Stmt} {hd0 : ExceptHandler} {hds : List ExceptHandler} {l : List Cl} {pos : Pos} {tb : WX → TS} {Wout : WX} {pins : List (Addr × Obj)} {s : Shared} {D : Ends}
/-- behind a suite: its end, the name gone -/
theorem sp_unsuite {a : Addr} {q : Addr × Obj} {f : Flow} (ok : X.Ok) (h : SP (X.suite a (q :: (X.pn ++ pins))) [] D f s) : SP X pins D f s := by
  cases f with
  | next =>
    obtain ⟨t, h1, J, z⟩ := h
    exact ⟨t, h1, J.unsuite ok, z⟩
  | brk =>
    obtain ⟨t, h1, J, z⟩ := h
    exact ⟨t, h1, J.unsuite ok, z⟩
  | cont =>
    obtain ⟨t, h1, J, z⟩ := h
    exact ⟨t, h1, J.unsuite ok, z⟩
  | ret u =>
    obtain ⟨v, t, h1, J, r, z⟩ := h
    exact ⟨v, t, h1, J.unsuite ok, r, z⟩
theorem sp_gone {n : Str} {i : Nat} {f : Flow} {pos' : Pos} (hN : X.N.Nodup) (hi : X.N[i]? = some n) (hln : X.env.kindOf n = some .local) (h : SP X pins (D.drop i) f s) :
    wpAny (model X.prog X.w) X.A (do bindName X.env n .none; unbindBehindTheSuite X.env n pos') (fun _ s7 => SP X pins D f s7) X.xe s := by
  cases f with
  | next =>
    obtain ⟨t, h1, J, z⟩ := h
    exact gone_ok J hN hi hln fun s7 J7 => ⟨_, _, J7, z⟩
  | brk =>
    obtain ⟨t, h1, J, z⟩ := h
    exact gone_ok J hN hi hln fun s7 J7 => ⟨_, _, J7, z⟩
  | cont =>
    obtain ⟨t, h1, J, z⟩ := h
    exact gone_ok J hN hi hln fun s7 J7 => ⟨_, _, J7, z⟩
  | ret u =>
    obtain ⟨v, t, h1, J, r, z⟩ := h
    exact gone_ok J hN hi hln fun s7 J7 => ⟨_, _, _, J7, r, z⟩
theorem names_ld {a : Addr} {oe : Obj} {pn : List (Addr × Obj)} {σ : St} {H : Hp} {x : Str} {c : Value} {np : Pos} (S : Inv (X.suite a ((a, oe) :: pn)) [] σ H s) (hc : Names X x c) {Q : Value → Shared → Prop} {E : Value → Shared → Prop} (q : Q c s) :
    wpAny (model X.prog X.w) (X.A.mark (some (.ref a))) (eval (.Name x np) X.env) Q E s := by
  obtain ⟨h1, h2, h3⟩ := hc
  rcases h3 with h3 | ⟨h3, h4, h5⟩
  · exact ld_glob (X := X.suite a ((a, oe) :: pn)) S h1 h3 q h2
  · exact ld_blt (X := X.suite a ((a, oe) :: pn)) S h1 h3 h4 q h5 h2
theorem ps_tryC (hs : X.stack = X.env :: X.outer) (hf : X.env.frame = some X.env.locals) (hN : X.N.Nodup) (tk : Takes X Wout)
    (hb : ∀ (W : WX) (pn : List (Addr × Obj)) (xe : Value → Shared → Prop), Takes (X.tr pn xe) W → PassesOwn (model X.prog X.w) X.A X.env xe → PSs (X.tr pn xe) body (tb W))
    (hh : ClOk X (hd0 :: hds) l) : PS X (.Try body (hd0 :: hds) [] [] pos) (fun D σ H => tb (wCl X.K Wout D l) D σ H) := by
  refine ⟨fun pins s σ H D I h => ?_⟩
  have ok := I.ok
  have hfr : X.A.frames = some (X.env :: X.outer) := ok.frames.trans (congrArg some hs)
  refine wpAny_Try_except (wpAny_mono ((hb (wCl X.K Wout D l) (X.pn ++ pins) _ (fun u s' xx => ?_) PassesOwn.looking).run [] s σ H D (I.toTry _) h) (fun fl s1 hsp => ?_) fun e s1 he => he)
  · -- an exception has come
    obtain ⟨a, B, sI, pins', σ', H', cls, d, rfl, J0, nb, up, sky, na, os, ag, w⟩ := xx
    have J : Inv X pins σ' H' sI := J0.ofTry ok
    rw [hs] at sky
    show wpAny (model X.prog X.w) X.A (noteFrame (.ref a) X.env) _ _ _
    refine Sky.land Zc.steady hfr hf sky fun h3 fl3 up3 => ?_
    have J3 : Inv X pins σ' H' { s' with heap := h3 } := J.landed nb fl3.1 (up.trans up3) os ag
    obtain ⟨oe3, vs3, he3, hz3, hd3⟩ := fl3.there
    have ff := fl3.2.2.1
    have away : ∀ b ∈ frs (X.env :: X.outer), a ≠ b := fun b hm z => by
      obtain ⟨_, o', e', hnf⟩ := ff.mem hm
      rw [← z, he3] at e'
      cases e'
      exact hnf _ hd3
    have nL : a ≠ X.env.locals := away _ (List.mem_filterMap.mpr ⟨X.env, List.mem_cons_self, hf⟩)
    have nF : a ∉ X.fs := fun hm => by
      obtain ⟨e, he, q⟩ := List.mem_filterMap.mp hm
      exact away a (List.mem_filterMap.mpr ⟨e, List.mem_cons_of_mem _ he, q⟩) rfl
    have S3 := J3.suite he3 hd3 na nL nF
    have LT : PySem.W.Looks (model X.prog X.w) h3 (typeOf (.ref a)) cls := fun A Q E s k q => wpAny_typeOf_ref (k _ _ he3) (by rw [hz3.1]; exact q)
    have test : ∀ {x : Str} {c : Value} {np : Pos}, Names X x c → ∀ {Q : Value → Shared → Prop} {E : Value → Shared → Prop}, Q c { s' with heap := h3 } → wpAny (model X.prog X.w) (X.A.mark (some (.ref a))) (eval (.Name x np) X.env) Q E { s' with heap := h3 } := fun hc => names_ld S3 hc
    have go : ∀ {hs2 : List ExceptHandler} {l2 : List Cl}, ClOk X hs2 l2 → wCl X.K Wout D l2 cls d σ' H' →
        wpAny (model X.prog X.w) X.A (handleBy (.ref a) X.env hs2) (SP X pins D) X.xe { s' with heap := h3 } := by
      intro hs2 l2 hk
      induction hk with
      | nil =>
        intro w
        refine wpAny_handleBy_nil ?_
        obtain ⟨_, _, _, oe, vs, T, oT, ts', he, hz, hd, h1, hr⟩ := id fl3
        unfold PySem.passOn
        refine wpAny_bind (wpAny_field he hd h1 ?_)
        rw [if_neg (show ¬ ((Value.ref T == Value.none) = true) from by simp)]
        have fin : wpAny (model X.prog X.w) X.A (setFlight (.ref a) X.env.frame) (fun _ s4 => wpAny (model X.prog X.w) X.A (throw (.ref a) : Sem Flow) (SP X pins D) X.xe s4) X.xe { s' with heap := h3 } := by
          rw [hf]
          exact HandSPX.setFlight_upZ fl3 fun h4 hh4 up4 => wpAny_throw (tk _ _ ⟨a, B, sI, pins, σ', H', cls, d, rfl, J, nb, (up.trans up3).trans up4, .inr (.inr (by rw [hs]; exact hh4)), na, os, ag, w⟩)
        first
          | exact wpAny_bind (wpAny_pure (wpAny_bind fin))
          | exact wpAny_bind fin
      | @un x c ts b1 suite np pos' hds2 l2 hc hsu r ih =>
        intro ⟨b, hb1, hyes, hno⟩
        refine wpAny_handleBy_cons (codeAny_handlers_test (test hc ((PySem.W.exm_one (M := model X.prog X.w) J3.kIn LT hb1).here ?_))) (by intro q; cases q)
        cases b with
        | false => exact ih (hno rfl)
        | true =>
          refine codeAny_handlers_suite (HandSPX.lands_againZ fl3 fun h4 fl4 up4 => ?_)
          have J4 : Inv X pins σ' H' { s' with heap := h4 } := J.landed nb fl4.1 ((up.trans up3).trans up4) os ag
          obtain ⟨oe4, vs4, he4, hz4, hd4⟩ := fl4.there
          exact wpAny_mono ((hsu a oe4 cls d (X.pn ++ pins) hz4 ⟨_, hd4⟩).run [] _ _ H' _ (J4.suite he4 hd4 na nL nF) (hyes rfl a na)) (fun f s6 hsp => sp_unsuite ok hsp) (fun _ _ z => False.elim z)
      | @as x n i c ts b1 suite np pos' hds2 l2 hi hln hc hsu r ih =>
        intro ⟨b, hb1, hyes, hno⟩
        refine wpAny_handleBy_cons (codeAny_handlers_test (test hc ((PySem.W.exm_one (M := model X.prog X.w) J3.kIn LT hb1).here ?_))) (by intro q; cases q)
        cases b with
        | false => exact ih (hno rfl)
        | true =>
          refine codeAny_handlers_suite_as (HandSPX.lands_againZ fl3 fun h4 fl4 up4 => ?_)
          have J4 : Inv X pins σ' H' { s' with heap := h4 } := J.landed nb fl4.1 ((up.trans up3).trans up4) os ag
          obtain ⟨oe4, vs4, he4, hz4, hd4⟩ := fl4.there
          refine store_ok (X := X.suite a ((a, oe4) :: (X.pn ++ pins))) (v := .ref a) (J4.suite he4 hd4 na nL nF) hN hi (.inl hln) rfl (fun s5 S5 => ?_) (.inr hln)
          have hil : i < σ'.length := by rw [J.len]; exact (List.getElem?_eq_some_iff.mp hi).1
          exact wpAny_mono ((hsu a oe4 cls d (X.pn ++ pins) hz4 ⟨_, hd4⟩).run [] s5 _ H' _ S5 (hyes rfl a na hil)) (fun f s6 hsp => sp_gone hN hi hln (sp_unsuite ok hsp)) (fun _ _ z => False.elim z)
    exact go hh w
  · cases fl with
    | next =>
      obtain ⟨t, h1, J', q⟩ := hsp
      exact wpAny_execs_nil ⟨t, h1, J'.ofTry ok, q⟩
    | brk =>
      obtain ⟨t, h1, J', q⟩ := hsp
      exact ⟨t, h1, J'.ofTry ok, q⟩
    | cont =>
      obtain ⟨t, h1, J', q⟩ := hsp
      exact ⟨t, h1, J'.ofTry ok, q⟩
    | ret u =>
      obtain ⟨v, t, h1, J', r, q⟩ := hsp
      exact ⟨v, t, h1, J'.ofTry ok, r, q⟩
end
end L2

set_option Elab.async false
set_option linter.all false
set_option maxRecDepth 100000
set_option maxHeartbeats 4000000
/-! SaidKit: what a lambda handed over tells, or which of two errors it raises, as a pair. -/
namespace L2
open PySem PySem.Spec PyProof.Rows EK LamX
/-- an error of cls with its dict d: of the class at C, its one value told as (m, value) -/
def errTold (C : Addr) (f m : Str) (Q : VK) : XK := fun cls d H => cls = .ref C ∧ ∃ (dd : Addr) (v : V), d = some dd ∧ H dd = some (.xd [(f, v)]) ∧ ∀ p, H p = none → Q (.ref p) (upd H p (.tup [.str m, v]))
def wSaid (K : PySem.W.Frag) (C1 C2 : Addr) (f1 f2 m1 m2 : Str) (Q : VK) : XK := fun cls d H => ∃ b1, PySem.W.exmOne K cls (.ref C1) = some b1 ∧ (b1 = true → errTold C1 f1 m1 Q cls d H) ∧
  (b1 = false → ∃ b2, PySem.W.exmOne K cls (.ref C2) = some b2 ∧ (b2 = true → errTold C2 f2 m2 Q cls d H) ∧ (b2 = false → False))
def TSaid (K : PySem.W.Frag) (C1 C2 : Addr) (f1 f2 m1 m2 : Str) : (XK → Hp → VK → Prop) → Hp → VK → Prop := fun tl H Q =>
  tl (wSaid K C1 C2 f1 f2 m1 m2 Q) H fun v H1 => [V.str "told", v].length ≤ sizeLine ∧ ∀ p, H1 p = none → Q (.ref p) (upd H1 p (.tup [.str "told", v]))
theorem said_gives {X : Cx} {Ng : List Str} {x a e1 e2 n1 n2 q f1 f2 m1 m2 : Str} {sg : Scope} {g C1 C2 : Addr} {cdg : Value} {j0 j1 j2 : Nat} {p1 p2 p3 p4 p5 p8 a1 a2 a3 a4 a5 a6 a7 b1 b2 b3 b4 b5 b6 b7 : Pos} {k0 k1 k2 : Nat}
    (hN : Ng.Nodup) (hn1 : Ng[1]? = some n1) (hl1 : sg.names.lookup n1 = some .local) (hn2 : Ng[1]? = some n2)
    (ge1 : sg.names.lookup e1 = some .globalImplicit) (hm1 : X.mg e1 = some (.ref C1)) (de1 : (e1 == ("__debug__" : Str)) = false)
    (ge2 : sg.names.lookup e2 = some .globalImplicit) (hm2 : X.mg e2 = some (.ref C2)) (de2 : (e2 == ("__debug__" : Str)) = false)
    (T1 : XfC X.K C1) (T2 : XfC X.K C2) (no1 : PySem.W.findIn X.K (.ref C1) f1 = some none) (no2 : PySem.W.findIn X.K (.ref C2) f2 = some none) (dn : (n1 == ("__debug__" : Str)) = false) (cn : (n1 == ("__classdict__" : Str)) = false) (sk : sg.kind = .function)
    (h0 : ∀ f : Addr, (L2.start Ng [V.ref f])[0]? = some (some (V.ref f))) (hz1 : ∀ f : Addr, (L2.start Ng [V.ref f])[1]? = some none) :
    GivesTo X Ng x sg g cdg [.Try [.Return (some (.Tuple [.Constant (.str "told") j0 p1, .Call (.Name a p2) [] [] p3] k0 p4)) p5]
      [.ExceptHandler (some (.Name e1 a1)) (some n1) [.Return (some (.Tuple [.Constant (.str m1) j1 a2, .Attribute (.Name n1 a3) f1 a4] k1 a5)) a6] a7,
       .ExceptHandler (some (.Name e2 b1)) (some n2) [.Return (some (.Tuple [.Constant (.str m2) j2 b2, .Attribute (.Name n2 b3) f2 b4] k2 b5)) b6] b7] [] [] p8] a q (TSaid X.K C1 C2 f1 f2 m1 m2) := by
  obtain rfl : n1 = n2 := Option.some.inj (hn1.symm.trans hn2)
  intro f c' s H Q tl act hc h
  have hlen : 1 < (L2.start Ng [V.ref f]).length := by
    have z := hz1 f
    exact (List.getElem?_eq_some_iff.mp z).1
  have gl1 : Gl (cxOf C8.CX0 X.prog X.w X.K X.mg X.base Ng x sg g cdg X.A X.stack s H C8.E0).nox e1 := ge1
  have gl2 : Gl (cxOf C8.CX0 X.prog X.w X.K X.mg X.base Ng x sg g cdg X.A X.stack s H C8.E0).nox e2 := ge2
  refine ⟨_, pss_one (ps_tryC (X := (cxOf C8.CX0 X.prog X.w X.K X.mg X.base Ng x sg g cdg X.A X.stack s H C8.E0).nox)
      (tb := fun W D σ H => ∃ Ech : XK, (∀ cls d σ' H', Ech cls d H' → W cls d σ' H') ∧ σ[0]? = some (some (.ref f)) ∧ H c' = some (CodeO c' q) ∧ tl Ech H (fun v H1 => [V.str "told", v].length ≤ sizeLine ∧ ∀ p, H1 p = none → D.rt (.ref p) (upd H1 p (.tup [.str "told", v]))))
      (l := [⟨.ref C1, some 1, fun a cls d => tRet (tTup (tCons (tC (.str m1)) (tCons (tXf a cls d C1 f1 (tVar 1)) tNil)))⟩, ⟨.ref C2, some 1, fun a cls d => tRet (tTup (tCons (tC (.str m2)) (tCons (tXf a cls d C2 f2 (tVar 1)) tNil)))⟩])
      rfl rfl hN takes0 (fun W pn xe tk _ => ?_)
      (ClOk.as hn1 (by show Env.kindOf _ n1 = some NameKind.local; exact hl1) ⟨gl1, de1, .inl hm1⟩ (fun a oe cls d pn hz hf => pss_one (ps_ret (pe_tup (pa_cons pe_str (pa_cons (pe_xf T1 no1 hz hf (pe_var (i := 1) hn1 (Or.inl hl1) dn cn)) pa_nil)))))
        (ClOk.as hn1 (by show Env.kindOf _ n1 = some NameKind.local; exact hl1) ⟨gl2, de2, .inl hm2⟩ (fun a oe cls d pn hz hf => pss_one (ps_ret (pe_tup (pa_cons pe_str (pa_cons (pe_xf T2 no2 hz hf (pe_var (i := 1) hn1 (Or.inl hl1) dn cn)) pa_nil))))) .nil))), ?_⟩
  · refine ⟨fun pins s' σ H' D I h' => ?_⟩
    obtain ⟨Ech, hW, h1, h2, h3⟩ := h'
    have hp := act W pn xe Ech p2 p3 tk hW
    have hq : PSs ((cxOf C8.CX0 X.prog X.w X.K X.mg X.base Ng x sg g cdg X.A X.stack s H C8.E0).tr pn xe) [.Return (some (.Tuple [.Constant (.str "told") j0 p1, .Call (.Name a p2) [] [] p3] k0 p4)) p5] _ := pss_one (ps_ret (pe_tup (pa_cons pe_str (pa_cons hp pa_nil))))
    exact hq.run pins s' σ H' D I ⟨h1, h2, h3⟩
  · have hset : ∀ (σ : L2.St) (y : V), 1 < σ.length → (σ.set 1 (some y))[1]? = some (some y) := fun σ y h => by rw [List.getElem?_set_self h]
    have two : ∀ x y : V, [x, y].length ≤ sizeLine := fun x y => by show 2 ≤ sizeLine; decide
    refine ⟨wSaid X.K C1 C2 f1 f2 m1 m2 Q, fun cls d σ' H' ⟨b1, e1, y1, z1⟩ => ⟨b1, e1, fun hb a ha hl => ?_, fun hb => ?_⟩, h0 f, hc, h⟩
    · obtain ⟨ec, dd, v, ed, hd, q⟩ := y1 hb
      exact ⟨_, hset _ _ hl, rfl, ec, dd, _, v, ed, hd, look1 _ _, two _ _, q⟩
    · obtain ⟨b2, e2, y2, z2⟩ := z1 hb
      refine ⟨b2, e2, fun hb2 a ha hl => ?_, fun hb2 => z2 hb2⟩
      obtain ⟨ec, dd, v, ed, hd, q⟩ := y2 hb2
      exact ⟨_, hset _ _ hl, rfl, ec, dd, _, v, ed, hd, look1 _ _, two _ _, q⟩
end L2

set_option Elab.async false
set_option linter.all false
set_option maxRecDepth 100000
set_option maxHeartbeats 4000000
/-! ErrEnd: an error class's facts, from what the top has written. -/
namespace EK
open PySem PySem.W L2
def errB (K : Frag) (C fI : Addr) (f : Str) : Bool :=
  xfB K C && (decide (findIn K (.ref C) "__setattr__" = some (some (.builtin "object.__setattr__"))) && (decide (findIn K (.ref C) f = some none) && (decide (typeIn K (.ref fI) = some (.type "function")) && (keepIn K (.ref C) &&
  (decide (typeIn K (.ref C) = some (.type "type")) && (decide (exmOne K (.ref C) (.ref C) = some true) && (decide (subIn K (.ref C) (.type "ValueError") = some true) && (decide (ks_superIn K C C "__init__" = some (some (.builtin "ValueError.__init__"))) &&
  (decide (mroIn K C (.ref C) = some true) && (decide (findIn K (.ref C) "__class__" = some (some (.builtin "object.__class__"))) && decide (mroIn K C (.type "object") = some true)))))))))))
theorem and2 {a b : Bool} (h : (a && b) = true) : a = true ∧ b = true := Bool.and_eq_true_iff.mp h
theorem err_mk {P : Program} {K : Frag} {h : Heap} {mg : Str → Option Value} {x f : Str} {C fI N cda cc : Addr} (X : K.In h) (G : h.Ns mainGlobals mg)
    {nm q qn msg file : Str} {bs bm : List Value} {sn : List Str} {sub : List Value} {ab : Bool} {col : Option Bool} {dd od an cdd cld : Option Addr} {m0 m1 m2 m3 m5 : Option Value} {oc doc pm ct ccl cl : Value} {osl ccs csl : Array (Option Value)} {vs : Array Value} {tf : Tok}
    {p1 p2 a1 a2 a3 a4 a5 a6 b1 b2 b3 b4 : Pos}
    (aC : nsIn K mainGlobals x = some (some (.ref C))) (xL : K.lookup C = some (excClassObj nm q C N bs bm true sn sub ab col dd m0 m1 m2 m3 m5 "ValueError.__new__")) (rv : HandSPX.refsVE bm = true)
    (iC : findIn K (.ref C) "__init__" = some (some (.ref fI)))
    (l1 : K.lookup fI = some ⟨oc, od, .func (ksFn "__init__" qn (eArgs f p1 p2) (eBody f msg a1 a2 a3 a4 a5 a6 b1 b2 b3 b4) (eScope f) .none .none doc pm an (.ref cda) ct cc), osl⟩) (c1 : codeIn K (.ref cda) qn = true)
    (bd : ∀ u v : Value, bindArgs (ksFn "__init__" qn (eArgs f p1 p2) (eBody f msg a1 a2 a3 a4 a5 a6 b1 b2 b3 b4) (eScope f) .none .none doc pm an (.ref cda) ct cc) ⟨[u, v], []⟩ = pure [(("self" : Str), u), (f, v)])
    (sc : ∀ L : Addr, SupCall a1 a2 a3 a4 a5 msg (callEnv (ksFn "__init__" qn (eArgs f p1 p2) (eBody f msg a1 a2 a3 a4 a5 a6 b1 b2 b3 b4) (eScope f) .none .none doc pm an (.ref cda) ct cc) L fI))
    (cd : K.lookup cda = some ⟨ccl, cdd, .fields vs, ccs⟩) (vf : vs[2]? = some (.str file tf)) (pf : ((P.main.file : Str) == file) = true) (cL : K.lookup cc = some ⟨cl, cld, .cell (some (.ref C)), csl⟩)
    (eB : errB K C fI f = true) (ho : nsIn K cStatics "thirdparty.any" = some none) (su : nsIn K mainGlobals "super" = some none) (fok : f ≠ "self" ∧ f ≠ "__class__" ∧ f ≠ "super" ∧ f ≠ "__debug__") (top : (P.main.scope.names.lookup ("super" : Str)).isSome = false) :
    ErrTxt P K mg x f C fI := by
  obtain ⟨h1, eB⟩ := and2 eB
  obtain ⟨h2, eB⟩ := and2 eB
  obtain ⟨h3, eB⟩ := and2 eB
  obtain ⟨h4, eB⟩ := and2 eB
  obtain ⟨h5, eB⟩ := and2 eB
  obtain ⟨h6, eB⟩ := and2 eB
  obtain ⟨h7, eB⟩ := and2 eB
  obtain ⟨h8, eB⟩ := and2 eB
  obtain ⟨h9, eB⟩ := and2 eB
  obtain ⟨h10, eB⟩ := and2 eB
  have T := xfB_ok h1
  exact { gC := mg_of X G aC, cls := ⟨nm, q, N, bs, bm, sn, sub, ab, col, dd, m0, m1, m2, m3, m5, xL, rv⟩, sa := of_decide_eq_true h2, ga := T.ga, gg := T.gg, noN := of_decide_eq_true h3, iC := iC, tC := of_decide_eq_true h4, kC := h5, exC := T.exC,
          tyC := of_decide_eq_true h6, hdC := T.hdC, te := of_decide_eq_true h7, hB := of_decide_eq_true h8, si := of_decide_eq_true h9, ho := ho, su := mg_none_of X G su, mC := of_decide_eq_true h10, fok := fok, top := top,
          fn := ⟨oc, od, qn, msg, doc, pm, an, cda, cc, ct, osl, p1, p2, a1, a2, a3, a4, a5, a6, b1, b2, b3, b4, l1, c1, bd, sc, ⟨ccl, cdd, ccs, vs, file, tf, cd, vf, pf⟩, ⟨cl, cld, csl, cL⟩⟩ }
theorem excC_of {K : Frag} {C fI : Addr} {f : Str} (eB : errB K C fI f = true) (hn : specialIn K (.builtin "object.__class__") "__get__" = some (some (.builtin "getset_descriptor.__get__"))) (ht : takesIn K (.builtin "object.__class__") = some true) : ExcC K C := by
  obtain ⟨h1, eB⟩ := and2 eB
  obtain ⟨h2, eB⟩ := and2 eB
  obtain ⟨h3, eB⟩ := and2 eB
  obtain ⟨h4, eB⟩ := and2 eB
  obtain ⟨h5, eB⟩ := and2 eB
  obtain ⟨h6, eB⟩ := and2 eB
  obtain ⟨h7, eB⟩ := and2 eB
  obtain ⟨h8, eB⟩ := and2 eB
  obtain ⟨h9, eB⟩ := and2 eB
  obtain ⟨h10, eB⟩ := and2 eB
  obtain ⟨h11, h12⟩ := and2 eB
  have T := xfB_ok h1
  exact ⟨T.ga, T.gg, T.exC, T.hdC, of_decide_eq_true h11, hn, ht, of_decide_eq_true h12⟩
/-- which class is which, told apart -/
def kindsB (K : Frag) (E : Addr) (Cs : List Addr) : Bool :=
  (Cs.zipIdx.all fun p => Cs.zipIdx.all fun q => decide (kitOne K (.ref p.1) (.ref q.1) = some (decide (p.2 = q.2)))) && (Cs.all fun C => decide (kitOne K (.ref C) (.ref E) = some true) && decide (kitOne K (.ref C) (.type "ValueError") = some true))
theorem kinds_kt {K : Frag} {E : Addr} {Cs : List Addr} (h : kindsB K E Cs = true) (i j : Nat) (C D : Addr) (h1 : Cs[i]? = some C) (h2 : Cs[j]? = some D) : kitOne K (.ref C) (.ref D) = some (decide (i = j)) := by
  obtain ⟨h, _⟩ := and2 h
  have q := List.all_eq_true.mp h (C, i) (List.mk_mem_zipIdx_iff_getElem?.mpr h1)
  have q := List.all_eq_true.mp q (D, j) (List.mk_mem_zipIdx_iff_getElem?.mpr h2)
  exact of_decide_eq_true q
theorem kinds_ke {K : Frag} {E : Addr} {Cs : List Addr} (h : kindsB K E Cs = true) (C : Addr) (hC : C ∈ Cs) : kitOne K (.ref C) (.ref E) = some true ∧ kitOne K (.ref C) (.type "ValueError") = some true := by
  obtain ⟨_, h⟩ := and2 h
  obtain ⟨a, b⟩ := and2 (List.all_eq_true.mp h C hC)
  exact ⟨of_decide_eq_true a, of_decide_eq_true b⟩
end EK

set_option Elab.async false
set_option linter.all false
set_option maxRecDepth 100000
set_option maxHeartbeats 4000000
/-! DataKit: sorted, min of data at any depth and length, as rules of the layer. -/
namespace L2
open PySem PySem.Spec PyProof.Rows
section
variable {X : Cx} {pins : List (Addr × Obj)} {σ : St} {H : Hp} {s : Shared}
theorem each_vals (I : Inv X pins σ H s) : ∀ {bs : List (V × PyData)} {us : List Value}, Vals (bs.map (·.1)) us → (∀ b ∈ bs, Dp X.K H b.1 b.2) → PySem.W.EachIs (fun v b => RelV b.1 v) us bs ∧ PySem.W.EachIs (fun v b => ∃ as, Reads s.heap v b.2 as) us bs
  | [], _, r, _ => by
    cases r
    exact ⟨.nil, .nil⟩
  | b :: bs, _, r, h => by
    cases r with
    | cons r1 r2 =>
      obtain ⟨e1, e2⟩ := each_vals I r2 fun c hc => h c (List.mem_cons_of_mem _ hc)
      exact ⟨.cons r1 e1, .cons (Dp.reads I _ _ _ (h b List.mem_cons_self) r1) e2⟩
theorem vals_each : ∀ {us : List Value} {bs : List (V × PyData)}, PySem.W.EachIs (fun v b => RelV b.1 v) us bs → Vals (bs.map (·.1)) us
  | _, _, .nil => .nil
  | _, _, .cons r t => .cons r (vals_each t)
/-- sorted(xs) of data that are alike -/
def rSortedD (K : PySem.W.Frag) : List V → Hp → VK → Prop := fun vs H Q => ∃ (a : Addr) (bs : List (V × PyData)), vs = [V.ref a] ∧ SqL K H a (bs.map (·.1)) ∧ (∀ b ∈ bs, Dp K H b.1 b.2) ∧ PySem.W.AllAlike (bs.map (·.2)) ∧ PySem.W.Sortable (bs.map (·.2)) ∧ (∀ b ∈ bs, b.2.depth ≤ 50) ∧
  ∀ p, H p = none → Q (.ref p) (upd H p (.lst ((bs.mergeSort (PySem.W.dataLe false (·.2))).map (·.1))))
theorem cr_sortedD (hu : X.A.units + 64 < cLine) : CallR X (.builtin "sorted") (rSortedD X.K) := by
  intro pins s σ H vs us Q I r h
  obtain ⟨a, bs, rfl, hs, hd, hal, hk, hdep, q⟩ := h
  obtain ⟨its, rv, hl, hz⟩ := I.list hs
  obtain ⟨u, rfl, ru⟩ := vals1 r
  obtain rfl : u = Value.ref a := ru
  obtain ⟨e1, e2⟩ := each_vals I rv hd
  rw [List.length_map] at hz
  refine PySem.W.sorted_data (enc := fun b : V × PyData => b.2) hl.isList e1 e2 hal hk hz (fun b hb => by have := hdep b hb; omega) fun out hlen ho => ?_
  obtain ⟨n, hn⟩ := sortedAll_at s.heap its out.toArray
  have rv2 := vals_each ho
  exact ⟨.ref (s.heap.objs.size + 1), _, I.laid (t' := s.toks) (a := s.heap.objs.size + 1) (o := .lst ((bs.mergeSort (PySem.W.dataLe false (·.2))).map (·.1))) (fun b o e => sortedAll_old e) (Nat.le_succ _) ⟨by rw [rv2.length, hlen]; exact hz, out, n, rv2, hn⟩, rfl, q _ (I.hok.fresh (Nat.le_succ _))⟩
/-- min(xs) of texts, one at least -/
def minS (x : Str) (xs : List Str) : Str := xs.foldl (fun a y => if decide (y.cps.toList < a.cps.toList) = true then y else a) x
theorem minD_strs (x : Str) : ∀ xs : List Str, PySem.W.minD (.str x) (xs.map PyData.str) = .str (minS x xs) := by
  intro xs
  induction xs generalizing x with
  | nil => rfl
  | cons y ys ih =>
    show PySem.W.minD (if PySem.W.dataLt (.str y) (.str x) = true then .str y else .str x) (ys.map PyData.str) = .str (minS (if decide (y.cps.toList < x.cps.toList) = true then y else x) ys)
    rw [PySem.W.dataLt_str]
    split
    · exact ih y
    · exact ih x
theorem reads_strs {h : Heap} : ∀ {xs : List Str} {us : List Value}, Vals (xs.map V.str) us → ∃ as, ReadsAll h us (xs.map PyData.str) as
  | [], _, r => by
    cases r
    exact ⟨_, .nil⟩
  | x :: xs, _, r => by
    cases r with
    | cons r1 r2 =>
      obtain ⟨t, rfl⟩ := r1
      obtain ⟨as, z⟩ := reads_strs (h := h) r2
      exact ⟨_, .cons (.str x t) z⟩
theorem depth_strs : ∀ xs : List Str, PyData.depthAll (xs.map PyData.str) ≤ 1
  | [] => by simp [PyData.depthAll]
  | x :: xs => by
    have := depth_strs xs
    simp only [List.map_cons, PyData.depthAll, PyData.depth]
    omega
def rMinS (K : PySem.W.Frag) : List V → Hp → VK → Prop := fun vs H Q => ∃ (a : Addr) (x : Str) (xs : List Str), vs = [V.ref a] ∧ SqL K H a ((x :: xs).map V.str) ∧ Q (.str (minS x xs)) H
theorem cr_minS (hc : X.calm = true) (hu : X.A.units + 64 < cLine) : CallR X (.builtin "min") (rMinS X.K) := by
  intro pins s σ H vs us Q I r h
  obtain ⟨a, x, xs, rfl, hs, q⟩ := h
  obtain ⟨its, rv, hl, hz⟩ := I.list hs
  obtain ⟨u, rfl, ru⟩ := vals1 r
  obtain rfl : u = Value.ref a := ru
  obtain ⟨as, hr⟩ := reads_strs (h := s.heap) rv
  have hdep := depth_strs (x :: xs)
  refine PySem.W.min_list_data (x := .str x) (xs := xs.map PyData.str) (I.ok.hd hc) hl.isList (by simpa using hr) ⟨fun y hy z hz => ?_, fun y hy => ?_⟩ (by have : PyData.depthAll (PyData.str x :: xs.map PyData.str) ≤ 1 := hdep; omega) fun i v h' tk bs hv hrd hk => ?_
  · obtain ⟨y', _, rfl⟩ := List.mem_map.mp (show y ∈ (x :: xs).map PyData.str from hy)
    obtain ⟨z', _, rfl⟩ := List.mem_map.mp (show z ∈ (x :: xs).map PyData.str from hz)
    simp [PySem.W.alike]
  · obtain ⟨y', _, rfl⟩ := List.mem_map.mp (show y ∈ (x :: xs).map PyData.str from hy)
    exact fun z => nomatch z
  · rw [minD_strs] at hrd
    cases hrd with
    | str _ t => exact ⟨.str (minS x xs), H, I.kept (t' := tk) hk, ⟨t, rfl⟩, q⟩
end
end L2

set_option Elab.async false
set_option linter.all false
set_option maxRecDepth 100000
set_option maxHeartbeats 4000000
/-! SortKit: a list put in order, as a plain function that evaluates. -/
namespace L2
open PySem
section
variable {α : Type} (le : α → α → Bool)
def ins (a : α) : List α → List α
  | [] => [a]
  | b :: r => if le a b = true then a :: b :: r else b :: ins a r
def isort : List α → List α
  | [] => []
  | a :: r => ins le a (isort r)
theorem ins_perm (a : α) : ∀ l, (ins le a l).Perm (a :: l)
  | [] => .refl _
  | b :: r => by
    unfold ins
    split
    · exact .refl _
    · exact ((ins_perm a r).cons b).trans (.swap a b r)
theorem isort_perm : ∀ l, (isort le l).Perm l
  | [] => .refl _
  | a :: r => (ins_perm le a _).trans ((isort_perm r).cons a)
variable (trans : ∀ x y z, le x y = true → le y z = true → le x z = true) (total : ∀ x y, (le x y || le y x) = true)
include trans total
theorem ins_sorted (a : α) : ∀ {l : List α}, l.Pairwise (fun x y => le x y = true) → (ins le a l).Pairwise (fun x y => le x y = true)
  | [], _ => List.pairwise_singleton _ _
  | b :: r, h => by
    obtain ⟨h1, h2⟩ := List.pairwise_cons.mp h
    unfold ins
    split
    · rename_i q
      refine List.pairwise_cons.mpr ⟨fun c hc => ?_, h⟩
      rcases List.mem_cons.mp hc with rfl | hc
      · exact q
      · exact trans _ _ _ q (h1 c hc)
    · rename_i q
      refine List.pairwise_cons.mpr ⟨fun c hc => ?_, ins_sorted a h2⟩
      have hc2 := (ins_perm le a r).mem_iff.mp hc
      rcases List.mem_cons.mp hc2 with rfl | hc2
      · have t := total c b
        rw [Bool.or_eq_true] at t
        exact t.resolve_left q
      · exact h1 c hc2
theorem isort_sorted : ∀ l : List α, (isort le l).Pairwise (fun x y => le x y = true)
  | [] => List.Pairwise.nil
  | a :: r => ins_sorted le trans total a (isort_sorted r)
omit trans total in
theorem sorted_uniq : ∀ {l m : List α}, (∀ x ∈ l, ∀ y ∈ l, le x y = true → le y x = true → x = y) → l.Perm m → l.Pairwise (fun x y => le x y = true) → m.Pairwise (fun x y => le x y = true) → l = m
  | [], m, _, p, _, _ => by rw [List.nil_perm.mp p]
  | a :: l, m, an, p, h1, h2 => by
    cases m with
    | nil => exact absurd p.length_eq (by simp)
    | cons b m =>
      obtain ⟨s1, s2⟩ := List.pairwise_cons.mp h1
      obtain ⟨t1, t2⟩ := List.pairwise_cons.mp h2
      have e : a = b := by
        have ha : a ∈ b :: m := p.mem_iff.mp List.mem_cons_self
        have hb : b ∈ a :: l := p.mem_iff.mpr List.mem_cons_self
        rcases List.mem_cons.mp ha with e | ha
        · exact e
        rcases List.mem_cons.mp hb with e | hb2
        · exact e.symm
        exact an _ List.mem_cons_self _ hb (s1 b hb2) (t1 a ha)
      subst e
      rw [sorted_uniq (fun x hx y hy => an x (List.mem_cons_of_mem _ hx) y (List.mem_cons_of_mem _ hy)) p.cons_inv s2 t2]
theorem msort_isort (l : List α) (an : ∀ x ∈ l, ∀ y ∈ l, le x y = true → le y x = true → x = y) : l.mergeSort le = isort le l := by
  refine sorted_uniq le (fun x hx y hy => an x ((List.mergeSort_perm l le).mem_iff.mp hx) y ((List.mergeSort_perm l le).mem_iff.mp hy)) ((List.mergeSort_perm l le).trans (isort_perm le l).symm) ?_ (isort_sorted le trans total l)
  exact List.pairwise_mergeSort (fun a b c => trans a b c) (fun a b => total a b) l
end
/-- a sign and its place, as data -/
def skey (cs : List Nat) (i : Nat) : PyData := .tuple [.str ⟨#[cs.getD i 0]⟩, .int i]
/-- a pair of an address and its place, by sign and place -/
def dle {β : Type} (k : β → PyData) : β → β → Bool := PySem.W.dataLe false k
theorem dle_trans {β : Type} (k : β → PyData) (x y z : β) (h1 : dle k x y = true) (h2 : dle k y z = true) : dle k x z = true := (PySem.W.sortLe_total (PyProof.Rows.listOrd PyProof.Rows.itemOrd) false fun b => PySem.W.keyToks (k b)).trans x y z h1 h2
theorem dle_total {β : Type} (k : β → PyData) (x y : β) : (dle k x y || dle k y x) = true := by
  rw [Bool.or_eq_true]
  exact (PySem.W.sortLe_total (PyProof.Rows.listOrd PyProof.Rows.itemOrd) false fun b => PySem.W.keyToks (k b)).total x y
theorem dle_anti {β : Type} {k : β → PyData} {x y : β} (h1 : dle k x y = true) (h2 : dle k y x = true) : PySem.W.keyToks (k x) = PySem.W.keyToks (k y) := by
  have e1 : (!(PyProof.Rows.listOrd PyProof.Rows.itemOrd).blt (PySem.W.keyToks (k y)) (PySem.W.keyToks (k x))) = true := h1
  have e2 : (!(PyProof.Rows.listOrd PyProof.Rows.itemOrd).blt (PySem.W.keyToks (k x)) (PySem.W.keyToks (k y))) = true := h2
  rw [Bool.not_eq_true'] at e1 e2
  exact (PyProof.Rows.listOrd PyProof.Rows.itemOrd).total _ _ e2 e1
/-- the places in the order of their signs -/
def ordI (cs : List Nat) : List Nat := isort (dle (skey cs)) (List.range cs.length)
theorem skey_inj {cs ds : List Nat} {i j : Nat} (h : PySem.W.keyToks (skey cs i) = PySem.W.keyToks (skey ds j)) : i = j := by
  have e1 : ∀ (es : List Nat) (n : Nat), PySem.W.keyToks (skey es n) = [.inl 1, .inr [es.getD n 0], .inl 1, .inl n, .inl 0] := fun es n => by
    simp [skey, PySem.W.keyToks, PySem.W.keyToksAll]
  rw [e1, e1] at h
  injection h with _ h
  injection h with _ h
  injection h with _ h
  injection h with h _
  injection h with h
  exact Int.ofNat.inj h
/-- the pairs at their places, put in order: as ordI says -/
theorem sort_pairs (cs : List Nat) (bs : List (V × PyData)) (f : Nat → Addr) (e : bs = (List.range cs.length).map fun i => (V.ref (f i), skey cs i)) :
    (bs.mergeSort (PySem.W.dataLe false (·.2))).map (·.1) = (ordI cs).map fun i => V.ref (f i) := by
  have h1 := List.map_mergeSort (f := fun i : Nat => (V.ref (f i), skey cs i)) (r := dle (skey cs)) (s := PySem.W.dataLe false (·.2)) (l := List.range cs.length) fun a _ b _ => rfl
  rw [e, ← h1, List.map_map, msort_isort (dle (skey cs)) (dle_trans _) (dle_total _) _ fun x _ y _ h1 h2 => skey_inj (dle_anti h1 h2)]
  rfl
example : ordI [98, 97, 36, 97] = [2, 1, 3, 0] := by decide +kernel
end L2

set_option Elab.async false
set_option linter.all false
set_option maxRecDepth 100000
set_option maxHeartbeats 4000000
/-! EnumS: enumerate of a text, in a for or a comprehension. -/
namespace L2
open PySem PySem.Spec PyProof.Rows
def Ites (z : Str) : It :=
  ⟨fun i _ => i < z.cps.size, fun i H v H' => ∃ T c, v = .ref T ∧ H T = none ∧ H' = upd H T (.tup [.int (i : Nat), .str ⟨#[c]⟩]) ∧ z.cps[i]? = some c, fun i _ => z.cps.size ≤ i⟩
theorem draws_text {P : Program} {w : World} {A : Around} (hh : A.handled = none) (it : Addr) (x : Str) (t : Tok) :
    Draws P w A it [it] x.cps.size (fun i v => ∃ c u, x.cps[i]? = some c ∧ v = .str ⟨#[c]⟩ u) (fun i h => h.IsStrIter it (strIterType x) x t i) := by
  unfold strIterType
  by_cases h : x.cps.all (· < 128) = true
  · rw [if_pos h]
    exact Draws.strAscii hh it x t
  · rw [if_neg h]
    exact Draws.strWide hh it x t
theorem turn_enumS {P : Program} {w : World} {K : PySem.W.Frag} {elts : List Expr} {kk : Nat} {tpos : Pos} (z : Str) (t : Tok) (e it : Addr) :
    Turn P w K (.Tuple elts kk tpos) (Ites z) [e, it] e (fun i h => (∃ old, IsEnum h e it ((i : Nat) : Int) old) ∧ i ≤ z.cps.size ∧ h.IsStrIter it (strIterType z) z t i ∧ e ≠ it) where
  mem := by simp
  obj := fun i h st b hb => by
    obtain ⟨⟨old, he⟩, _, ⟨o, ho, hc, hd⟩, _⟩ := st
    have e' : b = e ∨ b = it := by simpa using hb
    rcases e' with q | q
    · rw [q]
      exact ⟨_, he, fun v y => nomatch y⟩
    · rw [q]
      refine ⟨o, ho, fun v y => ?_⟩
      rw [hd] at y
      cases y
  keep := fun i h h' st k => by
    obtain ⟨⟨old, he⟩, hi, ⟨o, ho, r⟩, hne⟩ := st
    exact ⟨⟨old, k e (by simp) _ he⟩, hi, ⟨o, k it (by simp) _ ho, r⟩, hne⟩
  item := by
    intro X hP hw hK hc i pins s σ H E I hf st hg
    subst hP hw hK
    obtain ⟨⟨old, he⟩, _, hit, hne⟩ := st
    have hg : i < z.cps.size := hg
    have hel : e < s.heap.objs.size := Heap.lt_size he
    have hil : it < s.heap.objs.size := by
      obtain ⟨_, q, _⟩ := hit
      exact Heap.lt_size q
    have hh : X.A.in1.handled = none := by simp [I.ok.hd hc]
    refine wpAny_pyNext_enum_itemD (draws_text hh it z t) he hit hg hne (by simpa using hne) fun x h' tk hx ho hit' hT hsz hk => ?_
    obtain ⟨c, u, hz, rfl⟩ := hx
    refine ⟨_, rfl, wpAny_letOwnedTupleGo_enum (s := { s with heap := h', toks := tk + 1 }) ho fun h'' he' sb => ?_⟩
    have hT2 : h''.get? s.heap.objs.size = some { cls := .type "tuple", data := .seq #[.int i tk, .str ⟨#[c]⟩ u] } := (sb.2 _ (Nat.ne_of_gt hel)).trans hT
    have new : ObjOk X.prog X.w (upd H s.heap.objs.size (.tup [.int (i : Nat), .str ⟨#[c]⟩])) h'' s.heap.objs.size (.tup [.int (i : Nat), .str ⟨#[c]⟩]) :=
      ⟨by show 2 ≤ sizeLine; decide, [.int i tk, .str ⟨#[c]⟩ u], .cons ⟨_, rfl⟩ (.cons ⟨_, rfl⟩ .nil), ⟨_, hT2, rfl, _, rfl⟩⟩
    have J : Inv X pins σ (upd H s.heap.objs.size (.tup [.int (i : Nat), .str ⟨#[c]⟩])) { s with heap := h'', toks := tk + 1 } :=
      I.turnedNew (ch := [e, it]) (fun b ob hb q => (sb.2 b (fun y => hb (by simp [y]))).trans (hk b ob (fun y => hb (by simp [y])) (fun y => hb (by simp [y])) q)) hf (Nat.le_refl _) new
    refine ⟨.ref s.heap.objs.size, _, J, rfl, ⟨_, c, rfl, I.hok.fresh (Nat.le_refl _), rfl, hz⟩, ⟨⟨.str ⟨#[c]⟩ u, ?_⟩, hg, ?_, hne⟩, fun b hb => ?_⟩
    · have e1 : ((i + 1 : Nat) : Int) = (i : Int) + 1 := by omega
      rw [e1]
      exact he'
    · obtain ⟨o, q, r⟩ := hit'
      exact ⟨o, (sb.2 it (Ne.symm hne)).trans q, r⟩
    · have hb' : b < s.heap.objs.size := by
        have e' : b = e ∨ b = it := by simpa using hb
        rcases e' with y | y
        · rw [y]
          exact hel
        · rw [y]
          exact hil
      rw [upd_ne (Nat.ne_of_lt hb')]
      exact (hf b hb).1
  done := by
    intro X hP hw hK hc i pins s σ H E I hf st hg
    subst hP hw hK
    obtain ⟨⟨old, he⟩, hi, hit, hne⟩ := st
    have hg : z.cps.size ≤ i := hg
    have hii : i = z.cps.size := by omega
    subst hii
    obtain ⟨f0, f1, f2, f3, f4, f5⟩ := hf it (by simp)
    have hh : X.A.in1.handled = none := by simp [I.ok.hd hc]
    exact wpAny_pyNext_enum_endD (draws_text hh it z t) he hit fun h' eb => ⟨rfl, I.turned (t' := s.toks) (fun b o hb q => eb b o hb q) f0 f1 f3 f4 f5⟩
  self := fun A i s Q E st h => let ⟨⟨_, he⟩, _⟩ := st; wpAny_pyIter_enum he h
def iEnumS (ta : TA) : TI := fun σ H R => ta σ H fun vs H1 => ∃ z, vs = [.str z] ∧ R (Ites z) H1
theorem pi_enumS {X : Cx} {e : Expr} {ta : TA} {p pos tpos : Pos} {elts : List Expr} {kk : Nat} (hg : Gl X "enumerate") (hm : X.mg "enumerate" = none) (ha : PA X [e] ta) (hs : starEach [e] X.env = [(false, eval e X.env)] := by rfl) :
    PI X (.Tuple elts kk tpos) (.Call (.Name "enumerate" p) [e] [] pos) (iEnumS ta) := by
  refine ⟨fun pins s σ H R I h => ?_⟩
  refine Call_ (ld_blt I hg hm boot_enumerate (PyProof.Rows.callWith_type1 (thn (ha.run pos pins s σ H _ I h) fun us s1 ⟨vs, H1, I1, r1, q1⟩ => ?_) hs rfl))
  obtain ⟨z, ex, q⟩ := q1
  subst ex
  cases r1 with
  | cons r rr =>
    cases rr
    obtain ⟨t, rfl⟩ := r
    refine call_enumerate_str fun h' he hit hsz hk => wpAny_pyIter_enum he ?_
    have I2 : Inv X pins σ H1 { s1 with heap := h' } := I1.kept (t' := s1.toks) hk
    refine ⟨s1.heap.objs.size + 1, [s1.heap.objs.size + 1, s1.heap.objs.size], _, _, H1, rfl, I2, turn_enumS z t (s1.heap.objs.size + 1) s1.heap.objs.size, ⟨⟨.none, he⟩, Nat.zero_le _, hit, Nat.succ_ne_self _⟩, fun b hb => ?_, q⟩
    have e' : b = s1.heap.objs.size + 1 ∨ b = s1.heap.objs.size := by simpa using hb
    have hle : s1.heap.objs.size ≤ b := by
      rcases e' with q | q
      · rw [q]
        exact Nat.le_add_right _ _
      · rw [q]
        exact Nat.le_refl _
    exact I1.fpOk hle (I1.hok.fresh hle)
theorem walk_enumS {z : Str} : Walk (Ites z) z.cps.size (fun _ => True) (fun i H v H' => ∃ T c, v = .ref T ∧ H T = none ∧ H' = upd H T (.tup [.int (i : Nat), .str ⟨#[c]⟩]) ∧ z.cps[i]? = some c) :=
  ⟨fun _ _ hi _ => hi, fun _ _ => Nat.le_refl _, fun _ _ _ _ _ _ y => y⟩
end L2

set_option Elab.async false
set_option linter.all false
set_option maxRecDepth 100000
set_option maxHeartbeats 4000000
/-! SetTup: len(set(t)), t a tuple of texts. -/
namespace L2
open PySem PySem.Spec PyProof.Rows
/-- the unlike ones, in the order of their first -/
def ddS (l : List Str) : List Str := l.foldl (fun acc x => if x ∈ acc then acc else acc ++ [x]) []
theorem ddS_snoc (l : List Str) (x : Str) : ddS (l ++ [x]) = if x ∈ ddS l then ddS l else ddS l ++ [x] := by
  unfold ddS
  rw [List.foldl_append]
  rfl
theorem ddS_mem (l : List Str) (y : Str) : y ∈ ddS l ↔ y ∈ l := by
  have gen : ∀ (m acc : List Str), y ∈ m.foldl (fun acc x => if x ∈ acc then acc else acc ++ [x]) acc ↔ y ∈ acc ∨ y ∈ m := by
    intro m
    induction m with
    | nil => intro acc; simp
    | cons a m ih =>
      intro acc
      rw [List.foldl_cons, ih]
      by_cases h : a ∈ acc
      · rw [if_pos h]
        constructor
        · rintro (q | q)
          · exact .inl q
          · exact .inr (List.mem_cons_of_mem _ q)
        · rintro (q | q)
          · exact .inl q
          · rcases List.mem_cons.mp q with q | q
            · exact .inl (q ▸ h)
            · exact .inr q
      · rw [if_neg h, List.mem_append, List.mem_singleton, List.mem_cons]
        constructor
        · rintro ((q | q) | q)
          · exact .inl q
          · exact .inr (.inl q)
          · exact .inr (.inr q)
        · rintro (q | q | q)
          · exact .inl (.inl q)
          · exact .inl (.inr q)
          · exact .inr q
  have := gen l []
  simpa [ddS] using this
theorem ddS_len (l : List Str) : (ddS l).length ≤ l.length := by
  have gen : ∀ (m acc : List Str), (m.foldl (fun acc x => if x ∈ acc then acc else acc ++ [x]) acc).length ≤ acc.length + m.length := by
    intro m
    induction m with
    | nil => intro acc; exact Nat.le_refl _
    | cons a m ih =>
      intro acc
      rw [List.foldl_cons]
      refine Nat.le_trans (ih _) ?_
      split
      · rw [List.length_cons]; omega
      · rw [List.length_append, List.length_singleton, List.length_cons]; omega
  have := gen l []
  simpa [ddS] using this
section
variable {pr : Program} {w : World} {B : Around} {RR : Result → Shared → Prop} {it : Addr} {fq ww : List Addr} {GG : Array GenState → Array GenState → Prop} {m : Nat} {PP : Nat → Value → Prop} {TT : Nat → Shared → Prop}
theorem loop_texts (U : WalksS pr w B.in1 it fq ww GG m PP TT) (so : Addr) (hso : so ∉ fq) (ys : List Str) (hys : ys.length = m) (few : m < 64) (hv : ∀ i v, PP i v → ∃ t, v = .str (ys.getD i Str.empty) t) :
    ∀ (left i : Nat) (s : Shared), m - i = left → i ≤ m → TT i s → s.heap.SetOf (strKind pr w) so (fun q => decide (q ∈ ys.take i)) (ddS (ys.take i)).length →
      (∀ s', Moved (so :: ww) GG s s' → s'.heap.SetOf (strKind pr w) so (fun q => decide (q ∈ ys)) (ddS ys).length → RR (.ok (.ret .none)) s') →
      codeAny (model pr w) B (.builtin "set.update.loop" ⟨[.ref so, .ref it], []⟩) RR s := by
  have now : so ∉ ww := fun h => hso (U.sub _ h)
  have sub2 : ∀ b ∈ ww, b ∈ so :: ww := fun b hb => List.mem_cons_of_mem _ hb
  intro left
  induction left with
  | zero =>
    intro i s hl hi ht hS hR
    obtain rfl : i = m := by omega
    rw [← hys, List.take_length] at hS
    refine codeAny_builtin F.entry_set_update_loop ?_
    rw [Around.under_plainId F.plain_set_update_loop _]
    refine wpAny_bind (U.done s _ _ ht fun s' mv => ?_)
    obtain ⟨o, es, ep, tb, ho, rest⟩ := hS
    exact wpAny_pure (hR s' (mv.mono sub2) ⟨o, es, ep, tb, mv.heap so _ now ho, rest⟩)
  | succ left ih =>
    intro i s hl hi ht hS hR
    have him : i < m := by omega
    refine codeAny_builtin F.entry_set_update_loop ?_
    rw [Around.under_plainId F.plain_set_update_loop _]
    refine wpAny_bind (U.item i s _ _ him ht fun v s' hP ht' mv => ?_)
    obtain ⟨t, rfl⟩ := hv i v hP
    have hS' : s'.heap.SetOf (strKind pr w) so (fun q => decide (q ∈ ys.take i)) (ddS (ys.take i)).length := by
      obtain ⟨o, es, ep, tb, ho, rest⟩ := hS
      exact ⟨o, es, ep, tb, mv.heap so _ now ho, rest⟩
    have hlen := ddS_len (ys.take i)
    rw [List.length_take] at hlen
    refine wpAny_bind (wpAny_holding ?_)
    unfold setAdd
    refine wpAny_holding ?_
    refine wpAny_bind ((strKind pr w).pyHash (k := ys.getD i Str.empty) (strKind_is _ _ _ _) ?_)
    refine wpAny_setAddHashed_of (knd := strKind pr w) (s := { s' with toks := s'.toks + 1 }) (strKind_is _ _ _ _) rfl hS' (by unfold scanBound; omega) fun h' sb hS2 => ?_
    have ey : ys.take (i + 1) = ys.take i ++ [ys.getD i Str.empty] := by
      rw [List.take_succ, List.getD_eq_getElem?_getD, List.getElem?_eq_getElem (by omega)]
      rfl
    have hS3 : h'.SetOf (strKind pr w) so (fun q => decide (q ∈ ys.take (i + 1))) (ddS (ys.take (i + 1))).length := by
      rw [ey]
      refine SetOf_congr hS2 (fun q => ?_) ?_
      · by_cases h1 : q ∈ ys.take i
        · simp [h1]
        · simp [h1]
      · rw [ddS_snoc]
        by_cases h1 : ys.getD i Str.empty ∈ ys.take i
        · rw [if_pos ((ddS_mem _ _).mpr h1), if_pos (by simpa using h1)]
        · rw [if_neg (fun z => h1 ((ddS_mem _ _).mp z)), if_neg (by simpa using h1), List.length_append]
          rfl
    refine wpAny_pure ⟨plainId_quiet F.plain_set_update_loop _, ih (i + 1) _ (by omega) him (U.frame _ s' _ _ ht' (Nat.le_succ _) fun b hb o e => ?_) hS3 fun s2 mv2 hS4 => ?_⟩
    · rw [sb.2 b (fun z : b = so => hso (by rw [← z]; exact hb))]
      exact e
    · refine hR s2 (Moved.trans U.gtrans ((mv.mono sub2).then_heap (Nat.le_succ _) fun b o hb e => ?_) mv2) hS4
      rw [sb.2 b (fun z : b = so => hb (by rw [z]; exact List.mem_cons_self))]
      exact e
end
section
variable {pr : Program} {w : World} {B : Around} {EE : Value → Shared → Prop} {s : Shared}
abbrev setOb (led : Bool) : Obj := { cls := .type "set", dict := none, data := .set #[] 0 (.fresh 0 0 led) }
theorem call_set_texts {tu : Addr} {its : Array Value} {ys : List Str} {QQ : Value → Shared → Prop} (hd : B.handled = none) (ht : s.heap.IsTuple tu its) (hy : StrsAre its.toList ys) (few : ys.length < 64)
    (fin : ∀ (h' : Heap) (tk : Nat), h'.SetOf (strKind pr w) s.heap.objs.size (fun q => decide (q ∈ ys)) (ddS ys).length → (∀ b o, b < s.heap.objs.size → s.heap.get? b = some o → h'.get? b = some o) → QQ (.ref s.heap.objs.size) { s with heap := h', toks := tk }) :
    wpAny (model pr w) B (call (.type "set") [.ref tu]) QQ EE s := by
  obtain ⟨cc, tl, mro⟩ := F.called_set.mro
  have md := F.called_set.made
  have sb := F.called_set.sub
  refine wpAny_call (codeAny_of_tree ?_)
  show wpAny _ _ (callAny (.type "set") _) _ _ _
  refine wpAny_pure ⟨Code.quiet_builtin _ (by decide +kernel), codeAny_builtin F.entry_type_call ?_⟩
  rw [Around.under_plain (weight_type_call_type "set" [.ref tu] []) rfl]
  have q1 := F.called_set.notType
  have q2 := F.called_set.canCreate
  have q3 := F.typeCall_set_1 (.ref tu)
  repeat (any_goals (first | assumption | wp_step))
  refine codeAny_mono (code_set_new_1 (.ref tu) (E := EE) (Q₁ := fun ob s1 => ∃ led : Bool, ob = .ref s.heap.objs.size ∧ s1 = { s with heap := s.heap.push (setOb led) }) fun led => ⟨led, rfl, rfl⟩) fun r s1 hr => ?_
  cases r with
  | error e => exact hr
  | ok fl =>
    cases fl with
    | ret ob =>
      obtain ⟨led, rfl, rfl⟩ := hr
      have gS : (s.heap.push (setOb led)).get? s.heap.objs.size = some (setOb led) := Heap.get?_push_size _ rfl
      have tS : Shared.TypeIs { s with heap := s.heap.push (setOb led) } (.ref s.heap.objs.size) "set" := ⟨_, gS, rfl⟩
      have i1 := F.called_set.init.lookup
      have i2 := F.called_set.init.bind (.ref s.heap.objs.size)
      repeat (any_goals (first | assumption | wp_step))
      refine codeAny_mono (codeAny_call_builtin (R := wants (fun r s2 => r = .none ∧ ∃ h' tk, s2 = { s with heap := h', toks := tk } ∧ h'.SetOf (strKind pr w) s.heap.objs.size (fun q => decide (q ∈ ys)) (ddS ys).length ∧ (∀ b o, b < s.heap.objs.size → s.heap.get? b = some o → h'.get? b = some o)) EE) F.called_set.init.plain F.entry_set_init (check_set_init_1 tS ?_)) fun r2 s2 hr2 => ?_
      · obtain ⟨ot, got, ct, nt, dt⟩ := ht
        obtain ⟨otc, otd, otx, ots⟩ := ot
        simp only at ct dt
        subst ct
        subst dt
        have got2 : (s.heap.push (setOb led)).get? tu = some { cls := .type "tuple", dict := otd, data := .seq its nt, slots := ots } := Heap.get?_push_of_some _ got
        have u1 := F.sub_tuple_set
        have u2 := F.sub_tuple_frozenset
        have u3 : (Value.type "tuple" == Value.type "dict") = false := by decide
        have tup1 : (s.heap.push (setOb led)).IsTuple tu its := ⟨_, got2, rfl, nt, rfl⟩
        unfold Builtin.«set.__init__» noKeywords Builtin.Frozenset.updateFrom
        generalize hPI : pyIter = PI
        wp_walk
        subst hPI
        refine wpAny_pyIter_tuple tup1 ?_
        refine wpAny_bind (wpAny_runValue ?_)
        have lt1 : tu < s.heap.objs.size := Heap.lt_size got
        have hd3 : B.in1.in1.in1.handled = none := by simp [hd]
        have ne1 : tu ≠ (s.heap.push (setOb led)).objs.size := by
          rw [Heap.size_push]
          exact Nat.ne_of_lt (Nat.lt_succ_of_lt lt1)
        have so1 : s.heap.objs.size ∉ [(s.heap.push (setOb led)).objs.size, tu] := by
          rw [Heap.size_push]
          simp only [List.mem_cons, List.mem_singleton, List.not_mem_nil, or_false, not_or]
          exact ⟨Nat.ne_of_lt (Nat.lt_succ_self _), Nat.ne_of_gt lt1⟩
        have len1 : ys.length = its.size := by rw [← StrsAre.len_eq hy, Array.length_toList]
        refine loop_texts ((Walks.tuple hd3 _ tu ne1 its).toS) s.heap.objs.size so1 ys len1 (by omega) (fun i v e => SS.strs_at hy i v (by rw [Array.getElem?_toList]; exact e)) (its.size - 0) 0 _ (by omega) (Nat.zero_le _)
          ⟨⟨_, Heap.get?_push_size _ rfl, rfl, rfl⟩, tup1.push _⟩ ?start ?done
        case start =>
          have g2 : ((s.heap.push (setOb led)).push { cls := .type "tuple_iterator", data := .fields #[.ref tu, .int 0 0] }).get? s.heap.objs.size = some (setOb led) := Heap.get?_push_of_some _ gS
          exact SetOf_congr ((setObjOf_fresh (knd := strKind pr w) led).setOf g2 (by unfold scanBound; omega)) (fun q => by simp) rfl
        case done =>
          intro s' mv hS
          obtain ⟨h', g', d', tk', os'⟩ := s'
          have eg : g' = s.gens := mv.gens
          have ed : d' = s.drawn := mv.drawn
          have eo : os' = s.os := mv.os
          subst eg
          subst ed
          subst eo
          refine wpAny_pure ?_
          show wpAny _ _ (ret Value.none) _ _ _
          refine wpAny_pure ⟨rfl, h', tk', rfl, hS, fun b o hb e => ?_⟩
          have n1 : b ≠ s.heap.objs.size := Nat.ne_of_lt hb
          have n2 : b ≠ (s.heap.push (setOb led)).objs.size := by
            rw [Heap.size_push]
            exact Nat.ne_of_lt (Nat.lt_succ_of_lt hb)
          exact mv.heap b o (by simp only [List.mem_cons, List.mem_singleton, List.not_mem_nil, or_false, not_or]; exact ⟨n1, n2⟩) (Heap.get?_push_of_some _ (Heap.get?_push_of_some _ e))
      · cases r2 with
        | error e => exact hr2
        | ok fl2 =>
          cases fl2 with
          | ret r =>
            obtain ⟨rfl, h', tk, rfl, hS, hk⟩ := hr2
            repeat (any_goals (first | assumption | wp_step))
            exact fin _ _ hS hk
          | _ => exact hr2.elim
    | _ => exact hr.elim
end
section
variable {X : Cx}
def tLenSetT (K : PySem.W.Frag) (ta : TE) : TE := fun σ H Q => ta σ H fun x H1 => ∃ (l : Addr) (ys : List Str), x = V.ref l ∧ SqT K H1 l (ys.map V.str) ∧ ys.length < 64 ∧ Q (.int ((ddS ys).length : Nat)) H1
theorem pe_lenSetT {a : Expr} {ta : TE} {p p2 q pos : Pos} (hc : X.calm = true) (hg : Gl X "len") (hm : X.mg "len" = none) (hg2 : Gl X "set") (hm2 : X.mg "set" = none) (ha : PE X a ta)
    (na : starEach [a] X.env = (false, eval a X.env) :: starEach [] X.env := by rfl) : PE X (.Call (.Name "len" p) [.Call (.Name "set" p2) [a] [] q] [] pos) (tLenSetT X.K ta) := by
  refine ⟨fun pins s σ H Q I h => ?_⟩
  refine Call_ (ld_blt I hg hm boot_len ?_)
  refine callWith_builtin1 (args_cons ?_ rfl) rfl rfl
  refine Call_ (ld_blt I hg2 hm2 boot_set ?_)
  refine callWith_type1 (args_cons (thn (ha.run pins s σ H _ I h) fun v s1 ⟨x, H1, I1, r1, q1⟩ => args_nil ?_) na) na rfl
  obtain ⟨l, ys, rfl, hq, few, q1⟩ := q1
  cases r1
  obtain ⟨its, r, pl, hz⟩ := I1.tuple hq
  have small := ddS_len ys
  refine call_set_texts (I1.ok.hd hc) pl (ys := ys) (by simpa using strsAre_of r) few fun h' tk hS hk => ?_
  refine args_nil ?_
  obtain ⟨o, es, ep, t, ho, hex, hd, _, _, _, hf, hn⟩ := hS
  have I2 : Inv X pins σ H1 { s1 with heap := h', toks := tk } := I1.kept fun b o e => hk b o (Heap.lt_size e) e
  exact call_len_set ho hex hd hf (by rw [hn] <;> omega) ⟨.int ((ddS ys).length : Nat), H1, I2.tok _, ⟨_, by rw [hn]⟩, q1⟩
end
end L2

set_option Elab.async false
set_option linter.all false
set_option maxRecDepth 100000
set_option maxHeartbeats 4000000
namespace T05
open PySem L2
def top (i : Nat) : Stmt := PySem.Challenge.pw_turnindex_k05_what_is_no_row.main.body.getD i (.Pass ⟨0, 0, 0, 0⟩)
abbrev sWell : Stmt := top 35
abbrev sDraw : Stmt := top 36
abbrev sOne : Stmt := top 37
/-- a well of draws: its own digits left, its number, how often it was asked -/
def WellAt (H : Hp) (a : Addr) (n : Int) : Prop := ∃ w0 w1 w2 : Int, H a = some (.lst [.int w0, .int w1, .int w2]) ∧ 0 ≤ w1 ∧ w1 < 2147483647 ∧ 0 ≤ w2 ∧ w2 ≤ n
def KeepB (a : Addr) (H H' : Hp) : Prop := ∀ b o, H b = some o → b ≠ a → H' b = some o
def spWell : Sp := fun vs H Q _ => ∃ c : Int, vs = [.int c] ∧ ∀ p H', H p = none → WellAt H' p 0 → Same H H' → Q (.ref p) H'
def spDraw : Sp := fun vs H Q _ => ∃ (a : Addr) (m n : Int), vs = [.ref a, .int m] ∧ WellAt H a n ∧ n ≤ 1000000 ∧ 0 < m ∧ m < 1073741824 ∧ ∀ (d : Int) H', 0 ≤ d → d < m → WellAt H' a (n + 1) → KeepB a H H' → Q (.int d) H'
structure TxtD (K : PySem.W.Frag) (mg : Str → Option Value) : Prop where
  int : mg "int" = none
  len : mg "len" = none
theorem well_at (n : Int) (h : 0 ≤ n) (w : n < 7) : ∃ p : Int, atI [V.int 2147483647, V.int 2147483629, V.int 2147483587, V.int 2147483579, V.int 2147483563, V.int 2147483549, V.int 2147483543] n = some (V.int p) ∧ 0 < p ∧ p ≤ 2147483647 := by
  obtain e | e | e | e | e | e | e : n = 0 ∨ n = 1 ∨ n = 2 ∨ n = 3 ∨ n = 4 ∨ n = 5 ∨ n = 6 := by omega
  all_goals (subst e; exact ⟨_, rfl, by decide, by decide⟩)
section
variable {P : Program} {w : World} {K : PySem.W.Frag} {mg : Str → Option Value} {base : Heap}
theorem scWell : FnScope ["_law_cell"] ["_law_cell"] (defScope sWell) := ⟨rfl, rfl, rfl, by decide +kernel, rfl, by decide +kernel, by decide +kernel⟩
theorem ok_well {f : Addr} {fd : FuncData} (F : Fun K "_law_well" "_law_well" sWell f fd) (T : TxtD K mg) : FnOk P w K mg base CX0 1 f fd ["_law_cell"] spWell := by
  refine F.ok scWell (fun vs H Q E h => ?_) (fun cdv A outer s H vs Q E hr h => ?_)
  · obtain ⟨c, rfl, _⟩ := h
    rfl
  · obtain ⟨c, rfl, k⟩ := h
    refine ⟨_, pss_one (ps_ret (pe_lst (pa_cons (pe_op op_mul (pv 0) (pe_callTy call_int1 (by rfl) T.int (by decide +kernel) (pa_cons (pe_cmpR op_ge (pv 0) (pe_op op_pow pe_int pe_int) (nomark _)) pa_nil)))
      (pa_cons (pe_op op_mod (pe_callTy call_int1 (by rfl) T.int (by decide +kernel) (pa_cons (pv 0) pa_nil)) pe_int) (pa_cons pe_int pa_nil))))), ?_⟩
    refine ⟨_, rfl, _, rfl, _, _, rfl, rfl, ⟨by decide, by decide, by decide⟩, _, _, rfl, rfl, .inr ⟨_, rfl, _, _, rfl, rfl, .inr ?_, ?_⟩⟩
    · by_cases h : (10 : Int) ^ (18 : Int).toNat ≤ c
      · rw [decide_eq_true h]; decide
      · rw [decide_eq_false h]; decide
    refine ⟨_, rfl, .inl ⟨_, rfl, _, _, rfl, rfl, (by show (0 : Int) < 2147483647; decide), (by show 3 ≤ sizeLine; decide), fun p hp => ?_⟩⟩
    refine k p _ hp ⟨_, _, _, upd_same, Int.emod_nonneg _ (by decide), Int.emod_lt_of_pos _ (by decide), by decide, by decide⟩ fun b o e => ?_
    rw [upd_ne (ne_of_none e hp)]
    exact e
theorem scDraw : FnScope ["_law_well_here", "_law_many", "_law_digit", "_law_prime", "_law_number"] ["_law_well_here", "_law_many"] (defScope sDraw) := ⟨rfl, rfl, rfl, by decide +kernel, rfl, by decide +kernel, by decide +kernel⟩
theorem ok_draw {f : Addr} {fd : FuncData} (F : Fun K "_law_draw" "_law_draw" sDraw f fd) (T : TxtD K mg) : FnOk P w K mg base CX0 1 f fd ["_law_well_here", "_law_many"] spDraw := by
  refine F.ok scDraw (fun vs H Q E h => ?_) (fun cdv A outer s H vs Q E hr h => ?_)
  · obtain ⟨a, m, n, rfl, _⟩ := h
    rfl
  · obtain ⟨a, m, n, rfl, ⟨w0, w1, w2, ha, h1, h2, h3, h4⟩, hn, hm, hm2, k⟩ := h
    have nd := scDraw.nd
    refine ⟨_, pss_cons (ps_if (pt_cmpR op_gt (pe_ix ix_list (pv 0) pe_int (fun _ _ => rfl)) pe_int (nomark _))
        (pss_cons (ps_set (i := 2) nd rfl (Or.inl rfl) (pe_op op_mod (pe_callTy call_int1 (by rfl) T.int (by decide +kernel) (pa_cons (pe_ix ix_list (pv 0) pe_int (fun _ _ => rfl)) pa_nil)) (pv 1)))
        (pss_cons (ps_asg (pe_op op_fdiv (pe_ix ix_list (pv 0) pe_int (fun _ _ => rfl)) (pv 1)) (pg_sub (pv 0) pe_int set_list))
        (pss_one (ps_ret (pv 2))))) pss_nil)
      (pss_cons (ps_asg (pe_op op_add (pe_ix ix_list (pv 0) pe_int (fun _ _ => rfl)) pe_int) (pg_sub (pv 0) pe_int set_list))
      (pss_cons (ps_set (i := 3) nd rfl (Or.inl rfl) (pe_ix ix_list (pe_lst (pa_cons pe_int (pa_cons pe_int (pa_cons pe_int (pa_cons pe_int (pa_cons pe_int (pa_cons pe_int (pa_cons pe_int pa_nil))))))))
          (pe_op op_mod (pe_callTy call_int1 (by rfl) T.int (by decide +kernel) (pa_cons (pe_ix ix_list (pv 0) pe_int (fun _ _ => rfl)) pa_nil)) pe_int) (fun _ _ => rfl)))
      (pss_cons (ps_set (i := 4) nd rfl (Or.inl rfl) (pe_op op_mod (pe_callTy call_int1 (by rfl) T.int (by decide +kernel) (pa_cons (pe_op op_pow (pe_op op_add (pe_op op_add (pe_ix ix_list (pv 0) pe_int (fun _ _ => rfl)) (pe_op op_mul pe_int (pe_ix ix_list (pv 0) pe_int (fun _ _ => rfl)))) pe_int) pe_int) pa_nil)) (pv 3)))
      (pss_cons (ps_set (i := 4) nd rfl (Or.inl rfl) (pe_op op_mod (pe_callTy call_int1 (by rfl) T.int (by decide +kernel) (pa_cons (pe_op op_mul (pe_op op_add (pv 4) (pe_ix ix_list (pv 0) pe_int (fun _ _ => rfl))) (pe_op op_add (pe_op op_fdiv (pv 4) pe_int) pe_int)) pa_nil)) (pv 3)))
      (pss_one (ps_ret (pe_op op_mod (pe_callTy call_int1 (by rfl) T.int (by decide +kernel) (pa_cons (pe_op op_fdiv (pv 4) pe_int) pa_nil)) (pv 1)))))))), ?_⟩
    refine ⟨_, rfl, a, _, 0, _, rfl, rfl, .of ha, rfl, _, _, rfl, rfl, _, rfl, ?_⟩
    refine ite2 (fun h0 => ?_) (fun h0 => ?_)
    · refine ⟨_, rfl, a, _, 0, _, rfl, rfl, .of ha, rfl, .inl ⟨_, rfl, _, rfl, _, _, rfl, rfl, hm, ?_⟩⟩
      refine ⟨_, rfl, a, _, 0, _, rfl, rfl, .of ha, rfl, _, rfl, _, _, rfl, rfl, ⟨hm, hm2⟩, _, rfl, a, _, 0, 0, rfl, rfl, ha, rfl, _, rfl, ?_⟩
      refine k _ _ (Int.emod_nonneg _ (by omega)) (Int.emod_lt_of_pos _ hm) ⟨_, _, _, upd_same, h1, h2, h3, by omega⟩ fun b o e n => ?_
      rw [upd_ne n]
      exact e
    · refine ⟨_, rfl, a, _, 2, _, rfl, rfl, .of ha, rfl, _, _, rfl, rfl, _, rfl, a, _, 2, 2, rfl, rfl, ha, rfl, ?_⟩
      have ha2 : ∀ {p : Addr} {H' : Hp}, H' = upd H a (.lst ([V.int w0, V.int w1, V.int w2].set 2 (V.int (w2 + 1)))) → H' a = some (.lst [.int w0, .int w1, .int (w2 + 1)]) := fun e => by rw [e]; exact upd_same
      refine ⟨by show 7 ≤ sizeLine; decide, fun p hp => ?_⟩
      have hpa : a ≠ p := ne_of_none (ha2 (p := p) rfl) hp
      have ha3 : (upd (upd H a (.lst ([V.int w0, V.int w1, V.int w2].set 2 (V.int (w2 + 1))))) p (.lst [V.int 2147483647, V.int 2147483629, V.int 2147483587, V.int 2147483579, V.int 2147483563, V.int 2147483549, V.int 2147483543])) a = some (.lst [.int w0, .int w1, .int (w2 + 1)]) := by
        rw [upd_ne hpa]
        exact ha2 (p := p) rfl
      obtain ⟨q, hq, q0, q1⟩ := well_at ((w2 + 1) % 7) (Int.emod_nonneg _ (by decide)) (Int.emod_lt_of_pos _ (by decide))
      refine ⟨_, rfl, a, _, 2, _, rfl, rfl, .of ha3, rfl, .inl ⟨_, rfl, _, _, rfl, rfl, (by show (0 : Int) < 7; decide), p, _, _, _, rfl, rfl, .of upd_same, hq, ?_⟩⟩
      refine ⟨_, rfl, a, _, 1, _, rfl, rfl, .of ha3, rfl, _, rfl, a, _, 2, _, rfl, rfl, .of ha3, rfl, _, _, rfl, rfl, .inl ⟨by decide, by decide⟩, _, _, rfl, rfl, _, _, rfl, rfl, _, _, rfl, rfl, ⟨by decide, by decide, by omega⟩, .inl ⟨_, rfl, _, rfl, _, _, rfl, rfl, q0, ?_⟩⟩
      have g0 := Int.emod_nonneg ((w1 + 7919 * (w2 + 1) + 1) ^ (5 : Int).toNat) (show q ≠ 0 by omega)
      have g1 := Int.emod_lt_of_pos ((w1 + 7919 * (w2 + 1) + 1) ^ (5 : Int).toNat) q0
      refine ⟨_, rfl, _, rfl, a, _, 2, _, rfl, rfl, .of ha3, rfl, _, _, rfl, rfl, _, rfl, _, _, rfl, rfl, ⟨by decide, by decide⟩, _, _, rfl, rfl, _, _, rfl, rfl, .inl ⟨by omega, by omega⟩, .inl ⟨_, rfl, _, rfl, _, _, rfl, rfl, q0, ?_⟩⟩
      refine ⟨_, rfl, _, _, rfl, rfl, ⟨by decide, by decide⟩, .inl ⟨_, rfl, _, rfl, _, _, rfl, rfl, hm, ?_⟩⟩
      refine k _ _ (Int.emod_nonneg _ (by omega)) (Int.emod_lt_of_pos _ hm) ⟨_, _, _, ha3, h1, h2, by omega, by omega⟩ fun b o e n => ?_
      rw [upd_ne (fun z => ?_), upd_ne n]
      · exact e
      · rw [← z, upd_ne n, e] at hp
        cases hp
/-- one of a list of things -/
def spOne : Sp := fun vs H Q _ => ∃ (a l : Addr) (n : Int) (xs : List V), vs = [.ref a, .ref l] ∧ WellAt H a n ∧ n ≤ 1000000 ∧ H l = some (.lst xs) ∧ l ≠ a ∧ 0 < xs.length ∧ xs.length ≤ 1000 ∧ ∀ (x : V) H', x ∈ xs → WellAt H' a (n + 1) → KeepB a H H' → Q x H'
theorem scOne : FnScope ["_law_well_here", "_law_some"] ["_law_well_here", "_law_some"] (defScope sOne) := ⟨rfl, rfl, rfl, by decide +kernel, rfl, by decide +kernel, by decide +kernel⟩
theorem ok_one {f fD : Addr} {fd fdD : FuncData} (F : Fun K "_law_one" "_law_one" sOne f fd) (T : TxtD K mg) (FD : Fun K "_law_draw" "_law_draw" sDraw fD fdD) (gD : mg "_law_draw" = some (.ref fD)) (bD : Binds K fdD ["_law_well_here", "_law_many"] []) :
    FnOk P w K mg base CX0 2 f fd ["_law_well_here", "_law_some"] spOne := by
  have GD : FnOk P w K mg base CX0 1 fD fdD ["_law_well_here", "_law_many"] spDraw := ok_draw FD T
  refine F.ok scOne (fun vs H Q E h => ?_) (fun cdv A outer s H vs Q E hr h => ?_)
  · obtain ⟨a, l, n, xs, rfl, _⟩ := h
    rfl
  · obtain ⟨a, l, n, xs, rfl, hw, hn, hl, hla, h1, h2, k⟩ := h
    refine ⟨_, pss_one (ps_ret (pe_ix ix_list (pv 1) (pe_call GD hr rfl gD FD.kp bD .nil pass0 (pa_cons (pv 0) (pa_cons (pe_callB call_len_seq (by rfl) T.len PySem.boot_len (pa_cons (pv 1) pa_nil)) pa_nil))) (fun _ _ => rfl))), ?_⟩
    refine ⟨_, rfl, _, rfl, _, rfl, l, xs, rfl, .inl (.of hl), a, _, n, rfl, hw, hn, by omega, by omega, fun d H' hd hd2 hw' hk => ?_⟩
    obtain ⟨j, rfl⟩ : ∃ j : Nat, d = (j : Int) := ⟨d.toNat, by omega⟩
    have hj : j < xs.length := by omega
    refine ⟨l, xs, _, xs[j], rfl, rfl, .of (hk l _ hl hla), atI_nat (List.getElem?_eq_getElem hj), ?_⟩
    exact k _ _ (List.getElem_mem hj) hw' hk
end
end T05

set_option Elab.async false
set_option linter.all false
set_option maxRecDepth 100000
set_option maxHeartbeats 4000000
namespace T05
open PySem L2 EK
abbrev sIsText : Stmt := top 7
abbrev sIsWord : Stmt := top 8
abbrev sIsRow : Stmt := top 9
abbrev sCkText : Stmt := top 10
abbrev sCkWord : Stmt := top 11
abbrev sCkTexts : Stmt := top 12
abbrev sCkWords : Stmt := top 13
abbrev sCkRow : Stmt := top 14
abbrev sStep : Stmt := top 20
abbrev sRead : Stmt := top 21
abbrev sWay : Stmt := top 29
abbrev sCross : Stmt := top 30
abbrev sRd : Stmt := top 31
abbrev sLeast : Stmt := top 32
/-- a thing whose kind is known -/
inductive Pl (H : Hp) : V → Prop
  | non : Pl H .non
  | int (i : Int) : Pl H (.int i)
  | str (z : Str) : Pl H (.str z)
  | bl (b : Bool) : Pl H (.bl b)
  | tup {a : Addr} {xs : List V} (e : H a = some (.tup xs)) : Pl H (.ref a)
  | lst {a : Addr} {xs : List V} (e : H a = some (.lst xs)) : Pl H (.ref a)
  | dct {a : Addr} {kvs : List (Key × V)} (e : H a = some (.dK kvs)) : Pl H (.ref a)
theorem Pl.keep {H H' : Hp} {x : V} (h : Pl H x) (s : Same H H') : Pl H' x := by
  cases h with
  | non => exact .non
  | int i => exact .int i
  | str z => exact .str z
  | bl b => exact .bl b
  | tup e => exact .tup (s _ _ e)
  | lst e => exact .lst (s _ _ e)
  | dct e => exact .dct (s _ _ e)
theorem Pl.keepB {wl : Addr} {H H' : Hp} {x : V} (h : Pl H x) (s : KeepB wl H H') (n : x ≠ .ref wl) : Pl H' x := by
  cases h with
  | non => exact .non
  | int i => exact .int i
  | str z => exact .str z
  | bl b => exact .bl b
  | @tup a xs e => exact .tup (s _ _ e fun z => n (by rw [z]))
  | @lst a xs e => exact .lst (s _ _ e fun z => n (by rw [z]))
  | @dct a xs e => exact .dct (s _ _ e fun z => n (by rw [z]))
def isStrV : V → Bool
  | .str _ => true
  | _ => false
def isIntV : V → Bool
  | .int _ => true
  | .bl _ => true
  | _ => false
def isBlV : V → Bool
  | .bl _ => true
  | _ => false
/-- isinstance(x, str | int | bool) -/
theorem Pl.isStr {K : PySem.W.Frag} {H : Hp} {x : V} (h : Pl H x) : ∃ t, TyX K H x t ∧ PySem.W.kitOne K t (.type "str") = some (isStrV x) := by
  cases h with
  | non => exact ⟨_, .base .non, kit_ty (r := false) (by decide +kernel)⟩
  | int i => exact ⟨_, .base (.int i), kit_ty (r := false) (by decide +kernel)⟩
  | str z => exact ⟨_, .base (.str z), kit_ty (r := true) (by decide +kernel)⟩
  | bl b => exact ⟨_, .base (.bl b), kit_ty (r := false) (by decide +kernel)⟩
  | tup e => exact ⟨_, .base (.tup e), kit_ty (r := false) (by decide +kernel)⟩
  | lst e => exact ⟨_, .base (.lst e), kit_ty (r := false) (by decide +kernel)⟩
  | dct e => exact ⟨_, .base (.dK e), kit_ty (r := false) (by decide +kernel)⟩
theorem Pl.isInt {K : PySem.W.Frag} {H : Hp} {x : V} (h : Pl H x) : ∃ t, TyX K H x t ∧ PySem.W.kitOne K t (.type "int") = some (isIntV x) := by
  cases h with
  | non => exact ⟨_, .base .non, kit_ty (r := false) (by decide +kernel)⟩
  | int i => exact ⟨_, .base (.int i), kit_ty (r := true) (by decide +kernel)⟩
  | str z => exact ⟨_, .base (.str z), kit_ty (r := false) (by decide +kernel)⟩
  | bl b => exact ⟨_, .base (.bl b), kit_ty (r := true) (by decide +kernel)⟩
  | tup e => exact ⟨_, .base (.tup e), kit_ty (r := false) (by decide +kernel)⟩
  | lst e => exact ⟨_, .base (.lst e), kit_ty (r := false) (by decide +kernel)⟩
  | dct e => exact ⟨_, .base (.dK e), kit_ty (r := false) (by decide +kernel)⟩
theorem Pl.isBl {K : PySem.W.Frag} {H : Hp} {x : V} (h : Pl H x) : ∃ t, TyX K H x t ∧ PySem.W.kitOne K t (.type "bool") = some (isBlV x) := by
  cases h with
  | non => exact ⟨_, .base .non, kit_ty (r := false) (by decide +kernel)⟩
  | int i => exact ⟨_, .base (.int i), kit_ty (r := false) (by decide +kernel)⟩
  | str z => exact ⟨_, .base (.str z), kit_ty (r := false) (by decide +kernel)⟩
  | bl b => exact ⟨_, .base (.bl b), kit_ty (r := true) (by decide +kernel)⟩
  | tup e => exact ⟨_, .base (.tup e), kit_ty (r := false) (by decide +kernel)⟩
  | lst e => exact ⟨_, .base (.lst e), kit_ty (r := false) (by decide +kernel)⟩
  | dct e => exact ⟨_, .base (.dK e), kit_ty (r := false) (by decide +kernel)⟩
def letS : Str := "abcdefghijklmnopqrstuvwxyz"
def isT (z : Str) : Bool := z.cps.toList.all fun c => decide (c ∈ letS.cps.toList)
def isR (z : Str) : Bool := z.cps.toList.all fun c => decide (c = 36) || decide (c ∈ letS.cps.toList)
structure TxtC (K : PySem.W.Frag) (mg : Str → Option Value) : Prop where
  isinstance : mg "isinstance" = none
  str : mg "str" = none
  tuple : mg "tuple" = none
  all : mg "all" = none
  len : mg "len" = none
  min : mg "min" = none
  range : mg "range" = none
  sorted : mg "sorted" = none
  reversed : mg "reversed" = none
  enumerate : mg "enumerate" = none
  letters : ∃ u, mg "LETTERS" = some u ∧ RelV (.str letS) u
  endS : ∃ u, mg "END" = some u ∧ RelV (.str "$") u
def spIsRow : Sp := fun vs H Q _ => ∃ x, vs = [x] ∧ Pl H x ∧ ((∃ z, x = .str z ∧ z.cps.size ≤ 100000 ∧ ∀ H', Same H H' → Q (.bl (isR z)) H') ∨ (isStrV x = false ∧ Q (.bl false) H))
def spCkRow (C : Addr) : Sp := fun vs H Q E => ∃ x, vs = [x] ∧ Pl H x ∧ ((∃ z, x = .str z ∧ isR z = true ∧ z.cps.size ≤ 100000 ∧ ∀ H', Same H H' → Q .non H') ∨ ((isStrV x = false ∨ ∃ z, x = .str z ∧ z.cps.size ≤ 100000 ∧ isR z = false) ∧ ∀ H' d, Same H H' → H' d = none → E (.ref C) (some d) (upd H' d (.xd [("row", x)]))))
section
variable {P : Program} {w : World} {K : PySem.W.Frag} {mg : Str → Option Value} {base : Heap}
theorem scIsRow : FnScope ["value", "sign"] ["value"] (defScope sIsRow) := ⟨rfl, rfl, rfl, by decide +kernel, rfl, by decide +kernel, by decide +kernel⟩
theorem scCkRow : FnScope ["row"] ["row"] (defScope sCkRow) := ⟨rfl, rfl, rfl, by decide +kernel, rfl, by decide +kernel, by decide +kernel⟩
theorem one_sign (c : Nat) : decide (V.str ⟨#[c]⟩ = V.str "$") = decide (c = 36) := by
  by_cases h : c = 36
  · subst h
    rfl
  · rw [decide_eq_false h, decide_eq_false]
    intro z
    injection z with z
    injection z with z
    injection z with z
    injection z with z
    exact h z
theorem ok_isRow {f : Addr} {fd : FuncData} (F : Fun K "is_row" "is_row" sIsRow f fd) (T : TxtC K mg) : FnOk P w K mg base CX0 1 f fd ["value"] spIsRow := by
  refine F.ok scIsRow (fun vs H Q E h => ?_) (fun cdv A outer s H vs Q E hr h => ?_)
  · obtain ⟨x, rfl, _⟩ := h
    rfl
  · obtain ⟨x, rfl, hp, k⟩ := h
    have nd := scIsRow.nd
    refine ⟨_, (pss_one (ps_ret (pe_and (pe_callB call_isi (by rfl) T.isinstance (by decide +kernel) (pa_cons (pv 0) (pa_cons (pe_bltn (v := .ty "str") rfl T.str (by decide +kernel) rfl) pa_nil))) (pe_one (pe_callB (cr_all rfl) (by rfl) T.all (by decide +kernel) (pa_cons (pe_lc (own := [("sign", 1)]) (g := gName 1) (tt := tYes) rfl nd (pi_str (pv 0)) (blkOk_by (N := ["value", "sign"]) (sc := defScope sIsRow) (by decide +kernel)) (fun _ _ _ _ _ => (pg_name (i := 1) nd rfl (Or.inl rfl))) (fun _ _ _ _ _ => pts_nil) (fun _ _ _ _ _ => (pe_or (pe_cmpR op_eq (pv 1) (C8.pe_gc (by rfl) T.endS) (nomark _)) (pe_one (pe_cmpR op_in_sign (pv 1) (C8.pe_gc (by rfl) T.letters) (by rfl)))))) pa_nil)))))), ?_⟩
    obtain ⟨t, ht, hk⟩ := hp.isStr (K := K)
    rcases k with ⟨z, rfl, hz, k⟩ | ⟨hs, k⟩
    · refine ⟨_, rfl, _, _, _, _, _, rfl, .ty _, ht, hk, _, rfl, _, rfl, z, rfl, fun D hD => lc_it (walk_str (z := z)) (fun i H' => Same H H' ∧ H' D = some (.lst (((z.cps.toList.take i).map fun c => decide (c = 36) || decide (c ∈ letS.cps.toList)).map V.bl))) ⟨fun b o e => by rw [upd_ne (ne_of_none e hD)]; exact e, upd_same⟩ (fun _ _ _ _ => trivial) ?_ ?_⟩
      · rintro i y H1 H2 hi ⟨s1, d1⟩ ⟨rfl, c, hc, rfl⟩
        have hc' : z.cps.toList[i]? = some c := by rw [Array.getElem?_toList]; exact hc
        have hl : z.cps.toList.length = z.cps.size := Array.length_toList
        have put : ∀ b, b = (decide (c = 36) || decide (c ∈ letS.cps.toList)) → ∃ acc, H2 D = some (.lst acc) ∧ acc.length < sizeLine ∧ Same H (upd H2 D (.lst (acc ++ [.bl b]))) ∧ (upd H2 D (.lst (acc ++ [.bl b]))) D = some (.lst (((z.cps.toList.take (i + 1)).map fun c => decide (c = 36) || decide (c ∈ letS.cps.toList)).map V.bl)) := fun b hb => by
          subst hb
          refine ⟨_, d1, ?_, fun b o e => ?_, ?_⟩
          · rw [List.length_map, List.length_map, List.length_take]
            exact Nat.lt_of_le_of_lt (Nat.min_le_left _ _) (Nat.lt_trans (show i < 100000 by omega) (by decide))
          · rw [upd_ne (ne_of_none e hD)]
            exact s1 _ _ e
          · rw [upd_same, List.take_succ, hc', List.map_append, List.map_append]
            rfl
        refine ⟨rfl, ?_⟩
        refine ⟨_, rfl, rfl, _, rfl, ?_⟩
        rw [one_sign]
        by_cases h36 : c = 36
        · rw [decide_eq_true h36]
          exact put _ (by rw [decide_eq_true h36]; rfl)
        · rw [decide_eq_false h36]
          exact ⟨_, rfl, c, _, rfl, rfl, put _ (by rw [decide_eq_false h36]; rfl)⟩
      · rintro H1 ⟨s1, d1⟩
        rw [← Array.length_toList, List.take_length] at d1
        refine ⟨D, _, rfl, .of d1, ?_⟩
        have e : ((z.cps.toList.map fun c => decide (c = 36) || decide (c ∈ letS.cps.toList)).all id) = isR z := by
          unfold isR
          rw [List.all_map]
          rfl
        rw [e]
        exact k H1 s1
    · rw [hs] at hk
      exact ⟨_, rfl, _, _, _, _, _, rfl, .ty _, ht, hk, _, rfl, k⟩
theorem ok_ckRow {f fU C iC : Addr} {fd fdU : FuncData} (F : Fun K "check_row" "check_row" sCkRow f fd) (TR : ErrTxt P K mg "NoRow" "row" C iC)
    (GU : FnOk P w K mg base CX0 1 fU fdU ["value"] spIsRow) (gU : mg "is_row" = some (.ref fU)) (kU : PySem.W.keepIn K (.ref fU) = true) (bU : Binds K fdU ["value"] []) :
    FnOk P w K mg base (L2.CX P w) 3 f fd ["row"] (spCkRow C) := by
  refine F.okX scCkRow (fun vs H Q E h => ?_) (fun cdv A outer s H vs Q E hr h => ?_)
  · obtain ⟨x, rfl, _⟩ := h
    rfl
  · obtain ⟨x, rfl, hp, k⟩ := h
    have nd := scCkRow.nd
    have hr1 : Room 1 _ := hr.mono (by decide)
    refine ⟨_, pss_one (ps_if (pt_not (pt_val (pe_call GU hr1 rfl gU kU bU .nil pass0 (pa_cons (pv 0) pa_nil)))) (pss_one (ps_raiseErr rfl TR hr (takes_of rfl rfl rfl rfl) (pa_cons (pv 0) pa_nil) rfl)) pss_nil), ?_⟩
    rcases k with ⟨z, rfl, hb, hz, k⟩ | ⟨hs | ⟨z, rfl, hz, hb⟩, k⟩
    · exact ⟨_, rfl, _, rfl, hp, .inl ⟨z, rfl, hz, fun H1 s1 => ⟨_, rfl, by rw [hb]; exact k H1 s1⟩⟩⟩
    · exact ⟨_, rfl, _, rfl, hp, .inr ⟨hs, _, rfl, _, rfl, x, rfl, fun d hd => k _ d (.refl _) hd⟩⟩
    · exact ⟨_, rfl, _, rfl, hp, .inl ⟨z, rfl, hz, fun H1 s1 => ⟨_, rfl, by rw [hb]; exact ⟨_, rfl, _, rfl, fun d hd => k _ d s1 hd⟩⟩⟩⟩
end
end T05

set_option Elab.async false
set_option linter.all false
set_option maxRecDepth 100000
set_option maxHeartbeats 4000000
namespace T05
open PySem L2 EK
def stepF (cs : List Nat) (b : List V) (p k : Nat) : List V := if cs.getD p 0 = 36 then b else b.set p (.int k)
def stepG (cs : List Nat) : Nat → List Nat → List V → List V
  | _, [], b => b
  | k, p :: r, b => stepG cs (k + 1) r (stepF cs b p k)
/-- back, as step_back makes it -/
def stepL (cs : List Nat) : List V := stepG cs 0 (ordI cs) (List.replicate cs.length .non)
example : (stepL [98, 97, 36, 97]).length = 4 := by decide +kernel
theorem stepF_len (cs : List Nat) (b : List V) (p k : Nat) : (stepF cs b p k).length = b.length := by
  unfold stepF
  split
  · rfl
  · rw [List.length_set]
theorem stepG_take (cs : List Nat) : ∀ (l : List Nat) (k : Nat) (b : List V) (p : Nat), stepG cs k (l ++ [p]) b = stepF cs (stepG cs k l b) p (k + l.length)
  | [], k, b, p => rfl
  | q :: l, k, b, p => by
    show stepG cs (k + 1) (l ++ [p]) (stepF cs b q k) = _
    rw [stepG_take cs l]
    show _ = stepF cs (stepG cs (k + 1) l (stepF cs b q k)) p (k + (l.length + 1))
    rw [show k + 1 + l.length = k + (l.length + 1) from by omega]
theorem stepG_len (cs : List Nat) : ∀ (l : List Nat) (k : Nat) (b : List V), (stepG cs k l b).length = b.length
  | [], _, _ => rfl
  | q :: l, k, b => (stepG_len cs l (k + 1) _).trans (stepF_len cs b q k)
def spStep (C : Addr) : Sp := fun vs H Q E => ∃ x, vs = [x] ∧ Pl H x ∧ ((∃ z, x = .str z ∧ isR z = true ∧ z.cps.size ≤ 1000 ∧ ∀ p H', Same H H' → H' p = some (.tup (stepL z.cps.toList)) → Q (.ref p) H') ∨ ((isStrV x = false ∨ ∃ z, x = .str z ∧ z.cps.size ≤ 100000 ∧ isR z = false) ∧ ∀ H' d, Same H H' → H' d = none → E (.ref C) (some d) (upd H' d (.xd [("row", x)]))))
section
variable {P : Program} {w : World} {K : PySem.W.Frag} {mg : Str → Option Value} {base : Heap} {C : Addr}
theorem scStep : FnScope ["row", "back", "place", "sign", "ordered", "target"] ["row"] (defScope sStep) := ⟨rfl, rfl, rfl, by decide +kernel, rfl, by decide +kernel, by decide +kernel⟩
theorem ok_step {f fR : Addr} {fd fdR : FuncData} (F : Fun K "step_back" "step_back" sStep f fd) (T : TxtC K mg)
    (GR : FnOk P w K mg base (L2.CX P w) 3 fR fdR ["row"] (spCkRow C)) (gR : mg "check_row" = some (.ref fR)) (kR : PySem.W.keepIn K (.ref fR) = true) (bR : Binds K fdR ["row"] []) :
    FnOk P w K mg base (L2.CX P w) 4 f fd ["row"] (spStep C) := by
  refine F.okX scStep (fun vs H Q E h => ?_) (fun cdv A outer s H vs Q E hr h => ?_)
  · obtain ⟨x, rfl, _⟩ := h
    rfl
  · obtain ⟨x, rfl, hp, k⟩ := h
    have nd := scStep.nd
    have hr3 : Room 3 _ := hr
    have hu : (A.deeper (PyProof.Rows.envOfC "step_back" (defScope sStep) s.heap.objs.size f cdv)).units + 64 < cLine := hr.units
    refine ⟨_, (pss_cons (ps_expr (pe_call GR hr3 rfl gR kR bR .nil (passes_call (takes_of rfl rfl rfl rfl) fun _ _ _ _ h => h) (pa_cons (pv 0) pa_nil)))
      (pss_cons (ps_set (i := 1) nd rfl (Or.inl rfl) (pe_op op_rep (pe_lst (pa_cons pe_non pa_nil)) (pe_callB call_len_str (by rfl) T.len (by decide +kernel) (pa_cons (pv 0) pa_nil))))
      (pss_cons (ps_set (i := 4) nd rfl (Or.inl rfl) (pe_callB (cr_sortedD hu) (by rfl) T.sorted (by decide +kernel) (pa_cons (pe_lc (own := [("place", 2), ("sign", 3)]) (g := gTup K 2 (gCons (gName 2) (gCons (gName 3) gNil))) (tt := tYes) rfl nd (pi_enumS (by rfl) T.enumerate (pa_cons (pv 0) pa_nil)) (blkOk_by (N := ["row", "back", "place", "sign", "ordered", "target"]) (sc := defScope sStep) (by decide +kernel)) (fun _ _ _ _ _ => (pg_tup rfl (pgs_cons (pg_name (i := 2) nd rfl (Or.inl rfl)) (pgs_cons (pg_name (i := 3) nd rfl (Or.inl rfl)) pgs_nil)))) (fun _ _ _ _ _ => pts_nil) (fun _ _ _ _ _ => (pe_tup (pa_cons (pv 3) (pa_cons (pv 2) pa_nil))))) pa_nil)))
      (pss_cons (ps_for (passes_of rfl) rfl (pi_enum (by rfl) T.enumerate (pa_cons (pv 4) pa_nil)) (pg_tup rfl (pgs_cons (pg_name (i := 5) nd rfl (Or.inl rfl)) (pgs_cons (pg_tup rfl (pgs_cons (pg_name (i := 3) nd rfl (Or.inl rfl)) (pgs_cons (pg_name (i := 2) nd rfl (Or.inl rfl)) pgs_nil))) pgs_nil))) (pss_one (ps_if (pt_cmpR op_ne (pv 3) (C8.pe_gc (by rfl) T.endS) (nomark _)) (pss_one (ps_asg (pv 5) (pg_sub (pv 1) (pv 2) set_list))) pss_nil)))
      (pss_one (ps_ret (pe_callTy call_tuple_of (by rfl) T.tuple (by decide +kernel) (pa_cons (pv 1) pa_nil)))))))), ?_⟩
    rcases k with ⟨z, rfl, hb, hz, k⟩ | ⟨hbad, k⟩
    rotate_left
    · exact ⟨_, rfl, x, rfl, hp, .inr ⟨hbad, k⟩⟩
    refine ⟨_, rfl, _, rfl, hp, .inl ⟨z, rfl, hb, Nat.le_trans hz (by decide), fun H1 s1 => ?_⟩⟩
    have hlen : z.cps.toList.length = z.cps.size := Array.length_toList
    refine ⟨(by show 1 ≤ sizeLine; decide), fun p0 z0 => ?_⟩
    obtain ⟨H2, e2, S2, A2⟩ := alloc (o := .lst [.non]) z0
    rw [e2]
    have zl : (z.length : Nat) = z.cps.size := rfl
    refine ⟨_, rfl, z, rfl, Nat.le_trans (show z.cps.size ≤ 1000 from hz) (by decide), p0, _, _, rfl, rfl, A2, by omega, by omega, ?_, fun p1 z1 => ?_⟩
    · show 1 * ((z.length : Nat) : Int).toNat ≤ sizeLine
      rw [Int.toNat_natCast, Nat.one_mul]
      exact Nat.le_trans (show z.cps.size ≤ 1000 from hz) (by decide)
    have erep : (List.replicate ((z.length : Nat) : Int).toNat [V.non]).flatten = List.replicate z.cps.toList.length V.non := by
      rw [Int.toNat_natCast, zl, hlen]
      generalize z.cps.size = n
      induction n with
      | zero => rfl
      | succ n ih => rw [List.replicate_succ, List.flatten_cons, ih]; rfl
    rw [erep]
    obtain ⟨H3, e3, S3, A3⟩ := alloc (o := .lst (List.replicate z.cps.toList.length V.non)) z1
    rw [e3]
    have n13 : ∀ b, H3 b = none → b ≠ p1 := fun b h e => by rw [e, A3] at h; cases h
    -- the pairs
    refine ⟨_, rfl, z, rfl, fun D hD => lc_it (walk_enumS (z := z)) (fun i H' => Same H3 H' ∧ ∃ g : Nat → Addr, H' D = some (.lst ((List.range i).map fun j => V.ref (g j))) ∧ ∀ j, j < i → H' (g j) = some (.tup [.str ⟨#[z.cps.toList.getD j 0]⟩, .int (j : Nat)]) ∧ g j ≠ D) ⟨fun b o e => by rw [upd_ne (ne_of_none e hD)]; exact e, fun _ => 0, upd_same, fun j hj => absurd hj (Nat.not_lt_zero j)⟩ (fun _ _ _ _ => trivial) ?_ ?_⟩
    · rintro i y G G' hi ⟨sG, g, d1, d2⟩ ⟨t0, c, rfl, ht, rfl, hc⟩
      obtain ⟨G1, e4, S4, A4⟩ := alloc (o := .tup [.int (i : Nat), .str ⟨#[c]⟩]) ht
      rw [e4]
      have hc' : z.cps.toList.getD i 0 = c := by rw [List.getD_eq_getElem?_getD, Array.getElem?_toList, hc]; rfl
      refine ⟨t0, _, rfl, .of A4, rfl, _, _, rfl, _, _, rfl, rfl, ?_⟩
      refine ⟨rfl, ?_⟩
      refine ⟨_, rfl, _, rfl, (by show 2 ≤ sizeLine; decide), fun q zq => ?_⟩
      obtain ⟨G2, e5, S5, A5⟩ := alloc (o := .tup [.str ⟨#[c]⟩, .int (i : Nat)]) zq
      rw [e5]
      have qD : q ≠ D := fun e => by rw [e, S4 _ _ d1] at zq; cases zq
      refine ⟨_, S5 _ _ (S4 _ _ d1), ?_, fun b o e => ?_, fun j => if j = i then q else g j, ?_, fun j hj => ?_⟩
      · rw [List.length_map, List.length_range]
        exact Nat.lt_trans (show i < 1001 by omega) (by decide)
      · rw [upd_ne (ne_of_none e hD)]
        exact S5 _ _ (S4 _ _ (sG _ _ e))
      · rw [upd_same, List.range_succ, List.map_append]
        have e6 : (List.range i).map (fun j => V.ref (g j)) = (List.range i).map fun j => V.ref (if j = i then q else g j) := List.map_congr_left fun j hj => by
          rw [if_neg (Nat.ne_of_lt (List.mem_range.mp hj))]
        rw [← e6]
        show some (HO.lst (_ ++ [V.ref q])) = some (HO.lst (_ ++ [V.ref (if i = i then q else g i)]))
        rw [if_pos rfl]
      · by_cases e : j = i
        · subst e
          dsimp only
          rw [if_pos rfl, upd_ne qD, A5, hc']
          exact ⟨rfl, qD⟩
        · dsimp only
          rw [if_neg e]
          obtain ⟨y1, y2⟩ := d2 j (by omega)
          exact ⟨by rw [upd_ne y2]; exact S5 _ _ (S4 _ _ y1), y2⟩
    · rintro G ⟨sG, g, d1, d2⟩
      have kb : ((List.range z.cps.size).map fun i => (V.ref (g i), skey z.cps.toList i)).map (·.1) = (List.range z.cps.size).map fun j => V.ref (g j) := by rw [List.map_map]; rfl
      refine ⟨D, (List.range z.cps.size).map fun i => (V.ref (g i), skey z.cps.toList i), rfl, by rw [kb]; exact .of d1, fun b hb => ?_, ?_, .inl fun d hd => ?_, fun b hb => ?_, fun p2 z2 => ?_⟩
      · obtain ⟨i, hi, rfl⟩ := List.mem_map.mp hb
        obtain ⟨y1, _⟩ := d2 i (List.mem_range.mp hi)
        exact .tup (.of y1) (.cons (.str _) (.cons (.int _) .nil))
      · intro d hd d' hd'
        rw [List.map_map] at hd hd'
        obtain ⟨i, _, rfl⟩ := List.mem_map.mp hd
        obtain ⟨j, _, rfl⟩ := List.mem_map.mp hd'
        simp [skey, PySem.W.alike, PySem.W.alikeAll]
      · rw [List.map_map] at hd
        obtain ⟨i, _, rfl⟩ := List.mem_map.mp hd
        exact ⟨_, _, rfl⟩
      · obtain ⟨i, hi, rfl⟩ := List.mem_map.mp hb
        simp [skey, PyData.depth, PyData.depthAll]
      rw [sort_pairs z.cps.toList _ g (by rw [hlen])]
      obtain ⟨G3, e7, S7, A7⟩ := alloc (o := .lst ((ordI z.cps.toList).map fun i => V.ref (g i))) z2
      rw [e7]
      have b3 : G3 p1 = some (.lst (List.replicate z.cps.toList.length V.non)) := S7 _ _ (sG _ _ A3)
      have np : p2 ≠ p1 := fun e => by rw [e, sG _ _ A3] at z2; cases z2
      have ordlt : ∀ i ∈ ordI z.cps.toList, i < z.cps.size := fun i hi => by
        have := (isort_perm (dle (skey z.cps.toList)) (List.range z.cps.toList.length)).mem_iff.mp hi
        rw [hlen] at this
        exact List.mem_range.mp this
      have s3 : Same H G3 := (((s1.trans S2).trans S3).trans sG).trans S7
      refine ⟨_, rfl, p2, _, rfl, .of A7, for_it (walk_enum (K := K) (a := p2) (xs := (ordI z.cps.toList).map fun i => V.ref (g i))) (fun i σ H' => ∃ v2 v3 v5 : Option V, σ = [some (.str z), some (.ref p1), v2, v3, some (.ref p2), v5] ∧ KeepB p1 G3 H' ∧ H' p1 = some (.lst (stepG z.cps.toList 0 ((ordI z.cps.toList).take i) (List.replicate z.cps.toList.length V.non)))) ⟨_, _, _, rfl, fun _ _ e _ => e, b3⟩ (fun i σ H' _ ⟨_, _, _, _, kb, _⟩ => .of (kb _ _ A7 np)) ?_ ?_⟩
      · rintro i y σ Hk Hk' hi ⟨v2, v3, v5, rfl, kb, hb1⟩ ⟨T0, x1, y1, rfl, hT, rfl, ex, ey⟩
        obtain ⟨L1, f1, U1, C1⟩ := alloc (o := .tup [x1, y1]) hT
        rw [f1]
        obtain rfl : V.int (i : Nat) = x1 := Option.some.inj ex
        have ey : ((ordI z.cps.toList).map fun i => V.ref (g i))[i]? = some y1 := ey
        rw [List.getElem?_map] at ey
        obtain ⟨pl, hpl, rfl⟩ := Option.map_eq_some_iff.mp ey
        have plt := ordlt pl (List.mem_of_getElem? hpl)
        obtain ⟨y2, y3⟩ := d2 pl plt
        have ng : g pl ≠ p1 := fun e => by rw [e, sG _ _ A3] at y2; cases y2
        have y4 : L1 (g pl) = some (.tup [.str ⟨#[z.cps.toList.getD pl 0]⟩, .int (pl : Nat)]) := U1 _ _ (kb _ _ (S7 _ _ y2) ng)
        refine ⟨T0, _, rfl, .of C1, rfl, _, _, rfl, _, _, rfl, ?_⟩
        refine ⟨g pl, _, rfl, .of y4, rfl, _, _, rfl, _, _, rfl, rfl, rfl, ?_⟩
        refine ⟨_, rfl, rfl, _, rfl, ?_⟩
        rw [one_sign]
        have kb2 : KeepB p1 G3 L1 := fun b o e n => U1 _ _ (kb b o e n)
        have b4 := U1 _ _ hb1
        have tk : (ordI z.cps.toList).take (i + 1) = (ordI z.cps.toList).take i ++ [pl] := by rw [List.take_succ, hpl]; rfl
        have il : ((ordI z.cps.toList).take i).length = i := by
          rw [List.length_take]
          have := (List.getElem?_eq_some_iff.mp hpl).1
          omega
        have st : stepG z.cps.toList 0 ((ordI z.cps.toList).take (i + 1)) (List.replicate z.cps.toList.length V.non) = stepF z.cps.toList (stepG z.cps.toList 0 ((ordI z.cps.toList).take i) (List.replicate z.cps.toList.length V.non)) pl i := by
          rw [tk, stepG_take, il, Nat.zero_add]
        by_cases h36 : z.cps.toList.getD pl 0 = 36
        · rw [decide_eq_true h36]
          refine ⟨_, _, _, rfl, kb2, ?_⟩
          rw [st]
          unfold stepF
          rw [if_pos h36]
          exact b4
        · rw [decide_eq_false h36]
          refine ⟨_, rfl, _, rfl, _, rfl, p1, _, (pl : Int), pl, rfl, rfl, b4, ?_, _, _, _, rfl, fun b o e n => ?_, ?_⟩
          · unfold ixN
            rw [if_pos (by omega), if_pos (by rw [stepG_len, List.length_replicate, hlen]; omega), Int.toNat_natCast]
          · rw [upd_ne n]
            exact kb2 _ _ e n
          · rw [upd_same, st]
            unfold stepF
            rw [if_neg h36]
      · rintro σ Hk ⟨v2, v3, v5, rfl, kb, hb1⟩
        rw [List.length_map, List.take_length] at hb1
        refine ⟨_, rfl, p1, _, rfl, .inl ⟨.of hb1, fun l zl2 => ?_⟩⟩
        obtain ⟨L1, f1, U1, C1⟩ := alloc (o := .tup (stepL z.cps.toList)) zl2
        have f1 : upd Hk l (.tup (stepG z.cps.toList 0 (ordI z.cps.toList) (List.replicate z.cps.toList.length V.non))) = L1 := f1
        rw [f1]
        refine k l L1 (fun b o e => U1 _ _ (kb _ _ (s3 _ _ e) fun q => ?_)) C1
        rw [q] at e
        have := (s1.trans S2) _ _ e
        rw [z1] at this
        cases this
end
end T05

set_option Elab.async false
set_option linter.all false
set_option maxRecDepth 100000
set_option maxHeartbeats 4000000
namespace T05
open PySem L2 EK
def wayG (bs : List V) (p : Nat) : Nat → V → List Nat → Option (List Nat)
  | _, .non, acc => some acc
  | 0, .int j, acc => if j = (p : Int) then some acc else none
  | f + 1, .int j, acc => if j = (p : Int) then some acc else if 0 ≤ j then (match bs[j.toNat]? with
    | some v => wayG bs p f v (acc ++ [j.toNat])
    | none => none) else none
  | _, _, _ => none
/-- the places from p on, step by step, at most so many -/
def wayM (bs : List V) (p : Nat) : Option (List Nat) := match bs[p]? with
  | some v => wayG bs p bs.length v [p]
  | none => none
def natsV (l : List Nat) : List V := l.map fun n => V.int (n : Nat)
theorem atI_nat (xs : List V) (n : Nat) (h : n < xs.length) : atI xs (n : Int) = xs[n]? := by
  unfold atI ixN
  rw [if_pos (by omega), if_pos (by omega), Int.toNat_natCast]
  rfl
theorem same_tup {K : PySem.W.Frag} {H H' : Hp} {a : Addr} {xs : List V} (e : Same H H') (h : SqT K H a xs) : SqT K H' a xs := by
  rcases h with h | h
  · rcases h with h | ⟨o, h⟩
    · exact .inl (.inl (e _ _ h))
    · exact .inl (.inr ⟨o, e _ _ h⟩)
  · exact .inr h
theorem wayG_len (bs : List V) (p : Nat) : ∀ (f : Nat) (v : V) (acc ws : List Nat), wayG bs p f v acc = some ws → ws.length ≤ acc.length + f
  | f, v, acc, ws, h => by
    induction f generalizing v acc with
    | zero =>
      cases v with
      | non => cases h; exact Nat.le_refl _
      | int j =>
        have h : (if j = (p : Int) then some acc else none) = some ws := h
        split at h
        · cases h; exact Nat.le_refl _
        · cases h
      | _ => cases h
    | succ f ih =>
      cases v with
      | non => cases h; exact Nat.le_add_right _ _
      | int j =>
        have h : (if j = (p : Int) then some acc else if 0 ≤ j then (match bs[j.toNat]? with
          | some v => wayG bs p f v (acc ++ [j.toNat])
          | none => none) else none) = some ws := h
        split at h
        · cases h; exact Nat.le_add_right _ _
        · split at h
          · split at h
            · have := ih _ _ h
              rw [List.length_append, List.length_singleton] at this
              omega
            · cases h
          · cases h
      | _ => cases h
def spWay (K : PySem.W.Frag) : Sp := fun vs H Q _ => ∃ (b : Addr) (bs : List V) (p : Nat) (ws : List Nat), vs = [.ref b, .int (p : Nat)] ∧ SqT K H b bs ∧ bs.length ≤ 1000 ∧ wayM bs p = some ws ∧ ∀ q H', Same H H' → H' q = some (.lst (natsV ws)) → H q = none → Q (.ref q) H'
def spCross (K : PySem.W.Frag) : Sp := fun vs H Q _ => ∃ (u q : Addr) (us : List Bool) (ws : List Nat), vs = [.ref u, .ref q] ∧ H u = some (.lst (us.map V.bl)) ∧ SqL K H q (natsV ws) ∧ u ≠ q ∧ (∀ p ∈ ws, p < us.length) ∧ ∀ H', KeepB u H H' → H' u = some (.lst ((ws.foldl (fun u p => u.set p false) us).map V.bl)) → Q .non H'
def readS (cs ws : List Nat) : Str := ⟨(ws.reverse.map fun p => cs.getD p 0).toArray⟩
def spRd (K : PySem.W.Frag) : Sp := fun vs H Q _ => ∃ (z : Str) (q : Addr) (ws : List Nat), vs = [.str z, .ref q] ∧ z.cps.size ≤ 1000 ∧ SqL K H q (natsV ws) ∧ ws.length ≤ 2000 ∧ (∀ p ∈ ws, p < z.cps.size) ∧ ∀ H', Same H H' → Q (.str (readS z.cps.toList ws)) H'
section
variable {P : Program} {w : World} {K : PySem.W.Frag} {mg : Str → Option Value} {base : Heap}
theorem scWay : FnScope ["back", "place", "way", "at"] ["back", "place"] (defScope sWay) := ⟨rfl, rfl, rfl, by decide +kernel, rfl, by decide +kernel, by decide +kernel⟩
theorem scCross : FnScope ["unread", "way", "place"] ["unread", "way"] (defScope sCross) := ⟨rfl, rfl, rfl, by decide +kernel, rfl, by decide +kernel, by decide +kernel⟩
theorem scRd : FnScope ["row", "way", "place"] ["row", "way"] (defScope sRd) := ⟨rfl, rfl, rfl, by decide +kernel, rfl, by decide +kernel, by decide +kernel⟩
theorem ok_way {f : Addr} {fd : FuncData} (F : Fun K "_way" "_way" sWay f fd) : FnOk P w K mg base CX0 1 f fd ["back", "place"] (spWay K) := by
  refine F.ok scWay (fun vs H Q E h => ?_) (fun cdv A outer s H vs Q E hr h => ?_)
  · obtain ⟨b, bs, p, ws, rfl, _⟩ := h
    rfl
  · obtain ⟨b, bs, p, ws, rfl, hb, hz, hw, k⟩ := h
    have nd := scWay.nd
    refine ⟨_, (pss_cons (ps_set (i := 2) nd rfl (Or.inl rfl) (pe_lst (pa_cons (pv 1) pa_nil)))
      (pss_cons (ps_set (i := 3) nd rfl (Or.inl rfl) (pe_ix ix_tup (pv 0) (pv 1) (fun _ _ => rfl)))
      (pss_cons (ps_while PassesOwn.never (PW.pt (pw_and (pt_cmpR op_notN (pv 3) pe_non (nomark _)) (pw_and1 (pt_cmpR op_ne (pv 3) (pv 1) (nomark _))))) (pss_cons (ps_expr (pe_bm PySem.F.plainAttrs_list PySem.F.slot_list_append PySem.F.type_list_append mt_append (pv 2) (pa_cons (pv 3) pa_nil)))
      (pss_one (ps_set (i := 3) nd rfl (Or.inl rfl) (pe_ix ix_tup (pv 0) (pv 3) (fun _ _ => rfl))))))
      (pss_one (ps_ret (pv 2)))))), ?_⟩
    unfold wayM at hw
    cases hv : bs[p]? with
    | none => rw [hv] at hw; cases hw
    | some v =>
      rw [hv] at hw
      have hpl : p < bs.length := (List.getElem?_eq_some_iff.mp hv).1
      have hlen := wayG_len bs p _ _ _ _ hw
      refine ⟨_, rfl, (by show 1 ≤ sizeLine; decide), fun q zq => ?_⟩
      obtain ⟨H1, e1, S1, A1⟩ := alloc (o := .lst [.int (p : Nat)]) zq
      rw [e1]
      refine ⟨_, rfl, _, rfl, b, bs, (p : Int), v, rfl, rfl, same_tup S1 hb, by rw [atI_nat _ _ hpl]; exact hv, ?_⟩
      refine ⟨fun m σ H' => ∃ (acc : List Nat) (u : V), σ = [some (.ref b), some (.int (p : Nat)), some (.ref q), some u] ∧ KeepB q H1 H' ∧ H' q = some (.lst (natsV acc)) ∧ wayG bs p m u acc = some ws ∧ acc.length + m ≤ 1 + bs.length, ⟨bs.length, [p], v, rfl, fun _ _ e _ => e, A1, hw, Nat.le_refl _⟩, ?_⟩
      rintro m σ H2 ⟨acc, u, rfl, kb, a2, hw2, hl2⟩
      have same2 : Same H H2 := fun c o e => kb _ _ (S1 _ _ e) fun z => by rw [z, zq] at e; cases e
      have kb3 : ∀ o, Same H (upd H2 q o) := fun o c y e => by
        rw [upd_ne fun z => by rw [z, zq] at e; cases e]
        exact same2 _ _ e
      have bad : ∀ (u : V), (∀ f, wayG bs p f u acc = none) → wayG bs p m u acc = some ws → False := fun u h1 h2 => by rw [h1] at h2; cases h2
      cases u with
      | non =>
        have e : acc = ws := by cases m <;> exact Option.some.inj hw2
        subst e
        exact ⟨_, rfl, rfl, _, rfl, _, rfl, k q H2 same2 a2 zq⟩
      | int j =>
        refine ⟨_, rfl, rfl, _, rfl, _, rfl, _, rfl, rfl, _, rfl, ?_⟩
        by_cases hj : j = (p : Int)
        · subst hj
          have e : acc = ws := by
            cases m with
            | zero =>
              have hw2 : (if (p : Int) = (p : Int) then some acc else none) = some ws := hw2
              rw [if_pos rfl] at hw2
              exact Option.some.inj hw2
            | succ m =>
              unfold wayG at hw2
              rw [if_pos rfl] at hw2
              exact Option.some.inj hw2
          subst e
          rw [decide_eq_true rfl]
          exact ⟨_, rfl, k q H2 same2 a2 zq⟩
        · rw [decide_eq_false (fun z => hj (by injection z))]
          cases m with
          | zero =>
            have hw2 : (if j = (p : Int) then some acc else none) = some ws := hw2
            rw [if_neg hj] at hw2
            cases hw2
          | succ m =>
            unfold wayG at hw2
            rw [if_neg hj] at hw2
            split at hw2
            · rename_i hj0
              cases hb2 : bs[j.toNat]? with
              | none => rw [hb2] at hw2; cases hw2
              | some v2 =>
                rw [hb2] at hw2
                have hjl : j.toNat < bs.length := (List.getElem?_eq_some_iff.mp hb2).1
                have ej : ((j.toNat : Nat) : Int) = j := Int.toNat_of_nonneg hj0
                refine ⟨fun σ' H' => ∃ (acc : List Nat) (u : V), σ' = [some (.ref b), some (.int (p : Nat)), some (.ref q), some u] ∧ KeepB q H1 H' ∧ H' q = some (.lst (natsV acc)) ∧ wayG bs p m u acc = some ws ∧ acc.length + m ≤ 1 + bs.length, fun σ' H' h => ⟨m, Nat.lt_succ_self _, h⟩, ?_⟩
                refine ⟨_, rfl, .inl ⟨rfl, _, .of a2⟩, _, rfl, q, _, _, rfl, rfl, a2, ?_, ?_⟩
                · show (List.map _ acc).length < _
                  rw [List.length_map]
                  exact Nat.lt_trans (show acc.length < 2000 by omega) (by decide)
                refine ⟨_, rfl, _, rfl, b, bs, j, v2, rfl, rfl, same_tup (kb3 _) hb, ?_, acc ++ [j.toNat], v2, rfl, fun c y e n => ?_, ?_, hw2, ?_⟩
                · rw [← ej, atI_nat _ _ hjl]
                  exact hb2
                · rw [upd_ne n]
                  exact kb _ _ e n
                · rw [upd_same]
                  show some (HO.lst (List.map _ acc ++ [V.int j])) = some (HO.lst (List.map _ (acc ++ [j.toNat])))
                  rw [List.map_append]
                  show _ = some (HO.lst (_ ++ [V.int (j.toNat : Nat)]))
                  rw [ej]
                · rw [List.length_append, List.length_singleton]
                  omega
            · cases hw2
      | _ => exact (bad _ (fun f => by cases f <;> rfl) hw2).elim
theorem ok_cross {f : Addr} {fd : FuncData} (F : Fun K "_cross_out" "_cross_out" sCross f fd) : FnOk P w K mg base CX0 1 f fd ["unread", "way"] (spCross K) := by
  refine F.ok scCross (fun vs H Q E h => ?_) (fun cdv A outer s H vs Q E hr h => ?_)
  · obtain ⟨u, q, us, ws, rfl, _⟩ := h
    rfl
  · obtain ⟨u, q, us, ws, rfl, hu, hq, hne, hw, k⟩ := h
    have nd := scCross.nd
    refine ⟨_, (pss_one (ps_for PassesOwn.never rfl (pi_list (pv 1)) (pg_name (i := 2) nd rfl (Or.inl rfl)) (pss_one (ps_asg pe_bl (pg_sub (pv 0) (pv 2) set_list))))), ?_⟩
    have fl : ∀ (l : List Nat) (us : List Bool), (l.foldl (fun u p => u.set p false) us).length = us.length := by
      intro l
      induction l with
      | nil => intro us; rfl
      | cons a l ih => intro us; exact (ih _).trans (List.length_set ..)
    have kq : ∀ H', KeepB u H H' → SqL K H' q (natsV ws) := fun H' kb => by
      rcases hq with (h | ⟨o, h⟩) | h
      · exact .inl (.inl (kb _ _ h (Ne.symm hne)))
      · exact .inl (.inr ⟨o, kb _ _ h (Ne.symm hne)⟩)
      · exact .inr h
    refine ⟨_, rfl, q, rfl, ⟨_, hq⟩, for_list (K := K) (a := q) (xs := natsV ws) (fun i σ H' => ∃ v2 : Option V, σ = [some (.ref u), some (.ref q), v2] ∧ KeepB u H H' ∧ H' u = some (.lst (((ws.take i).foldl (fun u p => u.set p false) us).map V.bl))) ⟨_, rfl, fun _ _ e _ => e, hu⟩ (fun i σ H' _ ⟨_, _, kb, _⟩ => kq H' kb) ?_ ?_⟩
    · rintro i y σ H1 hi ⟨v2, rfl, kb, h1⟩
      have hi : (ws.map fun n => V.int (n : Nat))[i]? = some y := hi
      rw [List.getElem?_map] at hi
      obtain ⟨pl, hpl, rfl⟩ := Option.map_eq_some_iff.mp hi
      have plt := hw pl (List.mem_of_getElem? hpl)
      refine ⟨_, rfl, _, rfl, u, _, (pl : Int), pl, rfl, rfl, h1, ?_, _, rfl, fun c y e n => ?_, ?_⟩
      · unfold ixN
        rw [if_pos (by omega), if_pos (by rw [List.length_map, fl]; omega), Int.toNat_natCast]
      · rw [upd_ne n]
        exact kb _ _ e n
      · rw [upd_same, List.take_succ, hpl, List.foldl_append]
        show some (HO.lst ((List.map V.bl _).set pl (V.bl false))) = _
        rw [← List.map_set]
        rfl
    · rintro σ H1 ⟨v2, rfl, kb, h1⟩
      have el : (natsV ws).length = ws.length := List.length_map ..
      rw [el, List.take_length] at h1
      exact k H1 kb h1
end
end T05

set_option Elab.async false
set_option linter.all false
set_option maxRecDepth 100000
set_option maxHeartbeats 4000000
namespace T05
open PySem L2 EK
def turnAt (z : Str) (i : Nat) : Str := cutS z (some (i : Int)) none ++ cutS z none (some (i : Int))
def leastM (z : Str) : Str := match (List.range z.cps.size).map (turnAt z) with
  | [] => z
  | x :: xs => minS x xs
example : leastM "baba" = "abab" := by decide +kernel
def spLeast : Sp := fun vs H Q _ => ∃ z, vs = [.str z] ∧ 0 < z.cps.size ∧ z.cps.size ≤ 2000 ∧ ∀ H', Same H H' → Q (.str (leastM z)) H'
section
variable {P : Program} {w : World} {K : PySem.W.Frag} {mg : Str → Option Value} {base : Heap}
theorem scLeast : FnScope ["word", "place"] ["word"] (defScope sLeast) := ⟨rfl, rfl, rfl, by decide +kernel, rfl, by decide +kernel, by decide +kernel⟩
theorem join_signs (cs : List Nat) : ∀ l : List Nat, Txt.join "" (l.map fun p => (⟨#[cs.getD p 0]⟩ : Str)) = ⟨(l.map fun p => cs.getD p 0).toArray⟩ := by
  intro l
  have e1 : l.map (fun p => (⟨#[cs.getD p 0]⟩ : Str)) = (l.map fun p => [cs.getD p 0]).map SX.S := by rw [List.map_map]; rfl
  have e2 : ∀ ys : List (List Nat), TL.joinL [] ys = ys.flatten := by
    intro ys
    induction ys with
    | nil => rfl
    | cons y ys ih =>
      cases ys with
      | nil => exact (List.append_nil y).symm
      | cons y2 r =>
        show y ++ ([] ++ TL.joinL [] (y2 :: r)) = _
        rw [List.nil_append, ih]
        rfl
  have e3 : ∀ l : List Nat, (l.map fun p => [cs.getD p 0]).flatten = l.map fun p => cs.getD p 0 := by
    intro l
    induction l with
    | nil => rfl
    | cons a l ih => rw [List.map_cons, List.flatten_cons, ih]; rfl
  have e4 : ("" : Str) = SX.S [] := by rfl
  rw [e1, e4, SX.join_S, e2, e3]
theorem sum_ones (cs : List Nat) : ∀ l : List Nat, ((l.map fun p => (⟨#[cs.getD p 0]⟩ : Str)).map (·.length)).sum = l.length
  | [] => rfl
  | a :: l => by
    rw [List.map_cons, List.map_cons, List.sum_cons, sum_ones cs l, List.length_cons]
    show 1 + l.length = l.length + 1
    omega
theorem ok_rd {f : Addr} {fd : FuncData} (F : Fun K "_read" "_read" sRd f fd) (T : TxtC K mg) : FnOk P w K mg base CX0 1 f fd ["row", "way"] (spRd K) := by
  refine F.ok scRd (fun vs H Q E h => ?_) (fun cdv A outer s H vs Q E hr h => ?_)
  · obtain ⟨z, q, ws, rfl, _⟩ := h
    rfl
  · obtain ⟨z, q, ws, rfl, hz, hq, hl, hw, k⟩ := h
    have nd := scRd.nd
    have hlen : z.cps.toList.length = z.cps.size := Array.length_toList
    refine ⟨_, (pss_one (ps_ret (pe_join pe_str (pe_lc (own := [("place", 2)]) (g := gName 2) (tt := tYes) rfl nd (pi_reversed (by rfl) T.reversed (pa_cons (pv 1) pa_nil)) (blkOk_by (N := ["row", "way", "place"]) (sc := defScope sRd) (by decide +kernel)) (fun _ _ _ _ _ => (pg_name (i := 2) nd rfl (Or.inl rfl))) (fun _ _ _ _ _ => pts_nil) (fun _ _ _ _ _ => (pe_ix ix_str (pv 0) (pv 2) (fun _ _ => rfl))))))), ?_⟩
    refine ⟨⟨_, rfl⟩, _, rfl, q, _, rfl, hq, fun D hD => lc_it (walk_rev (K := K) (a := q) (xs := natsV ws)) (fun i H' => Same H H' ∧ H' D = some (.lst (((ws.reverse.take i).map fun p => (⟨#[z.cps.toList.getD p 0]⟩ : Str)).map V.str))) ⟨fun b o e => by rw [upd_ne (ne_of_none e hD)]; exact e, upd_same⟩ (fun i H' _ h => h.1.seq hq) ?_ ?_⟩
    · rintro i y H1 H2 hi ⟨s1, d1⟩ ⟨rfl, hy⟩
      have el : (natsV ws).length = ws.length := List.length_map ..
      have hy : (ws.map fun n => V.int (n : Nat))[(natsV ws).length - 1 - i]? = some y := hy
      rw [List.getElem?_map, el] at hy
      rw [el] at hi
      obtain ⟨pl, hpl, rfl⟩ := Option.map_eq_some_iff.mp hy
      have plt := hw pl (List.mem_of_getElem? hpl)
      have hrev : ws.reverse[i]? = some pl := by rw [List.getElem?_reverse hi]; exact hpl
      refine ⟨rfl, _, rfl, _, rfl, z, (pl : Int), z.cps.toList.getD pl 0, rfl, rfl, Nat.le_trans (show z.cps.size ≤ 1000 from hz) (by decide), ?_, _, d1, ?_, fun b o e => ?_, ?_⟩
      · unfold atI ixN
        rw [if_pos (by omega), if_pos (by rw [hlen]; omega), Int.toNat_natCast, List.getD_eq_getElem?_getD]
        show z.cps.toList[pl]? = _
        rw [List.getElem?_eq_getElem (by rw [hlen]; exact plt)]
        rfl
      · rw [List.length_map, List.length_map, List.length_take, List.length_reverse]
        exact Nat.lt_of_le_of_lt (Nat.min_le_right _ _) (Nat.lt_of_le_of_lt hl (by decide))
      · rw [upd_ne (ne_of_none e hD)]
        exact s1 _ _ e
      · rw [upd_same, List.take_succ, hrev, List.map_append, List.map_append]
        rfl
    · rintro H1 ⟨s1, d1⟩
      have el : (natsV ws).length = ws.reverse.length := by rw [List.length_reverse]; exact List.length_map ..
      rw [el, List.take_length] at d1
      refine ⟨_, D, _, rfl, rfl, .inl (.of d1), ?_, ?_⟩
      · rw [sum_ones, List.length_map, List.length_reverse]
        show ws.length + ws.length * 0 ≤ 16777216
        omega
      · rw [join_signs]
        exact k H1 s1
theorem ok_least {f : Addr} {fd : FuncData} (F : Fun K "_least_turn" "_least_turn" sLeast f fd) (T : TxtC K mg) : FnOk P w K mg base CX0 1 f fd ["word"] spLeast := by
  refine F.ok scLeast (fun vs H Q E h => ?_) (fun cdv A outer s H vs Q E hr h => ?_)
  · obtain ⟨z, rfl, _⟩ := h
    rfl
  · obtain ⟨z, rfl, h0, hz, k⟩ := h
    have nd := scLeast.nd
    have hu : (A.deeper (PyProof.Rows.envOfC "_least_turn" (defScope sLeast) s.heap.objs.size f cdv)).units + 64 < cLine := hr.units
    refine ⟨_, (pss_one (ps_ret (pe_callB (cr_minS rfl hu) (by rfl) T.min (by decide +kernel) (pa_cons (pe_lc (own := [("place", 1)]) (g := gName 1) (tt := tYes) rfl nd (pi_range1 (by rfl) T.range (pa_cons (pe_callB call_len_str (by rfl) T.len (by decide +kernel) (pa_cons (pv 0) pa_nil)) pa_nil)) (blkOk_by (N := ["word", "place"]) (sc := defScope sLeast) (by decide +kernel)) (fun _ _ _ _ _ => (pg_name (i := 1) nd rfl (Or.inl rfl))) (fun _ _ _ _ _ => pts_nil) (fun _ _ _ _ _ => (pe_op op_add_str (pe_slice sl_str (pv 0) (po_some (pv 1)) po_none) (pe_slice sl_str (pv 0) po_none (po_some (pv 1)))))) pa_nil)))), ?_⟩
    have zl : (z.length : Nat) = z.cps.size := rfl
    have hn : ((z.length : Nat) : Int).toNat = z.cps.size := Int.toNat_natCast _
    refine ⟨_, rfl, z, rfl, Nat.le_trans (show z.cps.size ≤ 2000 from hz) (by decide), _, rfl, by omega, by omega, fun D hD => lc_range (lo := 0) (n := ((z.length : Nat) : Int).toNat) (fun i H' => Same H H' ∧ H' D = some (.lst (((List.range i).map (turnAt z)).map V.str))) ⟨fun b o e => by rw [upd_ne (ne_of_none e hD)]; exact e, upd_same⟩ ?_ ?_⟩
    · rintro i H1 hi ⟨s1, d1⟩
      rw [hn] at hi
      refine ⟨rfl, ?_⟩
      have hzl : z.length ≤ sizeLine := Nat.le_trans (show z.cps.size ≤ 2000 from hz) (by decide)
      have cl : ∀ lo hi, (cutS z lo hi).length ≤ z.cps.size := fun lo hi => by
        unfold cutS
        show ((z.cps.toList.drop _).take _).toArray.size ≤ _
        rw [List.size_toArray, List.length_take, List.length_drop, Array.length_toList]
        omega
      refine ⟨_, rfl, _, rfl, _, rfl, z, rfl, hzl, _, rfl, _, rfl, _, rfl, z, rfl, hzl, _, _, rfl, rfl, ?_, _, d1, ?_, fun b o e => ?_, ?_⟩
      · exact Nat.le_trans (Nat.add_le_add (cl _ _) (cl _ _)) (Nat.le_trans (show z.cps.size + z.cps.size ≤ 4000 by omega) (by decide))
      · rw [List.length_map, List.length_map, List.length_range]
        exact Nat.lt_trans (show i < 2001 by omega) (by decide)
      · rw [upd_ne (ne_of_none e hD)]
        exact s1 _ _ e
      · rw [upd_same, List.range_succ, List.map_append, List.map_append]
        show _ = some (HO.lst (_ ++ [V.str (turnAt z i)]))
        unfold turnAt
        rw [Int.zero_add]
    · rintro H1 ⟨s1, d1⟩
      rw [hn] at d1
      have ne : ∃ x xs, (List.range z.cps.size).map (turnAt z) = x :: xs := by
        cases e : (List.range z.cps.size).map (turnAt z) with
        | nil =>
          have := congrArg List.length e
          rw [List.length_map, List.length_range] at this
          exact absurd this (Nat.ne_of_gt h0)
        | cons x xs => exact ⟨x, xs, rfl⟩
      obtain ⟨x, xs, e⟩ := ne
      have k1 := k H1 s1
      unfold leastM at k1
      rw [e] at k1 d1
      exact ⟨D, x, xs, rfl, .of d1, k1⟩
end
end T05

set_option Elab.async false
set_option linter.all false
set_option maxRecDepth 100000
set_option maxHeartbeats 4000000
namespace T05
open PySem L2 EK
def tailS (s : Str) : Str := cutS s (some 1) none
def crossM (us : List Bool) (ws : List Nat) : List Bool := ws.foldl (fun u p => u.set p false) us
def textsG (z : Str) (bs : List V) : List Nat → List Str → List Bool → Option (List Str × List Bool)
  | [], ts, us => some (ts, us)
  | p :: r, ts, us => match wayM bs p with
    | some ws => if (ws.all fun p => decide (p < z.cps.size)) = true then textsG z bs r (ts ++ [tailS (readS z.cps.toList ws)]) (crossM us ws) else none
    | none => none
def ringsG (z : Str) (bs : List V) : List Nat → List Str → List Bool → Option (List Str)
  | [], rs, _ => some rs
  | p :: r, rs, us => match us[p]? with
    | some true => (match wayM bs p with
      | some ws => if (ws.all fun p => decide (p < z.cps.size)) = true then (if ws = [] then none else ringsG z bs r (rs ++ [leastM (readS z.cps.toList ws)]) (crossM us ws)) else none
      | none => none)
    | some false => ringsG z bs r rs us
    | none => none
def endsN (z : Str) : Nat := (Txt.count z "$").toNat
def restL (lo n : Nat) : List Nat := (List.range (n - lo)).map fun i => lo + i
def readM (z : Str) : Option (List Str × List Str) := if 0 ≤ Txt.count z "$" ∧ endsN z ≤ z.cps.size then
    (match textsG z (stepL z.cps.toList) (List.range (endsN z)) [] (List.replicate z.cps.size true) with
    | some (ts, us) => (match ringsG z (stepL z.cps.toList) (restL (endsN z) z.cps.size) [] us with
      | some rs => some (ts, isort (dle PyData.str) rs)
      | none => none)
    | none => none) else none
example : readM "bbaa" = some ([], [("ab" : Str), ("ab" : Str)]) := by decide +kernel
example : readM "b$a" = some ([("ab" : Str)], []) := by decide +kernel
theorem sort_texts (rs : List Str) : ((rs.map fun r => (V.str r, PyData.str r)).mergeSort (PySem.W.dataLe false (·.2))).map (·.1) = (isort (dle PyData.str) rs).map V.str := by
  have h1 := List.map_mergeSort (f := fun r : Str => (V.str r, PyData.str r)) (r := dle PyData.str) (s := PySem.W.dataLe false (·.2)) (l := rs) fun a _ b _ => rfl
  rw [← h1, List.map_map, msort_isort (dle PyData.str) (dle_trans _) (dle_total _) _ fun x _ y _ h1 h2 => ?_]
  · rfl
  · have e := dle_anti h1 h2
    have e1 : ∀ r : Str, PySem.W.keyToks (.str r) = [.inr r.cps.toList] := fun r => by simp [PySem.W.keyToks]
    rw [e1, e1] at e
    injection e with e _
    injection e with e
    exact PySem.W.str_of_cps e
theorem stepL_len (cs : List Nat) : (stepL cs).length = cs.length := by
  unfold stepL
  rw [stepG_len, List.length_replicate]
theorem cross_len : ∀ (ws : List Nat) (us : List Bool), (crossM us ws).length = us.length
  | [], us => rfl
  | a :: l, us => (cross_len l _).trans (List.length_set ..)
theorem wayM_len {bs : List V} {p : Nat} {ws : List Nat} (h : wayM bs p = some ws) : ws.length ≤ bs.length + 1 := by
  unfold wayM at h
  cases hv : bs[p]? with
  | none => rw [hv] at h; cases h
  | some v =>
    rw [hv] at h
    have := wayG_len bs p _ _ _ _ h
    rw [List.length_singleton] at this
    omega
theorem readS_len (cs ws : List Nat) : (readS cs ws).cps.size = ws.length := by
  unfold readS
  simp
def refused (C : Addr) (H : Hp) (x : V) (E : XK) : Prop := (isStrV x = false ∨ ∃ z, x = .str z ∧ z.cps.size ≤ 100000 ∧ isR z = false) ∧ ∀ H' d, Same H H' → H' d = none → E (.ref C) (some d) (upd H' d (.xd [("row", x)]))
def spRead (C : Addr) : Sp := fun vs H Q E => ∃ x, vs = [x] ∧ Pl H x ∧ ((∃ z ts rs, x = .str z ∧ isR z = true ∧ z.cps.size ≤ 400 ∧ readM z = some (ts, rs) ∧ ∀ p a b H', Same H H' → H' p = some (.tup [.ref a, .ref b]) → H' a = some (.tup (ts.map V.str)) → H' b = some (.tup (rs.map V.str)) → Q (.ref p) H') ∨ refused C H x E)
section
variable {P : Program} {w : World} {K : PySem.W.Frag} {mg : Str → Option Value} {base : Heap} {C : Addr}
theorem scRead : FnScope ["row", "back", "ends", "texts", "unread", "place", "way", "rings"] ["row"] (defScope sRead) := ⟨rfl, rfl, rfl, by decide +kernel, rfl, by decide +kernel, by decide +kernel⟩
theorem ok_read {f f6 f8 f9 f0 fQ : Addr} {fd fd6 fd8 fd9 fd0 fdQ : FuncData} (F : Fun K "read_back" "read_back" sRead f fd) (T : TxtC K mg)
    (G6 : FnOk P w K mg base (L2.CX P w) 4 f6 fd6 ["row"] (spStep C)) (g6 : mg "step_back" = some (.ref f6)) (k6 : PySem.W.keepIn K (.ref f6) = true) (b6 : Binds K fd6 ["row"] [])
    (G8 : FnOk P w K mg base CX0 1 f8 fd8 ["back", "place"] (spWay K)) (g8 : mg "_way" = some (.ref f8)) (k8 : PySem.W.keepIn K (.ref f8) = true) (b8 : Binds K fd8 ["back", "place"] [])
    (G9 : FnOk P w K mg base CX0 1 f9 fd9 ["unread", "way"] (spCross K)) (g9 : mg "_cross_out" = some (.ref f9)) (k9 : PySem.W.keepIn K (.ref f9) = true) (b9 : Binds K fd9 ["unread", "way"] [])
    (G0 : FnOk P w K mg base CX0 1 f0 fd0 ["row", "way"] (spRd K)) (g0 : mg "_read" = some (.ref f0)) (k0 : PySem.W.keepIn K (.ref f0) = true) (b0 : Binds K fd0 ["row", "way"] [])
    (GQ : FnOk P w K mg base CX0 1 fQ fdQ ["word"] spLeast) (gQ : mg "_least_turn" = some (.ref fQ)) (kQ : PySem.W.keepIn K (.ref fQ) = true) (bQ : Binds K fdQ ["word"] []) :
    FnOk P w K mg base (L2.CX P w) 5 f fd ["row"] (spRead C) := by
  refine F.okX scRead (fun vs H Q E h => ?_) (fun cdv A outer s H vs Q E hr h => ?_)
  · obtain ⟨x, rfl, _⟩ := h
    rfl
  · obtain ⟨x, rfl, hp, k⟩ := h
    have nd := scRead.nd
    have hr4 : Room 4 _ := hr
    have hr1 : Room 1 _ := hr.mono (by decide)
    have hu : (A.deeper (PyProof.Rows.envOfC "read_back" (defScope sRead) s.heap.objs.size f cdv)).units + 64 < cLine := hr.units
    refine ⟨_, (pss_cons (ps_set (i := 1) nd rfl (Or.inl rfl) (pe_call G6 hr4 rfl g6 k6 b6 .nil (passes_call (takes_of rfl rfl rfl rfl) fun _ _ _ _ h => h) (pa_cons (pv 0) pa_nil)))
      (pss_cons (ps_set (i := 2) nd rfl (Or.inl rfl) (pe_bm PySem.F.plainAttrs_str PySem.F.slot_str_count PySem.F.type_str_count mt_count (pv 0) (pa_cons (C8.pe_gc (by rfl) T.endS) pa_nil)))
      (pss_cons (ps_set (i := 3) nd rfl (Or.inl rfl) (pe_lst pa_nil))
      (pss_cons (ps_set (i := 4) nd rfl (Or.inl rfl) (pe_op op_rep (pe_lst (pa_cons pe_bl pa_nil)) (pe_callB call_len_str (by rfl) T.len (by decide +kernel) (pa_cons (pv 0) pa_nil))))
      (pss_cons (ps_for (passes_of rfl) rfl (pi_range1 (by rfl) T.range (pa_cons (pv 2) pa_nil)) (pg_name (i := 5) nd rfl (Or.inl rfl)) (pss_cons (ps_set (i := 6) nd rfl (Or.inl rfl) (pe_call G8 hr1 rfl g8 k8 b8 .nil pass0 (pa_cons (pv 1) (pa_cons (pv 5) pa_nil))))
      (pss_cons (ps_expr (pe_call G9 hr1 rfl g9 k9 b9 .nil pass0 (pa_cons (pv 4) (pa_cons (pv 6) pa_nil))))
      (pss_one (ps_expr (pe_bm PySem.F.plainAttrs_list PySem.F.slot_list_append PySem.F.type_list_append mt_append (pv 3) (pa_cons (pe_slice sl_str (pe_call G0 hr1 rfl g0 k0 b0 .nil pass0 (pa_cons (pv 0) (pa_cons (pv 6) pa_nil))) (po_some pe_int) po_none) pa_nil)))))))
      (pss_cons (ps_set (i := 7) nd rfl (Or.inl rfl) (pe_lst pa_nil))
      (pss_cons (ps_for (passes_of rfl) rfl (pi_range2 (by rfl) T.range (pa_cons (pv 2) (pa_cons (pe_callB call_len_str (by rfl) T.len (by decide +kernel) (pa_cons (pv 0) pa_nil)) pa_nil))) (pg_name (i := 5) nd rfl (Or.inl rfl)) (pss_one (ps_if (pt_val (pe_ix ix_list (pv 4) (pv 5) (fun _ _ => rfl))) (pss_cons (ps_set (i := 6) nd rfl (Or.inl rfl) (pe_call G8 hr1 rfl g8 k8 b8 .nil pass0 (pa_cons (pv 1) (pa_cons (pv 5) pa_nil))))
      (pss_cons (ps_expr (pe_call G9 hr1 rfl g9 k9 b9 .nil pass0 (pa_cons (pv 4) (pa_cons (pv 6) pa_nil))))
      (pss_one (ps_expr (pe_bm PySem.F.plainAttrs_list PySem.F.slot_list_append PySem.F.type_list_append mt_append (pv 7) (pa_cons (pe_call GQ hr1 rfl gQ kQ bQ .nil pass0 (pa_cons (pe_call G0 hr1 rfl g0 k0 b0 .nil pass0 (pa_cons (pv 0) (pa_cons (pv 6) pa_nil))) pa_nil)) pa_nil)))))) pss_nil)))
      (pss_one (ps_ret (pe_tup (pa_cons (pe_callTy call_tuple_of (by rfl) T.tuple (by decide +kernel) (pa_cons (pv 3) pa_nil)) (pa_cons (pe_callTy call_tuple_of (by rfl) T.tuple (by decide +kernel) (pa_cons (pe_callB (cr_sortedD hu) (by rfl) T.sorted (by decide +kernel) (pa_cons (pv 7) pa_nil)) pa_nil)) pa_nil)))))))))))), ?_⟩
    rcases k with ⟨z, ts, rs, rfl, hb, hz, hm, k⟩ | ⟨hbad, k⟩
    rotate_left
    · exact ⟨_, rfl, x, rfl, hp, .inr ⟨hbad, k⟩⟩
    have hlen : z.cps.toList.length = z.cps.size := Array.length_toList
    have zl : (z.length : Nat) = z.cps.size := rfl
    have hzl : z.length ≤ sizeLine := Nat.le_trans (show z.cps.size ≤ 400 from hz) (by decide)
    unfold readM at hm
    split at hm
    rotate_left
    · cases hm
    rename_i hc
    obtain ⟨hc0, hce⟩ := hc
    have hcn : ((endsN z : Nat) : Int) = Txt.count z "$" := Int.toNat_of_nonneg hc0
    split at hm
    rotate_left
    · cases hm
    rename_i ts' us' ht
    split at hm
    rotate_left
    · cases hm
    rename_i rs' hrg
    have hm := Option.some.inj hm
    injection hm with hm1 hm2
    subst hm1
    refine ⟨_, rfl, _, rfl, hp, .inl ⟨z, rfl, hb, Nat.le_trans hz (by decide), fun pb H1 s1 hpb => ?_⟩⟩
    refine ⟨_, rfl, rfl, _, _, rfl, rfl, ?_⟩
    have cb : Txt.count z "$" ≤ 400 := by omega
    refine ⟨(by show 0 ≤ sizeLine; decide), fun t0 zt => ?_⟩
    obtain ⟨H2, e2, S2, A2⟩ := alloc (o := .lst []) zt
    rw [e2]
    refine ⟨(by show 1 ≤ sizeLine; decide), fun u00 zu0 => ?_⟩
    obtain ⟨H3, e3, S3, A3⟩ := alloc (o := .lst [.bl true]) zu0
    rw [e3]
    refine ⟨_, rfl, z, rfl, hzl, u00, _, _, rfl, rfl, A3, by omega, by omega, ?_, fun u0 zu => ?_⟩
    · show 1 * ((z.length : Nat) : Int).toNat ≤ sizeLine
      rw [Int.toNat_natCast, Nat.one_mul]
      exact hzl
    have erep : (List.replicate ((z.length : Nat) : Int).toNat [V.bl true]).flatten = (List.replicate z.cps.size true).map V.bl := by
      rw [Int.toNat_natCast, zl]
      generalize z.cps.size = n
      induction n with
      | zero => rfl
      | succ n ih => rw [List.replicate_succ, List.flatten_cons, ih]; rfl
    rw [erep]
    obtain ⟨H4, e4, S4, A4⟩ := alloc (o := .lst ((List.replicate z.cps.size true).map V.bl)) zu
    rw [e4]
    have nut : u0 ≠ t0 := fun e => by rw [e, S3 _ _ A2] at zu; cases zu
    have sqb : H4 pb = some (.tup (stepL z.cps.toList)) := S4 _ _ (S3 _ _ (S2 _ _ hpb))
    have npt : pb ≠ t0 := fun e => by rw [e, zt] at hpb; cases hpb
    have npu : pb ≠ u0 := fun e => by rw [← e, S3 _ _ (S2 _ _ hpb)] at zu; cases zu
    have bl : (stepL z.cps.toList).length ≤ 1000 := by rw [stepL_len, hlen]; omega
    have sH4 : Same H H4 := ((s1.trans S2).trans S3).trans S4
    have ht0 : H t0 = none := by cases e : H t0 with
      | none => rfl
      | some o => rw [s1 _ _ e] at zt; cases zt
    have hu0 : H u0 = none := by cases e : H u0 with
      | none => rfl
      | some o => rw [((s1.trans S2).trans S3) _ _ e] at zu; cases zu
    refine ⟨_, rfl, _, rfl, by omega, by omega, for_it (walk_range (lo := 0) (n := (Txt.count z "$").toNat)) (fun i σ H' => ∃ (v5 v6 : Option V) (tsi : List Str) (usi : List Bool), σ = [some (.str z), some (.ref pb), some (.int (Txt.count z "$")), some (.ref t0), some (.ref u0), v5, v6, none] ∧
        (∀ c o, H4 c = some o → c ≠ t0 → c ≠ u0 → H' c = some o) ∧ H' t0 = some (.lst (tsi.map V.str)) ∧ H' u0 = some (.lst (usi.map V.bl)) ∧ usi.length = z.cps.size ∧ tsi.length ≤ i ∧ textsG z (stepL z.cps.toList) ((List.range (endsN z)).drop i) tsi usi = some (ts', us')) ⟨_, _, [], List.replicate z.cps.size true, rfl, fun _ _ e _ _ => e, S4 _ _ (S3 _ _ A2), A4, List.length_replicate, Nat.le_refl _, ht⟩ (fun _ _ _ _ _ => trivial) ?_ ?_⟩
    · rintro i y σ Gz G hi ⟨v5, v6, tsi, usi, rfl, kk, ht1, hu1, ul, tl1, hg⟩ ⟨rfl, hy⟩
      have hy : y = V.int (i : Nat) := by rw [hy]; show V.int (0 + (i : Nat)) = _; rw [Int.zero_add]
      subst hy
      have hi : i < endsN z := hi
      have hdr : (List.range (endsN z)).drop i = i :: (List.range (endsN z)).drop (i + 1) := by
        rw [List.drop_eq_getElem_cons (by rw [List.length_range]; exact hi), List.getElem_range]
      rw [hdr] at hg
      unfold textsG at hg
      split at hg
      rotate_left
      · cases hg
      rename_i ws hw
      split at hg
      rotate_left
      · cases hg
      rename_i hall
      have wlt : ∀ p ∈ ws, p < z.cps.size := fun p hp => of_decide_eq_true (List.all_eq_true.mp hall p hp)
      have wl := wayM_len hw
      rw [stepL_len, hlen] at wl
      have pbG : G pb = some (.tup (stepL z.cps.toList)) := kk _ _ sqb npt npu
      refine ⟨_, rfl, _, rfl, pb, _, i, ws, rfl, .inl (.inl pbG), bl, hw, fun q G1 sw hq qn => ?_⟩
      have nq : u0 ≠ q := fun e => by rw [← e, hu1] at qn; cases qn
      have nqt : t0 ≠ q := fun e => by rw [← e, ht1] at qn; cases qn
      refine ⟨_, rfl, _, rfl, u0, q, usi, ws, rfl, sw _ _ hu1, .of hq, nq, fun p hp => by rw [ul]; exact wlt p hp, fun G2 kb2 hu2 => ?_⟩
      have ht2 : G2 t0 = some (.lst (tsi.map V.str)) := kb2 _ _ (sw _ _ ht1) (Ne.symm nut)
      refine ⟨_, rfl, .inl ⟨rfl, _, .of ht2⟩, _, rfl, _, rfl, z, q, ws, rfl, Nat.le_trans hz (by decide), .of (kb2 _ _ hq (Ne.symm nq)), by omega, wlt, fun G3 s3 => ?_⟩
      have ht3 := s3 _ _ ht2
      refine ⟨_, rfl, _, rfl, ?_, t0, _, _, rfl, rfl, ht3, ?_, ?_⟩
      · show (readS z.cps.toList ws).cps.size ≤ sizeLine
        rw [readS_len]
        exact Nat.le_trans (show ws.length ≤ 1000 by omega) (by decide)
      · rw [List.length_map]
        exact Nat.lt_of_le_of_lt (show tsi.length ≤ 1000 by omega) (by decide)
      · refine ⟨_, _, tsi ++ [tailS (readS z.cps.toList ws)], crossM usi ws, rfl, fun c o e n1 n2 => ?_, ?_, ?_, ?_, ?_, hg⟩
        · rw [upd_ne n1]
          exact s3 _ _ (kb2 _ _ (sw _ _ (kk _ _ e n1 n2)) n2)
        · rw [upd_same, List.map_append]
          rfl
        · rw [upd_ne nut]
          exact s3 _ _ hu2
        · rw [cross_len, ul]
        · rw [List.length_append, List.length_singleton]
          omega
    · rintro σ G ⟨v5, v6, tsi, usi, rfl, kk, ht1, hu1, ul, tl1, hg⟩
      have hgl : (List.range (endsN z)).drop (Txt.count z "$").toNat = [] := List.drop_eq_nil_of_le (by rw [List.length_range]; exact Nat.le_refl _)
      rw [hgl] at hg
      have hg := Option.some.inj hg
      injection hg with hg1 hg2
      subst hg1
      subst hg2
      refine ⟨(by show 0 ≤ sizeLine; decide), fun r0 zr => ?_⟩
      obtain ⟨G0', f0, U0, B0⟩ := alloc (o := .lst []) zr
      rw [f0]
      have nru : u0 ≠ r0 := fun e => by rw [← e, hu1] at zr; cases zr
      have pbG : G0' pb = some (.tup (stepL z.cps.toList)) := U0 _ _ (kk _ _ sqb npt npu)
      have npr : pb ≠ r0 := fun e => by rw [← e, kk _ _ sqb npt npu] at zr; cases zr
      have ntr : t0 ≠ r0 := fun e => by rw [← e, ht1] at zr; cases zr
      have hr0 : H r0 = none := by cases e : H r0 with
        | none => rfl
        | some o => rw [kk _ _ (sH4 _ _ e) (fun y => by rw [y, ht0] at e; cases e) (fun y => by rw [y, hu0] at e; cases e)] at zr; cases zr
      have rl : (restL (endsN z) z.cps.size).length = z.cps.size - endsN z := by unfold restL; rw [List.length_map, List.length_range]
      refine ⟨_, rfl, _, rfl, z, rfl, hzl, _, _, rfl, ⟨by omega, by omega, by omega, by omega⟩, for_it (walk_range (lo := Txt.count z "$") (n := (((z.length : Nat) : Int) - Txt.count z "$").toNat)) (fun i σ H' => ∃ (v5 v6 : Option V) (rsi : List Str) (usi : List Bool), σ = [some (.str z), some (.ref pb), some (.int (Txt.count z "$")), some (.ref t0), some (.ref u0), v5, v6, some (.ref r0)] ∧
        (∀ c o, G0' c = some o → c ≠ r0 → c ≠ u0 → H' c = some o) ∧ H' r0 = some (.lst (rsi.map V.str)) ∧ H' u0 = some (.lst (usi.map V.bl)) ∧ usi.length = z.cps.size ∧ rsi.length ≤ i ∧ ringsG z (stepL z.cps.toList) ((restL (endsN z) z.cps.size).drop i) rsi usi = some rs') ⟨_, _, [], _, rfl, fun _ _ e _ _ => e, B0, U0 _ _ hu1, ul, Nat.le_refl _, hrg⟩ (fun _ _ _ _ _ => trivial) ?_ ?_⟩
      · rintro i y σ Gz G hi ⟨v5, v6, rsi, usi, rfl, kk2, hr1', hu1, ul, rl1, hg⟩ ⟨rfl, hy⟩
        have hi2 : i < z.cps.size - endsN z := by omega
        have hy : y = V.int ((endsN z + i : Nat) : Int) := by rw [hy]; show V.int (Txt.count z "$" + (i : Nat)) = _; rw [← hcn, Int.natCast_add]
        subst hy
        have hdr : (restL (endsN z) z.cps.size).drop i = (endsN z + i) :: (restL (endsN z) z.cps.size).drop (i + 1) := by
          rw [List.drop_eq_getElem_cons (by rw [rl]; exact hi2)]
          unfold restL
          rw [List.getElem_map, List.getElem_range]
        rw [hdr] at hg
        unfold ringsG at hg
        cases hub : usi[endsN z + i]? with
        | none => rw [hub] at hg; cases hg
        | some b =>
          rw [hub] at hg
          have ixu : atI (usi.map V.bl) ((endsN z + i : Nat) : Int) = some (V.bl b) := by
            rw [atI_nat _ _ (by rw [List.length_map, ul]; omega), List.getElem?_map, hub]
            rfl
          refine ⟨_, rfl, _, rfl, u0, _, _, _, rfl, rfl, .of hu1, ixu, b, rfl, ?_⟩
          cases b with
          | false => exact ⟨_, _, rsi, usi, rfl, kk2, hr1', hu1, ul, by omega, hg⟩
          | true =>
            have hg : (match wayM (stepL z.cps.toList) (endsN z + i) with
              | some ws => if (ws.all fun p => decide (p < z.cps.size)) = true then (if ws = [] then none else ringsG z (stepL z.cps.toList) ((restL (endsN z) z.cps.size).drop (i + 1)) (rsi ++ [leastM (readS z.cps.toList ws)]) (crossM usi ws)) else none
              | none => none) = some rs' := hg
            split at hg
            rotate_left
            · cases hg
            rename_i ws hw
            split at hg
            rotate_left
            · cases hg
            rename_i hall
            split at hg
            · cases hg
            rename_i hne
            have wlt : ∀ p ∈ ws, p < z.cps.size := fun p hp => of_decide_eq_true (List.all_eq_true.mp hall p hp)
            have wl := wayM_len hw
            rw [stepL_len, hlen] at wl
            have w0 : 0 < ws.length := List.length_pos_iff.mpr hne
            have pbG2 : G pb = some (.tup (stepL z.cps.toList)) := kk2 _ _ pbG npr npu
            refine ⟨_, rfl, _, rfl, pb, _, endsN z + i, ws, rfl, .inl (.inl pbG2), bl, hw, fun q G1 sw hq qn => ?_⟩
            have nq : u0 ≠ q := fun e => by rw [← e, hu1] at qn; cases qn
            refine ⟨_, rfl, _, rfl, u0, q, usi, ws, rfl, sw _ _ hu1, .of hq, nq, fun p hp => by rw [ul]; exact wlt p hp, fun G2 kb2 hu2 => ?_⟩
            have hr2 : G2 r0 = some (.lst (rsi.map V.str)) := kb2 _ _ (sw _ _ hr1') (Ne.symm nru)
            refine ⟨_, rfl, .inl ⟨rfl, _, .of hr2⟩, _, rfl, _, rfl, z, q, ws, rfl, Nat.le_trans hz (by decide), .of (kb2 _ _ hq (Ne.symm nq)), by omega, wlt, fun G3 s3 => ?_⟩
            refine ⟨_, rfl, by rw [readS_len]; exact w0, by rw [readS_len]; omega, fun G4 s4 => ?_⟩
            have hr3 := s4 _ _ (s3 _ _ hr2)
            refine ⟨r0, _, _, rfl, rfl, hr3, ?_, ?_⟩
            · rw [List.length_map]
              exact Nat.lt_of_le_of_lt (show rsi.length ≤ 1000 by omega) (by decide)
            · refine ⟨_, _, rsi ++ [leastM (readS z.cps.toList ws)], crossM usi ws, rfl, fun c o e n1 n2 => ?_, ?_, ?_, ?_, ?_, hg⟩
              · rw [upd_ne n1]
                exact s4 _ _ (s3 _ _ (kb2 _ _ (sw _ _ (kk2 _ _ e n1 n2)) n2))
              · rw [upd_same, List.map_append]
                rfl
              · rw [upd_ne nru]
                exact s4 _ _ (s3 _ _ hu2)
              · rw [cross_len, ul]
              · rw [List.length_append, List.length_singleton]
                omega
      · rintro σ G1 ⟨v5, v6, rsi, usi, rfl, kk2, hr1', hu1', ul', rl1, hg'⟩
        have hgl2 : (restL (endsN z) z.cps.size).drop (((z.length : Nat) : Int) - Txt.count z "$").toNat = [] := List.drop_eq_nil_of_le (by rw [rl]; omega)
        rw [hgl2] at hg'
        have hg' := Option.some.inj hg'
        subst hg'
        have ht9 : G1 t0 = some (.lst (tsi.map V.str)) := kk2 _ _ (U0 _ _ ht1) ntr (Ne.symm nut)
        have sG1 : Same H G1 := fun c o e => by
          have n1 : c ≠ t0 := fun y => by rw [y, ht0] at e; cases e
          have n2 : c ≠ u0 := fun y => by rw [y, hu0] at e; cases e
          have n3 : c ≠ r0 := fun y => by rw [y, hr0] at e; cases e
          exact kk2 _ _ (U0 _ _ (kk _ _ (sH4 _ _ e) n1 n2)) n3 n2
        refine ⟨_, rfl, t0, _, rfl, .inl ⟨.of ht9, fun a za => ?_⟩⟩
        obtain ⟨L1, j1, W1, D1⟩ := alloc (o := .tup (tsi.map V.str)) za
        rw [j1]
        have kb : (rsi.map fun r => (V.str r, PyData.str r)).map (·.1) = rsi.map V.str := by rw [List.map_map]; rfl
        refine ⟨_, rfl, r0, rsi.map fun r => (V.str r, PyData.str r), rfl, by rw [kb]; exact .of (W1 _ _ hr1'), fun b hb => ?_, ?_, .inr fun d hd => ?_, fun b hb => ?_, fun p2 zp2 => ?_⟩
        · obtain ⟨r, _, rfl⟩ := List.mem_map.mp hb
          exact .str r
        · intro d hd d' hd'
          rw [List.map_map] at hd hd'
          obtain ⟨r, _, rfl⟩ := List.mem_map.mp hd
          obtain ⟨r', _, rfl⟩ := List.mem_map.mp hd'
          rfl
        · rw [List.map_map] at hd
          obtain ⟨r, _, rfl⟩ := List.mem_map.mp hd
          exact ⟨fun e => (by cases e), fun xs e => (by cases e)⟩
        · obtain ⟨r, _, rfl⟩ := List.mem_map.mp hb
          simp [PyData.depth]
        rw [sort_texts, hm2]
        obtain ⟨L2, j2, W2, D2⟩ := alloc (o := .lst (rs.map V.str)) zp2
        rw [j2]
        refine ⟨p2, _, rfl, .inl ⟨.of D2, fun b zb => ?_⟩⟩
        obtain ⟨L3, j3, W3, D3⟩ := alloc (o := .tup (rs.map V.str)) zb
        rw [j3]
        refine ⟨(by show 2 ≤ sizeLine; decide), fun p zp => ?_⟩
        obtain ⟨L4, j4, W4, D4⟩ := alloc (o := .tup [.ref a, .ref b]) zp
        rw [j4]
        exact k p a b L4 ((((sG1.trans W1).trans W2).trans W3).trans W4) D4 (((W2.trans W3).trans W4) _ _ D1) (W4 _ _ D3)
end
end T05

set_option Elab.async false
set_option linter.all false
set_option maxRecDepth 100000
set_option maxHeartbeats 4000000
namespace T05
open PySem L2 EK
abbrev sIsT : Stmt := top 22
abbrev sIsL : Stmt := top 23
abbrev sIsR : Stmt := top 24
def spIs (C : Addr) (g : List Str → List Str → Bool) : Sp := fun vs H Q E => ∃ x, vs = [x] ∧ Pl H x ∧ ((∃ z ts rs, x = .str z ∧ isR z = true ∧ z.cps.size ≤ 60 ∧ readM z = some (ts, rs) ∧ rs.length < 64 ∧ ∀ H', Same H H' → Q (.bl (g ts rs)) H') ∨ refused C H x E)
def gT (ts rs : List Str) : Bool := decide (ts.length = 1) && decide (rs.length = 0)
def gL (ts rs : List Str) : Bool := decide (rs.length = 0)
def gR (ts rs : List Str) : Bool := decide (ts.length = 0) && decide ((ddS rs).length = 1)
theorem int_eq (n : Nat) (m : Int) (k : Nat) (h : m = (k : Nat)) : decide (V.int (n : Nat) = V.int m) = decide (n = k) := by
  subst h
  by_cases e : n = k
  · subst e
    rw [decide_eq_true rfl, decide_eq_true rfl]
  · rw [decide_eq_false e, decide_eq_false]
    intro z
    injection z with z
    omega
section
variable {P : Program} {w : World} {K : PySem.W.Frag} {mg : Str → Option Value} {base : Heap} {C : Addr}
theorem scIsT : FnScope ["row", "texts", "rings"] ["row"] (defScope sIsT) := ⟨rfl, rfl, rfl, by decide +kernel, rfl, by decide +kernel, by decide +kernel⟩
theorem scIsL : FnScope ["row", "rings"] ["row"] (defScope sIsL) := ⟨rfl, rfl, rfl, by decide +kernel, rfl, by decide +kernel, by decide +kernel⟩
theorem scIsR : FnScope ["row", "texts", "rings"] ["row"] (defScope sIsR) := ⟨rfl, rfl, rfl, by decide +kernel, rfl, by decide +kernel, by decide +kernel⟩
theorem ok_isT {f f7 : Addr} {fd fd7 : FuncData} (F : Fun K "is_of_text" "is_of_text" sIsT f fd) (T : TxtC K mg) (G7 : FnOk P w K mg base (L2.CX P w) 5 f7 fd7 ["row"] (spRead C)) (g7 : mg "read_back" = some (.ref f7)) (k7 : PySem.W.keepIn K (.ref f7) = true) (b7 : Binds K fd7 ["row"] []) :
    FnOk P w K mg base (L2.CX P w) 6 f fd ["row"] (spIs C gT) := by
  refine F.okX scIsT (fun vs H Q E h => ?_) (fun cdv A outer s H vs Q E hr h => ?_)
  · obtain ⟨x, rfl, _⟩ := h
    rfl
  · obtain ⟨x, rfl, hp, k⟩ := h
    have nd := scIsT.nd
    have hr5 : Room 5 _ := hr
    refine ⟨_, (pss_cons (ps_asg (pe_call G7 hr5 rfl g7 k7 b7 .nil (passes_call (takes_of rfl rfl rfl rfl) fun _ _ _ _ h => h) (pa_cons (pv 0) pa_nil)) (pg_tup rfl (pgs_cons (pg_name (i := 1) nd rfl (Or.inl rfl)) (pgs_cons (pg_name (i := 2) nd rfl (Or.inl rfl)) pgs_nil))))
      (pss_one (ps_ret (pe_and (pe_cmpR op_eq (pe_callB call_len_seq (by rfl) T.len (by decide +kernel) (pa_cons (pv 1) pa_nil)) pe_int (nomark _)) (pe_one (pe_cmpR op_eq (pe_callB call_len_seq (by rfl) T.len (by decide +kernel) (pa_cons (pv 2) pa_nil)) pe_int (nomark _))))))), ?_⟩
    rcases k with ⟨z, ts, rs, rfl, hb, hz, hm, few, k⟩ | hbad
    rotate_left
    · exact ⟨_, rfl, x, rfl, hp, .inr hbad⟩
    refine ⟨_, rfl, _, rfl, hp, .inl ⟨z, ts, rs, rfl, hb, Nat.le_trans hz (by decide), hm, fun p a b H1 s1 h1 h2 h3 => ?_⟩⟩
    refine ⟨p, _, rfl, .of h1, rfl, _, _, rfl, _, _, rfl, rfl, ?_⟩
    refine ⟨_, rfl, a, _, rfl, .inr (.of h2), rfl, ?_⟩
    rw [List.length_map, int_eq _ 1 1 rfl]
    have k1 := k H1 s1
    unfold gT at k1
    refine ⟨_, rfl, ?_⟩
    by_cases e : ts.length = 1
    · rw [decide_eq_true e] at k1 ⊢
      refine ⟨_, rfl, b, _, rfl, .inr (.of h3), rfl, ?_⟩
      rw [List.length_map, int_eq _ 0 0 rfl]
      simpa using k1
    · rw [decide_eq_false e] at k1 ⊢
      exact k1
theorem ok_isL {f f7 : Addr} {fd fd7 : FuncData} (F : Fun K "is_of_list" "is_of_list" sIsL f fd) (T : TxtC K mg) (G7 : FnOk P w K mg base (L2.CX P w) 5 f7 fd7 ["row"] (spRead C)) (g7 : mg "read_back" = some (.ref f7)) (k7 : PySem.W.keepIn K (.ref f7) = true) (b7 : Binds K fd7 ["row"] []) :
    FnOk P w K mg base (L2.CX P w) 6 f fd ["row"] (spIs C gL) := by
  refine F.okX scIsL (fun vs H Q E h => ?_) (fun cdv A outer s H vs Q E hr h => ?_)
  · obtain ⟨x, rfl, _⟩ := h
    rfl
  · obtain ⟨x, rfl, hp, k⟩ := h
    have nd := scIsL.nd
    have hr5 : Room 5 _ := hr
    refine ⟨_, (pss_cons (ps_set (i := 1) nd rfl (Or.inl rfl) (pe_ix ix_tup (pe_call G7 hr5 rfl g7 k7 b7 .nil (passes_call (takes_of rfl rfl rfl rfl) fun _ _ _ _ h => h) (pa_cons (pv 0) pa_nil)) pe_int (fun _ _ => rfl)))
      (pss_one (ps_ret (pe_cmpR op_eq (pe_callB call_len_seq (by rfl) T.len (by decide +kernel) (pa_cons (pv 1) pa_nil)) pe_int (nomark _))))), ?_⟩
    rcases k with ⟨z, ts, rs, rfl, hb, hz, hm, few, k⟩ | hbad
    rotate_left
    · exact ⟨_, rfl, x, rfl, hp, .inr hbad⟩
    refine ⟨_, rfl, _, rfl, hp, .inl ⟨z, ts, rs, rfl, hb, Nat.le_trans hz (by decide), hm, fun p a b H1 s1 h1 h2 h3 => ?_⟩⟩
    refine ⟨p, _, 1, _, rfl, rfl, .of h1, rfl, ?_⟩
    refine ⟨_, rfl, b, _, rfl, .inr (.of h3), rfl, ?_⟩
    rw [List.length_map, int_eq _ 0 0 rfl]
    exact k H1 s1
theorem ok_isR {f f7 : Addr} {fd fd7 : FuncData} (F : Fun K "is_of_ring" "is_of_ring" sIsR f fd) (T : TxtC K mg) (hset : mg "set" = none) (G7 : FnOk P w K mg base (L2.CX P w) 5 f7 fd7 ["row"] (spRead C)) (g7 : mg "read_back" = some (.ref f7)) (k7 : PySem.W.keepIn K (.ref f7) = true) (b7 : Binds K fd7 ["row"] []) :
    FnOk P w K mg base (L2.CX P w) 6 f fd ["row"] (spIs C gR) := by
  refine F.okX scIsR (fun vs H Q E h => ?_) (fun cdv A outer s H vs Q E hr h => ?_)
  · obtain ⟨x, rfl, _⟩ := h
    rfl
  · obtain ⟨x, rfl, hp, k⟩ := h
    have nd := scIsR.nd
    have hr5 : Room 5 _ := hr
    refine ⟨_, (pss_cons (ps_asg (pe_call G7 hr5 rfl g7 k7 b7 .nil (passes_call (takes_of rfl rfl rfl rfl) fun _ _ _ _ h => h) (pa_cons (pv 0) pa_nil)) (pg_tup rfl (pgs_cons (pg_name (i := 1) nd rfl (Or.inl rfl)) (pgs_cons (pg_name (i := 2) nd rfl (Or.inl rfl)) pgs_nil))))
      (pss_one (ps_ret (pe_and (pe_cmpR op_eq (pe_callB call_len_seq (by rfl) T.len (by decide +kernel) (pa_cons (pv 1) pa_nil)) pe_int (nomark _)) (pe_one (pe_cmpR op_eq (pe_lenSetT rfl rfl T.len rfl hset (pv 2)) pe_int (nomark _))))))), ?_⟩
    rcases k with ⟨z, ts, rs, rfl, hb, hz, hm, few, k⟩ | hbad
    rotate_left
    · exact ⟨_, rfl, x, rfl, hp, .inr hbad⟩
    refine ⟨_, rfl, _, rfl, hp, .inl ⟨z, ts, rs, rfl, hb, Nat.le_trans hz (by decide), hm, fun p a b H1 s1 h1 h2 h3 => ?_⟩⟩
    refine ⟨p, _, rfl, .of h1, rfl, _, _, rfl, _, _, rfl, rfl, ?_⟩
    refine ⟨_, rfl, a, _, rfl, .inr (.of h2), rfl, ?_⟩
    rw [List.length_map, int_eq _ 0 0 rfl]
    have k1 := k H1 s1
    unfold gR at k1
    refine ⟨_, rfl, ?_⟩
    by_cases e : ts.length = 0
    · rw [decide_eq_true e] at k1 ⊢
      refine ⟨_, rfl, b, rs, rfl, .of h3, few, rfl, ?_⟩
      rw [int_eq _ 1 1 rfl]
      simpa using k1
    · rw [decide_eq_false e] at k1 ⊢
      exact k1
end
end T05

set_option Elab.async false
set_option linter.all false
set_option maxRecDepth 100000
set_option maxHeartbeats 4000000
namespace T05
open PySem L2 EK
abbrev sRR : Stmt := top 39
def resS (g : List Str → List Str → Bool) (z : Str) : Bool := match readM z with
  | some (ts, rs) => g ts rs
  | none => false
def okS (z : Str) : Bool := isR z && (decide (z.cps.size ≤ 60) && (match readM z with
  | some (_, rs) => decide (rs.length < 64)
  | none => false))
theorem okS_of (g : List Str → List Str → Bool) {z : Str} (h : okS z = true) : isR z = true ∧ z.cps.size ≤ 60 ∧ ∃ ts rs, readM z = some (ts, rs) ∧ rs.length < 64 ∧ g ts rs = resS g z := by
  unfold okS at h
  obtain ⟨h1, h⟩ := Bool.and_eq_true_iff.mp h
  obtain ⟨h2, h⟩ := Bool.and_eq_true_iff.mp h
  refine ⟨h1, of_decide_eq_true h2, ?_⟩
  cases e : readM z with
  | none => rw [e] at h; cases h
  | some p =>
    obtain ⟨ts, rs⟩ := p
    rw [e] at h
    exact ⟨ts, rs, rfl, of_decide_eq_true h, by unfold resS; rw [e]⟩
theorem same_ints {K : PySem.W.Frag} {H : Hp} {xs : List V} (h : xs.all flatV = true) : ∀ (i : Nat) x y, xs[i]? = some x → xs[i]? = some y → Sm K H 60 x y := fun i x y h1 h2 => by
  obtain rfl : x = y := Option.some.inj (h1.symm.trans h2)
  exact .rf x fun b z => by have q := List.all_eq_true.mp h x (List.mem_of_getElem? h1); rw [z] at q; cases q
def spRR : Sp := fun vs H Q _ => vs = [] ∧ ∀ H', Same H H' → Q (.bl true) H'
section
variable {P : Program} {w : World} {K : PySem.W.Frag} {mg : Str → Option Value} {base : Heap} {C : Addr}
theorem scRR : FnScope ["_law_of_text", "_law_of_list", "_law_of_ring", "_law_row", "_law_one_here"] [] (defScope sRR) := ⟨rfl, rfl, rfl, by decide +kernel, rfl, by decide +kernel, by decide +kernel⟩
theorem ok_rr {f : Addr} {fd : FuncData} {fX : Addr} {fdX : FuncData} {fY : Addr} {fdY : FuncData} {fZ : Addr} {fdZ : FuncData} (F : Fun K "_law_rows_right" "_law_rows_right" sRR f fd) (hint : mg "int" = none)
    (GX : FnOk P w K mg base (L2.CX P w) 6 fX fdX ["row"] (spIs C gT)) (gX : mg "is_of_text" = some (.ref fX)) (kX : PySem.W.keepIn K (.ref fX) = true) (bX : Binds K fdX ["row"] [])
    (GY : FnOk P w K mg base (L2.CX P w) 6 fY fdY ["row"] (spIs C gL)) (gY : mg "is_of_list" = some (.ref fY)) (kY : PySem.W.keepIn K (.ref fY) = true) (bY : Binds K fdY ["row"] [])
    (GZ : FnOk P w K mg base (L2.CX P w) 6 fZ fdZ ["row"] (spIs C gR)) (gZ : mg "is_of_ring" = some (.ref fZ)) (kZ : PySem.W.keepIn K (.ref fZ) = true) (bZ : Binds K fdZ ["row"] []) :
    FnOk P w K mg base CX0 7 f fd [] spRR := by
  refine F.ok scRR (fun vs H Q E h => ?_) (fun cdv A outer s H vs Q E hr h => ?_)
  · obtain ⟨rfl, _⟩ := h
    rfl
  · obtain ⟨rfl, k⟩ := h
    have nd := scRR.nd
    have hr6 : Room 6 _ := hr
    have hu : (A.deeper (PyProof.Rows.envOfC "_law_rows_right" (defScope sRR) s.heap.objs.size f cdv)).units + 64 < cLine := hr.units
    refine ⟨_, (pss_cons (ps_setLc (i := 0) (own := [("_law_row", 3)]) (g := gName 3) (tt := tYes) rfl nd rfl rfl (sw_true rfl rfl rfl (by decide +kernel)) (pi_list (pe_lst (pa_cons pe_str (pa_cons pe_str (pa_cons pe_str (pa_cons pe_str (pa_cons pe_str (pa_cons pe_str (pa_cons pe_str (pa_cons pe_str pa_nil)))))))))) (blkOk_by (N := ["_law_of_text", "_law_of_list", "_law_of_ring", "_law_row", "_law_one_here"]) (sc := defScope sRR) (by decide +kernel)) (fun _ _ _ _ _ => (pg_name (i := 3) nd rfl (Or.inl rfl))) (fun _ _ _ _ _ => pts_nil) (fun _ _ _ _ _ => (pe_call GX hr6 rfl gX kX bX .nil passL (pa_cons (pv 3) pa_nil))))
      (pss_cons (ps_setLc (i := 1) (own := [("_law_row", 3)]) (g := gName 3) (tt := tYes) rfl nd rfl rfl (sw_true rfl rfl rfl (by decide +kernel)) (pi_list (pe_lst (pa_cons pe_str (pa_cons pe_str (pa_cons pe_str (pa_cons pe_str (pa_cons pe_str (pa_cons pe_str (pa_cons pe_str (pa_cons pe_str pa_nil)))))))))) (blkOk_by (N := ["_law_of_text", "_law_of_list", "_law_of_ring", "_law_row", "_law_one_here"]) (sc := defScope sRR) (by decide +kernel)) (fun _ _ _ _ _ => (pg_name (i := 3) nd rfl (Or.inl rfl))) (fun _ _ _ _ _ => pts_nil) (fun _ _ _ _ _ => (pe_call GY hr6 rfl gY kY bY .nil passL (pa_cons (pv 3) pa_nil))))
      (pss_cons (ps_setLc (i := 2) (own := [("_law_row", 3)]) (g := gName 3) (tt := tYes) rfl nd rfl rfl (sw_true rfl rfl rfl (by decide +kernel)) (pi_list (pe_lst (pa_cons pe_str (pa_cons pe_str (pa_cons pe_str (pa_cons pe_str (pa_cons pe_str (pa_cons pe_str (pa_cons pe_str (pa_cons pe_str (pa_cons pe_str (pa_cons pe_str pa_nil)))))))))))) (blkOk_by (N := ["_law_of_text", "_law_of_list", "_law_of_ring", "_law_row", "_law_one_here"]) (sc := defScope sRR) (by decide +kernel)) (fun _ _ _ _ _ => (pg_name (i := 3) nd rfl (Or.inl rfl))) (fun _ _ _ _ _ => pts_nil) (fun _ _ _ _ _ => (pe_call GZ hr6 rfl gZ kZ bZ .nil passL (pa_cons (pv 3) pa_nil))))
      (pss_cons (ps_if (pt_cmpR (op_neS hu) (pe_lc (own := [("_law_one_here", 4)]) (g := gName 4) (tt := tYes) rfl nd (pi_list (pv 0)) (blkOk_by (N := ["_law_of_text", "_law_of_list", "_law_of_ring", "_law_row", "_law_one_here"]) (sc := defScope sRR) (by decide +kernel)) (fun _ _ _ _ _ => (pg_name (i := 4) nd rfl (Or.inl rfl))) (fun _ _ _ _ _ => pts_nil) (fun _ _ _ _ _ => (pe_callTy call_int1 (by rfl) hint (by decide +kernel) (pa_cons (pv 4) pa_nil)))) (pe_lst (pa_cons pe_int (pa_cons pe_int (pa_cons pe_int (pa_cons pe_int (pa_cons pe_int (pa_cons pe_int (pa_cons pe_int (pa_cons pe_int pa_nil))))))))) (nomark _)) (pss_one (ps_ret pe_bl)) pss_nil)
      (pss_cons (ps_if (pt_cmpR (op_neS hu) (pe_lc (own := [("_law_one_here", 4)]) (g := gName 4) (tt := tYes) rfl nd (pi_list (pv 1)) (blkOk_by (N := ["_law_of_text", "_law_of_list", "_law_of_ring", "_law_row", "_law_one_here"]) (sc := defScope sRR) (by decide +kernel)) (fun _ _ _ _ _ => (pg_name (i := 4) nd rfl (Or.inl rfl))) (fun _ _ _ _ _ => pts_nil) (fun _ _ _ _ _ => (pe_callTy call_int1 (by rfl) hint (by decide +kernel) (pa_cons (pv 4) pa_nil)))) (pe_lst (pa_cons pe_int (pa_cons pe_int (pa_cons pe_int (pa_cons pe_int (pa_cons pe_int (pa_cons pe_int (pa_cons pe_int (pa_cons pe_int pa_nil))))))))) (nomark _)) (pss_one (ps_ret pe_bl)) pss_nil)
      (pss_one (ps_ret (pe_cmpR (op_eqS hu) (pe_lc (own := [("_law_one_here", 4)]) (g := gName 4) (tt := tYes) rfl nd (pi_list (pv 2)) (blkOk_by (N := ["_law_of_text", "_law_of_list", "_law_of_ring", "_law_row", "_law_one_here"]) (sc := defScope sRR) (by decide +kernel)) (fun _ _ _ _ _ => (pg_name (i := 4) nd rfl (Or.inl rfl))) (fun _ _ _ _ _ => pts_nil) (fun _ _ _ _ _ => (pe_callTy call_int1 (by rfl) hint (by decide +kernel) (pa_cons (pv 4) pa_nil)))) (pe_lst (pa_cons pe_int (pa_cons pe_int (pa_cons pe_int (pa_cons pe_int (pa_cons pe_int (pa_cons pe_int (pa_cons pe_int (pa_cons pe_int (pa_cons pe_int (pa_cons pe_int pa_nil))))))))))) (nomark _))))))))), ?_⟩
    refine ⟨(by show 8 ≤ sizeLine; decide), fun p1 z1 => ?_⟩
    obtain ⟨A1, e1, S1, B1⟩ := alloc (o := .lst [.str "$", .str "a$", .str "$a", .str "b$a", .str "a$b", .str "$$", .str "ab", .str ""]) z1
    rw [e1]
    have B1 : A1 p1 = some (.lst ([("$" : Str), ("a$" : Str), ("$a" : Str), ("b$a" : Str), ("a$b" : Str), ("$$" : Str), ("ab" : Str), ("" : Str)].map V.str)) := B1
    refine ⟨p1, rfl, ⟨_, .of B1⟩, fun D1 hD1 => lc_list (K := K) (a := p1) (xs := [("$" : Str), ("a$" : Str), ("$a" : Str), ("b$a" : Str), ("a$b" : Str), ("$$" : Str), ("ab" : Str), ("" : Str)].map V.str) (fun i H' => Same A1 H' ∧ H' D1 = some (.lst ((([("$" : Str), ("a$" : Str), ("$a" : Str), ("b$a" : Str), ("a$b" : Str), ("$$" : Str), ("ab" : Str), ("" : Str)].take i).map (resS gT)).map V.bl))) ⟨fun b o e => by rw [upd_ne (ne_of_none e hD1)]; exact e, upd_same⟩ (fun i H' _ h => .of (h.1 _ _ B1)) ?_ ?_⟩
    · rintro i y H1 hy ⟨s1, d1⟩
      rw [List.getElem?_map] at hy
      obtain ⟨z, hz, rfl⟩ := Option.map_eq_some_iff.mp hy
      have hi : i < 8 := (List.getElem?_eq_some_iff.mp hz).1
      obtain ⟨o1, o2, ts, rs, o3, o4, o5⟩ := okS_of gT (List.all_eq_true.mp (show [("$" : Str), ("a$" : Str), ("$a" : Str), ("b$a" : Str), ("a$b" : Str), ("$$" : Str), ("ab" : Str), ("" : Str)].all okS = true by decide +kernel) z (List.mem_of_getElem? hz))
      refine ⟨rfl, _, rfl, _, rfl, .str z, .inl ⟨z, ts, rs, rfl, o1, o2, o3, o4, fun H2 s2 => ⟨_, s2 _ _ d1, ?_, fun b o e => ?_, ?_⟩⟩⟩
      · rw [List.length_map, List.length_map, List.length_take]
        exact Nat.lt_of_le_of_lt (Nat.min_le_left _ _) (Nat.lt_trans hi (by decide))
      · rw [upd_ne (ne_of_none e hD1)]
        exact s2 _ _ (s1 _ _ e)
      · rw [upd_same, List.take_succ, hz, List.map_append, List.map_append, o5]
        rfl
    rintro G1 ⟨sG1, d1⟩
    rw [List.length_map, List.take_length] at d1
    have v1 : [("$" : Str), ("a$" : Str), ("$a" : Str), ("b$a" : Str), ("a$b" : Str), ("$$" : Str), ("ab" : Str), ("" : Str)].map (resS gT) = [true, true, false, true, false, false, false, false] := by decide +kernel
    rw [v1] at d1
    refine ⟨(by show 8 ≤ sizeLine; decide), fun p2 z2 => ?_⟩
    obtain ⟨A2, e2, S2, B2⟩ := alloc (o := .lst [.str "", .str "$", .str "$$", .str "a$$", .str "$a$", .str "$$a", .str "a", .str "b$a"]) z2
    rw [e2]
    have B2 : A2 p2 = some (.lst ([("" : Str), ("$" : Str), ("$$" : Str), ("a$$" : Str), ("$a$" : Str), ("$$a" : Str), ("a" : Str), ("b$a" : Str)].map V.str)) := B2
    refine ⟨p2, rfl, ⟨_, .of B2⟩, fun D2 hD2 => lc_list (K := K) (a := p2) (xs := [("" : Str), ("$" : Str), ("$$" : Str), ("a$$" : Str), ("$a$" : Str), ("$$a" : Str), ("a" : Str), ("b$a" : Str)].map V.str) (fun i H' => Same A2 H' ∧ H' D2 = some (.lst ((([("" : Str), ("$" : Str), ("$$" : Str), ("a$$" : Str), ("$a$" : Str), ("$$a" : Str), ("a" : Str), ("b$a" : Str)].take i).map (resS gL)).map V.bl))) ⟨fun b o e => by rw [upd_ne (ne_of_none e hD2)]; exact e, upd_same⟩ (fun i H' _ h => .of (h.1 _ _ B2)) ?_ ?_⟩
    · rintro i y H1 hy ⟨s1, d1⟩
      rw [List.getElem?_map] at hy
      obtain ⟨z, hz, rfl⟩ := Option.map_eq_some_iff.mp hy
      have hi : i < 8 := (List.getElem?_eq_some_iff.mp hz).1
      obtain ⟨o1, o2, ts, rs, o3, o4, o5⟩ := okS_of gL (List.all_eq_true.mp (show [("" : Str), ("$" : Str), ("$$" : Str), ("a$$" : Str), ("$a$" : Str), ("$$a" : Str), ("a" : Str), ("b$a" : Str)].all okS = true by decide +kernel) z (List.mem_of_getElem? hz))
      refine ⟨rfl, _, rfl, _, rfl, .str z, .inl ⟨z, ts, rs, rfl, o1, o2, o3, o4, fun H2 s2 => ⟨_, s2 _ _ d1, ?_, fun b o e => ?_, ?_⟩⟩⟩
      · rw [List.length_map, List.length_map, List.length_take]
        exact Nat.lt_of_le_of_lt (Nat.min_le_left _ _) (Nat.lt_trans hi (by decide))
      · rw [upd_ne (ne_of_none e hD2)]
        exact s2 _ _ (s1 _ _ e)
      · rw [upd_same, List.take_succ, hz, List.map_append, List.map_append, o5]
        rfl
    rintro G2 ⟨sG2, d2⟩
    rw [List.length_map, List.take_length] at d2
    have v2 : [("" : Str), ("$" : Str), ("$$" : Str), ("a$$" : Str), ("$a$" : Str), ("$$a" : Str), ("a" : Str), ("b$a" : Str)].map (resS gL) = [true, true, true, true, true, false, false, true] := by decide +kernel
    rw [v2] at d2
    refine ⟨(by show 10 ≤ sizeLine; decide), fun p3 z3 => ?_⟩
    obtain ⟨A3, e3, S3, B3⟩ := alloc (o := .lst [.str "a", .str "aa", .str "ba", .str "ab", .str "bbaa", .str "baba", .str "", .str "$", .str "cba", .str "bca"]) z3
    rw [e3]
    have B3 : A3 p3 = some (.lst ([("a" : Str), ("aa" : Str), ("ba" : Str), ("ab" : Str), ("bbaa" : Str), ("baba" : Str), ("" : Str), ("$" : Str), ("cba" : Str), ("bca" : Str)].map V.str)) := B3
    refine ⟨p3, rfl, ⟨_, .of B3⟩, fun D3 hD3 => lc_list (K := K) (a := p3) (xs := [("a" : Str), ("aa" : Str), ("ba" : Str), ("ab" : Str), ("bbaa" : Str), ("baba" : Str), ("" : Str), ("$" : Str), ("cba" : Str), ("bca" : Str)].map V.str) (fun i H' => Same A3 H' ∧ H' D3 = some (.lst ((([("a" : Str), ("aa" : Str), ("ba" : Str), ("ab" : Str), ("bbaa" : Str), ("baba" : Str), ("" : Str), ("$" : Str), ("cba" : Str), ("bca" : Str)].take i).map (resS gR)).map V.bl))) ⟨fun b o e => by rw [upd_ne (ne_of_none e hD3)]; exact e, upd_same⟩ (fun i H' _ h => .of (h.1 _ _ B3)) ?_ ?_⟩
    · rintro i y H1 hy ⟨s1, d1⟩
      rw [List.getElem?_map] at hy
      obtain ⟨z, hz, rfl⟩ := Option.map_eq_some_iff.mp hy
      have hi : i < 10 := (List.getElem?_eq_some_iff.mp hz).1
      obtain ⟨o1, o2, ts, rs, o3, o4, o5⟩ := okS_of gR (List.all_eq_true.mp (show [("a" : Str), ("aa" : Str), ("ba" : Str), ("ab" : Str), ("bbaa" : Str), ("baba" : Str), ("" : Str), ("$" : Str), ("cba" : Str), ("bca" : Str)].all okS = true by decide +kernel) z (List.mem_of_getElem? hz))
      refine ⟨rfl, _, rfl, _, rfl, .str z, .inl ⟨z, ts, rs, rfl, o1, o2, o3, o4, fun H2 s2 => ⟨_, s2 _ _ d1, ?_, fun b o e => ?_, ?_⟩⟩⟩
      · rw [List.length_map, List.length_map, List.length_take]
        exact Nat.lt_of_le_of_lt (Nat.min_le_left _ _) (Nat.lt_trans hi (by decide))
      · rw [upd_ne (ne_of_none e hD3)]
        exact s2 _ _ (s1 _ _ e)
      · rw [upd_same, List.take_succ, hz, List.map_append, List.map_append, o5]
        rfl
    rintro G3 ⟨sG3, d3⟩
    rw [List.length_map, List.take_length] at d3
    have v3 : [("a" : Str), ("aa" : Str), ("ba" : Str), ("ab" : Str), ("bbaa" : Str), ("baba" : Str), ("" : Str), ("$" : Str), ("cba" : Str), ("bca" : Str)].map (resS gR) = [true, true, true, false, true, true, false, false, false, true] := by decide +kernel
    rw [v3] at d3
    have t4 : Same G1 G3 := ((S2.trans sG2).trans S3).trans sG3
    refine ⟨_, rfl, D1, rfl, ⟨_, .of (t4 _ _ d1)⟩, fun E4 hE4 => lc_list (K := K) (a := D1) (xs := [true, true, false, true, false, false, false, false].map V.bl) (fun i H' => Same G3 H' ∧ H' E4 = some (.lst (([true, true, false, true, false, false, false, false].take i).map fun b => V.int (if b = true then 1 else 0)))) ⟨fun b o e => by rw [upd_ne (ne_of_none e hE4)]; exact e, upd_same⟩ (fun i H' _ h => .of (h.1 _ _ (t4 _ _ d1))) ?_ ?_⟩
    · rintro i y H1 hy ⟨s1, d1⟩
      rw [List.getElem?_map] at hy
      obtain ⟨b, hb, rfl⟩ := Option.map_eq_some_iff.mp hy
      have hi : i < 8 := (List.getElem?_eq_some_iff.mp hb).1
      refine ⟨rfl, _, rfl, .inr ⟨b, rfl, _, d1, ?_, fun c o e => ?_, ?_⟩⟩
      · rw [List.length_map, List.length_take]
        exact Nat.lt_of_le_of_lt (Nat.min_le_left _ _) (Nat.lt_trans hi (by decide))
      · rw [upd_ne (ne_of_none e hE4)]
        exact s1 _ _ e
      · rw [upd_same, List.take_succ, hb, List.map_append]
        rfl
    rintro I4 ⟨sI4, c4⟩
    have c4 : I4 E4 = some (.lst [.int 1, .int 1, .int 0, .int 1, .int 0, .int 0, .int 0, .int 0]) := c4
    refine ⟨(by show 8 ≤ sizeLine; decide), fun m4 y4 => ?_⟩
    obtain ⟨J4, j4, U4, W4⟩ := alloc (o := .lst [.int 1, .int 1, .int 0, .int 1, .int 0, .int 0, .int 0, .int 0]) y4
    rw [j4]
    refine ⟨.ls (.of (U4 _ _ c4)) (.of W4) rfl (same_ints (by decide)), _, rfl, ?_⟩
    have t5 : Same G2 J4 := ((S3.trans sG3).trans sI4).trans U4
    refine ⟨_, rfl, D2, rfl, ⟨_, .of (t5 _ _ d2)⟩, fun E5 hE5 => lc_list (K := K) (a := D2) (xs := [true, true, true, true, true, false, false, true].map V.bl) (fun i H' => Same J4 H' ∧ H' E5 = some (.lst (([true, true, true, true, true, false, false, true].take i).map fun b => V.int (if b = true then 1 else 0)))) ⟨fun b o e => by rw [upd_ne (ne_of_none e hE5)]; exact e, upd_same⟩ (fun i H' _ h => .of (h.1 _ _ (t5 _ _ d2))) ?_ ?_⟩
    · rintro i y H1 hy ⟨s1, d1⟩
      rw [List.getElem?_map] at hy
      obtain ⟨b, hb, rfl⟩ := Option.map_eq_some_iff.mp hy
      have hi : i < 8 := (List.getElem?_eq_some_iff.mp hb).1
      refine ⟨rfl, _, rfl, .inr ⟨b, rfl, _, d1, ?_, fun c o e => ?_, ?_⟩⟩
      · rw [List.length_map, List.length_take]
        exact Nat.lt_of_le_of_lt (Nat.min_le_left _ _) (Nat.lt_trans hi (by decide))
      · rw [upd_ne (ne_of_none e hE5)]
        exact s1 _ _ e
      · rw [upd_same, List.take_succ, hb, List.map_append]
        rfl
    rintro I5 ⟨sI5, c5⟩
    have c5 : I5 E5 = some (.lst [.int 1, .int 1, .int 1, .int 1, .int 1, .int 0, .int 0, .int 1]) := c5
    refine ⟨(by show 8 ≤ sizeLine; decide), fun m5 y5 => ?_⟩
    obtain ⟨J5, j5, U5, W5⟩ := alloc (o := .lst [.int 1, .int 1, .int 1, .int 1, .int 1, .int 0, .int 0, .int 1]) y5
    rw [j5]
    refine ⟨.ls (.of (U5 _ _ c5)) (.of W5) rfl (same_ints (by decide)), _, rfl, ?_⟩
    have t6 : Same G3 J5 := ((sI4.trans U4).trans sI5).trans U5
    refine ⟨_, rfl, D3, rfl, ⟨_, .of (t6 _ _ d3)⟩, fun E6 hE6 => lc_list (K := K) (a := D3) (xs := [true, true, true, false, true, true, false, false, false, true].map V.bl) (fun i H' => Same J5 H' ∧ H' E6 = some (.lst (([true, true, true, false, true, true, false, false, false, true].take i).map fun b => V.int (if b = true then 1 else 0)))) ⟨fun b o e => by rw [upd_ne (ne_of_none e hE6)]; exact e, upd_same⟩ (fun i H' _ h => .of (h.1 _ _ (t6 _ _ d3))) ?_ ?_⟩
    · rintro i y H1 hy ⟨s1, d1⟩
      rw [List.getElem?_map] at hy
      obtain ⟨b, hb, rfl⟩ := Option.map_eq_some_iff.mp hy
      have hi : i < 10 := (List.getElem?_eq_some_iff.mp hb).1
      refine ⟨rfl, _, rfl, .inr ⟨b, rfl, _, d1, ?_, fun c o e => ?_, ?_⟩⟩
      · rw [List.length_map, List.length_take]
        exact Nat.lt_of_le_of_lt (Nat.min_le_left _ _) (Nat.lt_trans hi (by decide))
      · rw [upd_ne (ne_of_none e hE6)]
        exact s1 _ _ e
      · rw [upd_same, List.take_succ, hb, List.map_append]
        rfl
    rintro I6 ⟨sI6, c6⟩
    have c6 : I6 E6 = some (.lst [.int 1, .int 1, .int 1, .int 0, .int 1, .int 1, .int 0, .int 0, .int 0, .int 1]) := c6
    refine ⟨(by show 10 ≤ sizeLine; decide), fun m6 y6 => ?_⟩
    obtain ⟨J6, j6, U6, W6⟩ := alloc (o := .lst [.int 1, .int 1, .int 1, .int 0, .int 1, .int 1, .int 0, .int 0, .int 0, .int 1]) y6
    rw [j6]
    refine ⟨.ls (.of (U6 _ _ c6)) (.of W6) rfl (same_ints (by decide)), ?_⟩
    exact k J6 (((((((((S1.trans sG1).trans S2).trans sG2).trans S3).trans sG3).trans sI4).trans U4).trans (sI5.trans U5)).trans (sI6.trans U6))
end
end T05

set_option Elab.async false
set_option linter.all false
set_option maxRecDepth 100000
set_option maxHeartbeats 4000000
namespace T05
open PySem L2 EK
abbrev sRowOf : Stmt := top 16
abbrev sRowL : Stmt := top 17
abbrev sRowR : Stmt := top 18
abbrev sRowA : Stmt := top 19
def isW (z : Str) : Bool := isT z && decide (0 < z.cps.size)
theorem Pl.isTup {K : PySem.W.Frag} {H : Hp} {x : V} (h : Pl H x) (n : ∀ a, x = .ref a → ∀ xs, H a ≠ some (.tup xs)) : ∃ t, TyX K H x t ∧ PySem.W.kitOne K t (.type "tuple") = some false := by
  cases h with
  | non => exact ⟨_, .base .non, kit_ty (by decide +kernel)⟩
  | int i => exact ⟨_, .base (.int i), kit_ty (by decide +kernel)⟩
  | str z => exact ⟨_, .base (.str z), kit_ty (by decide +kernel)⟩
  | bl b => exact ⟨_, .base (.bl b), kit_ty (by decide +kernel)⟩
  | tup e => exact absurd e (n _ rfl _)
  | lst e => exact ⟨_, .base (.lst e), kit_ty (by decide +kernel)⟩
  | dct e => exact ⟨_, .base (.dK e), kit_ty (by decide +kernel)⟩
def spWhat (g : Str → Bool) : Sp := fun vs H Q _ => ∃ x, vs = [x] ∧ Pl H x ∧ ((∃ z, x = .str z ∧ z.cps.size ≤ 100000 ∧ ∀ H', Same H H' → Q (.bl (g z)) H') ∨ (isStrV x = false ∧ Q (.bl false) H))
def goodT (g : Str → Bool) (x : V) : Prop := ∃ z, x = .str z ∧ z.cps.size ≤ 100000 ∧ g z = true
def badT (g : Str → Bool) (x : V) : Prop := isStrV x = false ∨ ∃ z, x = .str z ∧ z.cps.size ≤ 100000 ∧ g z = false
def noE (C : Addr) (H : Hp) (x : V) (E : XK) : Prop := ∀ H' d, Same H H' → H' d = none → E (.ref C) (some d) (upd H' d (.xd [("text", x)]))
def spCk (C : Addr) (g : Str → Bool) : Sp := fun vs H Q E => ∃ x, vs = [x] ∧ Pl H x ∧ ((∃ z, x = .str z ∧ z.cps.size ≤ 100000 ∧ g z = true ∧ ∀ H', Same H H' → Q .non H') ∨ (badT g x ∧ noE C H x E))
/-- x is no tuple; or a tuple with one thing in it that is none -/
def badTs (C : Addr) (g : Str → Bool) (H : Hp) (x : V) (E : XK) : Prop := (Pl H x ∧ (∀ a, x = .ref a → ∀ xs, H a ≠ some (.tup xs)) ∧ noE C H x E) ∨
  ∃ t xs, x = .ref t ∧ H t = some (.tup xs) ∧ ∃ (ib : Nat) (y : V), xs[ib]? = some y ∧ Pl H y ∧ badT g y ∧ (∀ j, j < ib → ∀ y', xs[j]? = some y' → goodT g y') ∧ noE C H y E
def spCks (C : Addr) (g : Str → Bool) : Sp := fun vs H Q E => ∃ x, vs = [x] ∧ ((Pl H x ∧ (∀ a, x = .ref a → ∀ xs, H a ≠ some (.tup xs)) ∧ noE C H x E) ∨ ∃ t xs, x = .ref t ∧ H t = some (.tup xs) ∧ (((∀ y ∈ xs, goodT g y) ∧ ∀ H', Same H H' → Q .non H') ∨
  ∃ (ib : Nat) (y : V), xs[ib]? = some y ∧ Pl H y ∧ badT g y ∧ (∀ j, j < ib → ∀ y', xs[j]? = some y' → goodT g y') ∧ noE C H y E))
theorem cks_bad {C : Addr} {g : Str → Bool} {H : Hp} {x : V} {E : XK} {Q : VK} (h : badTs C g H x E) : spCks C g [x] H Q E := by
  rcases h with h | ⟨t, xs, e, ht, h⟩
  · exact ⟨x, rfl, .inl h⟩
  · exact ⟨x, rfl, .inr ⟨t, xs, e, ht, .inr h⟩⟩
section
variable {P : Program} {w : World} {K : PySem.W.Frag} {mg : Str → Option Value} {base : Heap} {C iC : Addr}
theorem scIsText : FnScope ["value", "sign"] ["value"] (defScope sIsText) := ⟨rfl, rfl, rfl, by decide +kernel, rfl, by decide +kernel, by decide +kernel⟩
theorem scIsWord : FnScope ["value"] ["value"] (defScope sIsWord) := ⟨rfl, rfl, rfl, by decide +kernel, rfl, by decide +kernel, by decide +kernel⟩
theorem ok_isText {f : Addr} {fd : FuncData} (F : Fun K "is_text" "is_text" sIsText f fd) (T : TxtC K mg) : FnOk P w K mg base CX0 2 f fd ["value"] (spWhat isT) := by
  refine F.ok scIsText (fun vs H Q E h => ?_) (fun cdv A outer s H vs Q E hr h => ?_)
  · obtain ⟨x, rfl, _⟩ := h
    rfl
  · obtain ⟨x, rfl, hp, k⟩ := h
    have nd := scIsText.nd
    refine ⟨_, (pss_one (ps_ret (pe_and (pe_callB call_isi (by rfl) T.isinstance (by decide +kernel) (pa_cons (pv 0) (pa_cons (pe_bltn (v := .ty "str") rfl T.str (by decide +kernel) rfl) pa_nil))) (pe_one (pe_callB (cr_all rfl) (by rfl) T.all (by decide +kernel) (pa_cons (pe_lc (own := [("sign", 1)]) (g := gName 1) (tt := tYes) rfl nd (pi_str (pv 0)) (blkOk_by (N := ["value", "sign"]) (sc := defScope sIsText) (by decide +kernel)) (fun _ _ _ _ _ => (pg_name (i := 1) nd rfl (Or.inl rfl))) (fun _ _ _ _ _ => pts_nil) (fun _ _ _ _ _ => (pe_cmpR op_in_sign (pv 1) (C8.pe_gc (by rfl) T.letters) (by rfl)))) pa_nil)))))), ?_⟩
    obtain ⟨t, ht, hk⟩ := hp.isStr (K := K)
    rcases k with ⟨z, rfl, hz, k⟩ | ⟨hs, k⟩
    · refine ⟨_, rfl, _, _, _, _, _, rfl, .ty _, ht, hk, _, rfl, _, rfl, z, rfl, fun D hD => lc_it (walk_str (z := z)) (fun i H' => Same H H' ∧ H' D = some (.lst (((z.cps.toList.take i).map fun c => decide (c ∈ letS.cps.toList)).map V.bl))) ⟨fun b o e => by rw [upd_ne (ne_of_none e hD)]; exact e, upd_same⟩ (fun _ _ _ _ => trivial) ?_ ?_⟩
      · rintro i y H1 H2 hi ⟨s1, d1⟩ ⟨rfl, c, hc, rfl⟩
        have hc' : z.cps.toList[i]? = some c := by rw [Array.getElem?_toList]; exact hc
        refine ⟨rfl, ?_⟩
        refine ⟨_, rfl, c, _, rfl, rfl, _, d1, ?_, fun b o e => ?_, ?_⟩
        · rw [List.length_map, List.length_map, List.length_take]
          have hl : z.cps.toList.length = z.cps.size := Array.length_toList
          have : i < 100000 := by omega
          exact Nat.lt_of_le_of_lt (Nat.min_le_left _ _) (Nat.lt_trans this (by decide))
        · rw [upd_ne (ne_of_none e hD)]
          exact s1 _ _ e
        · rw [upd_same, List.take_succ, hc', List.map_append, List.map_append]
          rfl
      · rintro H1 ⟨s1, d1⟩
        rw [← Array.length_toList, List.take_length] at d1
        refine ⟨D, _, rfl, .of d1, ?_⟩
        have e : ((z.cps.toList.map fun c => decide (c ∈ letS.cps.toList)).all id) = isT z := by
          unfold isT
          rw [List.all_map]
          rfl
        rw [e]
        exact k H1 s1
    · rw [hs] at hk
      exact ⟨_, rfl, _, _, _, _, _, rfl, .ty _, ht, hk, _, rfl, k⟩
theorem ok_isText1 {f : Addr} {fd : FuncData} (F : Fun K "is_text" "is_text" sIsText f fd) (T : TxtC K mg) : FnOk P w K mg base CX0 1 f fd ["value"] (spWhat isT) := by
  refine F.ok scIsText (fun vs H Q E h => ?_) (fun cdv A outer s H vs Q E hr h => ?_)
  · obtain ⟨x, rfl, _⟩ := h
    rfl
  · obtain ⟨x, rfl, hp, k⟩ := h
    have nd := scIsText.nd
    refine ⟨_, (pss_one (ps_ret (pe_and (pe_callB call_isi (by rfl) T.isinstance (by decide +kernel) (pa_cons (pv 0) (pa_cons (pe_bltn (v := .ty "str") rfl T.str (by decide +kernel) rfl) pa_nil))) (pe_one (pe_callB (cr_all rfl) (by rfl) T.all (by decide +kernel) (pa_cons (pe_lc (own := [("sign", 1)]) (g := gName 1) (tt := tYes) rfl nd (pi_str (pv 0)) (blkOk_by (N := ["value", "sign"]) (sc := defScope sIsText) (by decide +kernel)) (fun _ _ _ _ _ => (pg_name (i := 1) nd rfl (Or.inl rfl))) (fun _ _ _ _ _ => pts_nil) (fun _ _ _ _ _ => (pe_cmpR op_in_sign (pv 1) (C8.pe_gc (by rfl) T.letters) (by rfl)))) pa_nil)))))), ?_⟩
    obtain ⟨t, ht, hk⟩ := hp.isStr (K := K)
    rcases k with ⟨z, rfl, hz, k⟩ | ⟨hs, k⟩
    · refine ⟨_, rfl, _, _, _, _, _, rfl, .ty _, ht, hk, _, rfl, _, rfl, z, rfl, fun D hD => lc_it (walk_str (z := z)) (fun i H' => Same H H' ∧ H' D = some (.lst (((z.cps.toList.take i).map fun c => decide (c ∈ letS.cps.toList)).map V.bl))) ⟨fun b o e => by rw [upd_ne (ne_of_none e hD)]; exact e, upd_same⟩ (fun _ _ _ _ => trivial) ?_ ?_⟩
      · rintro i y H1 H2 hi ⟨s1, d1⟩ ⟨rfl, c, hc, rfl⟩
        have hc' : z.cps.toList[i]? = some c := by rw [Array.getElem?_toList]; exact hc
        refine ⟨rfl, ?_⟩
        refine ⟨_, rfl, c, _, rfl, rfl, _, d1, ?_, fun b o e => ?_, ?_⟩
        · rw [List.length_map, List.length_map, List.length_take]
          have hl : z.cps.toList.length = z.cps.size := Array.length_toList
          have : i < 100000 := by omega
          exact Nat.lt_of_le_of_lt (Nat.min_le_left _ _) (Nat.lt_trans this (by decide))
        · rw [upd_ne (ne_of_none e hD)]
          exact s1 _ _ e
        · rw [upd_same, List.take_succ, hc', List.map_append, List.map_append]
          rfl
      · rintro H1 ⟨s1, d1⟩
        rw [← Array.length_toList, List.take_length] at d1
        refine ⟨D, _, rfl, .of d1, ?_⟩
        have e : ((z.cps.toList.map fun c => decide (c ∈ letS.cps.toList)).all id) = isT z := by
          unfold isT
          rw [List.all_map]
          rfl
        rw [e]
        exact k H1 s1
    · rw [hs] at hk
      exact ⟨_, rfl, _, _, _, _, _, rfl, .ty _, ht, hk, _, rfl, k⟩
theorem ok_isWord {f fT : Addr} {fd fdT : FuncData} (F : Fun K "is_word" "is_word" sIsWord f fd) (T : TxtC K mg) (GT : FnOk P w K mg base CX0 1 fT fdT ["value"] (spWhat isT)) (gT : mg "is_text" = some (.ref fT)) (kT : PySem.W.keepIn K (.ref fT) = true) (bT : Binds K fdT ["value"] []) :
    FnOk P w K mg base CX0 2 f fd ["value"] (spWhat isW) := by
  refine F.ok scIsWord (fun vs H Q E h => ?_) (fun cdv A outer s H vs Q E hr h => ?_)
  · obtain ⟨x, rfl, _⟩ := h
    rfl
  · obtain ⟨x, rfl, hp, k⟩ := h
    have nd := scIsWord.nd
    have hr1 : Room 1 _ := hr
    refine ⟨_, (pss_one (ps_ret (pe_and (pe_call GT hr1 rfl gT kT bT .nil pass0 (pa_cons (pv 0) pa_nil)) (pe_one (pe_cmpR op_gt (pe_callB call_len_str (by rfl) T.len (by decide +kernel) (pa_cons (pv 0) pa_nil)) pe_int (nomark _)))))), ?_⟩
    rcases k with ⟨z, rfl, hz, k⟩ | ⟨hs, k⟩
    · refine ⟨_, rfl, _, rfl, hp, .inl ⟨z, rfl, hz, fun H1 s1 => ⟨_, rfl, ?_⟩⟩⟩
      have k1 := k H1 s1
      unfold isW at k1
      by_cases hT : isT z = true
      · rw [hT] at k1 ⊢
        refine ⟨_, rfl, z, rfl, Nat.le_trans hz (by decide), _, _, rfl, rfl, ?_⟩
        have e : decide ((0 : Int) < ((z.length : Nat) : Int)) = decide (0 < z.cps.size) := by
          have zl : (z.length : Nat) = z.cps.size := rfl
          by_cases h : 0 < z.cps.size
          · rw [decide_eq_true h, decide_eq_true (by omega)]
          · rw [decide_eq_false h, decide_eq_false (by omega)]
        show Q (.bl (decide ((0 : Int) < ((z.length : Nat) : Int)))) H1
        rw [e]
        simpa using k1
      · rw [Bool.not_eq_true] at hT
        rw [hT] at k1 ⊢
        exact k1
    · exact ⟨_, rfl, _, rfl, hp, .inr ⟨hs, _, rfl, k⟩⟩
theorem scCkText : FnScope ["text"] ["text"] (defScope sCkText) := ⟨rfl, rfl, rfl, by decide +kernel, rfl, by decide +kernel, by decide +kernel⟩
theorem ok_CkText {f fU : Addr} {fd fdU : FuncData} (F : Fun K "check_text" "check_text" sCkText f fd) (TX : ErrTxt P K mg "NoText" "text" C iC)
    (GU : FnOk P w K mg base CX0 2 fU fdU ["value"] (spWhat isT)) (gU : mg "is_text" = some (.ref fU)) (kU : PySem.W.keepIn K (.ref fU) = true) (bU : Binds K fdU ["value"] []) :
    FnOk P w K mg base (L2.CX P w) 3 f fd ["text"] (spCk C isT) := by
  refine F.okX scCkText (fun vs H Q E h => ?_) (fun cdv A outer s H vs Q E hr h => ?_)
  · obtain ⟨x, rfl, _⟩ := h
    rfl
  · obtain ⟨x, rfl, hp, k⟩ := h
    have nd := scCkText.nd
    have hr2 : Room 2 _ := hr
    refine ⟨_, pss_one (ps_if (pt_not (pt_val (pe_call GU hr2 rfl gU kU bU .nil pass0 (pa_cons (pv 0) pa_nil)))) (pss_one (ps_raiseErr rfl TX hr (takes_of rfl rfl rfl rfl) (pa_cons (pv 0) pa_nil) rfl)) pss_nil), ?_⟩
    rcases k with ⟨z, rfl, hz, hb, k⟩ | ⟨hs | ⟨z, rfl, hz, hb⟩, k⟩
    · exact ⟨_, rfl, _, rfl, hp, .inl ⟨z, rfl, hz, fun H1 s1 => ⟨_, rfl, by rw [hb]; exact k H1 s1⟩⟩⟩
    · exact ⟨_, rfl, _, rfl, hp, .inr ⟨hs, _, rfl, _, rfl, x, rfl, fun d hd => k _ d (.refl _) hd⟩⟩
    · exact ⟨_, rfl, _, rfl, hp, .inl ⟨z, rfl, hz, fun H1 s1 => ⟨_, rfl, by rw [hb]; exact ⟨_, rfl, _, rfl, fun d hd => k _ d s1 hd⟩⟩⟩⟩
theorem scCkWord : FnScope ["word"] ["word"] (defScope sCkWord) := ⟨rfl, rfl, rfl, by decide +kernel, rfl, by decide +kernel, by decide +kernel⟩
theorem ok_CkWord {f fU : Addr} {fd fdU : FuncData} (F : Fun K "check_word" "check_word" sCkWord f fd) (TX : ErrTxt P K mg "NoText" "text" C iC)
    (GU : FnOk P w K mg base CX0 2 fU fdU ["value"] (spWhat isW)) (gU : mg "is_word" = some (.ref fU)) (kU : PySem.W.keepIn K (.ref fU) = true) (bU : Binds K fdU ["value"] []) :
    FnOk P w K mg base (L2.CX P w) 3 f fd ["word"] (spCk C isW) := by
  refine F.okX scCkWord (fun vs H Q E h => ?_) (fun cdv A outer s H vs Q E hr h => ?_)
  · obtain ⟨x, rfl, _⟩ := h
    rfl
  · obtain ⟨x, rfl, hp, k⟩ := h
    have nd := scCkWord.nd
    have hr2 : Room 2 _ := hr
    refine ⟨_, pss_one (ps_if (pt_not (pt_val (pe_call GU hr2 rfl gU kU bU .nil pass0 (pa_cons (pv 0) pa_nil)))) (pss_one (ps_raiseErr rfl TX hr (takes_of rfl rfl rfl rfl) (pa_cons (pv 0) pa_nil) rfl)) pss_nil), ?_⟩
    rcases k with ⟨z, rfl, hz, hb, k⟩ | ⟨hs | ⟨z, rfl, hz, hb⟩, k⟩
    · exact ⟨_, rfl, _, rfl, hp, .inl ⟨z, rfl, hz, fun H1 s1 => ⟨_, rfl, by rw [hb]; exact k H1 s1⟩⟩⟩
    · exact ⟨_, rfl, _, rfl, hp, .inr ⟨hs, _, rfl, _, rfl, x, rfl, fun d hd => k _ d (.refl _) hd⟩⟩
    · exact ⟨_, rfl, _, rfl, hp, .inl ⟨z, rfl, hz, fun H1 s1 => ⟨_, rfl, by rw [hb]; exact ⟨_, rfl, _, rfl, fun d hd => k _ d s1 hd⟩⟩⟩⟩
theorem scCkTexts : FnScope ["texts", "text"] ["texts"] (defScope sCkTexts) := ⟨rfl, rfl, rfl, by decide +kernel, rfl, by decide +kernel, by decide +kernel⟩
theorem ok_CkTexts {f fU : Addr} {fd fdU : FuncData} (F : Fun K "check_texts" "check_texts" sCkTexts f fd) (T : TxtC K mg) (TX : ErrTxt P K mg "NoText" "text" C iC)
    (GU : FnOk P w K mg base (L2.CX P w) 3 fU fdU ["text"] (spCk C isT)) (gU : mg "check_text" = some (.ref fU)) (kU : PySem.W.keepIn K (.ref fU) = true) (bU : Binds K fdU ["text"] []) :
    FnOk P w K mg base (L2.CX P w) 4 f fd ["texts"] (spCks C isT) := by
  refine F.okX scCkTexts (fun vs H Q E h => ?_) (fun cdv A outer s H vs Q E hr h => ?_)
  · obtain ⟨x, rfl, _⟩ := h
    rfl
  · obtain ⟨x, rfl, h⟩ := h
    have nd := scCkTexts.nd
    have hr3 : Room 3 _ := hr
    refine ⟨_, pss_cons (ps_if (pt_not (pt_val (pe_callB call_isi (by rfl) T.isinstance (by decide +kernel) (pa_cons (pv 0) (pa_cons (pe_bltn (v := .ty "tuple") rfl T.tuple (by decide +kernel) rfl) pa_nil))))) (pss_one (ps_raiseErr rfl TX hr (takes_of rfl rfl rfl rfl) (pa_cons (pv 0) pa_nil) rfl)) pss_nil)
      (pss_one (ps_for (passes_of rfl) rfl (pi_tup (pv 0)) (pg_name (i := 1) nd rfl (Or.inl rfl)) (pss_one (ps_expr (pe_call GU hr3 rfl gU kU bU .nil (passes_call (takes_of rfl rfl rfl rfl) fun _ _ _ _ h => h) (pa_cons (pv 1) pa_nil)))))), ?_⟩
    rcases h with ⟨hp, hn, k⟩ | ⟨t, xs, rfl, ht, ⟨hall, k⟩ | ⟨ib, y, hy, py, hb, hgood, k⟩⟩
    · obtain ⟨tt, h1, h2⟩ := hp.isTup (K := K) hn
      exact ⟨_, rfl, _, _, _, _, _, rfl, .ty _, h1, h2, _, rfl, _, rfl, x, rfl, fun d hd => k H d (.refl _) hd⟩
    · refine ⟨_, rfl, _, _, _, _, true, rfl, .ty _, .base (.tup ht), kit_ty (by decide +kernel), _, rfl, ?_⟩
      refine ⟨_, rfl, t, rfl, ⟨_, .inl (.inl ht)⟩, for_it (walk_tup (K := K) (a := t) (xs := xs)) (fun i σ H' => ∃ v1 : Option V, σ = [some (.ref t), v1] ∧ Same H H') ⟨_, rfl, .refl _⟩ (fun i σ H' _ ⟨_, _, s⟩ => .inl (.inl (s _ _ ht))) ?_ ?_⟩
      · rintro i y σ Hz H1 hi ⟨v1, rfl, s1⟩ ⟨rfl, hy⟩
        obtain ⟨z, rfl, hz, hg⟩ := hall y (List.mem_of_getElem? hy)
        exact ⟨_, rfl, _, rfl, .str z, .inl ⟨z, rfl, hz, hg, fun H2 s2 => ⟨_, rfl, s1.trans s2⟩⟩⟩
      · rintro σ H1 ⟨v1, rfl, s1⟩
        exact k H1 s1
    · refine ⟨_, rfl, _, _, _, _, true, rfl, .ty _, .base (.tup ht), kit_ty (by decide +kernel), _, rfl, ?_⟩
      have il := (List.getElem?_eq_some_iff.mp hy).1
      refine ⟨_, rfl, t, rfl, ⟨_, .inl (.inl ht)⟩, for_it (walk_tup (K := K) (a := t) (xs := xs)) (fun i σ H' => ∃ v1 : Option V, σ = [some (.ref t), v1] ∧ Same H H' ∧ i ≤ ib) ⟨_, rfl, .refl _, Nat.zero_le _⟩ (fun i σ H' _ ⟨_, _, s, _⟩ => .inl (.inl (s _ _ ht))) ?_ ?_⟩
      · rintro i y2 σ Hz H1 hi ⟨v1, rfl, s1, hle⟩ ⟨rfl, hy2⟩
        by_cases e : i = ib
        · subst e
          obtain rfl : y = y2 := Option.some.inj (hy.symm.trans hy2)
          exact ⟨_, rfl, _, rfl, py.keep s1, .inr ⟨hb, fun H2 d s2 hd => k H2 d (s1.trans s2) hd⟩⟩
        · obtain ⟨z, rfl, hz, hg⟩ := hgood i (by omega) y2 hy2
          exact ⟨_, rfl, _, rfl, .str z, .inl ⟨z, rfl, hz, hg, fun H2 s2 => ⟨_, rfl, s1.trans s2, by omega⟩⟩⟩
      · rintro σ H1 ⟨v1, rfl, s1, hle⟩
        exact (by omega : False).elim
theorem scCkWords : FnScope ["words", "word"] ["words"] (defScope sCkWords) := ⟨rfl, rfl, rfl, by decide +kernel, rfl, by decide +kernel, by decide +kernel⟩
theorem ok_CkWords {f fU : Addr} {fd fdU : FuncData} (F : Fun K "check_words" "check_words" sCkWords f fd) (T : TxtC K mg) (TX : ErrTxt P K mg "NoText" "text" C iC)
    (GU : FnOk P w K mg base (L2.CX P w) 3 fU fdU ["word"] (spCk C isW)) (gU : mg "check_word" = some (.ref fU)) (kU : PySem.W.keepIn K (.ref fU) = true) (bU : Binds K fdU ["word"] []) :
    FnOk P w K mg base (L2.CX P w) 4 f fd ["words"] (spCks C isW) := by
  refine F.okX scCkWords (fun vs H Q E h => ?_) (fun cdv A outer s H vs Q E hr h => ?_)
  · obtain ⟨x, rfl, _⟩ := h
    rfl
  · obtain ⟨x, rfl, h⟩ := h
    have nd := scCkWords.nd
    have hr3 : Room 3 _ := hr
    refine ⟨_, pss_cons (ps_if (pt_not (pt_val (pe_callB call_isi (by rfl) T.isinstance (by decide +kernel) (pa_cons (pv 0) (pa_cons (pe_bltn (v := .ty "tuple") rfl T.tuple (by decide +kernel) rfl) pa_nil))))) (pss_one (ps_raiseErr rfl TX hr (takes_of rfl rfl rfl rfl) (pa_cons (pv 0) pa_nil) rfl)) pss_nil)
      (pss_one (ps_for (passes_of rfl) rfl (pi_tup (pv 0)) (pg_name (i := 1) nd rfl (Or.inl rfl)) (pss_one (ps_expr (pe_call GU hr3 rfl gU kU bU .nil (passes_call (takes_of rfl rfl rfl rfl) fun _ _ _ _ h => h) (pa_cons (pv 1) pa_nil)))))), ?_⟩
    rcases h with ⟨hp, hn, k⟩ | ⟨t, xs, rfl, ht, ⟨hall, k⟩ | ⟨ib, y, hy, py, hb, hgood, k⟩⟩
    · obtain ⟨tt, h1, h2⟩ := hp.isTup (K := K) hn
      exact ⟨_, rfl, _, _, _, _, _, rfl, .ty _, h1, h2, _, rfl, _, rfl, x, rfl, fun d hd => k H d (.refl _) hd⟩
    · refine ⟨_, rfl, _, _, _, _, true, rfl, .ty _, .base (.tup ht), kit_ty (by decide +kernel), _, rfl, ?_⟩
      refine ⟨_, rfl, t, rfl, ⟨_, .inl (.inl ht)⟩, for_it (walk_tup (K := K) (a := t) (xs := xs)) (fun i σ H' => ∃ v1 : Option V, σ = [some (.ref t), v1] ∧ Same H H') ⟨_, rfl, .refl _⟩ (fun i σ H' _ ⟨_, _, s⟩ => .inl (.inl (s _ _ ht))) ?_ ?_⟩
      · rintro i y σ Hz H1 hi ⟨v1, rfl, s1⟩ ⟨rfl, hy⟩
        obtain ⟨z, rfl, hz, hg⟩ := hall y (List.mem_of_getElem? hy)
        exact ⟨_, rfl, _, rfl, .str z, .inl ⟨z, rfl, hz, hg, fun H2 s2 => ⟨_, rfl, s1.trans s2⟩⟩⟩
      · rintro σ H1 ⟨v1, rfl, s1⟩
        exact k H1 s1
    · refine ⟨_, rfl, _, _, _, _, true, rfl, .ty _, .base (.tup ht), kit_ty (by decide +kernel), _, rfl, ?_⟩
      have il := (List.getElem?_eq_some_iff.mp hy).1
      refine ⟨_, rfl, t, rfl, ⟨_, .inl (.inl ht)⟩, for_it (walk_tup (K := K) (a := t) (xs := xs)) (fun i σ H' => ∃ v1 : Option V, σ = [some (.ref t), v1] ∧ Same H H' ∧ i ≤ ib) ⟨_, rfl, .refl _, Nat.zero_le _⟩ (fun i σ H' _ ⟨_, _, s, _⟩ => .inl (.inl (s _ _ ht))) ?_ ?_⟩
      · rintro i y2 σ Hz H1 hi ⟨v1, rfl, s1, hle⟩ ⟨rfl, hy2⟩
        by_cases e : i = ib
        · subst e
          obtain rfl : y = y2 := Option.some.inj (hy.symm.trans hy2)
          exact ⟨_, rfl, _, rfl, py.keep s1, .inr ⟨hb, fun H2 d s2 hd => k H2 d (s1.trans s2) hd⟩⟩
        · obtain ⟨z, rfl, hz, hg⟩ := hgood i (by omega) y2 hy2
          exact ⟨_, rfl, _, rfl, .str z, .inl ⟨z, rfl, hz, hg, fun H2 s2 => ⟨_, rfl, s1.trans s2, by omega⟩⟩⟩
      · rintro σ H1 ⟨v1, rfl, s1, hle⟩
        exact (by omega : False).elim
theorem scRowOf : FnScope ["text"] ["text"] (defScope sRowOf) := ⟨rfl, rfl, rfl, by decide +kernel, rfl, by decide +kernel, by decide +kernel⟩
theorem ok_RowOf {f fU : Addr} {fd fdU : FuncData} (F : Fun K "row_of" "row_of" sRowOf f fd)
    (GU : FnOk P w K mg base (L2.CX P w) 3 fU fdU ["text"] (spCk C isT)) (gU : mg "check_text" = some (.ref fU)) (kU : PySem.W.keepIn K (.ref fU) = true) (bU : Binds K fdU ["text"] []) :
    FnOk P w K mg base (L2.CX P w) 5 f fd ["text"] (fun vs H _ E => ∃ x, vs = [x] ∧ Pl H x ∧ badT isT x ∧ noE C H x E) := by
  refine F.okX scRowOf (fun vs H Q E h => ?_) (fun cdv A outer s H vs Q E hr h => ?_)
  · obtain ⟨x, rfl, _⟩ := h
    rfl
  · obtain ⟨x, rfl, h⟩ := h
    have nd := scRowOf.nd
    have hrU : Room 3 _ := hr.mono (by decide)
    exact ⟨_, pss_cons (ps_expr (pe_call GU hrU rfl gU kU bU .nil (passes_call (takes_of rfl rfl rfl rfl) fun _ _ _ _ h => h) (pa_cons (pv 0) pa_nil))) pss_never, _, rfl, x, rfl, h.1, .inr h.2⟩
theorem scRowR : FnScope ["word"] ["word"] (defScope sRowR) := ⟨rfl, rfl, rfl, by decide +kernel, rfl, by decide +kernel, by decide +kernel⟩
theorem ok_RowR {f fU : Addr} {fd fdU : FuncData} (F : Fun K "row_of_ring" "row_of_ring" sRowR f fd)
    (GU : FnOk P w K mg base (L2.CX P w) 3 fU fdU ["word"] (spCk C isW)) (gU : mg "check_word" = some (.ref fU)) (kU : PySem.W.keepIn K (.ref fU) = true) (bU : Binds K fdU ["word"] []) :
    FnOk P w K mg base (L2.CX P w) 5 f fd ["word"] (fun vs H _ E => ∃ x, vs = [x] ∧ Pl H x ∧ badT isW x ∧ noE C H x E) := by
  refine F.okX scRowR (fun vs H Q E h => ?_) (fun cdv A outer s H vs Q E hr h => ?_)
  · obtain ⟨x, rfl, _⟩ := h
    rfl
  · obtain ⟨x, rfl, h⟩ := h
    have nd := scRowR.nd
    have hrU : Room 3 _ := hr.mono (by decide)
    exact ⟨_, pss_cons (ps_expr (pe_call GU hrU rfl gU kU bU .nil (passes_call (takes_of rfl rfl rfl rfl) fun _ _ _ _ h => h) (pa_cons (pv 0) pa_nil))) pss_never, _, rfl, x, rfl, h.1, .inr h.2⟩
theorem scRowL : FnScope ["texts"] ["texts"] (defScope sRowL) := ⟨rfl, rfl, rfl, by decide +kernel, rfl, by decide +kernel, by decide +kernel⟩
theorem ok_RowL {f fU : Addr} {fd fdU : FuncData} (F : Fun K "row_of_list" "row_of_list" sRowL f fd)
    (GU : FnOk P w K mg base (L2.CX P w) 4 fU fdU ["texts"] (spCks C isT)) (gU : mg "check_texts" = some (.ref fU)) (kU : PySem.W.keepIn K (.ref fU) = true) (bU : Binds K fdU ["texts"] []) :
    FnOk P w K mg base (L2.CX P w) 5 f fd ["texts"] (fun vs H _ E => ∃ x, vs = [x] ∧ badTs C isT H x E) := by
  refine F.okX scRowL (fun vs H Q E h => ?_) (fun cdv A outer s H vs Q E hr h => ?_)
  · obtain ⟨x, rfl, _⟩ := h
    rfl
  · obtain ⟨x, rfl, h⟩ := h
    have nd := scRowL.nd
    have hrU : Room 4 _ := hr.mono (by decide)
    exact ⟨_, pss_cons (ps_expr (pe_call GU hrU rfl gU kU bU .nil (passes_call (takes_of rfl rfl rfl rfl) fun _ _ _ _ h => h) (pa_cons (pv 0) pa_nil))) pss_never, _, rfl, (by dsimp only [tNil, List.append_nil]; exact cks_bad h)⟩
theorem scRowA : FnScope ["texts", "rings"] ["texts", "rings"] (defScope sRowA) := ⟨rfl, rfl, rfl, by decide +kernel, rfl, by decide +kernel, by decide +kernel⟩
theorem ok_RowA {f fU fV : Addr} {fd fdU fdV : FuncData} (F : Fun K "row_of_all" "row_of_all" sRowA f fd)
    (GU : FnOk P w K mg base (L2.CX P w) 4 fU fdU ["texts"] (spCks C isT)) (gU : mg "check_texts" = some (.ref fU)) (kU : PySem.W.keepIn K (.ref fU) = true) (bU : Binds K fdU ["texts"] [])
    (GV : FnOk P w K mg base (L2.CX P w) 4 fV fdV ["words"] (spCks C isW)) (gV : mg "check_words" = some (.ref fV)) (kV : PySem.W.keepIn K (.ref fV) = true) (bV : Binds K fdV ["words"] []) :
    FnOk P w K mg base (L2.CX P w) 5 f fd ["texts", "rings"] (fun vs H _ E => ∃ x y, vs = [x, y] ∧ (badTs C isT H x E ∨ ∃ t xs, x = .ref t ∧ H t = some (.tup xs) ∧ (∀ y ∈ xs, goodT isT y) ∧ ∀ H', Same H H' → badTs C isW H' y E)) := by
  refine F.okX scRowA (fun vs H Q E h => ?_) (fun cdv A outer s H vs Q E hr h => ?_)
  · obtain ⟨x, y, rfl, _⟩ := h
    rfl
  · obtain ⟨x, y, rfl, h⟩ := h
    have nd := scRowA.nd
    have hrU : Room 4 _ := hr
    refine ⟨_, pss_cons (ps_expr (pe_call GU hrU rfl gU kU bU .nil (passes_call (takes_of rfl rfl rfl rfl) fun _ _ _ _ h => h) (pa_cons (pv 0) pa_nil))) (pss_cons (ps_expr (pe_call GV hrU rfl gV kV bV .nil (passes_call (takes_of rfl rfl rfl rfl) fun _ _ _ _ h => h) (pa_cons (pv 1) pa_nil))) pss_never), ?_⟩
    rcases h with h | ⟨t, xs, rfl, ht, hg, h⟩
    · exact ⟨_, rfl, (by dsimp only [tNil, List.append_nil]; exact cks_bad h)⟩
    · exact ⟨_, rfl, _, rfl, .inr ⟨t, xs, rfl, ht, .inl ⟨hg, fun H1 s1 => ⟨_, rfl, (by dsimp only [tNil, List.append_nil]; exact cks_bad (h H1 s1))⟩⟩⟩⟩
end
end T05

set_option Elab.async false
set_option linter.all false
set_option maxRecDepth 100000
set_option maxHeartbeats 4000000
namespace T05
open PySem L2 EK LamX
abbrev sTA : Stmt := top 40
abbrev sEA : Stmt := top 41
abbrev sUA : Stmt := top 42
abbrev sRA : Stmt := top 43
abbrev spRowOf (C : Addr) : Sp := fun vs H _ E => ∃ x, vs = [x] ∧ Pl H x ∧ badT isT x ∧ noE C H x E
abbrev spRowR (C : Addr) : Sp := fun vs H _ E => ∃ x, vs = [x] ∧ Pl H x ∧ badT isW x ∧ noE C H x E
abbrev spRowL (C : Addr) : Sp := fun vs H _ E => ∃ x, vs = [x] ∧ badTs C isT H x E
abbrev spRowA (C : Addr) : Sp := fun vs H _ E => ∃ x y, vs = [x, y] ∧ (badTs C isT H x E ∨ ∃ t xs, x = .ref t ∧ H t = some (.tup xs) ∧ (∀ y ∈ xs, goodT isT y) ∧ ∀ H', Same H H' → badTs C isW H' y E)
theorem noE.keep {C : Addr} {H H1 : Hp} {x : V} {E : XK} (h : noE C H x E) (s : Same H H1) : noE C H1 x E := fun H2 d s2 hd => h H2 d (s.trans s2) hd
theorem bad_word {x : V} (h : badT isT x) : badT isW x := by
  rcases h with h | ⟨z, e, hz, h⟩
  · exact .inl h
  · exact .inr ⟨z, e, hz, by unfold isW; rw [h]; rfl⟩
theorem good_a : goodT isT (.str "a") := ⟨"a", rfl, by decide, by decide +kernel⟩
theorem good_b (z : Str) (h : z.cps.size ≤ 100000) (g : isW z = true) : goodT isW (.str z) := ⟨z, rfl, h, g⟩
theorem bad_empty : badT isW (.str "") := .inr ⟨"", rfl, by decide, by decide +kernel⟩
def spTA (C : Addr) : Sp := fun vs H Q E => ∃ (j : Int) (y : V), vs = [.int j, y] ∧ 0 ≤ j ∧ j < 5 ∧ Pl H y ∧ badT isT y ∧ noE C H y E
def spEA (C : Addr) : Sp := fun vs H Q E => ∃ (j : Int), vs = [.int j] ∧ 0 ≤ j ∧ j < 2 ∧ noE C H (.str "") E
def spUA (C : Addr) : Sp := fun vs H Q E => ∃ (j : Int) (x y : V), vs = [.int j, x, y] ∧ 0 ≤ j ∧ j < 3 ∧ Pl H x ∧ (∀ H', Same H H' → ∀ a, x = .ref a → ∀ xs, H' a ≠ some (.tup xs)) ∧ noE C H x E
def spRA (C : Addr) : Sp := fun vs H Q E => ∃ (j : Int) (x : V), vs = [.int j, x] ∧ 0 ≤ j ∧ j < 5 ∧ Pl H x ∧ refused C H x E
section
variable {P : Program} {w : World} {K : PySem.W.Frag} {mg : Str → Option Value} {base : Heap} {C : Addr}
theorem scTA : FnScope ["_law_way", "_law_odd"] ["_law_way", "_law_odd"] (defScope sTA) := ⟨rfl, rfl, rfl, by decide +kernel, rfl, by decide +kernel, by decide +kernel⟩
theorem ok_TA {f : Addr} {fd : FuncData} {fA : Addr} {fdA : FuncData} {fB : Addr} {fdB : FuncData} {fD : Addr} {fdD : FuncData} {fE : Addr} {fdE : FuncData} (F : Fun K "_law_text_ask" "_law_text_ask" sTA f fd)
    (GA : FnOk P w K mg base (L2.CX P w) 5 fA fdA ["text"] (spRowOf C)) (gA : mg "row_of" = some (.ref fA)) (kA : PySem.W.keepIn K (.ref fA) = true) (bA : Binds K fdA ["text"] [])
    (GB : FnOk P w K mg base (L2.CX P w) 5 fB fdB ["texts"] (spRowL C)) (gB : mg "row_of_list" = some (.ref fB)) (kB : PySem.W.keepIn K (.ref fB) = true) (bB : Binds K fdB ["texts"] [])
    (GD : FnOk P w K mg base (L2.CX P w) 5 fD fdD ["word"] (spRowR C)) (gD : mg "row_of_ring" = some (.ref fD)) (kD : PySem.W.keepIn K (.ref fD) = true) (bD : Binds K fdD ["word"] [])
    (GE : FnOk P w K mg base (L2.CX P w) 5 fE fdE ["texts", "rings"] (spRowA C)) (gE : mg "row_of_all" = some (.ref fE)) (kE : PySem.W.keepIn K (.ref fE) = true) (bE : Binds K fdE ["texts", "rings"] []) :
    FnOk P w K mg base (L2.CX P w) 7 f fd ["_law_way", "_law_odd"] (spTA C) := by
  refine F.okX scTA (fun vs H Q E h => ?_) (fun cdv A outer s H vs Q E hr h => ?_)
  · obtain ⟨j, y, rfl, _⟩ := h
    rfl
  · have nd := scTA.nd
    have hr6 : Room 5 _ := hr.mono (by decide)
    obtain ⟨j, y, rfl, j0, j5, py, hb, k⟩ := h
    refine ⟨_, (pss_cons (ps_if (pt_cmpR op_eq (pv 0) pe_int (nomark _)) (pss_one (ps_ret (pe_call GA hr6 rfl gA kA bA .nil (passes_call (takes_of rfl rfl rfl rfl) fun _ _ _ _ h => h) (pa_cons (pv 1) pa_nil)))) pss_nil)
      (pss_cons (ps_if (pt_cmpR op_eq (pv 0) pe_int (nomark _)) (pss_one (ps_ret (pe_call GB hr6 rfl gB kB bB .nil (passes_call (takes_of rfl rfl rfl rfl) fun _ _ _ _ h => h) (pa_cons (pe_tup (pa_cons pe_str (pa_cons (pv 1) (pa_cons pe_int pa_nil)))) pa_nil)))) pss_nil)
      (pss_cons (ps_if (pt_cmpR op_eq (pv 0) pe_int (nomark _)) (pss_one (ps_ret (pe_call GD hr6 rfl gD kD bD .nil (passes_call (takes_of rfl rfl rfl rfl) fun _ _ _ _ h => h) (pa_cons (pv 1) pa_nil)))) pss_nil)
      (pss_one (ps_ret (pe_ifExp (pt_cmpR op_eq (pv 0) pe_int (nomark _)) (pe_call GE hr6 rfl gE kE bE .nil (passes_call (takes_of rfl rfl rfl rfl) fun _ _ _ _ h => h) (pa_cons (pe_tup (pa_cons pe_str pa_nil)) (pa_cons (pe_tup (pa_cons pe_str (pa_cons (pv 1) (pa_cons pe_str pa_nil)))) pa_nil))) (pe_call GE hr6 rfl gE kE bE .nil (passes_call (takes_of rfl rfl rfl rfl) fun _ _ _ _ h => h) (pa_cons (pe_tup (pa_cons (pv 1) pa_nil)) (pa_cons pe_int pa_nil))))))))), ?_⟩
    obtain rfl | rfl | rfl | rfl | rfl : j = 0 ∨ j = 1 ∨ j = 2 ∨ j = 3 ∨ j = 4 := by omega
    · exact ⟨_, rfl, rfl, _, rfl, _, rfl, y, rfl, py, hb, k⟩
    · refine ⟨_, rfl, rfl, _, rfl, _, rfl, rfl, _, rfl, _, rfl, (by show 3 ≤ sizeLine; decide), fun t zt => ?_⟩
      obtain ⟨H1, e1, S1, A1⟩ := alloc (o := .tup [.str "a", y, .int 7]) zt
      rw [e1]
      exact ⟨_, rfl, .inr ⟨t, _, rfl, A1, 1, y, rfl, py.keep S1, hb, fun j hj y' hy => by
        obtain rfl : j = 0 := by omega
        cases hy
        exact good_a, k.keep S1⟩⟩
    · exact ⟨_, rfl, rfl, _, rfl, _, rfl, rfl, _, rfl, _, rfl, rfl, _, rfl, _, rfl, y, rfl, py, bad_word hb, k⟩
    · refine ⟨_, rfl, rfl, _, rfl, _, rfl, rfl, _, rfl, _, rfl, rfl, _, rfl, _, rfl, rfl, _, rfl, (by show 1 ≤ sizeLine; decide), fun t zt => ?_⟩
      obtain ⟨H1, e1, S1, A1⟩ := alloc (o := .tup [.str "a"]) zt
      rw [e1]
      refine ⟨_, rfl, (by show 3 ≤ sizeLine; decide), fun t2 zt2 => ?_⟩
      obtain ⟨H2, e2, S2, A2⟩ := alloc (o := .tup [.str "b", y, .str ""]) zt2
      rw [e2]
      refine ⟨_, _, rfl, .inr ⟨t, _, rfl, S2 _ _ A1, fun y' hy => by rw [List.mem_singleton.mp hy]; exact good_a, fun H3 s3 => .inr ⟨t2, _, rfl, s3 _ _ A2, 1, y, rfl, py.keep ((S1.trans S2).trans s3), bad_word hb, fun j hj y' hy => ?_, k.keep ((S1.trans S2).trans s3)⟩⟩⟩
      obtain rfl : j = 0 := by omega
      cases hy
      exact good_b "b" (by decide) (by decide +kernel)
    · refine ⟨_, rfl, rfl, _, rfl, _, rfl, rfl, _, rfl, _, rfl, rfl, _, rfl, _, rfl, rfl, _, rfl, _, rfl, (by show 1 ≤ sizeLine; decide), fun t zt => ?_⟩
      obtain ⟨H1, e1, S1, A1⟩ := alloc (o := .tup [y]) zt
      rw [e1]
      exact ⟨_, _, rfl, .inl (.inr ⟨t, _, rfl, A1, 0, y, rfl, py.keep S1, hb, fun j hj => absurd hj (Nat.not_lt_zero j), k.keep S1⟩)⟩
theorem scEA : FnScope ["_law_way"] ["_law_way"] (defScope sEA) := ⟨rfl, rfl, rfl, by decide +kernel, rfl, by decide +kernel, by decide +kernel⟩
theorem ok_EA {f : Addr} {fd : FuncData} {fD : Addr} {fdD : FuncData} {fE : Addr} {fdE : FuncData} (F : Fun K "_law_empty_ask" "_law_empty_ask" sEA f fd)
    (GD : FnOk P w K mg base (L2.CX P w) 5 fD fdD ["word"] (spRowR C)) (gD : mg "row_of_ring" = some (.ref fD)) (kD : PySem.W.keepIn K (.ref fD) = true) (bD : Binds K fdD ["word"] [])
    (GE : FnOk P w K mg base (L2.CX P w) 5 fE fdE ["texts", "rings"] (spRowA C)) (gE : mg "row_of_all" = some (.ref fE)) (kE : PySem.W.keepIn K (.ref fE) = true) (bE : Binds K fdE ["texts", "rings"] []) :
    FnOk P w K mg base (L2.CX P w) 7 f fd ["_law_way"] (spEA C) := by
  refine F.okX scEA (fun vs H Q E h => ?_) (fun cdv A outer s H vs Q E hr h => ?_)
  · obtain ⟨j, rfl, _⟩ := h
    rfl
  · have nd := scEA.nd
    have hr6 : Room 5 _ := hr.mono (by decide)
    obtain ⟨j, rfl, j0, j2, k⟩ := h
    refine ⟨_, (pss_one (ps_ret (pe_ifExp (pt_cmpR op_eq (pv 0) pe_int (nomark _)) (pe_call GD hr6 rfl gD kD bD .nil (passes_call (takes_of rfl rfl rfl rfl) fun _ _ _ _ h => h) (pa_cons pe_str pa_nil)) (pe_call GE hr6 rfl gE kE bE .nil (passes_call (takes_of rfl rfl rfl rfl) fun _ _ _ _ h => h) (pa_cons (pe_tup pa_nil) (pa_cons (pe_tup (pa_cons pe_str (pa_cons pe_str pa_nil))) pa_nil)))))), ?_⟩
    obtain rfl | rfl : j = 0 ∨ j = 1 := by omega
    · exact ⟨_, rfl, rfl, _, rfl, _, rfl, .str "", bad_empty, k⟩
    · refine ⟨_, rfl, rfl, _, rfl, (by show 0 ≤ sizeLine; decide), fun t zt => ?_⟩
      obtain ⟨H1, e1, S1, A1⟩ := alloc (o := .tup []) zt
      rw [e1]
      refine ⟨(by show 2 ≤ sizeLine; decide), fun t2 zt2 => ?_⟩
      obtain ⟨H2, e2, S2, A2⟩ := alloc (o := .tup [.str "a", .str ""]) zt2
      rw [e2]
      refine ⟨_, _, rfl, .inr ⟨t, _, rfl, S2 _ _ A1, fun y' hy => (by cases hy), fun H3 s3 => .inr ⟨t2, _, rfl, s3 _ _ A2, 1, .str "", rfl, .str _, bad_empty, fun j hj y' hy => ?_, k.keep ((S1.trans S2).trans s3)⟩⟩⟩
      obtain rfl : j = 0 := by omega
      cases hy
      exact good_b "a" (by decide) (by decide +kernel)
theorem scUA : FnScope ["_law_way", "_law_some", "_law_odd"] ["_law_way", "_law_some", "_law_odd"] (defScope sUA) := ⟨rfl, rfl, rfl, by decide +kernel, rfl, by decide +kernel, by decide +kernel⟩
theorem ok_UA {f : Addr} {fd : FuncData} {fB : Addr} {fdB : FuncData} {fE : Addr} {fdE : FuncData} (F : Fun K "_law_tuple_ask" "_law_tuple_ask" sUA f fd)
    (GB : FnOk P w K mg base (L2.CX P w) 5 fB fdB ["texts"] (spRowL C)) (gB : mg "row_of_list" = some (.ref fB)) (kB : PySem.W.keepIn K (.ref fB) = true) (bB : Binds K fdB ["texts"] [])
    (GE : FnOk P w K mg base (L2.CX P w) 5 fE fdE ["texts", "rings"] (spRowA C)) (gE : mg "row_of_all" = some (.ref fE)) (kE : PySem.W.keepIn K (.ref fE) = true) (bE : Binds K fdE ["texts", "rings"] []) :
    FnOk P w K mg base (L2.CX P w) 7 f fd ["_law_way", "_law_some", "_law_odd"] (spUA C) := by
  refine F.okX scUA (fun vs H Q E h => ?_) (fun cdv A outer s H vs Q E hr h => ?_)
  · obtain ⟨j, x, y, rfl, _⟩ := h
    rfl
  · have nd := scUA.nd
    have hr6 : Room 5 _ := hr.mono (by decide)
    obtain ⟨j, x, y, rfl, j0, j3, px, nt, k⟩ := h
    refine ⟨_, (pss_cons (ps_if (pt_cmpR op_eq (pv 0) pe_int (nomark _)) (pss_one (ps_ret (pe_call GB hr6 rfl gB kB bB .nil (passes_call (takes_of rfl rfl rfl rfl) fun _ _ _ _ h => h) (pa_cons (pv 1) pa_nil)))) pss_nil)
      (pss_one (ps_ret (pe_ifExp (pt_cmpR op_eq (pv 0) pe_int (nomark _)) (pe_call GE hr6 rfl gE kE bE .nil (passes_call (takes_of rfl rfl rfl rfl) fun _ _ _ _ h => h) (pa_cons (pv 1) (pa_cons (pv 2) pa_nil))) (pe_call GE hr6 rfl gE kE bE .nil (passes_call (takes_of rfl rfl rfl rfl) fun _ _ _ _ h => h) (pa_cons (pe_tup pa_nil) (pa_cons (pv 1) pa_nil))))))), ?_⟩
    obtain rfl | rfl | rfl : j = 0 ∨ j = 1 ∨ j = 2 := by omega
    · exact ⟨_, rfl, rfl, _, rfl, _, rfl, x, rfl, .inl ⟨px, nt H (.refl _), k⟩⟩
    · exact ⟨_, rfl, rfl, _, rfl, _, rfl, rfl, _, rfl, _, rfl, _, rfl, x, y, rfl, .inl (.inl ⟨px, nt H (.refl _), k⟩)⟩
    · refine ⟨_, rfl, rfl, _, rfl, _, rfl, rfl, _, rfl, (by show 0 ≤ sizeLine; decide), fun t zt => ?_⟩
      obtain ⟨H1, e1, S1, A1⟩ := alloc (o := .tup []) zt
      rw [e1]
      exact ⟨_, rfl, _, x, rfl, .inr ⟨t, _, rfl, A1, fun y' hy => (by cases hy), fun H3 s3 => .inl ⟨px.keep (S1.trans s3), nt H3 (S1.trans s3), k.keep (S1.trans s3)⟩⟩⟩
theorem scRA : FnScope ["_law_way", "_law_wrong"] ["_law_way", "_law_wrong"] (defScope sRA) := ⟨rfl, rfl, rfl, by decide +kernel, rfl, by decide +kernel, by decide +kernel⟩
theorem ok_RA {f : Addr} {fd : FuncData} {f6 : Addr} {fd6 : FuncData} {f7 : Addr} {fd7 : FuncData} {fX : Addr} {fdX : FuncData} {fY : Addr} {fdY : FuncData} {fZ : Addr} {fdZ : FuncData} (F : Fun K "_law_row_ask" "_law_row_ask" sRA f fd)
    (G6 : FnOk P w K mg base (L2.CX P w) 4 f6 fd6 ["row"] (spStep C)) (g6 : mg "step_back" = some (.ref f6)) (k6 : PySem.W.keepIn K (.ref f6) = true) (b6 : Binds K fd6 ["row"] [])
    (G7 : FnOk P w K mg base (L2.CX P w) 5 f7 fd7 ["row"] (spRead C)) (g7 : mg "read_back" = some (.ref f7)) (k7 : PySem.W.keepIn K (.ref f7) = true) (b7 : Binds K fd7 ["row"] [])
    (GX : FnOk P w K mg base (L2.CX P w) 6 fX fdX ["row"] (spIs C gT)) (gX : mg "is_of_text" = some (.ref fX)) (kX : PySem.W.keepIn K (.ref fX) = true) (bX : Binds K fdX ["row"] [])
    (GY : FnOk P w K mg base (L2.CX P w) 6 fY fdY ["row"] (spIs C gL)) (gY : mg "is_of_list" = some (.ref fY)) (kY : PySem.W.keepIn K (.ref fY) = true) (bY : Binds K fdY ["row"] [])
    (GZ : FnOk P w K mg base (L2.CX P w) 6 fZ fdZ ["row"] (spIs C gR)) (gZ : mg "is_of_ring" = some (.ref fZ)) (kZ : PySem.W.keepIn K (.ref fZ) = true) (bZ : Binds K fdZ ["row"] []) :
    FnOk P w K mg base (L2.CX P w) 7 f fd ["_law_way", "_law_wrong"] (spRA C) := by
  refine F.okX scRA (fun vs H Q E h => ?_) (fun cdv A outer s H vs Q E hr h => ?_)
  · obtain ⟨j, x, rfl, _⟩ := h
    rfl
  · have nd := scRA.nd
    have hr6 : Room 5 _ := hr.mono (by decide)
    have hr4 : Room 4 _ := hr.mono (by decide)
    have hr5 : Room 5 _ := hr.mono (by decide)
    have hr6 : Room 6 _ := hr
    obtain ⟨j, x, rfl, j0, j5, px, k⟩ := h
    refine ⟨_, (pss_cons (ps_if (pt_cmpR op_eq (pv 0) pe_int (nomark _)) (pss_one (ps_ret (pe_call G6 hr4 rfl g6 k6 b6 .nil (passes_call (takes_of rfl rfl rfl rfl) fun _ _ _ _ h => h) (pa_cons (pv 1) pa_nil)))) pss_nil)
      (pss_cons (ps_if (pt_cmpR op_eq (pv 0) pe_int (nomark _)) (pss_one (ps_ret (pe_call G7 hr5 rfl g7 k7 b7 .nil (passes_call (takes_of rfl rfl rfl rfl) fun _ _ _ _ h => h) (pa_cons (pv 1) pa_nil)))) pss_nil)
      (pss_cons (ps_if (pt_cmpR op_eq (pv 0) pe_int (nomark _)) (pss_one (ps_ret (pe_call GX hr6 rfl gX kX bX .nil (passes_call (takes_of rfl rfl rfl rfl) fun _ _ _ _ h => h) (pa_cons (pv 1) pa_nil)))) pss_nil)
      (pss_one (ps_ret (pe_ifExp (pt_cmpR op_eq (pv 0) pe_int (nomark _)) (pe_call GY hr6 rfl gY kY bY .nil (passes_call (takes_of rfl rfl rfl rfl) fun _ _ _ _ h => h) (pa_cons (pv 1) pa_nil)) (pe_call GZ hr6 rfl gZ kZ bZ .nil (passes_call (takes_of rfl rfl rfl rfl) fun _ _ _ _ h => h) (pa_cons (pv 1) pa_nil)))))))), ?_⟩
    obtain rfl | rfl | rfl | rfl | rfl : j = 0 ∨ j = 1 ∨ j = 2 ∨ j = 3 ∨ j = 4 := by omega
    · exact ⟨_, rfl, rfl, _, rfl, _, rfl, x, rfl, px, .inr k⟩
    · exact ⟨_, rfl, rfl, _, rfl, _, rfl, rfl, _, rfl, _, rfl, x, rfl, px, .inr k⟩
    · exact ⟨_, rfl, rfl, _, rfl, _, rfl, rfl, _, rfl, _, rfl, rfl, _, rfl, _, rfl, x, rfl, px, .inr k⟩
    · exact ⟨_, rfl, rfl, _, rfl, _, rfl, rfl, _, rfl, _, rfl, rfl, _, rfl, _, rfl, rfl, _, rfl, _, rfl, x, rfl, px, .inr k⟩
    · exact ⟨_, rfl, rfl, _, rfl, _, rfl, rfl, _, rfl, _, rfl, rfl, _, rfl, _, rfl, rfl, _, rfl, _, rfl, x, rfl, px, .inr k⟩
end
end T05

set_option Elab.async false
set_option linter.all false
set_option maxRecDepth 100000
set_option maxHeartbeats 4000000
namespace T05
open PySem L2 EK LamX
abbrev sSaid : Stmt := top 38
abbrev sLaw : Stmt := top 44
abbrev lawQ : Str := ("law" : Str) ++ ".<locals>." ++ "<lambda>"
theorem cut_ints (ns : List Int) (lo hi : Option Int) : ∃ ms : List Int, cutV (ns.map V.int) lo hi = ms.map V.int ∧ ms.length ≤ ns.length := by
  have h := cutV_length (ns.map V.int) lo hi
  have e : ∃ ms : List Int, cutV (ns.map V.int) lo hi = ms.map V.int := by
    unfold cutV
    rw [← List.map_drop, ← List.map_take]
    exact ⟨_, rfl⟩
  obtain ⟨ms, e⟩ := e
  rw [e, List.length_map, List.length_map] at h
  exact ⟨ms, e, h⟩
theorem ints_at {ms : List Int} {i : Nat} {y : V} (h : (ms.map V.int)[i]? = some y) : ∃ z, ms[i]? = some z ∧ y = V.int z := by
  rw [List.getElem?_map] at h
  cases e : ms[i]? with
  | none => rw [e] at h; cases h
  | some z => rw [e] at h; exact ⟨z, rfl, (Option.some.inj h).symm⟩
theorem Pl.keepN {H H' : Hp} {x : V} (h : Pl H x) (s : ExtN H H') : Pl H' x := by
  cases h with
  | non => exact .non
  | int i => exact .int i
  | str z => exact .str z
  | bl b => exact .bl b
  | tup e => exact .tup (s _ _ e fun _ z => by cases z)
  | lst e => exact .lst (s _ _ e fun _ z => by cases z)
  | dct e => exact .dct (s _ _ e fun _ z => by cases z)
theorem WellAt.keepN {H H' : Hp} {a : Addr} {n : Int} (h : WellAt H a n) (s : ExtN H H') : WellAt H' a n := by
  obtain ⟨w0, w1, w2, e, r⟩ := h
  exact ⟨w0, w1, w2, s _ _ e (fun _ z => by cases z), r⟩
theorem Pl.keepW {H H' : Hp} {wl : Addr} {n n' : Int} {x : V} (h : Pl H x) (w : WellAt H wl n) (w' : WellAt H' wl n') (s : KeepB wl H H') : Pl H' x := by
  obtain ⟨_, _, _, ew, _⟩ := w
  obtain ⟨_, _, _, ew', _⟩ := w'
  cases h with
  | non => exact .non
  | int i => exact .int i
  | str z => exact .str z
  | bl b => exact .bl b
  | @tup a xs e => exact .tup (s _ _ e fun z => by rw [z, ew] at e; cases e)
  | @lst a xs e =>
    by_cases z : a = wl
    · rw [z]
      exact .lst ew'
    · exact .lst (s _ _ e z)
  | @dct a kvs e => exact .dct (s _ _ e fun z => by rw [z, ew] at e; cases e)
theorem _root_.LamX.Tabs.keepW {T : List (Addr × Str)} {H H' : Hp} {wl : Addr} {n : Int} (t : Tabs T H) (w : WellAt H wl n) (s : KeepB wl H H') : Tabs T H' := fun p hp => by
  obtain ⟨w0, w1, w2, ew, _⟩ := w
  obtain ⟨ps, h1, h2, h3⟩ := t p hp
  refine ⟨ps, s _ _ h1 (fun z => by rw [z, ew] at h1; cases h1), h2, fun pos cv hc => ?_⟩
  obtain ⟨c, e1, e2⟩ := h3 pos cv hc
  refine ⟨c, e1, s _ _ e2 fun z => ?_⟩
  rw [z, ew] at e2
  unfold CodeO at e2
  cases e2
theorem Pl.nf {H : Hp} {x : V} (h : Pl H x) : ∀ c, x ≠ .flt c := fun c e => by
  subst e
  cases h
theorem same_pair {K : PySem.W.Frag} {H : Hp} {m : Str} {x : V} (nf : ∀ c, x ≠ .flt c) : ∀ (i : Nat) u v, [V.str m, x][i]? = some u → [V.str m, x][i]? = some v → Sm K H 60 u v := fun i u v h1 h2 => by
  obtain rfl : u = v := Option.some.inj (h1.symm.trans h2)
  refine .rf u fun b z => ?_
  have hm := List.mem_of_getElem? h1
  rcases List.mem_cons.mp hm with e | hm
  · rw [e] at z
    cases z
  · rw [List.mem_singleton.mp hm] at z
    exact nf b z
/-- a thing that is no tuple -/
inductive Pn (H : Hp) : V → Prop
  | non : Pn H .non
  | int (i : Int) : Pn H (.int i)
  | str (z : Str) : Pn H (.str z)
  | bl (b : Bool) : Pn H (.bl b)
  | lst {a : Addr} {xs : List V} (e : H a = some (.lst xs)) : Pn H (.ref a)
  | dct {a : Addr} {kvs : List (Key × V)} (e : H a = some (.dK kvs)) : Pn H (.ref a)
theorem Pn.pl {H : Hp} {x : V} (h : Pn H x) : Pl H x := by
  cases h with
  | non => exact .non
  | int i => exact .int i
  | str z => exact .str z
  | bl b => exact .bl b
  | lst e => exact .lst e
  | dct e => exact .dct e
theorem Pn.nt {H : Hp} {x : V} (h : Pn H x) : ∀ a, x = .ref a → ∀ xs, H a ≠ some (.tup xs) := fun a e xs q => by
  subst e
  cases h with
  | lst e => rw [e] at q; cases q
  | dct e => rw [e] at q; cases q
theorem Pn.keepN {H H' : Hp} {x : V} (h : Pn H x) (s : ExtN H H') : Pn H' x := by
  cases h with
  | non => exact .non
  | int i => exact .int i
  | str z => exact .str z
  | bl b => exact .bl b
  | lst e => exact .lst (s _ _ e fun _ z => by cases z)
  | dct e => exact .dct (s _ _ e fun _ z => by cases z)
theorem Pn.keepW {H H' : Hp} {wl : Addr} {n n' : Int} {x : V} (h : Pn H x) (w : WellAt H wl n) (w' : WellAt H' wl n') (s : KeepB wl H H') : Pn H' x := by
  obtain ⟨_, _, _, ew, _⟩ := w
  obtain ⟨_, _, _, ew', _⟩ := w'
  cases h with
  | non => exact .non
  | int i => exact .int i
  | str z => exact .str z
  | bl b => exact .bl b
  | @lst a xs e =>
    by_cases z : a = wl
    · rw [z]
      exact .lst ew'
    · exact .lst (s _ _ e z)
  | @dct a kvs e => exact .dct (s _ _ e fun z => by rw [z, ew] at e; cases e)
def badR (x : V) : Prop := isStrV x = false ∨ ∃ z, x = .str z ∧ z.cps.size ≤ 100000 ∧ isR z = false
def spLaw (K : PySem.W.Frag) (PT : Addr) : Sp := fun vs H Q _ => ∃ (a : Addr) (ns : List Int), vs = [.ref a] ∧ SqL K H a (ns.map V.int) ∧ ns.length ≤ 63 ∧ H PT = some (.tbl #[]) ∧ ∀ H', Q (.bl true) H'
section
variable {P : Program} {w : World} {K : PySem.W.Frag} {mg : Str → Option Value} {base : Heap} {C1 C2 i1 i2 : Addr}
theorem scSaid : FnScope ["_law_ask", "e"] ["_law_ask"] (defScope sSaid) := ⟨rfl, rfl, rfl, by decide +kernel, rfl, by decide +kernel, by decide +kernel⟩
theorem scLaw : FnScope ["_law_script", "_law_cell", "_law_well_here", "_law_odd", "_law_some", "_law_way", "_law_wrong"] ["_law_script"] (defScope sLaw) := ⟨rfl, rfl, rfl, by decide +kernel, rfl, by decide +kernel, by decide +kernel⟩
theorem ok_law {f cL PT : Addr} {dV kV doc pm ct oc : Value} {an od : Option Addr} {osl : Array (Option Value)} (lk : K.lookup f = some ⟨oc, od, .func (PySem.W.fnOf "law" "law" (defArgs sLaw) (defBody sLaw) (defScope sLaw) dV kV doc pm an (.ref cL) ct), osl⟩) (hcd : PySem.W.codeIn K (.ref cL) "law" = true) (TB : TabB base mg cL PT)
    {fW fO fRR fTA fEA fUA fRA fQ : Addr} {fdW fdO fdRR fdTA fdEA fdUA fdRA : FuncData} {cdQ dVQ kVQ docQ pmQ ctQ ocQ : Value} {anQ odQ : Option Addr} {oslQ : Array (Option Value)}
    (hrange : mg "range" = none) (TX : ErrTxt P K mg "NoText" "text" C1 i1) (TR : ErrTxt P K mg "NoRow" "row" C2 i2)
    (e11 : PySem.W.exmOne K (.ref C1) (.ref C1) = some true) (e21 : PySem.W.exmOne K (.ref C2) (.ref C1) = some false) (e22 : PySem.W.exmOne K (.ref C2) (.ref C2) = some true)
    (GW : FnOk P w K mg base CX0 1 fW fdW ["_law_cell"] spWell) (gW : mg "_law_well" = some (.ref fW)) (kW : PySem.W.keepIn K (.ref fW) = true) (bW : Binds K fdW ["_law_cell"] [])
    (GO : FnOk P w K mg base CX0 2 fO fdO ["_law_well_here", "_law_some"] spOne) (gO : mg "_law_one" = some (.ref fO)) (kO : PySem.W.keepIn K (.ref fO) = true) (bO : Binds K fdO ["_law_well_here", "_law_some"] [])
    (GRR : FnOk P w K mg base CX0 7 fRR fdRR [] spRR) (gRR : mg "_law_rows_right" = some (.ref fRR)) (kRR : PySem.W.keepIn K (.ref fRR) = true) (bRR : Binds K fdRR [] [])
    (GTA : FnOk P w K mg base (L2.CX P w) 7 fTA fdTA ["_law_way", "_law_odd"] (spTA C1)) (gTA : mg "_law_text_ask" = some (.ref fTA)) (kTA : PySem.W.keepIn K (.ref fTA) = true) (bTA : Binds K fdTA ["_law_way", "_law_odd"] [])
    (GEA : FnOk P w K mg base (L2.CX P w) 7 fEA fdEA ["_law_way"] (spEA C1)) (gEA : mg "_law_empty_ask" = some (.ref fEA)) (kEA : PySem.W.keepIn K (.ref fEA) = true) (bEA : Binds K fdEA ["_law_way"] [])
    (GUA : FnOk P w K mg base (L2.CX P w) 7 fUA fdUA ["_law_way", "_law_some", "_law_odd"] (spUA C1)) (gUA : mg "_law_tuple_ask" = some (.ref fUA)) (kUA : PySem.W.keepIn K (.ref fUA) = true) (bUA : Binds K fdUA ["_law_way", "_law_some", "_law_odd"] [])
    (GRA : FnOk P w K mg base (L2.CX P w) 7 fRA fdRA ["_law_way", "_law_wrong"] (spRA C2)) (gRA : mg "_law_row_ask" = some (.ref fRA)) (kRA : PySem.W.keepIn K (.ref fRA) = true) (bRA : Binds K fdRA ["_law_way", "_law_wrong"] [])
    (lkQ : K.lookup fQ = some ⟨ocQ, odQ, .func (PySem.W.fnOf "_law_said" "_law_said" (defArgs sSaid) (defBody sSaid) (defScope sSaid) dVQ kVQ docQ pmQ anQ cdQ ctQ), oslQ⟩) (gQ : mg "_law_said" = some (.ref fQ)) (kQ : PySem.W.keepIn K (.ref fQ) = true) (cQ : PySem.W.codeIn K cdQ "_law_said" = true)
    (bQ : Binds K (PySem.W.fnOf "_law_said" "_law_said" (defArgs sSaid) (defBody sSaid) (defScope sSaid) dVQ kVQ docQ pmQ anQ cdQ ctQ) ["_law_ask"] []) :
    FnOk P w K mg base CX0 10 f (PySem.W.fnOf "law" "law" (defArgs sLaw) (defBody sLaw) (defScope sLaw) dV kV doc pm an (.ref cL) ct) ["_law_script"] (spLaw K PT) := by
  refine fn_of lk hcd scLaw (fun vs H Q E h => ?_) (fun A outer s H vs Q E hr h => ?_)
  · obtain ⟨a, ns, rfl, _⟩ := h
    rfl
  · obtain ⟨a, ns, rfl, hS, hlen, hPT, k⟩ := h
    have nd := scLaw.nd
    have hu : (A.deeper (PyProof.Rows.envOfC "law" (defScope sLaw) s.heap.objs.size f (.ref cL))).units + 64 < cLine := hr.units
    have hr1 : Room 1 _ := hr.mono (by decide)
    have hr2 : Room 2 _ := hr.mono (by decide)
    have hr7 : Room 7 _ := hr.mono (by decide)
    have hr9 : Room 9 _ := hr
    refine ⟨_, PSs.nox ((pss_cons (ps_if (pt_not (pt_val (pe_call0 GRR hr7 rfl gRR kRR bRR .nil pass0))) (pss_one (ps_ret pe_bl)) pss_nil)
      (pss_cons (ps_for PassesOwn.never rfl (pi_list (pe_op op_cat (pe_slice sl_list (pv 0) po_none (po_some pe_int)) (pe_lst (pa_cons pe_int pa_nil)))) (pg_name (i := 1) nd rfl (Or.inl rfl)) (pss_cons (ps_set (i := 2) nd rfl (Or.inl rfl) (pe_call GW hr1 rfl gW kW bW .nil pass0 (pa_cons (pv 1) pa_nil)))
      (pss_cons (ps_set (i := 3) nd rfl (Or.inr rfl) (pe_call GO hr2 rfl gO kO bO .nil pass0 (pa_cons (pv 2) (pa_cons (pe_lst (pa_cons pe_non (pa_cons pe_int (pa_cons (pe_cmpR op_eq pe_int pe_int (nomark _)) (pa_cons pe_str (pa_cons pe_str (pa_cons pe_str (pa_cons (pe_lst (pa_cons pe_str pa_nil)) (pa_cons (pe_tup (pa_cons pe_str pa_nil)) (pa_cons pe_dnewK (pa_cons pe_int (pa_cons pe_str (pa_cons pe_str pa_nil))))))))))))) pa_nil))))
      (pss_cons (ps_for PassesOwn.never rfl (pi_range1 (by rfl) hrange (pa_cons pe_int pa_nil)) (pg_name (i := 5) nd rfl (Or.inr rfl)) (pss_one (ps_if (pt_cmpR (op_neS hu) (pe_lamcall (T := [(PT, lawQ)]) (TT := TSaid K C1 C2 "text" "row" "text" "row") (k := 7) rfl gQ kQ lkQ cQ bQ scSaid rfl (Or.inl rfl) (said_gives (n1 := "e") scSaid.nd rfl rfl rfl rfl TX.gC (by decide) rfl TR.gC (by decide) TX.xf TR.xf TX.noN TR.noN (by decide) (by decide) rfl (fun _ => rfl) (fun _ => rfl)) TB rfl (List.mem_singleton.mpr rfl) (fun p hp _ => by rw [List.mem_singleton.mp hp]; rfl) hr9 (lamS_by (sc := defScope sLaw) (by decide +kernel)) rfl (fun _ _ _ _ _ => rfl) (fun A outer s H E f c' hr' => pe_call GTA hr' rfl gTA kTA bTA .nil (passes_call (takes_of rfl rfl rfl rfl) fun _ _ _ _ h => h) (pa_cons (pv 5) (pa_cons (pv 3) pa_nil)))) (pe_tup (pa_cons pe_str (pa_cons (pv 3) pa_nil))) (nomark _)) (pss_one (ps_ret pe_bl)) pss_nil)))
      (pss_cons (ps_for PassesOwn.never rfl (pi_range1 (by rfl) hrange (pa_cons pe_int pa_nil)) (pg_name (i := 5) nd rfl (Or.inr rfl)) (pss_one (ps_if (pt_cmpR (op_neS hu) (pe_lamcall (T := [(PT, lawQ)]) (TT := TSaid K C1 C2 "text" "row" "text" "row") (k := 7) rfl gQ kQ lkQ cQ bQ scSaid rfl (Or.inl rfl) (said_gives (n1 := "e") scSaid.nd rfl rfl rfl rfl TX.gC (by decide) rfl TR.gC (by decide) TX.xf TR.xf TX.noN TR.noN (by decide) (by decide) rfl (fun _ => rfl) (fun _ => rfl)) TB rfl (List.mem_singleton.mpr rfl) (fun p hp _ => by rw [List.mem_singleton.mp hp]; rfl) hr9 (lamS_by (sc := defScope sLaw) (by decide +kernel)) rfl (fun _ _ _ _ _ => rfl) (fun A outer s H E f c' hr' => pe_call GEA hr' rfl gEA kEA bEA .nil (passes_call (takes_of rfl rfl rfl rfl) fun _ _ _ _ h => h) (pa_cons (pv 5) pa_nil))) (pe_tup (pa_cons pe_str (pa_cons pe_str pa_nil))) (nomark _)) (pss_one (ps_ret pe_bl)) pss_nil)))
      (pss_cons (ps_set (i := 4) nd rfl (Or.inr rfl) (pe_call GO hr2 rfl gO kO bO .nil pass0 (pa_cons (pv 2) (pa_cons (pe_lst (pa_cons (pe_lst (pa_cons pe_str pa_nil)) (pa_cons pe_str (pa_cons pe_non (pa_cons pe_int (pa_cons pe_dnewK pa_nil)))))) pa_nil))))
      (pss_cons (ps_for PassesOwn.never rfl (pi_range1 (by rfl) hrange (pa_cons pe_int pa_nil)) (pg_name (i := 5) nd rfl (Or.inr rfl)) (pss_one (ps_if (pt_cmpR (op_neS hu) (pe_lamcall (T := [(PT, lawQ)]) (TT := TSaid K C1 C2 "text" "row" "text" "row") (k := 7) rfl gQ kQ lkQ cQ bQ scSaid rfl (Or.inl rfl) (said_gives (n1 := "e") scSaid.nd rfl rfl rfl rfl TX.gC (by decide) rfl TR.gC (by decide) TX.xf TR.xf TX.noN TR.noN (by decide) (by decide) rfl (fun _ => rfl) (fun _ => rfl)) TB rfl (List.mem_singleton.mpr rfl) (fun p hp _ => by rw [List.mem_singleton.mp hp]; rfl) hr9 (lamS_by (sc := defScope sLaw) (by decide +kernel)) rfl (fun _ _ _ _ _ => rfl) (fun A outer s H E f c' hr' => pe_call GUA hr' rfl gUA kUA bUA .nil (passes_call (takes_of rfl rfl rfl rfl) fun _ _ _ _ h => h) (pa_cons (pv 5) (pa_cons (pv 4) (pa_cons (pv 3) pa_nil))))) (pe_tup (pa_cons pe_str (pa_cons (pv 4) pa_nil))) (nomark _)) (pss_one (ps_ret pe_bl)) pss_nil)))
      (pss_cons (ps_set (i := 6) nd rfl (Or.inr rfl) (pe_call GO hr2 rfl gO kO bO .nil pass0 (pa_cons (pv 2) (pa_cons (pe_lst (pa_cons pe_non (pa_cons pe_int (pa_cons (pe_cmpR op_eq pe_int pe_int (nomark _)) (pa_cons pe_str (pa_cons pe_str (pa_cons pe_str (pa_cons (pe_lst (pa_cons pe_str pa_nil)) (pa_cons (pe_tup (pa_cons pe_str (pa_cons pe_str pa_nil))) (pa_cons pe_dnewK (pa_cons pe_str pa_nil))))))))))) pa_nil))))
      (pss_one (ps_for PassesOwn.never rfl (pi_range1 (by rfl) hrange (pa_cons pe_int pa_nil)) (pg_name (i := 5) nd rfl (Or.inr rfl)) (pss_one (ps_if (pt_cmpR (op_neS hu) (pe_lamcall (T := [(PT, lawQ)]) (TT := TSaid K C1 C2 "text" "row" "text" "row") (k := 7) rfl gQ kQ lkQ cQ bQ scSaid rfl (Or.inl rfl) (said_gives (n1 := "e") scSaid.nd rfl rfl rfl rfl TX.gC (by decide) rfl TR.gC (by decide) TX.xf TR.xf TX.noN TR.noN (by decide) (by decide) rfl (fun _ => rfl) (fun _ => rfl)) TB rfl (List.mem_singleton.mpr rfl) (fun p hp _ => by rw [List.mem_singleton.mp hp]; rfl) hr9 (lamS_by (sc := defScope sLaw) (by decide +kernel)) rfl (fun _ _ _ _ _ => rfl) (fun A outer s H E f c' hr' => pe_call GRA hr' rfl gRA kRA bRA .nil (passes_call (takes_of rfl rfl rfl rfl) fun _ _ _ _ h => h) (pa_cons (pv 5) (pa_cons (pv 6) pa_nil)))) (pe_tup (pa_cons pe_str (pa_cons (pv 6) pa_nil))) (nomark _)) (pss_one (ps_ret pe_bl)) pss_nil))))))))))))
      (pss_one (ps_ret pe_bl))))), ?_⟩
    refine ⟨rfl, fun H0 s0 => ⟨_, rfl, ?_⟩⟩
    have hS0 := s0.seq hS
    have hPT0 := s0 _ _ hPT
    obtain ⟨ms, hms, hml⟩ := cut_ints ns none (some 8)
    refine ⟨_, rfl, _, rfl, a, _, rfl, hS0, fun p0 z0 => ?_⟩
    rw [hms]
    obtain ⟨H1, e1, S1, A1⟩ := alloc (o := .lst (ms.map V.int)) z0
    rw [e1]
    refine ⟨(by show 1 ≤ sizeLine; decide), fun p1 z1 => ?_⟩
    obtain ⟨H2, e2, S2, A2⟩ := alloc (o := .lst [.int 0]) z1
    rw [e2]
    refine ⟨p0, p1, _, _, rfl, rfl, S2 _ _ A1, A2, ?_, fun p2 z2 => ?_⟩
    · rw [List.length_map]
      exact Nat.le_trans (Nat.add_le_add_right (Nat.le_trans hml hlen) 1) (by show 64 ≤ sizeLine; decide)
    have em : ms.map V.int ++ [V.int 0] = (ms ++ [0]).map V.int := by rw [List.map_append]; rfl
    rw [em]
    obtain ⟨H3, e3, S3, A3⟩ := alloc (o := .lst ((ms ++ [0]).map V.int)) z2
    rw [e3]
    have hT3 : Tabs [(PT, lawQ)] H3 := fun p hp => by
      rw [List.mem_singleton.mp hp]
      exact TabS.nil (S3 _ _ (S2 _ _ (S1 _ _ hPT0)))
    refine ⟨p2, rfl, ⟨_, .of A3⟩, for_list (K := K) (a := p2) (xs := (ms ++ [0]).map V.int) (fun i σ H' => ∃ v1 v2 v3 v4 v5 v6 : Option V, σ = [some (.ref a), v1, v2, v3, v4, v5, v6] ∧ ExtN H3 H' ∧ Tabs [(PT, lawQ)] H') ⟨none, none, none, none, none, none, rfl, .refl _, hT3⟩ (fun i σ H' _ ⟨_, _, _, _, _, _, _, s, _⟩ => .of (s _ _ A3 fun _ z => by cases z)) ?_ ?_⟩
    rotate_left
    · rintro σ H4 ⟨v1, v2, v3, v4, v5, v6, rfl, s4, T4⟩
      exact k H4
    · rintro i y0 σ H4 hi ⟨v1, v2, v3, v4, v5, v6, rfl, s4, T4⟩
      obtain ⟨z, _, rfl⟩ := ints_at hi
      refine ⟨_, rfl, z, rfl, fun wl H5 nwl hw s5 => ?_⟩
      have T5 : Tabs [(PT, lawQ)] H5 := T4.ext s5
      have x5 : ExtN H3 H5 := s4.trans (ExtN.of s5)
      have nwl3 : ∀ b o, H3 b = some o → (∀ ps, o ≠ .tbl ps) → b ≠ wl := fun b o e nt z => by rw [← z, s4 _ _ e nt] at nwl; cases nwl
      refine ⟨_, rfl, rfl, (by show 1 ≤ sizeLine; decide), fun qo1 yo1 => ?_⟩
      obtain ⟨Go1, go1, Uo1, Bo1⟩ := alloc (o := .lst [.str "a"]) yo1
      rw [go1]
      refine ⟨(by show 1 ≤ sizeLine; decide), fun qo2 yo2 => ?_⟩
      obtain ⟨Go2, go2, Uo2, Bo2⟩ := alloc (o := .tup [.str "a"]) yo2
      rw [go2]
      intro qo3 yo3
      obtain ⟨Go3, go3, Uo3, Bo3⟩ := alloc (o := .dK []) yo3
      rw [go3]
      refine ⟨(by show 12 ≤ sizeLine; decide), fun qo9 yo9 => ?_⟩
      obtain ⟨Go9, go9, Uo9, Bo9⟩ := alloc (o := .lst [.non, .int 5, .bl (decide (V.int 1 = V.int 1)), .str "A", .str "a b", .str "ab1", .ref qo1, .ref qo2, .ref qo3, .int 0, .str "a-", .str "$a"]) yo9
      rw [go9]
      have so9 : Same H5 Go9 := (((Uo1.trans Uo2).trans Uo3).trans Uo9)
      have fo9 : ∀ x ∈ [.non, .int 5, .bl (decide (V.int 1 = V.int 1)), .str "A", .str "a b", .str "ab1", .ref qo1, .ref qo2, .ref qo3, .int 0, .str "a-", .str "$a"], Pl Go9 x ∧ badT isT x := by
        intro x hx
        rcases List.mem_cons.mp hx with rfl | hx
        · exact ⟨.non, .inl rfl⟩
        rcases List.mem_cons.mp hx with rfl | hx
        · exact ⟨.int _, .inl rfl⟩
        rcases List.mem_cons.mp hx with rfl | hx
        · exact ⟨.bl _, .inl rfl⟩
        rcases List.mem_cons.mp hx with rfl | hx
        · exact ⟨.str _, .inr ⟨_, rfl, by decide, by decide +kernel⟩⟩
        rcases List.mem_cons.mp hx with rfl | hx
        · exact ⟨.str _, .inr ⟨_, rfl, by decide, by decide +kernel⟩⟩
        rcases List.mem_cons.mp hx with rfl | hx
        · exact ⟨.str _, .inr ⟨_, rfl, by decide, by decide +kernel⟩⟩
        rcases List.mem_cons.mp hx with rfl | hx
        · exact ⟨.lst (((Uo2.trans Uo3).trans Uo9) _ _ Bo1), .inl rfl⟩
        rcases List.mem_cons.mp hx with rfl | hx
        · exact ⟨.tup ((Uo3.trans Uo9) _ _ Bo2), .inl rfl⟩
        rcases List.mem_cons.mp hx with rfl | hx
        · exact ⟨.dct (Uo9 _ _ Bo3), .inl rfl⟩
        rcases List.mem_cons.mp hx with rfl | hx
        · exact ⟨.int _, .inl rfl⟩
        rcases List.mem_cons.mp hx with rfl | hx
        · exact ⟨.str _, .inr ⟨_, rfl, by decide, by decide +kernel⟩⟩
        rcases List.mem_cons.mp hx with rfl | hx
        · exact ⟨.str _, .inr ⟨_, rfl, by decide, by decide +kernel⟩⟩
        cases hx
      have wo9 := hw.keepN (ExtN.of so9)
      have no9 : qo9 ≠ wl := fun e => by obtain ⟨_, _, _, e2, _⟩ := hw; have e3 := so9 _ _ e2; rw [← e, Bo9] at e3; cases e3
      refine ⟨wl, qo9, _, _, rfl, wo9, by decide, Bo9, no9, (by show 0 < 12; decide), (by show 12 ≤ 1000; decide), fun x Ho ho hwo kbo => ?_⟩
      obtain ⟨po, bo⟩ := fo9 x ho
      have po := po.keepW wo9 hwo kbo
      have To : Tabs [(PT, lawQ)] Ho := (T5.ext so9).keepW wo9 kbo
      have xo : ExtN H3 Ho := fun b o e nt => kbo _ _ (so9 _ _ (x5 _ _ e nt)) (nwl3 b o e nt)
      refine ⟨5, rfl, by decide, by decide, for_it (walk_range (lo := 0) (n := 5)) (fun i σ H' => ∃ v5 : Option V, σ = [some (.ref a), some (.int z), some (.ref wl), some x, v4, v5, v6] ∧ ExtN Ho H' ∧ Tabs [(PT, lawQ)] H') ⟨_, rfl, .refl _, To⟩ (fun _ _ _ _ _ => trivial) ?_ ?_⟩
      · rintro i u σ Hi _ hi ⟨v5, rfl, sN, Ti⟩ ⟨rfl, rfl⟩
        refine ⟨Ti, fun Hj eN Tj => ?_⟩
        have eJ := sN.trans eN
        refine ⟨_, rfl, _, rfl, _, x, rfl, by omega, by omega, po.keepN eJ, bo, fun Hk d sk hd => ?_⟩
        obtain ⟨Hl, el, Sl, Al⟩ := alloc (o := .xd [("text", x)]) hd
        rw [el]
        refine ⟨true, e11, fun _ => ⟨rfl, d, x, rfl, Al, fun p hp => ?_⟩, fun z => by cases z⟩
        obtain ⟨Hm, em, Sm', Am⟩ := alloc (o := .tup [.str "text", x]) hp
        rw [em]
        refine ⟨_, rfl, (by show 2 ≤ sizeLine; decide), fun p2' hp2 => ?_⟩
        obtain ⟨Hn, en, Sn, An⟩ := alloc (o := .tup [.str "text", x]) hp2
        rw [en]
        refine ⟨.tp (.of (Sn _ _ Am)) (.of An) rfl (same_pair po.nf), _, rfl, ?_⟩
        have all := ((sk.trans Sl).trans Sm').trans Sn
        exact ⟨_, rfl, eJ.trans (ExtN.of all), Tj.ext all⟩
      rintro σ Ha ⟨v5, rfl, ea, Ta⟩
      have hwa := hwo.keepN ea
      have xa := xo.trans ea
      have po := po.keepN ea
      refine ⟨2, rfl, by decide, by decide, for_it (walk_range (lo := 0) (n := 2)) (fun i σ H' => ∃ v5 : Option V, σ = [some (.ref a), some (.int z), some (.ref wl), some x, v4, v5, v6] ∧ ExtN Ha H' ∧ Tabs [(PT, lawQ)] H') ⟨_, rfl, .refl _, Ta⟩ (fun _ _ _ _ _ => trivial) ?_ ?_⟩
      · rintro i u σ Hi _ hi ⟨v5, rfl, sN, Ti⟩ ⟨rfl, rfl⟩
        refine ⟨Ti, fun Hj eN Tj => ?_⟩
        have eJ := sN.trans eN
        refine ⟨_, rfl, _, rfl, by omega, by omega, fun Hk d sk hd => ?_⟩
        obtain ⟨Hl, el, Sl, Al⟩ := alloc (o := .xd [("text", (.str ""))]) hd
        rw [el]
        refine ⟨true, e11, fun _ => ⟨rfl, d, (.str ""), rfl, Al, fun p hp => ?_⟩, fun z => by cases z⟩
        obtain ⟨Hm, em, Sm', Am⟩ := alloc (o := .tup [.str "text", (.str "")]) hp
        rw [em]
        refine ⟨(by show 2 ≤ sizeLine; decide), fun p2' hp2 => ?_⟩
        obtain ⟨Hn, en, Sn, An⟩ := alloc (o := .tup [.str "text", (.str "")]) hp2
        rw [en]
        refine ⟨.tp (.of (Sn _ _ Am)) (.of An) rfl (same_pair (fun c z => by cases z)), _, rfl, ?_⟩
        have all := ((sk.trans Sl).trans Sm').trans Sn
        exact ⟨_, rfl, eJ.trans (ExtN.of all), Tj.ext all⟩
      rintro σ He ⟨v5, rfl, ee, Te⟩
      have hwe := hwa.keepN ee
      have xe := xa.trans ee
      have po := po.keepN ee
      refine ⟨_, rfl, (by show 1 ≤ sizeLine; decide), fun qs1 ys1 => ?_⟩
      obtain ⟨Gs1, gs1, Us1, Bs1⟩ := alloc (o := .lst [.str "a"]) ys1
      rw [gs1]
      intro qs2 ys2
      obtain ⟨Gs2, gs2, Us2, Bs2⟩ := alloc (o := .dK []) ys2
      rw [gs2]
      refine ⟨(by show 5 ≤ sizeLine; decide), fun qs9 ys9 => ?_⟩
      obtain ⟨Gs9, gs9, Us9, Bs9⟩ := alloc (o := .lst [.ref qs1, .str "a", .non, .int 5, .ref qs2]) ys9
      rw [gs9]
      have ss9 : Same He Gs9 := ((Us1.trans Us2).trans Us9)
      have fs9 : ∀ x ∈ [.ref qs1, .str "a", .non, .int 5, .ref qs2], Pn Gs9 x ∧ True := by
        intro x hx
        rcases List.mem_cons.mp hx with rfl | hx
        · exact ⟨.lst ((Us2.trans Us9) _ _ Bs1), trivial⟩
        rcases List.mem_cons.mp hx with rfl | hx
        · exact ⟨.str _, trivial⟩
        rcases List.mem_cons.mp hx with rfl | hx
        · exact ⟨.non, trivial⟩
        rcases List.mem_cons.mp hx with rfl | hx
        · exact ⟨.int _, trivial⟩
        rcases List.mem_cons.mp hx with rfl | hx
        · exact ⟨.dct (Us9 _ _ Bs2), trivial⟩
        cases hx
      have ws9 := hwe.keepN (ExtN.of ss9)
      have ns9 : qs9 ≠ wl := fun e => by obtain ⟨_, _, _, e2, _⟩ := hwe; have e3 := ss9 _ _ e2; rw [← e, Bs9] at e3; cases e3
      refine ⟨wl, qs9, _, _, rfl, ws9, by decide, Bs9, ns9, (by show 0 < 5; decide), (by show 5 ≤ 1000; decide), fun y Hs hs hws kbs => ?_⟩
      obtain ⟨ps, bs⟩ := fs9 y hs
      have ps := ps.keepW ws9 hws kbs
      have po := (po.keepN (ExtN.of ss9)).keepW ws9 hws kbs
      have Ts : Tabs [(PT, lawQ)] Hs := (Te.ext ss9).keepW ws9 kbs
      have xs : ExtN H3 Hs := fun b o e nt => kbs _ _ (ss9 _ _ (xe _ _ e nt)) (nwl3 b o e nt)
      refine ⟨3, rfl, by decide, by decide, for_it (walk_range (lo := 0) (n := 3)) (fun i σ H' => ∃ v5 : Option V, σ = [some (.ref a), some (.int z), some (.ref wl), some x, some y, v5, v6] ∧ ExtN Hs H' ∧ Tabs [(PT, lawQ)] H') ⟨_, rfl, .refl _, Ts⟩ (fun _ _ _ _ _ => trivial) ?_ ?_⟩
      · rintro i u σ Hi _ hi ⟨v5, rfl, sN, Ti⟩ ⟨rfl, rfl⟩
        refine ⟨Ti, fun Hj eN Tj => ?_⟩
        have eJ := sN.trans eN
        refine ⟨_, rfl, _, rfl, _, rfl, _, y, x, rfl, by omega, by omega, (ps.keepN eJ).pl, fun H9 s9 => ((ps.keepN eJ).keepN (ExtN.of s9)).nt, fun Hk d sk hd => ?_⟩
        obtain ⟨Hl, el, Sl, Al⟩ := alloc (o := .xd [("text", y)]) hd
        rw [el]
        refine ⟨true, e11, fun _ => ⟨rfl, d, y, rfl, Al, fun p hp => ?_⟩, fun z => by cases z⟩
        obtain ⟨Hm, em, Sm', Am⟩ := alloc (o := .tup [.str "text", y]) hp
        rw [em]
        refine ⟨_, rfl, (by show 2 ≤ sizeLine; decide), fun p2' hp2 => ?_⟩
        obtain ⟨Hn, en, Sn, An⟩ := alloc (o := .tup [.str "text", y]) hp2
        rw [en]
        refine ⟨.tp (.of (Sn _ _ Am)) (.of An) rfl (same_pair ps.pl.nf), _, rfl, ?_⟩
        have all := ((sk.trans Sl).trans Sm').trans Sn
        exact ⟨_, rfl, eJ.trans (ExtN.of all), Tj.ext all⟩
      rintro σ Hu ⟨v5, rfl, eu, Tu⟩
      have hwu := hws.keepN eu
      have xu := xs.trans eu
      have po := po.keepN eu
      have ps := ps.keepN eu
      refine ⟨_, rfl, rfl, (by show 1 ≤ sizeLine; decide), fun qr1 yr1 => ?_⟩
      obtain ⟨Gr1, gr1, Ur1, Br1⟩ := alloc (o := .lst [.str "$"]) yr1
      rw [gr1]
      refine ⟨(by show 2 ≤ sizeLine; decide), fun qr2 yr2 => ?_⟩
      obtain ⟨Gr2, gr2, Ur2, Br2⟩ := alloc (o := .tup [.str "a", .str "$"]) yr2
      rw [gr2]
      intro qr3 yr3
      obtain ⟨Gr3, gr3, Ur3, Br3⟩ := alloc (o := .dK []) yr3
      rw [gr3]
      refine ⟨(by show 10 ≤ sizeLine; decide), fun qr9 yr9 => ?_⟩
      obtain ⟨Gr9, gr9, Ur9, Br9⟩ := alloc (o := .lst [.non, .int 5, .bl (decide (V.int 1 = V.int 1)), .str "A", .str "a b", .str "a#", .ref qr1, .ref qr2, .ref qr3, .str "$1"]) yr9
      rw [gr9]
      have sr9 : Same Hu Gr9 := (((Ur1.trans Ur2).trans Ur3).trans Ur9)
      have fr9 : ∀ x ∈ [.non, .int 5, .bl (decide (V.int 1 = V.int 1)), .str "A", .str "a b", .str "a#", .ref qr1, .ref qr2, .ref qr3, .str "$1"], Pl Gr9 x ∧ badR x := by
        intro x hx
        rcases List.mem_cons.mp hx with rfl | hx
        · exact ⟨.non, .inl rfl⟩
        rcases List.mem_cons.mp hx with rfl | hx
        · exact ⟨.int _, .inl rfl⟩
        rcases List.mem_cons.mp hx with rfl | hx
        · exact ⟨.bl _, .inl rfl⟩
        rcases List.mem_cons.mp hx with rfl | hx
        · exact ⟨.str _, .inr ⟨_, rfl, by decide, by decide +kernel⟩⟩
        rcases List.mem_cons.mp hx with rfl | hx
        · exact ⟨.str _, .inr ⟨_, rfl, by decide, by decide +kernel⟩⟩
        rcases List.mem_cons.mp hx with rfl | hx
        · exact ⟨.str _, .inr ⟨_, rfl, by decide, by decide +kernel⟩⟩
        rcases List.mem_cons.mp hx with rfl | hx
        · exact ⟨.lst (((Ur2.trans Ur3).trans Ur9) _ _ Br1), .inl rfl⟩
        rcases List.mem_cons.mp hx with rfl | hx
        · exact ⟨.tup ((Ur3.trans Ur9) _ _ Br2), .inl rfl⟩
        rcases List.mem_cons.mp hx with rfl | hx
        · exact ⟨.dct (Ur9 _ _ Br3), .inl rfl⟩
        rcases List.mem_cons.mp hx with rfl | hx
        · exact ⟨.str _, .inr ⟨_, rfl, by decide, by decide +kernel⟩⟩
        cases hx
      have wr9 := hwu.keepN (ExtN.of sr9)
      have nr9 : qr9 ≠ wl := fun e => by obtain ⟨_, _, _, e2, _⟩ := hwu; have e3 := sr9 _ _ e2; rw [← e, Br9] at e3; cases e3
      refine ⟨wl, qr9, _, _, rfl, wr9, by decide, Br9, nr9, (by show 0 < 10; decide), (by show 10 ≤ 1000; decide), fun t Hr hr hwr kbr => ?_⟩
      obtain ⟨pr, br⟩ := fr9 t hr
      have pr := pr.keepW wr9 hwr kbr
      have Tr : Tabs [(PT, lawQ)] Hr := (Tu.ext sr9).keepW wr9 kbr
      have xr : ExtN H3 Hr := fun b o e nt => kbr _ _ (sr9 _ _ (xu _ _ e nt)) (nwl3 b o e nt)
      refine ⟨5, rfl, by decide, by decide, for_it (walk_range (lo := 0) (n := 5)) (fun i σ H' => ∃ v5 : Option V, σ = [some (.ref a), some (.int z), some (.ref wl), some x, some y, v5, some t] ∧ ExtN Hr H' ∧ Tabs [(PT, lawQ)] H') ⟨_, rfl, .refl _, Tr⟩ (fun _ _ _ _ _ => trivial) ?_ ?_⟩
      · rintro i u σ Hi _ hi ⟨v5, rfl, sN, Ti⟩ ⟨rfl, rfl⟩
        refine ⟨Ti, fun Hj eN Tj => ?_⟩
        have eJ := sN.trans eN
        refine ⟨_, rfl, _, rfl, _, t, rfl, by omega, by omega, pr.keepN eJ, br, fun Hk d sk hd => ?_⟩
        obtain ⟨Hl, el, Sl, Al⟩ := alloc (o := .xd [("row", t)]) hd
        rw [el]
        refine ⟨false, e21, fun z => (by cases z), fun _ => ⟨true, e22, fun _ => ⟨rfl, d, t, rfl, Al, fun p hp => ?_⟩, fun z => by cases z⟩⟩
        obtain ⟨Hm, em, Sm', Am⟩ := alloc (o := .tup [.str "row", t]) hp
        rw [em]
        refine ⟨_, rfl, (by show 2 ≤ sizeLine; decide), fun p2' hp2 => ?_⟩
        obtain ⟨Hn, en, Sn, An⟩ := alloc (o := .tup [.str "row", t]) hp2
        rw [en]
        refine ⟨.tp (.of (Sn _ _ Am)) (.of An) rfl (same_pair pr.nf), _, rfl, ?_⟩
        have all := ((sk.trans Sl).trans Sm').trans Sn
        exact ⟨_, rfl, eJ.trans (ExtN.of all), Tj.ext all⟩
      rintro σ Hq ⟨v5, rfl, eq, Tq⟩
      have hwq := hwr.keepN eq
      have xq := xr.trans eq
      exact ⟨_, _, _, _, _, _, rfl, xq, Tq⟩
end
end T05

set_option Elab.async false
set_option linter.all false
set_option maxRecDepth 100000
set_option maxHeartbeats 4000000
namespace T05
open PySem L2 EK LamX
theorem all_mk {l : PySem.W.OpenLaw} {w : World} {K : PySem.W.Frag} {h : Heap} {mg : Str → Option Value} {fa C1 C2 i1 i2 : Addr} {tl tm : Tok} (X : K.In h) (G : h.Ns mainGlobals mg) (hfa : mg "law" = some (.ref fa))
    {fT : Addr} {odT anT : Option Addr} {slT : Array (Option Value)} {ocT kVT dcT pmT cdT ctT : Value}
    {fV : Addr} {odV anV : Option Addr} {slV : Array (Option Value)} {ocV kVV dcV pmV cdV ctV : Value}
    {fU : Addr} {odU anU : Option Addr} {slU : Array (Option Value)} {ocU kVU dcU pmU cdU ctU : Value}
    {fK : Addr} {odK anK : Option Addr} {slK : Array (Option Value)} {ocK kVK dcK pmK cdK ctK : Value}
    {fI : Addr} {odI anI : Option Addr} {slI : Array (Option Value)} {ocI kVI dcI pmI cdI ctI : Value}
    {fJ : Addr} {odJ anJ : Option Addr} {slJ : Array (Option Value)} {ocJ kVJ dcJ pmJ cdJ ctJ : Value}
    {fL : Addr} {odL anL : Option Addr} {slL : Array (Option Value)} {ocL kVL dcL pmL cdL ctL : Value}
    {fR : Addr} {odR anR : Option Addr} {slR : Array (Option Value)} {ocR kVR dcR pmR cdR ctR : Value}
    {fA : Addr} {odA anA : Option Addr} {slA : Array (Option Value)} {ocA kVA dcA pmA cdA ctA : Value}
    {fB : Addr} {odB anB : Option Addr} {slB : Array (Option Value)} {ocB kVB dcB pmB cdB ctB : Value}
    {fD : Addr} {odD anD : Option Addr} {slD : Array (Option Value)} {ocD kVD dcD pmD cdD ctD : Value}
    {fE : Addr} {odE anE : Option Addr} {slE : Array (Option Value)} {ocE kVE dcE pmE cdE ctE : Value}
    {f6 : Addr} {od6 an6 : Option Addr} {sl6 : Array (Option Value)} {oc6 kV6 dc6 pm6 cd6 ct6 : Value}
    {f7 : Addr} {od7 an7 : Option Addr} {sl7 : Array (Option Value)} {oc7 kV7 dc7 pm7 cd7 ct7 : Value}
    {fX : Addr} {odX anX : Option Addr} {slX : Array (Option Value)} {ocX kVX dcX pmX cdX ctX : Value}
    {fY : Addr} {odY anY : Option Addr} {slY : Array (Option Value)} {ocY kVY dcY pmY cdY ctY : Value}
    {fG : Addr} {odG anG : Option Addr} {slG : Array (Option Value)} {ocG kVG dcG pmG cdG ctG : Value}
    {f8 : Addr} {od8 an8 : Option Addr} {sl8 : Array (Option Value)} {oc8 kV8 dc8 pm8 cd8 ct8 : Value}
    {f9 : Addr} {od9 an9 : Option Addr} {sl9 : Array (Option Value)} {oc9 kV9 dc9 pm9 cd9 ct9 : Value}
    {f0 : Addr} {od0 an0 : Option Addr} {sl0 : Array (Option Value)} {oc0 kV0 dc0 pm0 cd0 ct0 : Value}
    {fM : Addr} {odM anM : Option Addr} {slM : Array (Option Value)} {ocM kVM dcM pmM cdM ctM : Value}
    {fW : Addr} {odW anW : Option Addr} {slW : Array (Option Value)} {ocW kVW dcW pmW cdW ctW : Value}
    {fDR : Addr} {odDR anDR : Option Addr} {slDR : Array (Option Value)} {ocDR kVDR dcDR pmDR cdDR ctDR : Value}
    {fO : Addr} {odO anO : Option Addr} {slO : Array (Option Value)} {ocO kVO dcO pmO cdO ctO : Value}
    {fRR : Addr} {odRR anRR : Option Addr} {slRR : Array (Option Value)} {ocRR kVRR dcRR pmRR cdRR ctRR : Value}
    {fTA : Addr} {odTA anTA : Option Addr} {slTA : Array (Option Value)} {ocTA kVTA dcTA pmTA cdTA ctTA : Value}
    {fEA : Addr} {odEA anEA : Option Addr} {slEA : Array (Option Value)} {ocEA kVEA dcEA pmEA cdEA ctEA : Value}
    {fUA : Addr} {odUA anUA : Option Addr} {slUA : Array (Option Value)} {ocUA kVUA dcUA pmUA cdUA ctUA : Value}
    {fRA : Addr} {odRA anRA : Option Addr} {slRA : Array (Option Value)} {ocRA kVRA dcRA pmRA cdRA ctRA : Value}
    {fQ : Addr} {odQ anQ : Option Addr} {slQ : Array (Option Value)} {ocQ kVQ dcQ pmQ cdQ ctQ : Value}
    {fZ : Addr} {odZ anZ : Option Addr} {slZ : Array (Option Value)} {ocZ kVZ dcZ pmZ  ctZ : Value} {cZa PT : Addr}
    (hTab : h.get? PT = some { cls := .none, data := .fields #[] }) (T1 : ErrTxt l.prog K mg "NoText" "text" C1 i1) (T2 : ErrTxt l.prog K mg "NoRow" "row" C2 i2)
    (e11 : PySem.W.exmOne K (.ref C1) (.ref C1) = some true) (e21 : PySem.W.exmOne K (.ref C2) (.ref C1) = some false) (e22 : PySem.W.exmOne K (.ref C2) (.ref C2) = some true)
    (aT : PySem.W.nsIn K mainGlobals "is_text" = some (some (.ref fT))) (lT : K.lookup fT = some ⟨ocT, odT, .func (PySem.W.fnOf "is_text" "is_text" (defArgs sIsText) (defBody sIsText) (defScope sIsText) .none kVT dcT pmT anT cdT ctT), slT⟩) (cT : PySem.W.codeIn K cdT "is_text" = true) (kT : PySem.W.keepIn K (.ref fT) = true)
    (aV : PySem.W.nsIn K mainGlobals "is_word" = some (some (.ref fV))) (lV : K.lookup fV = some ⟨ocV, odV, .func (PySem.W.fnOf "is_word" "is_word" (defArgs sIsWord) (defBody sIsWord) (defScope sIsWord) .none kVV dcV pmV anV cdV ctV), slV⟩) (cV : PySem.W.codeIn K cdV "is_word" = true) (kV : PySem.W.keepIn K (.ref fV) = true)
    (aU : PySem.W.nsIn K mainGlobals "is_row" = some (some (.ref fU))) (lU : K.lookup fU = some ⟨ocU, odU, .func (PySem.W.fnOf "is_row" "is_row" (defArgs sIsRow) (defBody sIsRow) (defScope sIsRow) .none kVU dcU pmU anU cdU ctU), slU⟩) (cU : PySem.W.codeIn K cdU "is_row" = true) (kU : PySem.W.keepIn K (.ref fU) = true)
    (aK : PySem.W.nsIn K mainGlobals "check_text" = some (some (.ref fK))) (lK : K.lookup fK = some ⟨ocK, odK, .func (PySem.W.fnOf "check_text" "check_text" (defArgs sCkText) (defBody sCkText) (defScope sCkText) .none kVK dcK pmK anK cdK ctK), slK⟩) (cK : PySem.W.codeIn K cdK "check_text" = true) (kK : PySem.W.keepIn K (.ref fK) = true)
    (aI : PySem.W.nsIn K mainGlobals "check_word" = some (some (.ref fI))) (lI : K.lookup fI = some ⟨ocI, odI, .func (PySem.W.fnOf "check_word" "check_word" (defArgs sCkWord) (defBody sCkWord) (defScope sCkWord) .none kVI dcI pmI anI cdI ctI), slI⟩) (cI : PySem.W.codeIn K cdI "check_word" = true) (kI : PySem.W.keepIn K (.ref fI) = true)
    (aJ : PySem.W.nsIn K mainGlobals "check_texts" = some (some (.ref fJ))) (lJ : K.lookup fJ = some ⟨ocJ, odJ, .func (PySem.W.fnOf "check_texts" "check_texts" (defArgs sCkTexts) (defBody sCkTexts) (defScope sCkTexts) .none kVJ dcJ pmJ anJ cdJ ctJ), slJ⟩) (cJ : PySem.W.codeIn K cdJ "check_texts" = true) (kJ : PySem.W.keepIn K (.ref fJ) = true)
    (aL : PySem.W.nsIn K mainGlobals "check_words" = some (some (.ref fL))) (lL : K.lookup fL = some ⟨ocL, odL, .func (PySem.W.fnOf "check_words" "check_words" (defArgs sCkWords) (defBody sCkWords) (defScope sCkWords) .none kVL dcL pmL anL cdL ctL), slL⟩) (cL : PySem.W.codeIn K cdL "check_words" = true) (kL : PySem.W.keepIn K (.ref fL) = true)
    (aR : PySem.W.nsIn K mainGlobals "check_row" = some (some (.ref fR))) (lR : K.lookup fR = some ⟨ocR, odR, .func (PySem.W.fnOf "check_row" "check_row" (defArgs sCkRow) (defBody sCkRow) (defScope sCkRow) .none kVR dcR pmR anR cdR ctR), slR⟩) (cR : PySem.W.codeIn K cdR "check_row" = true) (kR : PySem.W.keepIn K (.ref fR) = true)
    (aA : PySem.W.nsIn K mainGlobals "row_of" = some (some (.ref fA))) (lA : K.lookup fA = some ⟨ocA, odA, .func (PySem.W.fnOf "row_of" "row_of" (defArgs sRowOf) (defBody sRowOf) (defScope sRowOf) .none kVA dcA pmA anA cdA ctA), slA⟩) (cA : PySem.W.codeIn K cdA "row_of" = true) (kA : PySem.W.keepIn K (.ref fA) = true)
    (aB : PySem.W.nsIn K mainGlobals "row_of_list" = some (some (.ref fB))) (lB : K.lookup fB = some ⟨ocB, odB, .func (PySem.W.fnOf "row_of_list" "row_of_list" (defArgs sRowL) (defBody sRowL) (defScope sRowL) .none kVB dcB pmB anB cdB ctB), slB⟩) (cB : PySem.W.codeIn K cdB "row_of_list" = true) (kB : PySem.W.keepIn K (.ref fB) = true)
    (aD : PySem.W.nsIn K mainGlobals "row_of_ring" = some (some (.ref fD))) (lD : K.lookup fD = some ⟨ocD, odD, .func (PySem.W.fnOf "row_of_ring" "row_of_ring" (defArgs sRowR) (defBody sRowR) (defScope sRowR) .none kVD dcD pmD anD cdD ctD), slD⟩) (cD : PySem.W.codeIn K cdD "row_of_ring" = true) (kD : PySem.W.keepIn K (.ref fD) = true)
    (aE : PySem.W.nsIn K mainGlobals "row_of_all" = some (some (.ref fE))) (lE : K.lookup fE = some ⟨ocE, odE, .func (PySem.W.fnOf "row_of_all" "row_of_all" (defArgs sRowA) (defBody sRowA) (defScope sRowA) .none kVE dcE pmE anE cdE ctE), slE⟩) (cE : PySem.W.codeIn K cdE "row_of_all" = true) (kE : PySem.W.keepIn K (.ref fE) = true)
    (a6 : PySem.W.nsIn K mainGlobals "step_back" = some (some (.ref f6))) (l6 : K.lookup f6 = some ⟨oc6, od6, .func (PySem.W.fnOf "step_back" "step_back" (defArgs sStep) (defBody sStep) (defScope sStep) .none kV6 dc6 pm6 an6 cd6 ct6), sl6⟩) (c6 : PySem.W.codeIn K cd6 "step_back" = true) (k6 : PySem.W.keepIn K (.ref f6) = true)
    (a7 : PySem.W.nsIn K mainGlobals "read_back" = some (some (.ref f7))) (l7 : K.lookup f7 = some ⟨oc7, od7, .func (PySem.W.fnOf "read_back" "read_back" (defArgs sRead) (defBody sRead) (defScope sRead) .none kV7 dc7 pm7 an7 cd7 ct7), sl7⟩) (c7 : PySem.W.codeIn K cd7 "read_back" = true) (k7 : PySem.W.keepIn K (.ref f7) = true)
    (aX : PySem.W.nsIn K mainGlobals "is_of_text" = some (some (.ref fX))) (lX : K.lookup fX = some ⟨ocX, odX, .func (PySem.W.fnOf "is_of_text" "is_of_text" (defArgs sIsT) (defBody sIsT) (defScope sIsT) .none kVX dcX pmX anX cdX ctX), slX⟩) (cX : PySem.W.codeIn K cdX "is_of_text" = true) (kX : PySem.W.keepIn K (.ref fX) = true)
    (aY : PySem.W.nsIn K mainGlobals "is_of_list" = some (some (.ref fY))) (lY : K.lookup fY = some ⟨ocY, odY, .func (PySem.W.fnOf "is_of_list" "is_of_list" (defArgs sIsL) (defBody sIsL) (defScope sIsL) .none kVY dcY pmY anY cdY ctY), slY⟩) (cY : PySem.W.codeIn K cdY "is_of_list" = true) (kY : PySem.W.keepIn K (.ref fY) = true)
    (aG : PySem.W.nsIn K mainGlobals "is_of_ring" = some (some (.ref fG))) (lG : K.lookup fG = some ⟨ocG, odG, .func (PySem.W.fnOf "is_of_ring" "is_of_ring" (defArgs sIsR) (defBody sIsR) (defScope sIsR) .none kVG dcG pmG anG cdG ctG), slG⟩) (cG : PySem.W.codeIn K cdG "is_of_ring" = true) (kG : PySem.W.keepIn K (.ref fG) = true)
    (a8 : PySem.W.nsIn K mainGlobals "_way" = some (some (.ref f8))) (l8 : K.lookup f8 = some ⟨oc8, od8, .func (PySem.W.fnOf "_way" "_way" (defArgs sWay) (defBody sWay) (defScope sWay) .none kV8 dc8 pm8 an8 cd8 ct8), sl8⟩) (c8 : PySem.W.codeIn K cd8 "_way" = true) (k8 : PySem.W.keepIn K (.ref f8) = true)
    (a9 : PySem.W.nsIn K mainGlobals "_cross_out" = some (some (.ref f9))) (l9 : K.lookup f9 = some ⟨oc9, od9, .func (PySem.W.fnOf "_cross_out" "_cross_out" (defArgs sCross) (defBody sCross) (defScope sCross) .none kV9 dc9 pm9 an9 cd9 ct9), sl9⟩) (c9 : PySem.W.codeIn K cd9 "_cross_out" = true) (k9 : PySem.W.keepIn K (.ref f9) = true)
    (a0 : PySem.W.nsIn K mainGlobals "_read" = some (some (.ref f0))) (l0 : K.lookup f0 = some ⟨oc0, od0, .func (PySem.W.fnOf "_read" "_read" (defArgs sRd) (defBody sRd) (defScope sRd) .none kV0 dc0 pm0 an0 cd0 ct0), sl0⟩) (c0 : PySem.W.codeIn K cd0 "_read" = true) (k0 : PySem.W.keepIn K (.ref f0) = true)
    (aM : PySem.W.nsIn K mainGlobals "_least_turn" = some (some (.ref fM))) (lM : K.lookup fM = some ⟨ocM, odM, .func (PySem.W.fnOf "_least_turn" "_least_turn" (defArgs sLeast) (defBody sLeast) (defScope sLeast) .none kVM dcM pmM anM cdM ctM), slM⟩) (cM : PySem.W.codeIn K cdM "_least_turn" = true) (kM : PySem.W.keepIn K (.ref fM) = true)
    (aW : PySem.W.nsIn K mainGlobals "_law_well" = some (some (.ref fW))) (lW : K.lookup fW = some ⟨ocW, odW, .func (PySem.W.fnOf "_law_well" "_law_well" (defArgs sWell) (defBody sWell) (defScope sWell) .none kVW dcW pmW anW cdW ctW), slW⟩) (cW : PySem.W.codeIn K cdW "_law_well" = true) (kW : PySem.W.keepIn K (.ref fW) = true)
    (aDR : PySem.W.nsIn K mainGlobals "_law_draw" = some (some (.ref fDR))) (lDR : K.lookup fDR = some ⟨ocDR, odDR, .func (PySem.W.fnOf "_law_draw" "_law_draw" (defArgs sDraw) (defBody sDraw) (defScope sDraw) .none kVDR dcDR pmDR anDR cdDR ctDR), slDR⟩) (cDR : PySem.W.codeIn K cdDR "_law_draw" = true) (kDR : PySem.W.keepIn K (.ref fDR) = true)
    (aO : PySem.W.nsIn K mainGlobals "_law_one" = some (some (.ref fO))) (lO : K.lookup fO = some ⟨ocO, odO, .func (PySem.W.fnOf "_law_one" "_law_one" (defArgs sOne) (defBody sOne) (defScope sOne) .none kVO dcO pmO anO cdO ctO), slO⟩) (cO : PySem.W.codeIn K cdO "_law_one" = true) (kO : PySem.W.keepIn K (.ref fO) = true)
    (aRR : PySem.W.nsIn K mainGlobals "_law_rows_right" = some (some (.ref fRR))) (lRR : K.lookup fRR = some ⟨ocRR, odRR, .func (PySem.W.fnOf "_law_rows_right" "_law_rows_right" (defArgs sRR) (defBody sRR) (defScope sRR) .none kVRR dcRR pmRR anRR cdRR ctRR), slRR⟩) (cRR : PySem.W.codeIn K cdRR "_law_rows_right" = true) (kRR : PySem.W.keepIn K (.ref fRR) = true)
    (aTA : PySem.W.nsIn K mainGlobals "_law_text_ask" = some (some (.ref fTA))) (lTA : K.lookup fTA = some ⟨ocTA, odTA, .func (PySem.W.fnOf "_law_text_ask" "_law_text_ask" (defArgs sTA) (defBody sTA) (defScope sTA) .none kVTA dcTA pmTA anTA cdTA ctTA), slTA⟩) (cTA : PySem.W.codeIn K cdTA "_law_text_ask" = true) (kTA : PySem.W.keepIn K (.ref fTA) = true)
    (aEA : PySem.W.nsIn K mainGlobals "_law_empty_ask" = some (some (.ref fEA))) (lEA : K.lookup fEA = some ⟨ocEA, odEA, .func (PySem.W.fnOf "_law_empty_ask" "_law_empty_ask" (defArgs sEA) (defBody sEA) (defScope sEA) .none kVEA dcEA pmEA anEA cdEA ctEA), slEA⟩) (cEA : PySem.W.codeIn K cdEA "_law_empty_ask" = true) (kEA : PySem.W.keepIn K (.ref fEA) = true)
    (aUA : PySem.W.nsIn K mainGlobals "_law_tuple_ask" = some (some (.ref fUA))) (lUA : K.lookup fUA = some ⟨ocUA, odUA, .func (PySem.W.fnOf "_law_tuple_ask" "_law_tuple_ask" (defArgs sUA) (defBody sUA) (defScope sUA) .none kVUA dcUA pmUA anUA cdUA ctUA), slUA⟩) (cUA : PySem.W.codeIn K cdUA "_law_tuple_ask" = true) (kUA : PySem.W.keepIn K (.ref fUA) = true)
    (aRA : PySem.W.nsIn K mainGlobals "_law_row_ask" = some (some (.ref fRA))) (lRA : K.lookup fRA = some ⟨ocRA, odRA, .func (PySem.W.fnOf "_law_row_ask" "_law_row_ask" (defArgs sRA) (defBody sRA) (defScope sRA) .none kVRA dcRA pmRA anRA cdRA ctRA), slRA⟩) (cRA : PySem.W.codeIn K cdRA "_law_row_ask" = true) (kRA : PySem.W.keepIn K (.ref fRA) = true)
    (aQ : PySem.W.nsIn K mainGlobals "_law_said" = some (some (.ref fQ))) (lQ : K.lookup fQ = some ⟨ocQ, odQ, .func (PySem.W.fnOf "_law_said" "_law_said" (defArgs sSaid) (defBody sSaid) (defScope sSaid) .none kVQ dcQ pmQ anQ cdQ ctQ), slQ⟩) (cQ : PySem.W.codeIn K cdQ "_law_said" = true) (kQ : PySem.W.keepIn K (.ref fQ) = true)
    (aZ : PySem.W.nsIn K mainGlobals "law" = some (some (.ref fZ))) (lZ : K.lookup fZ = some ⟨ocZ, odZ, .func (PySem.W.fnOf "law" "law" (defArgs sLaw) (defBody sLaw) (defScope sLaw) .none kVZ dcZ pmZ anZ (.ref cZa) ctZ), slZ⟩) (cZ : PySem.W.codeIn K (.ref cZa) "law" = true) (kZ : PySem.W.keepIn K (.ref fZ) = true)
    (nT : K.lookup PT = none) (hCd : PySem.W.codeHdIn K cZa PT = true)
    (y1 : PySem.W.nsIn K mainGlobals "LETTERS" = some (some (.str "abcdefghijklmnopqrstuvwxyz" tl))) (y2 : PySem.W.nsIn K mainGlobals "END" = some (some (.str "$" tm)))
    (z1 : PySem.W.nsIn K mainGlobals "isinstance" = some none) (z2 : PySem.W.nsIn K mainGlobals "str" = some none) (z3 : PySem.W.nsIn K mainGlobals "tuple" = some none) (z4 : PySem.W.nsIn K mainGlobals "all" = some none) (z5 : PySem.W.nsIn K mainGlobals "len" = some none) (z6 : PySem.W.nsIn K mainGlobals "min" = some none) (z7 : PySem.W.nsIn K mainGlobals "range" = some none) (z8 : PySem.W.nsIn K mainGlobals "sorted" = some none) (z9 : PySem.W.nsIn K mainGlobals "reversed" = some none) (z10 : PySem.W.nsIn K mainGlobals "enumerate" = some none) (z11 : PySem.W.nsIn K mainGlobals "int" = some none) (z12 : PySem.W.nsIn K mainGlobals "set" = some none) : LawAtS l w K CX0 10 63 "_law_script" mg fa h := by
  have e := hfa.symm.trans (PySem.W.mg_of X G aZ)
  cases e
  have TD : TxtD K mg := ⟨PySem.W.mg_none_of X G z11, PySem.W.mg_none_of X G z5⟩
  have TC : TxtC K mg := ⟨PySem.W.mg_none_of X G z1, PySem.W.mg_none_of X G z2, PySem.W.mg_none_of X G z3, PySem.W.mg_none_of X G z4, PySem.W.mg_none_of X G z5, PySem.W.mg_none_of X G z6, PySem.W.mg_none_of X G z7, PySem.W.mg_none_of X G z8, PySem.W.mg_none_of X G z9, PySem.W.mg_none_of X G z10, ⟨_, PySem.W.mg_of X G y1, ⟨tl, rfl⟩⟩, ⟨_, PySem.W.mg_of X G y2, ⟨tm, rfl⟩⟩⟩
  have FT := fun_mk (st := sIsText) lT cT kT
  have FV := fun_mk (st := sIsWord) lV cV kV
  have FU := fun_mk (st := sIsRow) lU cU kU
  have FK := fun_mk (st := sCkText) lK cK kK
  have FI := fun_mk (st := sCkWord) lI cI kI
  have FJ := fun_mk (st := sCkTexts) lJ cJ kJ
  have FL := fun_mk (st := sCkWords) lL cL kL
  have FR := fun_mk (st := sCkRow) lR cR kR
  have FA := fun_mk (st := sRowOf) lA cA kA
  have FB := fun_mk (st := sRowL) lB cB kB
  have FD := fun_mk (st := sRowR) lD cD kD
  have FE := fun_mk (st := sRowA) lE cE kE
  have F6 := fun_mk (st := sStep) l6 c6 k6
  have F7 := fun_mk (st := sRead) l7 c7 k7
  have FX := fun_mk (st := sIsT) lX cX kX
  have FY := fun_mk (st := sIsL) lY cY kY
  have FG := fun_mk (st := sIsR) lG cG kG
  have F8 := fun_mk (st := sWay) l8 c8 k8
  have F9 := fun_mk (st := sCross) l9 c9 k9
  have F0 := fun_mk (st := sRd) l0 c0 k0
  have FM := fun_mk (st := sLeast) lM cM kM
  have FW := fun_mk (st := sWell) lW cW kW
  have FDR := fun_mk (st := sDraw) lDR cDR kDR
  have FO := fun_mk (st := sOne) lO cO kO
  have FRR := fun_mk (st := sRR) lRR cRR kRR
  have FTA := fun_mk (st := sTA) lTA cTA kTA
  have FEA := fun_mk (st := sEA) lEA cEA kEA
  have FUA := fun_mk (st := sUA) lUA cUA kUA
  have FRA := fun_mk (st := sRA) lRA cRA kRA
  have FQ := fun_mk (st := sSaid) lQ cQ kQ
  have bT := FT.binds (ps := ["value"]) fun _ _ _ _ _ _ us hl => match us, hl with | [_], _ => rfl
  have bV := FV.binds (ps := ["value"]) fun _ _ _ _ _ _ us hl => match us, hl with | [_], _ => rfl
  have bU := FU.binds (ps := ["value"]) fun _ _ _ _ _ _ us hl => match us, hl with | [_], _ => rfl
  have bK := FK.binds (ps := ["text"]) fun _ _ _ _ _ _ us hl => match us, hl with | [_], _ => rfl
  have bI := FI.binds (ps := ["word"]) fun _ _ _ _ _ _ us hl => match us, hl with | [_], _ => rfl
  have bJ := FJ.binds (ps := ["texts"]) fun _ _ _ _ _ _ us hl => match us, hl with | [_], _ => rfl
  have bL := FL.binds (ps := ["words"]) fun _ _ _ _ _ _ us hl => match us, hl with | [_], _ => rfl
  have bR := FR.binds (ps := ["row"]) fun _ _ _ _ _ _ us hl => match us, hl with | [_], _ => rfl
  have bA := FA.binds (ps := ["text"]) fun _ _ _ _ _ _ us hl => match us, hl with | [_], _ => rfl
  have bB := FB.binds (ps := ["texts"]) fun _ _ _ _ _ _ us hl => match us, hl with | [_], _ => rfl
  have bD := FD.binds (ps := ["word"]) fun _ _ _ _ _ _ us hl => match us, hl with | [_], _ => rfl
  have bE := FE.binds (ps := ["texts", "rings"]) fun _ _ _ _ _ _ us hl => match us, hl with | [_, _], _ => rfl
  have b6 := F6.binds (ps := ["row"]) fun _ _ _ _ _ _ us hl => match us, hl with | [_], _ => rfl
  have b7 := F7.binds (ps := ["row"]) fun _ _ _ _ _ _ us hl => match us, hl with | [_], _ => rfl
  have bX := FX.binds (ps := ["row"]) fun _ _ _ _ _ _ us hl => match us, hl with | [_], _ => rfl
  have bY := FY.binds (ps := ["row"]) fun _ _ _ _ _ _ us hl => match us, hl with | [_], _ => rfl
  have bG := FG.binds (ps := ["row"]) fun _ _ _ _ _ _ us hl => match us, hl with | [_], _ => rfl
  have b8 := F8.binds (ps := ["back", "place"]) fun _ _ _ _ _ _ us hl => match us, hl with | [_, _], _ => rfl
  have b9 := F9.binds (ps := ["unread", "way"]) fun _ _ _ _ _ _ us hl => match us, hl with | [_, _], _ => rfl
  have b0 := F0.binds (ps := ["row", "way"]) fun _ _ _ _ _ _ us hl => match us, hl with | [_, _], _ => rfl
  have bM := FM.binds (ps := ["word"]) fun _ _ _ _ _ _ us hl => match us, hl with | [_], _ => rfl
  have bW := FW.binds (ps := ["_law_cell"]) fun _ _ _ _ _ _ us hl => match us, hl with | [_], _ => rfl
  have bDR := FDR.binds (ps := ["_law_well_here", "_law_many"]) fun _ _ _ _ _ _ us hl => match us, hl with | [_, _], _ => rfl
  have bO := FO.binds (ps := ["_law_well_here", "_law_some"]) fun _ _ _ _ _ _ us hl => match us, hl with | [_, _], _ => rfl
  have bRR := FRR.binds (ps := []) fun _ _ _ _ _ _ us hl => match us, hl with | [], _ => rfl
  have bTA := FTA.binds (ps := ["_law_way", "_law_odd"]) fun _ _ _ _ _ _ us hl => match us, hl with | [_, _], _ => rfl
  have bEA := FEA.binds (ps := ["_law_way"]) fun _ _ _ _ _ _ us hl => match us, hl with | [_], _ => rfl
  have bUA := FUA.binds (ps := ["_law_way", "_law_some", "_law_odd"]) fun _ _ _ _ _ _ us hl => match us, hl with | [_, _, _], _ => rfl
  have bRA := FRA.binds (ps := ["_law_way", "_law_wrong"]) fun _ _ _ _ _ _ us hl => match us, hl with | [_, _], _ => rfl
  have bQ := FQ.binds (ps := ["_law_ask"]) fun _ _ _ _ _ _ us hl => match us, hl with | [_], _ => rfl
  have gT := PySem.W.mg_of X G aT
  have gV := PySem.W.mg_of X G aV
  have gU := PySem.W.mg_of X G aU
  have gK := PySem.W.mg_of X G aK
  have gI := PySem.W.mg_of X G aI
  have gJ := PySem.W.mg_of X G aJ
  have gL := PySem.W.mg_of X G aL
  have gR := PySem.W.mg_of X G aR
  have gA := PySem.W.mg_of X G aA
  have gB := PySem.W.mg_of X G aB
  have gD := PySem.W.mg_of X G aD
  have gE := PySem.W.mg_of X G aE
  have g6 := PySem.W.mg_of X G a6
  have g7 := PySem.W.mg_of X G a7
  have gX := PySem.W.mg_of X G aX
  have gY := PySem.W.mg_of X G aY
  have gG := PySem.W.mg_of X G aG
  have g8 := PySem.W.mg_of X G a8
  have g9 := PySem.W.mg_of X G a9
  have g0 := PySem.W.mg_of X G a0
  have gM := PySem.W.mg_of X G aM
  have gW := PySem.W.mg_of X G aW
  have gDR := PySem.W.mg_of X G aDR
  have gO := PySem.W.mg_of X G aO
  have gRR := PySem.W.mg_of X G aRR
  have gTA := PySem.W.mg_of X G aTA
  have gEA := PySem.W.mg_of X G aEA
  have gUA := PySem.W.mg_of X G aUA
  have gRA := PySem.W.mg_of X G aRA
  have gQ := PySem.W.mg_of X G aQ
  refine ⟨PySem.W.fnOf "law" "law" (defArgs sLaw) (defBody sLaw) (defScope sLaw) .none kVZ dcZ pmZ anZ (.ref cZa) ctZ, [(cZa, PT)], spLaw K PT, fun p hp => ?_, fun p hp => ?_, fun p hp => ?_, fun s u => .of_eq rfl, fun H a ns hl _ hT hS => ⟨a, ns, rfl, hS, hl, hT (cZa, PT) List.mem_cons_self, fun _ => rfl⟩, fun base _ _ hB => ?_⟩
  · rw [List.mem_singleton.mp hp]
    exact hTab
  · rw [List.mem_singleton.mp hp]
    exact nT
  · rw [List.mem_singleton.mp hp]
    exact PySem.W.codeHd_of_K X hCd
  have TB : TabB base mg cZa PT := hB (cZa, PT) List.mem_cons_self
  have GW : FnOk l.prog w K mg base CX0 1 fW _ ["_law_cell"] (spWell) := ok_well FW TD
  have GO : FnOk l.prog w K mg base CX0 2 fO _ ["_law_well_here", "_law_some"] (spOne) := ok_one FO TD FDR gDR bDR
  have GT1 : FnOk l.prog w K mg base CX0 1 fT _ ["value"] (spWhat isT) := ok_isText1 FT TC
  have GT : FnOk l.prog w K mg base CX0 2 fT _ ["value"] (spWhat isT) := ok_isText FT TC
  have GV : FnOk l.prog w K mg base CX0 2 fV _ ["value"] (spWhat isW) := ok_isWord FV TC GT1 gT kT bT
  have GU : FnOk l.prog w K mg base CX0 1 fU _ ["value"] (spIsRow) := ok_isRow FU TC
  have GK : FnOk l.prog w K mg base (L2.CX l.prog w) 3 fK _ ["text"] (spCk C1 isT) := ok_CkText FK T1 GT gT kT bT
  have GI : FnOk l.prog w K mg base (L2.CX l.prog w) 3 fI _ ["word"] (spCk C1 isW) := ok_CkWord FI T1 GV gV kV bV
  have GJ : FnOk l.prog w K mg base (L2.CX l.prog w) 4 fJ _ ["texts"] (spCks C1 isT) := ok_CkTexts FJ TC T1 GK gK kK bK
  have GL : FnOk l.prog w K mg base (L2.CX l.prog w) 4 fL _ ["words"] (spCks C1 isW) := ok_CkWords FL TC T1 GI gI kI bI
  have GR : FnOk l.prog w K mg base (L2.CX l.prog w) 3 fR _ ["row"] (spCkRow C2) := ok_ckRow FR T2 GU gU kU bU
  have GA : FnOk l.prog w K mg base (L2.CX l.prog w) 5 fA _ ["text"] (spRowOf C1) := ok_RowOf FA GK gK kK bK
  have GD : FnOk l.prog w K mg base (L2.CX l.prog w) 5 fD _ ["word"] (spRowR C1) := ok_RowR FD GI gI kI bI
  have GB : FnOk l.prog w K mg base (L2.CX l.prog w) 5 fB _ ["texts"] (spRowL C1) := ok_RowL FB GJ gJ kJ bJ
  have GE : FnOk l.prog w K mg base (L2.CX l.prog w) 5 fE _ ["texts", "rings"] (spRowA C1) := ok_RowA FE GJ gJ kJ bJ GL gL kL bL
  have G6 : FnOk l.prog w K mg base (L2.CX l.prog w) 4 f6 _ ["row"] (spStep C2) := ok_step F6 TC GR gR kR bR
  have G8 : FnOk l.prog w K mg base CX0 1 f8 _ ["back", "place"] (spWay K) := ok_way F8
  have G9 : FnOk l.prog w K mg base CX0 1 f9 _ ["unread", "way"] (spCross K) := ok_cross F9
  have G0 : FnOk l.prog w K mg base CX0 1 f0 _ ["row", "way"] (spRd K) := ok_rd F0 TC
  have GM : FnOk l.prog w K mg base CX0 1 fM _ ["word"] (spLeast) := ok_least FM TC
  have G7 : FnOk l.prog w K mg base (L2.CX l.prog w) 5 f7 _ ["row"] (spRead C2) := ok_read F7 TC G6 g6 k6 b6 G8 g8 k8 b8 G9 g9 k9 b9 G0 g0 k0 b0 GM gM kM bM
  have GX : FnOk l.prog w K mg base (L2.CX l.prog w) 6 fX _ ["row"] (spIs C2 T05.gT) := ok_isT FX TC G7 g7 k7 b7
  have GY : FnOk l.prog w K mg base (L2.CX l.prog w) 6 fY _ ["row"] (spIs C2 T05.gL) := ok_isL FY TC G7 g7 k7 b7
  have GG : FnOk l.prog w K mg base (L2.CX l.prog w) 6 fG _ ["row"] (spIs C2 T05.gR) := ok_isR FG TC (PySem.W.mg_none_of X G z12) G7 g7 k7 b7
  have GRR : FnOk l.prog w K mg base CX0 7 fRR _ [] (spRR) := ok_rr FRR (PySem.W.mg_none_of X G z11) GX gX kX bX GY gY kY bY GG gG kG bG
  have GTA : FnOk l.prog w K mg base (L2.CX l.prog w) 7 fTA _ ["_law_way", "_law_odd"] (spTA C1) := ok_TA FTA GA gA kA bA GB gB kB bB GD gD kD bD GE gE kE bE
  have GEA : FnOk l.prog w K mg base (L2.CX l.prog w) 7 fEA _ ["_law_way"] (spEA C1) := ok_EA FEA GD gD kD bD GE gE kE bE
  have GUA : FnOk l.prog w K mg base (L2.CX l.prog w) 7 fUA _ ["_law_way", "_law_some", "_law_odd"] (spUA C1) := ok_UA FUA GB gB kB bB GE gE kE bE
  have GRA : FnOk l.prog w K mg base (L2.CX l.prog w) 7 fRA _ ["_law_way", "_law_wrong"] (spRA C2) := ok_RA FRA G6 g6 k6 b6 G7 g7 k7 b7 GX gX kX bX GY gY kY bY GG gG kG bG
  exact ok_law lZ cZ TB (PySem.W.mg_none_of X G z7) T1 T2 e11 e21 e22 GW gW kW bW GO gO kO bO GRR gRR kRR bRR GTA gTA kTA bTA GEA gEA kEA bEA GUA gUA kUA bUA GRA gRA kRA bRA lQ gQ kQ cQ bQ
end T05
open PySem PySem.W PyProof.Rows
set_option maxRecDepth 100000 in
set_option maxHeartbeats 0 in
theorem PySem.Challenge.cw_turnindex_k05_what_is_no_row_holds : PySem.Challenge.rw_turnindex_k05_what_is_no_row.Holds := by
  w_on; o_law; k_head; (case hw => w_witness2)
  k_fill
  refine LamX.walk_ofTs (l := PySem.Challenge.rw_turnindex_k05_what_is_no_row) (n := 63) (k := 10) (x := "_law_script") (CX := fun _ => L2.CX0) rfl (by decide) rfl ⟨rfl, by decide, by decide⟩ (fun w h Y => PySem.W.km_in_of Y) ?F (fun _ _ _ _ _ z => z)
  case F =>
    intro w mg fa h Y KX G hmg
    refine' T05.all_mk KX G hmg (PySem.W.km_tabs_of Y _ List.mem_cons_self) (EK.err_mk (x := "NoText") (f := "text") KX G ?aC1 ?xL1 ?rv1 ?iC1 ?l11 ?c11 ?bd1 ?sc1 ?cd1 ?vf1 ?pf1 ?cL1 ?eB1 ?ho1 ?su1 ?fok1 ?top1) (EK.err_mk (x := "NoRow") (f := "row") KX G ?aC2 ?xL2 ?rv2 ?iC2 ?l12 ?c12 ?bd2 ?sc2 ?cd2 ?vf2 ?pf2 ?cL2 ?eB2 ?ho2 ?su2 ?fok2 ?top2) ?e11 ?e21 ?e22 ?paT ?plT ?pcT ?pkT ?paV ?plV ?pcV ?pkV ?paU ?plU ?pcU ?pkU ?paK ?plK ?pcK ?pkK ?paI ?plI ?pcI ?pkI ?paJ ?plJ ?pcJ ?pkJ ?paL ?plL ?pcL ?pkL ?paR ?plR ?pcR ?pkR ?paA ?plA ?pcA ?pkA ?paB ?plB ?pcB ?pkB ?paD ?plD ?pcD ?pkD ?paE ?plE ?pcE ?pkE ?pa6 ?pl6 ?pc6 ?pk6 ?pa7 ?pl7 ?pc7 ?pk7 ?paX ?plX ?pcX ?pkX ?paY ?plY ?pcY ?pkY ?paG ?plG ?pcG ?pkG ?pa8 ?pl8 ?pc8 ?pk8 ?pa9 ?pl9 ?pc9 ?pk9 ?pa0 ?pl0 ?pc0 ?pk0 ?paM ?plM ?pcM ?pkM ?paW ?plW ?pcW ?pkW ?paDR ?plDR ?pcDR ?pkDR ?paO ?plO ?pcO ?pkO ?paRR ?plRR ?pcRR ?pkRR ?paTA ?plTA ?pcTA ?pkTA ?paEA ?plEA ?pcEA ?pkEA ?paUA ?plUA ?pcUA ?pkUA ?paRA ?plRA ?pcRA ?pkRA ?paQ ?plQ ?pcQ ?pkQ ?paZ ?plZ ?pcZ ?pkZ ?nT ?hCd ?y1 ?y2 ?z1 ?z2 ?z3 ?z4 ?z5 ?z6 ?z7 ?z8 ?z9 ?z10 ?z11 ?z12
    (case aC1 => k_is); (case xL1 => k_is); (case rv1 => kernel_rfl); (case iC1 => k_is); (case l11 => k_is); (case c11 => k_is); (case bd1 => exact fun _ _ => rfl); (case sc1 => exact fun L => ⟨_, rfl⟩); (case cd1 => k_is); (case vf1 => rfl); (case pf1 => kernel_rfl); (case cL1 => k_is); (case eB1 => kernel_rfl); (case ho1 => k_is); (case su1 => k_is); (case fok1 => exact ⟨by decide +kernel, by decide +kernel, by decide +kernel, by decide +kernel⟩); (case top1 => kernel_rfl)
    (case aC2 => k_is); (case xL2 => k_is); (case rv2 => kernel_rfl); (case iC2 => k_is); (case l12 => k_is); (case c12 => k_is); (case bd2 => exact fun _ _ => rfl); (case sc2 => exact fun L => ⟨_, rfl⟩); (case cd2 => k_is); (case vf2 => rfl); (case pf2 => kernel_rfl); (case cL2 => k_is); (case eB2 => kernel_rfl); (case ho2 => k_is); (case su2 => k_is); (case fok2 => exact ⟨by decide +kernel, by decide +kernel, by decide +kernel, by decide +kernel⟩); (case top2 => kernel_rfl)
    (case e11 => kernel_rfl); (case e21 => kernel_rfl); (case e22 => kernel_rfl)
    (case paT => k_is); (case plT => k_is); (case pcT => k_is); (case pkT => k_is)
    (case paV => k_is); (case plV => k_is); (case pcV => k_is); (case pkV => k_is)
    (case paU => k_is); (case plU => k_is); (case pcU => k_is); (case pkU => k_is)
    (case paK => k_is); (case plK => k_is); (case pcK => k_is); (case pkK => k_is)
    (case paI => k_is); (case plI => k_is); (case pcI => k_is); (case pkI => k_is)
    (case paJ => k_is); (case plJ => k_is); (case pcJ => k_is); (case pkJ => k_is)
    (case paL => k_is); (case plL => k_is); (case pcL => k_is); (case pkL => k_is)
    (case paR => k_is); (case plR => k_is); (case pcR => k_is); (case pkR => k_is)
    (case paA => k_is); (case plA => k_is); (case pcA => k_is); (case pkA => k_is)
    (case paB => k_is); (case plB => k_is); (case pcB => k_is); (case pkB => k_is)
    (case paD => k_is); (case plD => k_is); (case pcD => k_is); (case pkD => k_is)
    (case paE => k_is); (case plE => k_is); (case pcE => k_is); (case pkE => k_is)
    (case pa6 => k_is); (case pl6 => k_is); (case pc6 => k_is); (case pk6 => k_is)
    (case pa7 => k_is); (case pl7 => k_is); (case pc7 => k_is); (case pk7 => k_is)
    (case paX => k_is); (case plX => k_is); (case pcX => k_is); (case pkX => k_is)
    (case paY => k_is); (case plY => k_is); (case pcY => k_is); (case pkY => k_is)
    (case paG => k_is); (case plG => k_is); (case pcG => k_is); (case pkG => k_is)
    (case pa8 => k_is); (case pl8 => k_is); (case pc8 => k_is); (case pk8 => k_is)
    (case pa9 => k_is); (case pl9 => k_is); (case pc9 => k_is); (case pk9 => k_is)
    (case pa0 => k_is); (case pl0 => k_is); (case pc0 => k_is); (case pk0 => k_is)
    (case paM => k_is); (case plM => k_is); (case pcM => k_is); (case pkM => k_is)
    (case paW => k_is); (case plW => k_is); (case pcW => k_is); (case pkW => k_is)
    (case paDR => k_is); (case plDR => k_is); (case pcDR => k_is); (case pkDR => k_is)
    (case paO => k_is); (case plO => k_is); (case pcO => k_is); (case pkO => k_is)
    (case paRR => k_is); (case plRR => k_is); (case pcRR => k_is); (case pkRR => k_is)
    (case paTA => k_is); (case plTA => k_is); (case pcTA => k_is); (case pkTA => k_is)
    (case paEA => k_is); (case plEA => k_is); (case pcEA => k_is); (case pkEA => k_is)
    (case paUA => k_is); (case plUA => k_is); (case pcUA => k_is); (case pkUA => k_is)
    (case paRA => k_is); (case plRA => k_is); (case pcRA => k_is); (case pkRA => k_is)
    (case paQ => k_is); (case plQ => k_is); (case pcQ => k_is); (case pkQ => k_is)
    (case paZ => k_is); (case plZ => k_is); (case pcZ => k_is); (case pkZ => k_is)
    (case nT => kernel_rfl); (case hCd => kernel_rfl); (case y1 => k_is); (case y2 => k_is)
    (case z1 => k_is); (case z2 => k_is); (case z3 => k_is); (case z4 => k_is); (case z5 => k_is); (case z6 => k_is); (case z7 => k_is); (case z8 => k_is); (case z9 => k_is); (case z10 => k_is); (case z11 => k_is); (case z12 => k_is)
#print axioms PySem.Challenge.cw_turnindex_k05_what_is_no_row_holds
