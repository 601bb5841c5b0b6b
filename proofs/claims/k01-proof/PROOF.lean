import PyProof.Rows.All
import Wide.All
import OpenK.AllK
import Wide.FinOn
import KE.KStateDown
import Lean
import HandS.ForMost
import HandS.ForExc
import HandS.Defaults
import HandS.IsInst
import HandS.Wide
import HandS.Zip
import HandS.Walk
import HandS.Codes
import HandS.FStr
import HandS.StrMore
import HandS.Style
import HandS.MakeKw
import HandS.MakeKwOnly
import HandS.CallSlots
import HandS.ExcInit
import HandS.ExcField
import HandS.SlotsOwn
import KE.KExcSuper
import HandS.HeadHook1
import HandS.HeadHook2
import KE.KCallOwn
import HandS.NestedK
import KE.KOpsOwn
import HandS.ClsMeth
import HandS.HeadNt
import KE.KEqDict
import HandS.OwnEq
import KE.GoesNew
import HandS.Star
import HandS.ExcIs
import HandS.EndTab
import HandS.HeadHook4
import HandS.HeadWalk
import KE.KExcPX
import OpenK.KMore
import HandS.Head0
import HandS.Head1
import HandS.Head2
import HandS.HeadEnd
import PySem.Challenge.RW_lessways_k01_errors_made
set_option Elab.async false
set_option linter.all false
set_option maxRecDepth 100000
set_option maxHeartbeats 4000000
namespace LW
open PySem PySem.Spec PyProof.Rows L2
/-! ### super().__init__(text); self.f = p : an own exception's __init__ -/
namespace SupX
open PySem.W
/-- what the written part says of the class at C whose __init__ stands at f -/
structure SupC (P : Program) (K : PySem.W.Frag) (C f cc cda : Addr) (name qual : Str) (st : Stmt) : Prop where
  oex : OexC K C
  lk : ∃ (oc : Value) (od : Option Addr) (doc pm : Value) (an : Option Addr) (ct : Value) (osl : Array (Option Value)), K.lookup f = some ⟨oc, od, .func (PySem.W.ksFn name qual (defArgs st) (defBody st) (defScope st) .none .none doc pm an (.ref cda) ct cc), osl⟩
  code : PySem.W.codeIn K (.ref cda) qual = true
  file : ∃ (ccl : Value) (cdd : Option Addr) (vs : Array Value) (ccs : Array (Option Value)) (file : Str) (tf : Tok), K.lookup cda = some ⟨ccl, cdd, .fields vs, ccs⟩ ∧ vs[2]? = some (.str file tf) ∧ ((P.main.file : Str) == file) = true
  cell : ∃ (cl : Value) (cld : Option Addr) (csl : Array (Option Value)), K.lookup cc = some ⟨cl, cld, .cell (some (.ref C)), csl⟩
  isc : ∃ cd, PySem.W.clsIn K C = some cd
  sub : PySem.W.mroIn K C (.ref C) = some true
  sup : PySem.W.nsIn K mainGlobals "super" = some none
  opq : PySem.W.nsIn K PySem.cStatics "thirdparty.any" = some none
  ini : PySem.W.ks_superIn K C C "__init__" = some (some (.builtin "ValueError.__init__"))
  veb : PySem.W.subIn K (.ref C) (.type "ValueError") = some true
  top : (P.main.scope.names.lookup ("super" : Str)).isSome = false
section
variable {X : Cx} {C f cc cda a : Addr} {name qual : Str} {st : Stmt} {body : List Stmt} {scope : Scope} {H : Hp} {s : Shared} {v : V} {par : Str} {p0 p1 p2 p3 p4 p5 : Pos} {msg : Str} {j : Nat}
theorem super_stmt (T : SupC X.prog X.K C f cc cda name qual st) (henv : X.env = PySem.W.ksEnv qual scope X.env.locals f (.ref cda) cc) (hN0 : X.N[0]? = some ("self" : Str))
    (hks : scope.names.lookup ("super" : Str) = some .globalImplicit) (hkc : scope.names.lookup ("__class__" : Str) = some .free) (hka : scope.names.lookup ("self" : Str) = some .local) (hk : scope.kind = .function)
    (hp : ((defArgs st).posonlyargs ++ (defArgs st).args).head?.map (·.arg) = some ("self" : Str)) {pl : Sem Bool}
    (he : eval (.Call (.Attribute (.Call (.Name "super" p0) [] [] p1) "__init__" p2) [.Constant (.str msg) j p3] [] p4) X.env = (do
      let ov ← attributeBase (.Call (.Name "super" p0) [] [] p1) "__init__" X.env (eval (.Call (.Name "super" p0) [] [] p1) X.env)
      standAt p2.atName
      let (f, first) ← holding [ov] (getMethod ov "__init__" pl)
      callWith p4 f first (backTo p4 (starEach [.Constant (.str msg) j p3] X.env)) []))
    (hsw : swapsWith (.Call (.Attribute (.Call (.Name "super" p0) [] [] p1) "__init__" p2) [.Constant (.str msg) j p3] [] p4) none p5.line X.env = pure false) (hi : interactive X.env = false)
    {σ : List (Option V)} (hσ : σ[0]? = some (some (.ref a))) (I : Inv X [] σ H s) (ha : H a = some (exo a C none)) {Q : Flow → Shared → Prop} (h : ∀ s', Inv X [] σ H s' → Q .next s') :
    _root_.PySem.wpAt (model X.prog X.w) X.A (.func body X.env) (exec (.Expr (.Call (.Attribute (.Call (.Name "super" p0) [] [] p1) "__init__" p2) [.Constant (.str msg) j p3] [] p4) p5) X.env) Q X.xe s := by
  obtain ⟨oc, od, doc, pm, an, ct, osl, lk⟩ := T.lk
  obtain ⟨ccl, cdd, vs, ccs, file, tf, lcd, hvs, hfile⟩ := T.file
  obtain ⟨cl, cld, csl, lcc⟩ := T.cell
  obtain ⟨cd, hcd⟩ := T.isc
  obtain ⟨ar, har, hara⟩ : ∃ ar, ((defArgs st).posonlyargs ++ (defArgs st).args).head? = some ar ∧ ar.arg = "self" := by
    cases e : ((defArgs st).posonlyargs ++ (defArgs st).args).head? with
    | none =>
      rw [e] at hp
      cases hp
    | some ar =>
      rw [e] at hp
      exact ⟨ar, rfl, Option.some.inj hp⟩
  have kX : X.K.In s.heap := I.kIn
  have k4 : X.env.scope.kind = .function := I.ok.kind
  obtain ⟨mb, hb1, hb2⟩ := I.mod.blt
  obtain ⟨m, hns, hl⟩ := I.loc
  have hself : m ("self" : Str) = some (.ref a) := by
    obtain ⟨u, r, l⟩ := hl 0 "self" (.ref a) hN0 hσ (.inl (by rw [henv]; exact hka))
    obtain rfl : u = Value.ref a := r
    rcases l with ⟨_, e⟩ | ⟨e, _⟩
    · exact e
    · rw [henv] at e
      have e2 : scope.names.lookup ("self" : Str) = some .cell ∨ scope.names.lookup ("self" : Str) = some .free := e
      rw [hka] at e2
      rcases e2 with e2 | e2 <;> cases e2
  generalize hL : X.env.locals = L at *
  rw [henv] at he hsw hi ⊢
  obtain ⟨t1, ho⟩ := exo_at I.hok ha
  obtain ⟨oD, hD1, hD2⟩ : ∃ oD, s.heap.get? C = some oD ∧ oD.data = .cls cd := by
    unfold PySem.W.clsIn at hcd
    split at hcd
    · rename_i c d cd' sl hoo
      cases hcd
      exact ⟨_, kX _ _ hoo, rfl⟩
    · cases hcd
  have J0 : PySem.W.InstAt s.heap a { cls := .ref C, dict := none, data := .fields #[.ref t1, .none, .none, .none, .bool false, .none] } C none := ⟨ho, rfl, rfl, trivial⟩
  refine PySem.ks_wpAt_Expr_any (PySem.ks_wpAt_MethodCall (PySem.ks_wpAt_super_base hks hkc rfl rfl (kX _ _ lk) rfl har rfl (kX _ _ lcd) rfl hvs hfile T.top ?_) he) hi hsw
  refine PySem.W.ks_loadName_global hk hks (Calls.loadGlobal_builtin (I.mod.glob.keeps I.bk) (PySem.W.mg_none_of I.mod.kin I.mod.glob T.sup) (hb1.keeps I.bk) ((hb2 _ (by decide)).trans (by decide +kernel : bootBuiltins "super" = some (.type "super"))) ⟨rfl, ?_⟩)
  refine wpAny_loadName_free hk hkc rfl ⟨_, kX _ _ lcc, rfl⟩ ?_
  refine wpAny_loadName_local hk (by rw [hara]; exact hka) hns (by rw [hara]; exact hself) ?_
  refine PySem.ks_wpAny_isType_cls hD1 hD2 ⟨rfl, ?_⟩
  obtain ⟨hh, g, dr, tk, os⟩ := s
  refine PySem.ks_wpAny_call_super hD1 hD2 ho rfl (fun c e => by cases e) (PySem.W.looks_mroIn kX T.sub) (fun h1 e1 kk1 => ?_)
  have I1 : Inv X [] σ H ⟨h1, g, dr, tk, os⟩ := I.kept (t' := tk) kk1
  have ho1 := kk1 _ _ ho
  have kX1 : X.K.In h1 := I1.kIn
  have hI1 : PySem.W.Looks (model X.prog X.w) h1 (isInstance (.ref a) (.type "ValueError")) true := (PySem.W.InstAt.type (M := model X.prog X.w) (show PySem.W.InstAt h1 a { cls := .ref C, dict := none, data := .fields #[.ref t1, .none, .none, .none, .bool false, .none] } C none from ⟨ho1, rfl, rfl, trivial⟩)).andThen (PySem.W.looks_subIn kX1 T.veb)
  have hini := T.ini
  unfold PySem.W.ks_superIn at hini
  rw [hcd] at hini
  refine PySem.W.kxs_getMethod PySem.W.kxs_ValueError e1 (PySem.W.looks_opaque kX1 T.opq) (l₀ := cd.mro) (fun A Q E s k q => wpAny_bind ((PySem.W.looks_clsIn kX1 hcd) A _ E s k (wpAny_pure q))) rfl kX1 hini hI1 (PySem.W.ks_ne kX J0 hcd) rfl ?_
  have kk2 : ∀ b o, h1.get? b = some o → (h1.push (PySem.W.kxs_mw "ValueError.__init__" a)).get? b = some o := fun b o e => Heap.get?_push_of_some _ e
  have hu : (h1.push (PySem.W.kxs_mw "ValueError.__init__" a)).get? h1.objs.size = some (PySem.W.kxs_mw "ValueError.__init__" a) := Heap.get?_push_at rfl rfl
  have I2 : Inv X [] σ H ⟨h1.push (PySem.W.kxs_mw "ValueError.__init__" a), g, dr, tk + 1, os⟩ := I1.kept (t' := tk + 1) kk2
  have hu0 : H h1.objs.size = none := I1.hok.fresh (Nat.le_refl _)
  have I3 : Inv X [(h1.objs.size, PySem.W.kxs_mw "ValueError.__init__" a)] σ H ⟨h1.push (PySem.W.kxs_mw "ValueError.__init__" a), g, dr, tk + 1, os⟩ := ⟨I2.ok, I2.os, I2.bare, I2.base, I2.loc, I2.cell, I2.free, I2.freeC, fun p hp => by
    rcases List.mem_append.mp hp with hp | hp
    · exact I2.pin p (List.mem_append_left _ hp)
    · cases List.mem_singleton.mp hp
      exact ⟨hu, hu0, Nat.ne_of_gt I1.lt, I1.nofs (Nat.le_refl _), fun v e => by cases e⟩, I2.hok, I2.len⟩
  refine PySem.W.kxs_callWith (i := "ValueError.__init__") (x := a) rfl ?_
  rw [show ([.Constant (.str msg) j p3] : List Expr) = .Constant (.str msg) j p3 :: [] from rfl]
  refine Calls.evalArgs_plain ?_
  rw [← henv]
  refine thn ((pa_cons (X := X) (pe_str (x := msg) (j := j) (pos := p3)) pa_nil).run p4 _ _ σ H (fun vs H' => vs = [.str msg] ∧ H' = H) I3 ⟨rfl, rfl⟩) fun us s1 ⟨vs, H', I4, r4, ev, eH⟩ => ?_
  subst ev eH
  have hu4 := (I4.pin (h1.objs.size, PySem.W.kxs_mw "ValueError.__init__" a) (List.mem_append_right _ (List.mem_singleton.mpr rfl))).1
  refine ⟨hu4, ?_⟩
  have I5 : Inv X [] σ H' s1 := Inv.unpinned (pl := [(h1.objs.size, PySem.W.kxs_mw "ValueError.__init__" a)]) I4
  obtain ⟨nm, qn, Nn, bs, bm, sn, sub, ab, col, dd, k0, k1, k2, k3, k5, hC, hbm⟩ := T.oex.cls
  have hC4 := I5.kIn _ _ hC
  obtain ⟨t4, ho4⟩ := exo_at I5.hok ha
  have hlen : us.length ≤ sizeLine := by
    rw [← r4.length]
    show 1 ≤ sizeLine
    decide
  obtain ⟨hh4, g4, d4, tk4, os4⟩ := s1
  refine wpAny_call (codeAny_of_tree ?_)
  show wpAny _ X.A.in1 (callAny (.ref h1.objs.size) ⟨[] ++ us, []⟩) _ _ _
  rw [List.nil_append]
  simp only [callAny]
  refine wpAny_bind (wpAny_load hu4 ?_)
  simp only [PySem.W.kxs_mw, show (Value.type "method-wrapper" == Value.type "method" || Value.type "method-wrapper" == Value.type "builtin_function_or_method" || Value.type "method-wrapper" == Value.type "method-wrapper") = true by decide, if_true]
  refine PySem.W.KFB.if_so (by decide) ?_
  refine wpAny_bind (PySem.W.check_bound_init F.excBase_ValueError.toExcCallFacts hC4 ho4 rfl ?_)
  refine wpAny_bind (wpAny_pure (wpAny_pure ?_))
  refine ⟨plainId_quiet F.excBase_ValueError.init.plain _, codeAny_builtin F.excBase_ValueError.initEntry ?_⟩
  refine PySem.W.exc_init_tree (cls := .ref C) (t0 := t4) (dv := none) (c2 := .none) (c3 := .none) (b4 := .bool false) ho4 hlen fun h' k hx _ => ?_
  have J := I5.write (t' := tk4) (x := a) (e := a) (o := exo a C none) (by rw [ha]; exact True.intro) (.inl rfl) k ⟨_, hx⟩ (exo_ok hx)
  have eu : upd H' a (exo a C none) = H' := by
    funext b
    by_cases hb : b = a
    · rw [hb, upd_same, ha]
    · rw [upd_ne hb]
  rw [eu] at J
  exact h _ J
end
section
variable {P : Program} {w : World} {K : PySem.W.Frag} {mg : Str → Option Value} {base : Heap} {CX : CXT} {k : Nat} {C f cc cda : Addr} {name qual : Str} {st : Stmt} {par fld : Str}
/-- the promise of such an __init__ of one parameter -/
def spExc (C : Addr) (fld : Str) : Sp := fun vs H Q _ => ∃ (a : Addr) (v : V), vs = [.ref a, v] ∧ H a = some (exo a C none) ∧ ∀ dx, H dx = none → dx ≠ a → Q .non (upd (upd H dx (exd dx [(fld, v)])) a (exo a C (some dx)))
abbrev nfOf (name qual : Str) (st : Stmt) (cc cda : Addr) : NdefX.NF := ⟨name, qual, defArgs st, defBody st, defScope st, [("__class__", cc)], cda⟩
theorem exc_init (T : SupC P K C f cc cda name qual st) (S : NdefX.NScope ["self", par, "__class__"] ["self", par] ["__class__"] (defScope st)) (hno : PySem.W.findIn K (.ref C) fld = some none)
    (hks : (defScope st).names.lookup ("super" : Str) = some .globalImplicit)
    (hb : ∀ (doc pm ct : Value) (an : Option Addr) (us : List Value), us.length = 2 → bindArgs (PySem.W.ksFn name qual (defArgs st) (defBody st) (defScope st) .none .none doc pm an (.ref cda) ct cc) ⟨us, []⟩ = pure ((["self", par] : List Str).zip us))
    (hp : ((defArgs st).posonlyargs ++ (defArgs st).args).head?.map (·.arg) = some ("self" : Str))
    {p0 p1 p2 p3 p4 p5 p6 p7 p8 p9 : Pos} {msg : Str} {j : Nat}
    (hbody : defBody st = [.Expr (.Call (.Attribute (.Call (.Name "super" p0) [] [] p1) "__init__" p2) [.Constant (.str msg) j p3] [] p4) p5, .Assign [.Attribute (.Name "self" p6) fld p7] (.Name par p8) p9])
    {pl : Env → Sem Bool}
    (he : ∀ env : Env, env.scope = defScope st → eval (.Call (.Attribute (.Call (.Name "super" p0) [] [] p1) "__init__" p2) [.Constant (.str msg) j p3] [] p4) env = (do
      let ov ← attributeBase (.Call (.Name "super" p0) [] [] p1) "__init__" env (eval (.Call (.Name "super" p0) [] [] p1) env)
      standAt p2.atName
      let (f, first) ← holding [ov] (getMethod ov "__init__" (pl env))
      callWith p4 f first (backTo p4 (starEach [.Constant (.str msg) j p3] env)) []))
    (hsw : ∀ env : Env, env.scope = defScope st → swapsWith (.Call (.Attribute (.Call (.Name "super" p0) [] [] p1) "__init__" p2) [.Constant (.str msg) j p3] [] p4) none p5.line env = pure false) (hi : ∀ env : Env, env.scope = defScope st → interactive env = false)
    (hsw2 : ∀ env : Env, env.scope = defScope st → swapsWith (.Name par p8) (some (.Attribute (.Name "self" p6) fld p7)) p9.line env = pure false) (hd1 : (par == ("__debug__" : Str)) = false) (hd2 : (par == ("__classdict__" : Str)) = false) :
    ∃ fd, FnOk P w K mg base CX (k + 1) f fd ["self", par] (spExc C fld) ∧ Binds K fd ["self", par] [] := by
  obtain ⟨oc, od, doc, pm, an, ct, osl, lk⟩ := id T.lk
  obtain ⟨cl, cld, csl, lcc⟩ := id T.cell
  refine ⟨_, ⟨fun vs H Q E h => ?_, fun A outer s H args us vs Q E hr e0 hbd r hsp => ?_⟩, .all (hb doc pm ct an)⟩
  · obtain ⟨a, v, rfl, _⟩ := h
    rfl
  · have KX : K.In s.heap := e0.mod.kin.keeps fun b o e => (e0.bs b o e).1
    have lim : s.heap.NoLimit := e0.mod.nolimit.keeps fun b o e => (e0.bs b o e).1
    obtain ⟨a, v, rfl, ha, q⟩ := hsp
    refine PySem.ks_codeAny_call_defAt (fd := PySem.W.ksFn name qual (defArgs st) (defBody st) (defScope st) .none .none doc pm an (.ref cda) ct cc) (body := defBody st) (binds := (["self", par] : List Str).zip us) hr.depth (KX _ _ lk) rfl lim (PySem.W.codeRec_of KX T.code) rfl hbd S.nocell (fun ⟨n, _⟩ hy => S.par n (List.of_mem_zip hy).1) (fun h₁ hns hk₁ => ?_) S.co S.gen S.kind
    have hl : us.length = 2 := r.length.symm
    have CA : NdefX.CellsAt [("__class__", cc)] ["__class__"] [none] s.heap H := by
      have one : ∀ (y : Str) (c : Addr), ([(("__class__" : Str), cc)] : List (Str × Addr)).lookup y = some c → y = "__class__" ∧ c = cc := fun y c e => by
        by_cases hy : y = "__class__"
        · subst hy
          exact ⟨rfl, (Option.some.inj (show some cc = some c from e)).symm⟩
        · have hy2 : (y == ("__class__" : Str)) = false := by simpa using hy
          rw [List.lookup_cons, hy2] at e
          cases e
      refine ⟨rfl, fun y c e => ?_, fun x y c e1 e2 => (one x c e1).1.trans (one y c e2).1.symm, fun i y hi => ?_⟩
      · obtain ⟨_, rfl⟩ := one y c e
        exact ⟨(e0.bs c _ (e0.mod.kin _ _ lcc)).2, _, _, KX _ _ lcc, rfl⟩
      · match i, hi with
        | 0, hi =>
          cases hi
          exact ⟨cc, rfl, fun v e => by cases e⟩
    have I := NdefX.inv_startN (CX := CX) (mg := mg) (E := E) (F := nfOf name qual st cc cda) (f := f) (tk := s.toks + ((["self", par] : List Str).zip us).length) S hr.hd e0 rfl r CA hns hk₁
    have hself : (defScope st).names.lookup ("self" : Str) = some .local := S.par _ (List.mem_cons_self ..)
    have hpar : (defScope st).names.lookup par = some .local := S.par _ (List.mem_cons_of_mem _ (List.mem_cons_self ..))
    have hcls : (defScope st).names.lookup ("__class__" : Str) = some .free := S.frk _ (List.mem_cons_self ..)
    have hstep : _root_.PySem.wpAt (model P w) (NdefX.ncx CX P w K mg base ["self", par, "__class__"] (nfOf name qual st cc cda) f A outer s H E).A (.func (defBody st) (NdefX.envF (nfOf name qual st cc cda) f s.heap.objs.size)) (execs (defBody st) (NdefX.envF (nfOf name qual st cc cda) f s.heap.objs.size))
        (fun fl s' => CR CX outer P w H s Q E (.ok (.ret (match fl with | .ret v => v | _ => .none))) s') (NdefX.ncx CX P w K mg base ["self", par, "__class__"] (nfOf name qual st cc cda) f A outer s H E).xe
        { s with heap := h₁, toks := s.toks + ((["self", par] : List Str).zip us).length } := by
      have eb : execs (defBody st) (NdefX.envF (nfOf name qual st cc cda) f s.heap.objs.size) = execs [.Expr (.Call (.Attribute (.Call (.Name "super" p0) [] [] p1) "__init__" p2) [.Constant (.str msg) j p3] [] p4) p5, .Assign [.Attribute (.Name "self" p6) fld p7] (.Name par p8) p9] (NdefX.envF (nfOf name qual st cc cda) f s.heap.objs.size) := by rw [hbody]
      rw [eb]
      refine PySem.ks_wpAt_execs_cons (super_stmt (X := NdefX.ncx CX P w K mg base ["self", par, "__class__"] (nfOf name qual st cc cda) f A outer s H E) T rfl rfl hks hcls hself S.kind hp (he _ rfl) (hsw _ rfl) (hi _ rfl) (σ := NdefX.startF ["self", par, "__class__"] [.ref a, v] [none]) rfl I ha (fun s' I' => ?_))
      have d2 : PSs (NdefX.ncx CX P w K mg base ["self", par, "__class__"] (nfOf name qual st cc cda) f A outer s H E) [.Assign [.Attribute (.Name "self" p6) fld p7] (.Name par p8) p9] _ := pss_one (ps_ost (pe_var (i := 0) rfl (.inl hself)) (pe_var (i := 1) rfl (.inl hpar) hd1 hd2) (hsw2 _ rfl))
      refine wpAt_of_wpAny (wpAny_mono (d2.run [] s' _ H { nx := fun _ H' => Q .non H', rt := Q } I' ⟨v, rfl, .ref a, rfl, a, C, rfl, T.oex, hno, .inl ⟨ha, fun dx n ne => q dx n ne⟩⟩) (fun fl s'' hs => ?_) fun e s'' hs => hs)
      cases fl with
      | ret u =>
        obtain ⟨v', σ', H', J, rv, q'⟩ := hs
        exact ⟨v', H', J.os, J.bare, J.base, J.hok, rv, q'⟩
      | next =>
        obtain ⟨σ', H', J, q'⟩ := hs
        exact ⟨.non, H', J.os, J.bare, J.base, J.hok, rfl, q'⟩
      | brk =>
        obtain ⟨_, _, _, q'⟩ := hs
        exact False.elim q'
      | cont =>
        obtain ⟨_, _, _, q'⟩ := hs
        exact False.elim q'
    exact hstep
end
end SupX
/-! ### the facts of such a class as Bools -/
namespace SupX
open PySem.W
def oexB (K : PySem.W.Frag) (C : Addr) : Bool := (match K.lookup C with
  | some ⟨.type "type", _, .cls cd, sl⟩ => (match cd.mro, sl.toList with
    | .ref C' :: bm, [_, _, _, _, some (.builtin n), _] => C' == C && (n == "ValueError.__new__" && (!cd.hasDel && (cd.hasDict && PySem.HandSPX.refsVE bm)))
    | _, _ => false)
  | _ => false) && (He.eqO (PySem.W.findIn K (.ref C) "__setattr__") (some (some (.builtin "object.__setattr__"))) && (decide (PySem.W.subIn K (.ref C) (.type "BaseException") = some true) && (decide (PySem.W.typeIn K (.ref C) = some (.type "type")) && PySem.W.keepIn K (.ref C))))
theorem oexB_ok {K : PySem.W.Frag} {C : Addr} (h : oexB K C = true) : OexC K C := by
  obtain ⟨h1, h⟩ := He.ba h
  obtain ⟨h2, h⟩ := He.ba h
  obtain ⟨h3, h⟩ := He.ba h
  obtain ⟨h4, h5⟩ := He.ba h
  refine ⟨?_, He.eqO_ok h2, of_decide_eq_true h3, of_decide_eq_true h4, h5⟩
  split at h1
  · rename_i dd cd sl ho
    split at h1
    · rename_i C' bm k0 k1 k2 k3 n k5 hm hs
      obtain ⟨g1, h1⟩ := He.ba h1
      obtain ⟨g2, h1⟩ := He.ba h1
      obtain ⟨g3, h1⟩ := He.ba h1
      obtain ⟨g4, g5⟩ := He.ba h1
      have e1 : C' = C := beq_iff_eq.mp g1
      have e2 : n = "ValueError.__new__" := beq_iff_eq.mp g2
      have e3 : cd.hasDel = false := by simpa using g3
      subst e1 e2
      obtain ⟨nm, bs, mro, ns, qn, hd, sn, sub, ab, col, del⟩ := cd
      dsimp only at hm e3 g4
      subst hm e3 g4
      have hsl : sl = #[k0, k1, k2, k3, some (.builtin "ValueError.__new__"), k5] := by
        obtain ⟨l⟩ := sl
        simp only at hs
        rw [hs]
      subst hsl
      exact ⟨nm, qn, ns, bs, bm, sn, sub, ab, col, dd, k0, k1, k2, k3, k5, ho, g5⟩
    · cases h1
  · cases h1
abbrev SpW : Type := Option (Str × Str × Arguments × FuncBody × Scope × Addr × List Str × Addr)
def supW (K : PySem.W.Frag) (f : Addr) : SpW := match K.lookup f with
  | some ⟨_, _, .func fd, _⟩ => some (fd.name, fd.qualname, fd.params, fd.body, fd.scope, fd.globals, fd.closure.map (·.1), fd.builtins)
  | _ => none
def supV (name qual : Str) (st : Stmt) : SpW := some (name, qual, defArgs st, .stmts (defBody st), defScope st, mainGlobals, ["__class__"], builtinsNs)
def supB (K : PySem.W.Frag) (C f : Addr) (qual : Str) : Bool := (match K.lookup f with
  | some ⟨_, _, .func fd, _⟩ => (match fd.code, fd.defaults, fd.kwdefaults, fd.closure with
    | .ref cda, .none, .none, [(_, cc)] => PySem.W.codeIn K (.ref cda) qual && ((match K.lookup cda with
      | some ⟨_, _, .fields vs, _⟩ => (match (vs[2]? : Option Value) with
        | some (Value.str file _) => decide (file = "/claim/cut.py")
        | _ => false)
      | _ => false) && (match K.lookup cc with
      | some ⟨_, _, .cell (some (.ref D)), _⟩ => decide (D = C)
      | _ => false))
    | _, _, _, _ => false)
  | _ => false) && ((PySem.W.clsIn K C).isSome && (decide (PySem.W.mroIn K C (.ref C) = some true) && (He.eqO (PySem.W.nsIn K mainGlobals "super") (some none) && (He.eqO (PySem.W.nsIn K PySem.cStatics "thirdparty.any") (some none) && (He.eqO (PySem.W.ks_superIn K C C "__init__") (some (some (.builtin "ValueError.__init__"))) &&
    decide (PySem.W.subIn K (.ref C) (.type "ValueError") = some true))))))
structure PrgOk (P : Program) : Prop where
  file : P.main.file = "/claim/cut.py"
  top : (P.main.scope.names.lookup ("super" : Str)).isSome = false
theorem supC_of {P : Program} {K : PySem.W.Frag} {C f : Addr} {name qual : Str} {st : Stmt} (hP : PrgOk P) (e : supW K f = supV name qual st) (o : oexB K C = true) (c : supB K C f qual = true) : ∃ cc cda, SupC P K C f cc cda name qual st := by
  obtain ⟨c1, c⟩ := He.ba c
  obtain ⟨c2, c⟩ := He.ba c
  obtain ⟨c3, c⟩ := He.ba c
  obtain ⟨c4, c⟩ := He.ba c
  obtain ⟨c5, c⟩ := He.ba c
  obtain ⟨c6, c7⟩ := He.ba c
  unfold supW at e
  split at c1
  · rename_i oc od fd osl ho
    rw [ho] at e
    split at c1
    · rename_i cda x cc q1 q2 q3 q4
      obtain ⟨d1, c1⟩ := He.ba c1
      obtain ⟨d2, d3⟩ := He.ba c1
      obtain ⟨n1, n2, n3, n4, n5, n6, n7, n8, n9, n10, n11, n12, n13, n14, n15⟩ := fd
      dsimp only at q1 q2 q3 q4
      subst q1 q2 q3 q4
      have e2 : (some (n1, n2, n3, n4, n5, n6, [x], n15) : SpW) = supV name qual st := e
      unfold supV at e2
      simp only [Option.some.injEq, Prod.mk.injEq, List.cons.injEq, and_true] at e2
      obtain ⟨e1, e2, e3, e4, e5, e6, e7, e8⟩ := e2
      subst e1 e2 e3 e4 e5 e6 e7 e8
      refine ⟨cc, cda, ⟨oexB_ok o, ⟨oc, od, _, _, _, _, osl, ho⟩, d1, ?_, ?_, Option.isSome_iff_exists.mp c2, of_decide_eq_true c3, He.eqO_ok c4, He.eqO_ok c5, He.eqO_ok c6, of_decide_eq_true c7, hP.top⟩⟩
      · split at d2
        · rename_i ccl cdd vs ccs h1
          split at d2
          · rename_i file tf h2
            refine ⟨ccl, cdd, vs, ccs, file, tf, h1, h2, ?_⟩
            rw [hP.file, of_decide_eq_true d2]
            exact beq_self_eq_true _
          · cases d2
        · cases d2
      · split at d3
        · rename_i a1 a2 D a3 h1
          have eD : D = C := of_decide_eq_true d3
          subst eD
          exact ⟨a1, a2, a3, h1⟩
        · cases d3
    · cases c1
  · cases c1
end SupX
/-! ### the text by places -/
def top (i : Nat) : Stmt := PySem.Challenge.pw_lessways_k01_errors_made.main.body.getD i (.Pass ⟨0, 0, 0, 0⟩)
abbrev s_source : Stmt := top 19
abbrev s_draw : Stmt := top 20
abbrev s_object : Stmt := top 21
abbrev s_kinds : Stmt := top 22
abbrev s_rows : Stmt := top 23
abbrev s_law : Stmt := top 24
abbrev s_NoShare_init : Stmt := inClass (top 2) 0
abbrev s_NoUnknown_init : Stmt := inClass (top 3) 0
abbrev s_NotStraight_init : Stmt := inClass (top 4) 0
abbrev s_NotRow_init : Stmt := inClass (top 5) 0
abbrev s_Nothing_init : Stmt := inClass (top 6) 0
abbrev s_NotCounted_init : Stmt := inClass (top 7) 0
abbrev s_BadCount_init : Stmt := inClass (top 8) 0
abbrev s_BadLimit_init : Stmt := inClass (top 9) 0
abbrev s_TooDeep_init : Stmt := inClass (top 10) 0
abbrev s_TooMany_init : Stmt := inClass (top 11) 0
abbrev s_Wavers_init : Stmt := inClass (top 12) 0
abbrev s_Stale_init : Stmt := inClass (top 13) 0
abbrev s_NotTruth_init : Stmt := inClass (top 14) 0
abbrev s_NotNumber_init : Stmt := inClass (top 15) 0
abbrev s_HasGiven_init : Stmt := inClass (top 16) 0
abbrev s_UnlikeCounts_init : Stmt := inClass (top 17) 0
def sups : List (Str × Str × Str × Stmt) := [("NoShare", "__init__", "NoShare.__init__", s_NoShare_init), ("NoUnknown", "__init__", "NoUnknown.__init__", s_NoUnknown_init), ("NotStraight", "__init__", "NotStraight.__init__", s_NotStraight_init), ("NotRow", "__init__", "NotRow.__init__", s_NotRow_init), ("Nothing", "__init__", "Nothing.__init__", s_Nothing_init), ("NotCounted", "__init__", "NotCounted.__init__", s_NotCounted_init), ("BadCount", "__init__", "BadCount.__init__", s_BadCount_init), ("BadLimit", "__init__", "BadLimit.__init__", s_BadLimit_init), ("TooDeep", "__init__", "TooDeep.__init__", s_TooDeep_init), ("TooMany", "__init__", "TooMany.__init__", s_TooMany_init), ("Wavers", "__init__", "Wavers.__init__", s_Wavers_init), ("Stale", "__init__", "Stale.__init__", s_Stale_init), ("NotTruth", "__init__", "NotTruth.__init__", s_NotTruth_init), ("NotNumber", "__init__", "NotNumber.__init__", s_NotNumber_init), ("HasGiven", "__init__", "HasGiven.__init__", s_HasGiven_init), ("UnlikeCounts", "__init__", "UnlikeCounts.__init__", s_UnlikeCounts_init)]
def stats : List He5.DefA := []
/-! ### the facts by names -/
def d_source : He.DefD := ⟨("_law_source", none), "_law_source", "_law_source", defArgs s_source, defBody s_source, defScope s_source, [], []⟩
def d_draw : He.DefD := ⟨("_law_draw", none), "_law_draw", "_law_draw", defArgs s_draw, defBody s_draw, defScope s_draw, [], []⟩
def d_object : He.DefD := ⟨("_law_object", none), "_law_object", "_law_object", defArgs s_object, defBody s_object, defScope s_object, [], []⟩
def d_kinds : He.DefD := ⟨("_law_kinds", none), "_law_kinds", "_law_kinds", defArgs s_kinds, defBody s_kinds, defScope s_kinds, [], []⟩
def d_rows : He.DefD := ⟨("_law_rows", none), "_law_rows", "_law_rows", defArgs s_rows, defBody s_rows, defScope s_rows, [], []⟩
def d_law : He.DefD := ⟨("law", none), "law", "law", defArgs s_law, defBody s_law, defScope s_law, [], []⟩
def fn : List He.DefD := [d_source, d_draw, d_object, d_kinds, d_rows, d_law]
def fa : List He.Fa := [.glo "_law_source", .glo "_law_draw", .glo "_law_object", .glo "_law_kinds", .glo "_law_rows", .glo "law", .glo "LessError", .glo "NoShare", .glo "NoUnknown", .glo "NotStraight", .glo "NotRow", .glo "Nothing", .glo "NotCounted", .glo "BadCount", .glo "BadLimit", .glo "TooDeep", .glo "TooMany", .glo "Wavers", .glo "Stale", .glo "NotTruth", .glo "NotNumber", .glo "HasGiven", .glo "UnlikeCounts", .free "isinstance", .free "ValueError", .free "len", .free "range", .free "min", .free "int", .free "super", .noat "NoShare" "top", .noat "NoUnknown" "k", .noat "NotStraight" "left", .noat "NotStraight" "right", .noat "NotRow" "thing", .noat "Nothing" "rows", .noat "NotCounted" "point", .noat "BadCount" "value", .noat "BadLimit" "value", .noat "TooDeep" "path", .noat "TooMany" "path", .noat "Wavers" "path", .noat "Stale" "row", .noat "NotTruth" "path", .noat "NotNumber" "path", .noat "HasGiven" "rows", .noat "UnlikeCounts" "one", .noat "UnlikeCounts" "other"]
/-- further facts, as Bools of the written part -/
def extra : List (PySem.W.Frag → Bool) := [fun K => SupX.oexB K (He.ga K "NoShare"),
  fun K => He.eqO (PySem.W.findIn K (.ref (He.ga K "NoShare")) "__init__") (some (some (.ref (He.ma K (He.ga K "NoShare") "__init__")))) && decide (PySem.W.typeIn K (.ref (He.ma K (He.ga K "NoShare") "__init__")) = some (.type "function")),
  fun K => SupX.supB K (He.ga K "NoShare") (He.ma K (He.ga K "NoShare") "__init__") "NoShare.__init__",
  fun K => xfB K (He.ga K "NoShare") && He.eqO (PySem.W.findIn K (.ref (He.ga K "NoShare")) "__class__") (some (some (.builtin "object.__class__"))) && decide (PySem.W.mroIn K (He.ga K "NoShare") (.type "object") = some true),
  fun K => SupX.oexB K (He.ga K "NoUnknown"),
  fun K => He.eqO (PySem.W.findIn K (.ref (He.ga K "NoUnknown")) "__init__") (some (some (.ref (He.ma K (He.ga K "NoUnknown") "__init__")))) && decide (PySem.W.typeIn K (.ref (He.ma K (He.ga K "NoUnknown") "__init__")) = some (.type "function")),
  fun K => SupX.supB K (He.ga K "NoUnknown") (He.ma K (He.ga K "NoUnknown") "__init__") "NoUnknown.__init__",
  fun K => xfB K (He.ga K "NoUnknown") && He.eqO (PySem.W.findIn K (.ref (He.ga K "NoUnknown")) "__class__") (some (some (.builtin "object.__class__"))) && decide (PySem.W.mroIn K (He.ga K "NoUnknown") (.type "object") = some true),
  fun K => SupX.oexB K (He.ga K "NotStraight"),
  fun K => He.eqO (PySem.W.findIn K (.ref (He.ga K "NotStraight")) "__init__") (some (some (.ref (He.ma K (He.ga K "NotStraight") "__init__")))) && decide (PySem.W.typeIn K (.ref (He.ma K (He.ga K "NotStraight") "__init__")) = some (.type "function")),
  fun K => SupX.supB K (He.ga K "NotStraight") (He.ma K (He.ga K "NotStraight") "__init__") "NotStraight.__init__",
  fun K => xfB K (He.ga K "NotStraight") && He.eqO (PySem.W.findIn K (.ref (He.ga K "NotStraight")) "__class__") (some (some (.builtin "object.__class__"))) && decide (PySem.W.mroIn K (He.ga K "NotStraight") (.type "object") = some true),
  fun K => SupX.oexB K (He.ga K "NotRow"),
  fun K => He.eqO (PySem.W.findIn K (.ref (He.ga K "NotRow")) "__init__") (some (some (.ref (He.ma K (He.ga K "NotRow") "__init__")))) && decide (PySem.W.typeIn K (.ref (He.ma K (He.ga K "NotRow") "__init__")) = some (.type "function")),
  fun K => SupX.supB K (He.ga K "NotRow") (He.ma K (He.ga K "NotRow") "__init__") "NotRow.__init__",
  fun K => xfB K (He.ga K "NotRow") && He.eqO (PySem.W.findIn K (.ref (He.ga K "NotRow")) "__class__") (some (some (.builtin "object.__class__"))) && decide (PySem.W.mroIn K (He.ga K "NotRow") (.type "object") = some true),
  fun K => SupX.oexB K (He.ga K "Nothing"),
  fun K => He.eqO (PySem.W.findIn K (.ref (He.ga K "Nothing")) "__init__") (some (some (.ref (He.ma K (He.ga K "Nothing") "__init__")))) && decide (PySem.W.typeIn K (.ref (He.ma K (He.ga K "Nothing") "__init__")) = some (.type "function")),
  fun K => SupX.supB K (He.ga K "Nothing") (He.ma K (He.ga K "Nothing") "__init__") "Nothing.__init__",
  fun K => xfB K (He.ga K "Nothing") && He.eqO (PySem.W.findIn K (.ref (He.ga K "Nothing")) "__class__") (some (some (.builtin "object.__class__"))) && decide (PySem.W.mroIn K (He.ga K "Nothing") (.type "object") = some true),
  fun K => SupX.oexB K (He.ga K "NotCounted"),
  fun K => He.eqO (PySem.W.findIn K (.ref (He.ga K "NotCounted")) "__init__") (some (some (.ref (He.ma K (He.ga K "NotCounted") "__init__")))) && decide (PySem.W.typeIn K (.ref (He.ma K (He.ga K "NotCounted") "__init__")) = some (.type "function")),
  fun K => SupX.supB K (He.ga K "NotCounted") (He.ma K (He.ga K "NotCounted") "__init__") "NotCounted.__init__",
  fun K => xfB K (He.ga K "NotCounted") && He.eqO (PySem.W.findIn K (.ref (He.ga K "NotCounted")) "__class__") (some (some (.builtin "object.__class__"))) && decide (PySem.W.mroIn K (He.ga K "NotCounted") (.type "object") = some true),
  fun K => SupX.oexB K (He.ga K "BadCount"),
  fun K => He.eqO (PySem.W.findIn K (.ref (He.ga K "BadCount")) "__init__") (some (some (.ref (He.ma K (He.ga K "BadCount") "__init__")))) && decide (PySem.W.typeIn K (.ref (He.ma K (He.ga K "BadCount") "__init__")) = some (.type "function")),
  fun K => SupX.supB K (He.ga K "BadCount") (He.ma K (He.ga K "BadCount") "__init__") "BadCount.__init__",
  fun K => xfB K (He.ga K "BadCount") && He.eqO (PySem.W.findIn K (.ref (He.ga K "BadCount")) "__class__") (some (some (.builtin "object.__class__"))) && decide (PySem.W.mroIn K (He.ga K "BadCount") (.type "object") = some true),
  fun K => SupX.oexB K (He.ga K "BadLimit"),
  fun K => He.eqO (PySem.W.findIn K (.ref (He.ga K "BadLimit")) "__init__") (some (some (.ref (He.ma K (He.ga K "BadLimit") "__init__")))) && decide (PySem.W.typeIn K (.ref (He.ma K (He.ga K "BadLimit") "__init__")) = some (.type "function")),
  fun K => SupX.supB K (He.ga K "BadLimit") (He.ma K (He.ga K "BadLimit") "__init__") "BadLimit.__init__",
  fun K => xfB K (He.ga K "BadLimit") && He.eqO (PySem.W.findIn K (.ref (He.ga K "BadLimit")) "__class__") (some (some (.builtin "object.__class__"))) && decide (PySem.W.mroIn K (He.ga K "BadLimit") (.type "object") = some true),
  fun K => SupX.oexB K (He.ga K "TooDeep"),
  fun K => He.eqO (PySem.W.findIn K (.ref (He.ga K "TooDeep")) "__init__") (some (some (.ref (He.ma K (He.ga K "TooDeep") "__init__")))) && decide (PySem.W.typeIn K (.ref (He.ma K (He.ga K "TooDeep") "__init__")) = some (.type "function")),
  fun K => SupX.supB K (He.ga K "TooDeep") (He.ma K (He.ga K "TooDeep") "__init__") "TooDeep.__init__",
  fun K => xfB K (He.ga K "TooDeep") && He.eqO (PySem.W.findIn K (.ref (He.ga K "TooDeep")) "__class__") (some (some (.builtin "object.__class__"))) && decide (PySem.W.mroIn K (He.ga K "TooDeep") (.type "object") = some true),
  fun K => SupX.oexB K (He.ga K "TooMany"),
  fun K => He.eqO (PySem.W.findIn K (.ref (He.ga K "TooMany")) "__init__") (some (some (.ref (He.ma K (He.ga K "TooMany") "__init__")))) && decide (PySem.W.typeIn K (.ref (He.ma K (He.ga K "TooMany") "__init__")) = some (.type "function")),
  fun K => SupX.supB K (He.ga K "TooMany") (He.ma K (He.ga K "TooMany") "__init__") "TooMany.__init__",
  fun K => xfB K (He.ga K "TooMany") && He.eqO (PySem.W.findIn K (.ref (He.ga K "TooMany")) "__class__") (some (some (.builtin "object.__class__"))) && decide (PySem.W.mroIn K (He.ga K "TooMany") (.type "object") = some true),
  fun K => SupX.oexB K (He.ga K "Wavers"),
  fun K => He.eqO (PySem.W.findIn K (.ref (He.ga K "Wavers")) "__init__") (some (some (.ref (He.ma K (He.ga K "Wavers") "__init__")))) && decide (PySem.W.typeIn K (.ref (He.ma K (He.ga K "Wavers") "__init__")) = some (.type "function")),
  fun K => SupX.supB K (He.ga K "Wavers") (He.ma K (He.ga K "Wavers") "__init__") "Wavers.__init__",
  fun K => xfB K (He.ga K "Wavers") && He.eqO (PySem.W.findIn K (.ref (He.ga K "Wavers")) "__class__") (some (some (.builtin "object.__class__"))) && decide (PySem.W.mroIn K (He.ga K "Wavers") (.type "object") = some true),
  fun K => SupX.oexB K (He.ga K "Stale"),
  fun K => He.eqO (PySem.W.findIn K (.ref (He.ga K "Stale")) "__init__") (some (some (.ref (He.ma K (He.ga K "Stale") "__init__")))) && decide (PySem.W.typeIn K (.ref (He.ma K (He.ga K "Stale") "__init__")) = some (.type "function")),
  fun K => SupX.supB K (He.ga K "Stale") (He.ma K (He.ga K "Stale") "__init__") "Stale.__init__",
  fun K => xfB K (He.ga K "Stale") && He.eqO (PySem.W.findIn K (.ref (He.ga K "Stale")) "__class__") (some (some (.builtin "object.__class__"))) && decide (PySem.W.mroIn K (He.ga K "Stale") (.type "object") = some true),
  fun K => SupX.oexB K (He.ga K "NotTruth"),
  fun K => He.eqO (PySem.W.findIn K (.ref (He.ga K "NotTruth")) "__init__") (some (some (.ref (He.ma K (He.ga K "NotTruth") "__init__")))) && decide (PySem.W.typeIn K (.ref (He.ma K (He.ga K "NotTruth") "__init__")) = some (.type "function")),
  fun K => SupX.supB K (He.ga K "NotTruth") (He.ma K (He.ga K "NotTruth") "__init__") "NotTruth.__init__",
  fun K => xfB K (He.ga K "NotTruth") && He.eqO (PySem.W.findIn K (.ref (He.ga K "NotTruth")) "__class__") (some (some (.builtin "object.__class__"))) && decide (PySem.W.mroIn K (He.ga K "NotTruth") (.type "object") = some true),
  fun K => SupX.oexB K (He.ga K "NotNumber"),
  fun K => He.eqO (PySem.W.findIn K (.ref (He.ga K "NotNumber")) "__init__") (some (some (.ref (He.ma K (He.ga K "NotNumber") "__init__")))) && decide (PySem.W.typeIn K (.ref (He.ma K (He.ga K "NotNumber") "__init__")) = some (.type "function")),
  fun K => SupX.supB K (He.ga K "NotNumber") (He.ma K (He.ga K "NotNumber") "__init__") "NotNumber.__init__",
  fun K => xfB K (He.ga K "NotNumber") && He.eqO (PySem.W.findIn K (.ref (He.ga K "NotNumber")) "__class__") (some (some (.builtin "object.__class__"))) && decide (PySem.W.mroIn K (He.ga K "NotNumber") (.type "object") = some true),
  fun K => SupX.oexB K (He.ga K "HasGiven"),
  fun K => He.eqO (PySem.W.findIn K (.ref (He.ga K "HasGiven")) "__init__") (some (some (.ref (He.ma K (He.ga K "HasGiven") "__init__")))) && decide (PySem.W.typeIn K (.ref (He.ma K (He.ga K "HasGiven") "__init__")) = some (.type "function")),
  fun K => SupX.supB K (He.ga K "HasGiven") (He.ma K (He.ga K "HasGiven") "__init__") "HasGiven.__init__",
  fun K => xfB K (He.ga K "HasGiven") && He.eqO (PySem.W.findIn K (.ref (He.ga K "HasGiven")) "__class__") (some (some (.builtin "object.__class__"))) && decide (PySem.W.mroIn K (He.ga K "HasGiven") (.type "object") = some true),
  fun K => SupX.oexB K (He.ga K "UnlikeCounts"),
  fun K => He.eqO (PySem.W.findIn K (.ref (He.ga K "UnlikeCounts")) "__init__") (some (some (.ref (He.ma K (He.ga K "UnlikeCounts") "__init__")))) && decide (PySem.W.typeIn K (.ref (He.ma K (He.ga K "UnlikeCounts") "__init__")) = some (.type "function")),
  fun K => SupX.supB K (He.ga K "UnlikeCounts") (He.ma K (He.ga K "UnlikeCounts") "__init__") "UnlikeCounts.__init__",
  fun K => xfB K (He.ga K "UnlikeCounts") && He.eqO (PySem.W.findIn K (.ref (He.ga K "UnlikeCounts")) "__class__") (some (some (.builtin "object.__class__"))) && decide (PySem.W.mroIn K (He.ga K "UnlikeCounts") (.type "object") = some true),
  fun K => (["NoShare", "NoUnknown", "NotStraight", "NotRow", "Nothing", "NotCounted", "BadCount", "BadLimit", "TooDeep", "TooMany", "Wavers", "Stale", "NotTruth", "NotNumber", "HasGiven", "UnlikeCounts"] : List PySem.Str).all fun a => (["NoShare", "NoUnknown", "NotStraight", "NotRow", "Nothing", "NotCounted", "BadCount", "BadLimit", "TooDeep", "TooMany", "Wavers", "Stale", "NotTruth", "NotNumber", "HasGiven", "UnlikeCounts"] : List PySem.Str).all fun b => decide (PySem.W.kitOne K (.ref (He.ga K a)) (.ref (He.ga K b)) = some (decide (a = b))),
  fun K => (["NoShare", "NoUnknown", "NotStraight", "NotRow", "Nothing", "NotCounted", "BadCount", "BadLimit", "TooDeep", "TooMany", "Wavers", "Stale", "NotTruth", "NotNumber", "HasGiven", "UnlikeCounts"] : List PySem.Str).all fun a => decide (PySem.W.kitOne K (.ref (He.ga K a)) (.ref (He.ga K "LessError")) = some true) && decide (PySem.W.kitOne K (.ref (He.ga K a)) (.type "ValueError") = some true),
  fun K => He.eqO (PySem.W.specialIn K (.builtin "object.__class__") "__get__") (some (some (.builtin "getset_descriptor.__get__"))) && decide (PySem.W.takesIn K (.builtin "object.__class__") = some true)]
abbrev AlX : Type := Bool × He.AlD × List SupX.SpW × List He5.FnW
def obsX (fa : List He.Fa) (fn : List He.DefD) (sp : List (Str × Str × Str × Stmt)) (ex : List (PySem.W.Frag → Bool)) (st : List He5.DefA) (K : PySem.W.Frag) : AlX := ((ex.all fun f => f K) && st.all fun d => d.ok K, He.obsD fa fn K, sp.map fun d => SupX.supW K (He.fAd K (d.1, some d.2.1)), st.map fun d => He5.fnA K (d.at_ K))
def valX (fn : List He.DefD) (sp : List (Str × Str × Str × Stmt)) (st : List He5.DefA) : AlX := (true, He.valD fn, sp.map fun d => SupX.supV d.2.1 d.2.2.1 d.2.2.2, st.map He5.DefA.val)
def SaysX (fa : List He.Fa) (fn : List He.DefD) (sp : List (Str × Str × Str × Stmt)) (ex : List (PySem.W.Frag → Bool)) (st : List He5.DefA) (K : PySem.W.Frag) : Prop := obsX fa fn sp ex st K = valX fn sp st
/-- what every def leans on: the facts, and where the module's names are read -/
structure Wd (K : PySem.W.Frag) (mg : Str → Option Value) : Prop where
  s : SaysX fa fn sups extra stats K
  X : ∃ h : Heap, K.In h ∧ h.Ns mainGlobals mg
section
variable {K : PySem.W.Frag} {mg : Str → Option Value}
theorem Wd.c (W : Wd K mg) : He.SaysD fa fn K := congrArg (fun z : AlX => z.2.1) W.s
theorem Wd.ex (W : Wd K mg) (i : Nat) {f : PySem.W.Frag → Bool} (h : extra[i]? = some f) : f K = true :=
  List.all_eq_true.mp (He.ba (show ((extra.all fun f => f K) && stats.all fun d => d.ok K) = true from congrArg (fun z : AlX => z.1) W.s)).1 f (List.mem_of_getElem? h)
theorem Wd.stat (W : Wd K mg) (i : Nat) {d : He5.DefA} (h : stats[i]? = some d) : ∃ fd, FunD K d.name d.qual d.params d.body d.scope (d.dvs K) (d.kws K) (d.at_ K) fd := by
  have c := (He.ba (show ((extra.all fun f => f K) && stats.all fun d => d.ok K) = true from congrArg (fun z : AlX => z.1) W.s)).2
  have e : stats.map (fun d => He5.fnA K (d.at_ K)) = stats.map He5.DefA.val := congrArg (fun z : AlX => z.2.2.2) W.s
  have e2 : (stats.map fun d => He5.fnA K (d.at_ K))[i]? = (stats.map He5.DefA.val)[i]? := by rw [e]
  rw [List.getElem?_map, List.getElem?_map, h] at e2
  exact He5.DefA.funD (Option.some.inj e2) (List.all_eq_true.mp c d (List.mem_of_getElem? h))
theorem Wd.glo (W : Wd K mg) (i : Nat) {x : Str} (h : fa[i]? = some (.glo x)) : mg x = some (.ref (He.ga K x)) := by
  obtain ⟨h0, X, G⟩ := W.X
  exact He.glo_ok X G (W.c.fact i h)
theorem Wd.free (W : Wd K mg) (i : Nat) {x : Str} (h : fa[i]? = some (.free x)) : mg x = none := by
  obtain ⟨h0, X, G⟩ := W.X
  exact He.free_ok X G (W.c.fact i h)
theorem Wd.sup (W : Wd K mg) (i : Nat) {d : Str × Str × Str × Stmt} (h : sups[i]? = some d) : SupX.supW K (He.fAd K (d.1, some d.2.1)) = SupX.supV d.2.1 d.2.2.1 d.2.2.2 := by
  have e : sups.map (fun d => SupX.supW K (He.fAd K (d.1, some d.2.1))) = sups.map fun d => SupX.supV d.2.1 d.2.2.1 d.2.2.2 := congrArg (fun z : AlX => z.2.2.1) W.s
  have e2 : (sups.map (fun d => SupX.supW K (He.fAd K (d.1, some d.2.1))))[i]? = (sups.map fun d => SupX.supV d.2.1 d.2.2.1 d.2.2.2)[i]? := by rw [e]
  rw [List.getElem?_map, List.getElem?_map, h] at e2
  exact Option.some.inj e2
end

theorem Wd.g_law_source {K : PySem.W.Frag} {mg : Str → Option Value} (W : Wd K mg) : mg "_law_source" = some (.ref (He.ga K "_law_source")) := W.glo 0 rfl
theorem Wd.g_law_draw {K : PySem.W.Frag} {mg : Str → Option Value} (W : Wd K mg) : mg "_law_draw" = some (.ref (He.ga K "_law_draw")) := W.glo 1 rfl
theorem Wd.g_law_object {K : PySem.W.Frag} {mg : Str → Option Value} (W : Wd K mg) : mg "_law_object" = some (.ref (He.ga K "_law_object")) := W.glo 2 rfl
theorem Wd.g_law_kinds {K : PySem.W.Frag} {mg : Str → Option Value} (W : Wd K mg) : mg "_law_kinds" = some (.ref (He.ga K "_law_kinds")) := W.glo 3 rfl
theorem Wd.g_law_rows {K : PySem.W.Frag} {mg : Str → Option Value} (W : Wd K mg) : mg "_law_rows" = some (.ref (He.ga K "_law_rows")) := W.glo 4 rfl
theorem Wd.g_law {K : PySem.W.Frag} {mg : Str → Option Value} (W : Wd K mg) : mg "law" = some (.ref (He.ga K "law")) := W.glo 5 rfl
theorem Wd.g_LessError {K : PySem.W.Frag} {mg : Str → Option Value} (W : Wd K mg) : mg "LessError" = some (.ref (He.ga K "LessError")) := W.glo 6 rfl
theorem Wd.g_NoShare {K : PySem.W.Frag} {mg : Str → Option Value} (W : Wd K mg) : mg "NoShare" = some (.ref (He.ga K "NoShare")) := W.glo 7 rfl
theorem Wd.g_NoUnknown {K : PySem.W.Frag} {mg : Str → Option Value} (W : Wd K mg) : mg "NoUnknown" = some (.ref (He.ga K "NoUnknown")) := W.glo 8 rfl
theorem Wd.g_NotStraight {K : PySem.W.Frag} {mg : Str → Option Value} (W : Wd K mg) : mg "NotStraight" = some (.ref (He.ga K "NotStraight")) := W.glo 9 rfl
theorem Wd.g_NotRow {K : PySem.W.Frag} {mg : Str → Option Value} (W : Wd K mg) : mg "NotRow" = some (.ref (He.ga K "NotRow")) := W.glo 10 rfl
theorem Wd.g_Nothing {K : PySem.W.Frag} {mg : Str → Option Value} (W : Wd K mg) : mg "Nothing" = some (.ref (He.ga K "Nothing")) := W.glo 11 rfl
theorem Wd.g_NotCounted {K : PySem.W.Frag} {mg : Str → Option Value} (W : Wd K mg) : mg "NotCounted" = some (.ref (He.ga K "NotCounted")) := W.glo 12 rfl
theorem Wd.g_BadCount {K : PySem.W.Frag} {mg : Str → Option Value} (W : Wd K mg) : mg "BadCount" = some (.ref (He.ga K "BadCount")) := W.glo 13 rfl
theorem Wd.g_BadLimit {K : PySem.W.Frag} {mg : Str → Option Value} (W : Wd K mg) : mg "BadLimit" = some (.ref (He.ga K "BadLimit")) := W.glo 14 rfl
theorem Wd.g_TooDeep {K : PySem.W.Frag} {mg : Str → Option Value} (W : Wd K mg) : mg "TooDeep" = some (.ref (He.ga K "TooDeep")) := W.glo 15 rfl
theorem Wd.g_TooMany {K : PySem.W.Frag} {mg : Str → Option Value} (W : Wd K mg) : mg "TooMany" = some (.ref (He.ga K "TooMany")) := W.glo 16 rfl
theorem Wd.g_Wavers {K : PySem.W.Frag} {mg : Str → Option Value} (W : Wd K mg) : mg "Wavers" = some (.ref (He.ga K "Wavers")) := W.glo 17 rfl
theorem Wd.g_Stale {K : PySem.W.Frag} {mg : Str → Option Value} (W : Wd K mg) : mg "Stale" = some (.ref (He.ga K "Stale")) := W.glo 18 rfl
theorem Wd.g_NotTruth {K : PySem.W.Frag} {mg : Str → Option Value} (W : Wd K mg) : mg "NotTruth" = some (.ref (He.ga K "NotTruth")) := W.glo 19 rfl
theorem Wd.g_NotNumber {K : PySem.W.Frag} {mg : Str → Option Value} (W : Wd K mg) : mg "NotNumber" = some (.ref (He.ga K "NotNumber")) := W.glo 20 rfl
theorem Wd.g_HasGiven {K : PySem.W.Frag} {mg : Str → Option Value} (W : Wd K mg) : mg "HasGiven" = some (.ref (He.ga K "HasGiven")) := W.glo 21 rfl
theorem Wd.g_UnlikeCounts {K : PySem.W.Frag} {mg : Str → Option Value} (W : Wd K mg) : mg "UnlikeCounts" = some (.ref (He.ga K "UnlikeCounts")) := W.glo 22 rfl
theorem Wd.f_isinstance {K : PySem.W.Frag} {mg : Str → Option Value} (W : Wd K mg) : mg "isinstance" = none := W.free 23 rfl
theorem Wd.f_ValueError {K : PySem.W.Frag} {mg : Str → Option Value} (W : Wd K mg) : mg "ValueError" = none := W.free 24 rfl
theorem Wd.f_len {K : PySem.W.Frag} {mg : Str → Option Value} (W : Wd K mg) : mg "len" = none := W.free 25 rfl
theorem Wd.f_range {K : PySem.W.Frag} {mg : Str → Option Value} (W : Wd K mg) : mg "range" = none := W.free 26 rfl
theorem Wd.f_min {K : PySem.W.Frag} {mg : Str → Option Value} (W : Wd K mg) : mg "min" = none := W.free 27 rfl
theorem Wd.f_int {K : PySem.W.Frag} {mg : Str → Option Value} (W : Wd K mg) : mg "int" = none := W.free 28 rfl
theorem Wd.f_super {K : PySem.W.Frag} {mg : Str → Option Value} (W : Wd K mg) : mg "super" = none := W.free 29 rfl
theorem Wd.n_NoShare_top {K : PySem.W.Frag} {mg : Str → Option Value} (W : Wd K mg) : NoAttr K (He.ga K "NoShare") "top" := He.noat_ok (W.c.fact 30 rfl)
theorem Wd.n_NoUnknown_k {K : PySem.W.Frag} {mg : Str → Option Value} (W : Wd K mg) : NoAttr K (He.ga K "NoUnknown") "k" := He.noat_ok (W.c.fact 31 rfl)
theorem Wd.n_NotStraight_left {K : PySem.W.Frag} {mg : Str → Option Value} (W : Wd K mg) : NoAttr K (He.ga K "NotStraight") "left" := He.noat_ok (W.c.fact 32 rfl)
theorem Wd.n_NotStraight_right {K : PySem.W.Frag} {mg : Str → Option Value} (W : Wd K mg) : NoAttr K (He.ga K "NotStraight") "right" := He.noat_ok (W.c.fact 33 rfl)
theorem Wd.n_NotRow_thing {K : PySem.W.Frag} {mg : Str → Option Value} (W : Wd K mg) : NoAttr K (He.ga K "NotRow") "thing" := He.noat_ok (W.c.fact 34 rfl)
theorem Wd.n_Nothing_rows {K : PySem.W.Frag} {mg : Str → Option Value} (W : Wd K mg) : NoAttr K (He.ga K "Nothing") "rows" := He.noat_ok (W.c.fact 35 rfl)
theorem Wd.n_NotCounted_point {K : PySem.W.Frag} {mg : Str → Option Value} (W : Wd K mg) : NoAttr K (He.ga K "NotCounted") "point" := He.noat_ok (W.c.fact 36 rfl)
theorem Wd.n_BadCount_value {K : PySem.W.Frag} {mg : Str → Option Value} (W : Wd K mg) : NoAttr K (He.ga K "BadCount") "value" := He.noat_ok (W.c.fact 37 rfl)
theorem Wd.n_BadLimit_value {K : PySem.W.Frag} {mg : Str → Option Value} (W : Wd K mg) : NoAttr K (He.ga K "BadLimit") "value" := He.noat_ok (W.c.fact 38 rfl)
theorem Wd.n_TooDeep_path {K : PySem.W.Frag} {mg : Str → Option Value} (W : Wd K mg) : NoAttr K (He.ga K "TooDeep") "path" := He.noat_ok (W.c.fact 39 rfl)
theorem Wd.n_TooMany_path {K : PySem.W.Frag} {mg : Str → Option Value} (W : Wd K mg) : NoAttr K (He.ga K "TooMany") "path" := He.noat_ok (W.c.fact 40 rfl)
theorem Wd.n_Wavers_path {K : PySem.W.Frag} {mg : Str → Option Value} (W : Wd K mg) : NoAttr K (He.ga K "Wavers") "path" := He.noat_ok (W.c.fact 41 rfl)
theorem Wd.n_Stale_row {K : PySem.W.Frag} {mg : Str → Option Value} (W : Wd K mg) : NoAttr K (He.ga K "Stale") "row" := He.noat_ok (W.c.fact 42 rfl)
theorem Wd.n_NotTruth_path {K : PySem.W.Frag} {mg : Str → Option Value} (W : Wd K mg) : NoAttr K (He.ga K "NotTruth") "path" := He.noat_ok (W.c.fact 43 rfl)
theorem Wd.n_NotNumber_path {K : PySem.W.Frag} {mg : Str → Option Value} (W : Wd K mg) : NoAttr K (He.ga K "NotNumber") "path" := He.noat_ok (W.c.fact 44 rfl)
theorem Wd.n_HasGiven_rows {K : PySem.W.Frag} {mg : Str → Option Value} (W : Wd K mg) : NoAttr K (He.ga K "HasGiven") "rows" := He.noat_ok (W.c.fact 45 rfl)
theorem Wd.n_UnlikeCounts_one {K : PySem.W.Frag} {mg : Str → Option Value} (W : Wd K mg) : NoAttr K (He.ga K "UnlikeCounts") "one" := He.noat_ok (W.c.fact 46 rfl)
theorem Wd.n_UnlikeCounts_other {K : PySem.W.Frag} {mg : Str → Option Value} (W : Wd K mg) : NoAttr K (He.ga K "UnlikeCounts") "other" := He.noat_ok (W.c.fact 47 rfl)
theorem Wd.F_source {K : PySem.W.Frag} {mg : Str → Option Value} (W : Wd K mg) : ∃ fd, FunD K d_source.name d_source.qual d_source.params d_source.body d_source.scope (d_source.dvs K) (d_source.kws K) (He.fAd K d_source.at_) fd := W.c.def_ 0 rfl
theorem Wd.F_draw {K : PySem.W.Frag} {mg : Str → Option Value} (W : Wd K mg) : ∃ fd, FunD K d_draw.name d_draw.qual d_draw.params d_draw.body d_draw.scope (d_draw.dvs K) (d_draw.kws K) (He.fAd K d_draw.at_) fd := W.c.def_ 1 rfl
theorem Wd.F_object {K : PySem.W.Frag} {mg : Str → Option Value} (W : Wd K mg) : ∃ fd, FunD K d_object.name d_object.qual d_object.params d_object.body d_object.scope (d_object.dvs K) (d_object.kws K) (He.fAd K d_object.at_) fd := W.c.def_ 2 rfl
theorem Wd.F_kinds {K : PySem.W.Frag} {mg : Str → Option Value} (W : Wd K mg) : ∃ fd, FunD K d_kinds.name d_kinds.qual d_kinds.params d_kinds.body d_kinds.scope (d_kinds.dvs K) (d_kinds.kws K) (He.fAd K d_kinds.at_) fd := W.c.def_ 3 rfl
theorem Wd.F_rows {K : PySem.W.Frag} {mg : Str → Option Value} (W : Wd K mg) : ∃ fd, FunD K d_rows.name d_rows.qual d_rows.params d_rows.body d_rows.scope (d_rows.dvs K) (d_rows.kws K) (He.fAd K d_rows.at_) fd := W.c.def_ 4 rfl
theorem Wd.F_law {K : PySem.W.Frag} {mg : Str → Option Value} (W : Wd K mg) : ∃ fd, FunD K d_law.name d_law.qual d_law.params d_law.body d_law.scope (d_law.dvs K) (d_law.kws K) (He.fAd K d_law.at_) fd := W.c.def_ 5 rfl
def loose1 : List PySem.Str := ["BadCount", "BadLimit", "HasGiven", "LessError", "NoShare", "NoUnknown", "NotCounted", "NotNumber", "NotRow", "NotStraight", "NotTruth"]
def loose2 : List PySem.Str := ["Nothing", "Stale", "TooDeep", "TooMany", "UnlikeCounts", "Wavers", "_law_draw", "_law_kinds", "_law_object", "_law_rows", "_law_source"]
abbrev R : PySem.W.OpenRow := PySem.W.OpenLaw.row PySem.Challenge.rw_lessways_k01_errors_made
def lawAt : Nat := 24
section
variable {K : PySem.W.Frag} {mg : Str → Option Value}
theorem Wd.e_oexNoShare (W : Wd K mg) : (fun K => SupX.oexB K (He.ga K "NoShare")) K = true := W.ex 0 rfl
theorem Wd.e_iniNoShare (W : Wd K mg) : (fun K => He.eqO (PySem.W.findIn K (.ref (He.ga K "NoShare")) "__init__") (some (some (.ref (He.ma K (He.ga K "NoShare") "__init__")))) && decide (PySem.W.typeIn K (.ref (He.ma K (He.ga K "NoShare") "__init__")) = some (.type "function"))) K = true := W.ex 1 rfl
theorem Wd.e_supNoShare (W : Wd K mg) : (fun K => SupX.supB K (He.ga K "NoShare") (He.ma K (He.ga K "NoShare") "__init__") "NoShare.__init__") K = true := W.ex 2 rfl
theorem Wd.e_xfNoShare (W : Wd K mg) : (fun K => xfB K (He.ga K "NoShare") && He.eqO (PySem.W.findIn K (.ref (He.ga K "NoShare")) "__class__") (some (some (.builtin "object.__class__"))) && decide (PySem.W.mroIn K (He.ga K "NoShare") (.type "object") = some true)) K = true := W.ex 3 rfl
theorem Wd.e_oexNoUnknown (W : Wd K mg) : (fun K => SupX.oexB K (He.ga K "NoUnknown")) K = true := W.ex 4 rfl
theorem Wd.e_iniNoUnknown (W : Wd K mg) : (fun K => He.eqO (PySem.W.findIn K (.ref (He.ga K "NoUnknown")) "__init__") (some (some (.ref (He.ma K (He.ga K "NoUnknown") "__init__")))) && decide (PySem.W.typeIn K (.ref (He.ma K (He.ga K "NoUnknown") "__init__")) = some (.type "function"))) K = true := W.ex 5 rfl
theorem Wd.e_supNoUnknown (W : Wd K mg) : (fun K => SupX.supB K (He.ga K "NoUnknown") (He.ma K (He.ga K "NoUnknown") "__init__") "NoUnknown.__init__") K = true := W.ex 6 rfl
theorem Wd.e_xfNoUnknown (W : Wd K mg) : (fun K => xfB K (He.ga K "NoUnknown") && He.eqO (PySem.W.findIn K (.ref (He.ga K "NoUnknown")) "__class__") (some (some (.builtin "object.__class__"))) && decide (PySem.W.mroIn K (He.ga K "NoUnknown") (.type "object") = some true)) K = true := W.ex 7 rfl
theorem Wd.e_oexNotStraight (W : Wd K mg) : (fun K => SupX.oexB K (He.ga K "NotStraight")) K = true := W.ex 8 rfl
theorem Wd.e_iniNotStraight (W : Wd K mg) : (fun K => He.eqO (PySem.W.findIn K (.ref (He.ga K "NotStraight")) "__init__") (some (some (.ref (He.ma K (He.ga K "NotStraight") "__init__")))) && decide (PySem.W.typeIn K (.ref (He.ma K (He.ga K "NotStraight") "__init__")) = some (.type "function"))) K = true := W.ex 9 rfl
theorem Wd.e_supNotStraight (W : Wd K mg) : (fun K => SupX.supB K (He.ga K "NotStraight") (He.ma K (He.ga K "NotStraight") "__init__") "NotStraight.__init__") K = true := W.ex 10 rfl
theorem Wd.e_xfNotStraight (W : Wd K mg) : (fun K => xfB K (He.ga K "NotStraight") && He.eqO (PySem.W.findIn K (.ref (He.ga K "NotStraight")) "__class__") (some (some (.builtin "object.__class__"))) && decide (PySem.W.mroIn K (He.ga K "NotStraight") (.type "object") = some true)) K = true := W.ex 11 rfl
theorem Wd.e_oexNotRow (W : Wd K mg) : (fun K => SupX.oexB K (He.ga K "NotRow")) K = true := W.ex 12 rfl
theorem Wd.e_iniNotRow (W : Wd K mg) : (fun K => He.eqO (PySem.W.findIn K (.ref (He.ga K "NotRow")) "__init__") (some (some (.ref (He.ma K (He.ga K "NotRow") "__init__")))) && decide (PySem.W.typeIn K (.ref (He.ma K (He.ga K "NotRow") "__init__")) = some (.type "function"))) K = true := W.ex 13 rfl
theorem Wd.e_supNotRow (W : Wd K mg) : (fun K => SupX.supB K (He.ga K "NotRow") (He.ma K (He.ga K "NotRow") "__init__") "NotRow.__init__") K = true := W.ex 14 rfl
theorem Wd.e_xfNotRow (W : Wd K mg) : (fun K => xfB K (He.ga K "NotRow") && He.eqO (PySem.W.findIn K (.ref (He.ga K "NotRow")) "__class__") (some (some (.builtin "object.__class__"))) && decide (PySem.W.mroIn K (He.ga K "NotRow") (.type "object") = some true)) K = true := W.ex 15 rfl
theorem Wd.e_oexNothing (W : Wd K mg) : (fun K => SupX.oexB K (He.ga K "Nothing")) K = true := W.ex 16 rfl
theorem Wd.e_iniNothing (W : Wd K mg) : (fun K => He.eqO (PySem.W.findIn K (.ref (He.ga K "Nothing")) "__init__") (some (some (.ref (He.ma K (He.ga K "Nothing") "__init__")))) && decide (PySem.W.typeIn K (.ref (He.ma K (He.ga K "Nothing") "__init__")) = some (.type "function"))) K = true := W.ex 17 rfl
theorem Wd.e_supNothing (W : Wd K mg) : (fun K => SupX.supB K (He.ga K "Nothing") (He.ma K (He.ga K "Nothing") "__init__") "Nothing.__init__") K = true := W.ex 18 rfl
theorem Wd.e_xfNothing (W : Wd K mg) : (fun K => xfB K (He.ga K "Nothing") && He.eqO (PySem.W.findIn K (.ref (He.ga K "Nothing")) "__class__") (some (some (.builtin "object.__class__"))) && decide (PySem.W.mroIn K (He.ga K "Nothing") (.type "object") = some true)) K = true := W.ex 19 rfl
theorem Wd.e_oexNotCounted (W : Wd K mg) : (fun K => SupX.oexB K (He.ga K "NotCounted")) K = true := W.ex 20 rfl
theorem Wd.e_iniNotCounted (W : Wd K mg) : (fun K => He.eqO (PySem.W.findIn K (.ref (He.ga K "NotCounted")) "__init__") (some (some (.ref (He.ma K (He.ga K "NotCounted") "__init__")))) && decide (PySem.W.typeIn K (.ref (He.ma K (He.ga K "NotCounted") "__init__")) = some (.type "function"))) K = true := W.ex 21 rfl
theorem Wd.e_supNotCounted (W : Wd K mg) : (fun K => SupX.supB K (He.ga K "NotCounted") (He.ma K (He.ga K "NotCounted") "__init__") "NotCounted.__init__") K = true := W.ex 22 rfl
theorem Wd.e_xfNotCounted (W : Wd K mg) : (fun K => xfB K (He.ga K "NotCounted") && He.eqO (PySem.W.findIn K (.ref (He.ga K "NotCounted")) "__class__") (some (some (.builtin "object.__class__"))) && decide (PySem.W.mroIn K (He.ga K "NotCounted") (.type "object") = some true)) K = true := W.ex 23 rfl
theorem Wd.e_oexBadCount (W : Wd K mg) : (fun K => SupX.oexB K (He.ga K "BadCount")) K = true := W.ex 24 rfl
theorem Wd.e_iniBadCount (W : Wd K mg) : (fun K => He.eqO (PySem.W.findIn K (.ref (He.ga K "BadCount")) "__init__") (some (some (.ref (He.ma K (He.ga K "BadCount") "__init__")))) && decide (PySem.W.typeIn K (.ref (He.ma K (He.ga K "BadCount") "__init__")) = some (.type "function"))) K = true := W.ex 25 rfl
theorem Wd.e_supBadCount (W : Wd K mg) : (fun K => SupX.supB K (He.ga K "BadCount") (He.ma K (He.ga K "BadCount") "__init__") "BadCount.__init__") K = true := W.ex 26 rfl
theorem Wd.e_xfBadCount (W : Wd K mg) : (fun K => xfB K (He.ga K "BadCount") && He.eqO (PySem.W.findIn K (.ref (He.ga K "BadCount")) "__class__") (some (some (.builtin "object.__class__"))) && decide (PySem.W.mroIn K (He.ga K "BadCount") (.type "object") = some true)) K = true := W.ex 27 rfl
theorem Wd.e_oexBadLimit (W : Wd K mg) : (fun K => SupX.oexB K (He.ga K "BadLimit")) K = true := W.ex 28 rfl
theorem Wd.e_iniBadLimit (W : Wd K mg) : (fun K => He.eqO (PySem.W.findIn K (.ref (He.ga K "BadLimit")) "__init__") (some (some (.ref (He.ma K (He.ga K "BadLimit") "__init__")))) && decide (PySem.W.typeIn K (.ref (He.ma K (He.ga K "BadLimit") "__init__")) = some (.type "function"))) K = true := W.ex 29 rfl
theorem Wd.e_supBadLimit (W : Wd K mg) : (fun K => SupX.supB K (He.ga K "BadLimit") (He.ma K (He.ga K "BadLimit") "__init__") "BadLimit.__init__") K = true := W.ex 30 rfl
theorem Wd.e_xfBadLimit (W : Wd K mg) : (fun K => xfB K (He.ga K "BadLimit") && He.eqO (PySem.W.findIn K (.ref (He.ga K "BadLimit")) "__class__") (some (some (.builtin "object.__class__"))) && decide (PySem.W.mroIn K (He.ga K "BadLimit") (.type "object") = some true)) K = true := W.ex 31 rfl
theorem Wd.e_oexTooDeep (W : Wd K mg) : (fun K => SupX.oexB K (He.ga K "TooDeep")) K = true := W.ex 32 rfl
theorem Wd.e_iniTooDeep (W : Wd K mg) : (fun K => He.eqO (PySem.W.findIn K (.ref (He.ga K "TooDeep")) "__init__") (some (some (.ref (He.ma K (He.ga K "TooDeep") "__init__")))) && decide (PySem.W.typeIn K (.ref (He.ma K (He.ga K "TooDeep") "__init__")) = some (.type "function"))) K = true := W.ex 33 rfl
theorem Wd.e_supTooDeep (W : Wd K mg) : (fun K => SupX.supB K (He.ga K "TooDeep") (He.ma K (He.ga K "TooDeep") "__init__") "TooDeep.__init__") K = true := W.ex 34 rfl
theorem Wd.e_xfTooDeep (W : Wd K mg) : (fun K => xfB K (He.ga K "TooDeep") && He.eqO (PySem.W.findIn K (.ref (He.ga K "TooDeep")) "__class__") (some (some (.builtin "object.__class__"))) && decide (PySem.W.mroIn K (He.ga K "TooDeep") (.type "object") = some true)) K = true := W.ex 35 rfl
theorem Wd.e_oexTooMany (W : Wd K mg) : (fun K => SupX.oexB K (He.ga K "TooMany")) K = true := W.ex 36 rfl
theorem Wd.e_iniTooMany (W : Wd K mg) : (fun K => He.eqO (PySem.W.findIn K (.ref (He.ga K "TooMany")) "__init__") (some (some (.ref (He.ma K (He.ga K "TooMany") "__init__")))) && decide (PySem.W.typeIn K (.ref (He.ma K (He.ga K "TooMany") "__init__")) = some (.type "function"))) K = true := W.ex 37 rfl
theorem Wd.e_supTooMany (W : Wd K mg) : (fun K => SupX.supB K (He.ga K "TooMany") (He.ma K (He.ga K "TooMany") "__init__") "TooMany.__init__") K = true := W.ex 38 rfl
theorem Wd.e_xfTooMany (W : Wd K mg) : (fun K => xfB K (He.ga K "TooMany") && He.eqO (PySem.W.findIn K (.ref (He.ga K "TooMany")) "__class__") (some (some (.builtin "object.__class__"))) && decide (PySem.W.mroIn K (He.ga K "TooMany") (.type "object") = some true)) K = true := W.ex 39 rfl
theorem Wd.e_oexWavers (W : Wd K mg) : (fun K => SupX.oexB K (He.ga K "Wavers")) K = true := W.ex 40 rfl
theorem Wd.e_iniWavers (W : Wd K mg) : (fun K => He.eqO (PySem.W.findIn K (.ref (He.ga K "Wavers")) "__init__") (some (some (.ref (He.ma K (He.ga K "Wavers") "__init__")))) && decide (PySem.W.typeIn K (.ref (He.ma K (He.ga K "Wavers") "__init__")) = some (.type "function"))) K = true := W.ex 41 rfl
theorem Wd.e_supWavers (W : Wd K mg) : (fun K => SupX.supB K (He.ga K "Wavers") (He.ma K (He.ga K "Wavers") "__init__") "Wavers.__init__") K = true := W.ex 42 rfl
theorem Wd.e_xfWavers (W : Wd K mg) : (fun K => xfB K (He.ga K "Wavers") && He.eqO (PySem.W.findIn K (.ref (He.ga K "Wavers")) "__class__") (some (some (.builtin "object.__class__"))) && decide (PySem.W.mroIn K (He.ga K "Wavers") (.type "object") = some true)) K = true := W.ex 43 rfl
theorem Wd.e_oexStale (W : Wd K mg) : (fun K => SupX.oexB K (He.ga K "Stale")) K = true := W.ex 44 rfl
theorem Wd.e_iniStale (W : Wd K mg) : (fun K => He.eqO (PySem.W.findIn K (.ref (He.ga K "Stale")) "__init__") (some (some (.ref (He.ma K (He.ga K "Stale") "__init__")))) && decide (PySem.W.typeIn K (.ref (He.ma K (He.ga K "Stale") "__init__")) = some (.type "function"))) K = true := W.ex 45 rfl
theorem Wd.e_supStale (W : Wd K mg) : (fun K => SupX.supB K (He.ga K "Stale") (He.ma K (He.ga K "Stale") "__init__") "Stale.__init__") K = true := W.ex 46 rfl
theorem Wd.e_xfStale (W : Wd K mg) : (fun K => xfB K (He.ga K "Stale") && He.eqO (PySem.W.findIn K (.ref (He.ga K "Stale")) "__class__") (some (some (.builtin "object.__class__"))) && decide (PySem.W.mroIn K (He.ga K "Stale") (.type "object") = some true)) K = true := W.ex 47 rfl
theorem Wd.e_oexNotTruth (W : Wd K mg) : (fun K => SupX.oexB K (He.ga K "NotTruth")) K = true := W.ex 48 rfl
theorem Wd.e_iniNotTruth (W : Wd K mg) : (fun K => He.eqO (PySem.W.findIn K (.ref (He.ga K "NotTruth")) "__init__") (some (some (.ref (He.ma K (He.ga K "NotTruth") "__init__")))) && decide (PySem.W.typeIn K (.ref (He.ma K (He.ga K "NotTruth") "__init__")) = some (.type "function"))) K = true := W.ex 49 rfl
theorem Wd.e_supNotTruth (W : Wd K mg) : (fun K => SupX.supB K (He.ga K "NotTruth") (He.ma K (He.ga K "NotTruth") "__init__") "NotTruth.__init__") K = true := W.ex 50 rfl
theorem Wd.e_xfNotTruth (W : Wd K mg) : (fun K => xfB K (He.ga K "NotTruth") && He.eqO (PySem.W.findIn K (.ref (He.ga K "NotTruth")) "__class__") (some (some (.builtin "object.__class__"))) && decide (PySem.W.mroIn K (He.ga K "NotTruth") (.type "object") = some true)) K = true := W.ex 51 rfl
theorem Wd.e_oexNotNumber (W : Wd K mg) : (fun K => SupX.oexB K (He.ga K "NotNumber")) K = true := W.ex 52 rfl
theorem Wd.e_iniNotNumber (W : Wd K mg) : (fun K => He.eqO (PySem.W.findIn K (.ref (He.ga K "NotNumber")) "__init__") (some (some (.ref (He.ma K (He.ga K "NotNumber") "__init__")))) && decide (PySem.W.typeIn K (.ref (He.ma K (He.ga K "NotNumber") "__init__")) = some (.type "function"))) K = true := W.ex 53 rfl
theorem Wd.e_supNotNumber (W : Wd K mg) : (fun K => SupX.supB K (He.ga K "NotNumber") (He.ma K (He.ga K "NotNumber") "__init__") "NotNumber.__init__") K = true := W.ex 54 rfl
theorem Wd.e_xfNotNumber (W : Wd K mg) : (fun K => xfB K (He.ga K "NotNumber") && He.eqO (PySem.W.findIn K (.ref (He.ga K "NotNumber")) "__class__") (some (some (.builtin "object.__class__"))) && decide (PySem.W.mroIn K (He.ga K "NotNumber") (.type "object") = some true)) K = true := W.ex 55 rfl
theorem Wd.e_oexHasGiven (W : Wd K mg) : (fun K => SupX.oexB K (He.ga K "HasGiven")) K = true := W.ex 56 rfl
theorem Wd.e_iniHasGiven (W : Wd K mg) : (fun K => He.eqO (PySem.W.findIn K (.ref (He.ga K "HasGiven")) "__init__") (some (some (.ref (He.ma K (He.ga K "HasGiven") "__init__")))) && decide (PySem.W.typeIn K (.ref (He.ma K (He.ga K "HasGiven") "__init__")) = some (.type "function"))) K = true := W.ex 57 rfl
theorem Wd.e_supHasGiven (W : Wd K mg) : (fun K => SupX.supB K (He.ga K "HasGiven") (He.ma K (He.ga K "HasGiven") "__init__") "HasGiven.__init__") K = true := W.ex 58 rfl
theorem Wd.e_xfHasGiven (W : Wd K mg) : (fun K => xfB K (He.ga K "HasGiven") && He.eqO (PySem.W.findIn K (.ref (He.ga K "HasGiven")) "__class__") (some (some (.builtin "object.__class__"))) && decide (PySem.W.mroIn K (He.ga K "HasGiven") (.type "object") = some true)) K = true := W.ex 59 rfl
theorem Wd.e_oexUnlikeCounts (W : Wd K mg) : (fun K => SupX.oexB K (He.ga K "UnlikeCounts")) K = true := W.ex 60 rfl
theorem Wd.e_iniUnlikeCounts (W : Wd K mg) : (fun K => He.eqO (PySem.W.findIn K (.ref (He.ga K "UnlikeCounts")) "__init__") (some (some (.ref (He.ma K (He.ga K "UnlikeCounts") "__init__")))) && decide (PySem.W.typeIn K (.ref (He.ma K (He.ga K "UnlikeCounts") "__init__")) = some (.type "function"))) K = true := W.ex 61 rfl
theorem Wd.e_supUnlikeCounts (W : Wd K mg) : (fun K => SupX.supB K (He.ga K "UnlikeCounts") (He.ma K (He.ga K "UnlikeCounts") "__init__") "UnlikeCounts.__init__") K = true := W.ex 62 rfl
theorem Wd.e_xfUnlikeCounts (W : Wd K mg) : (fun K => xfB K (He.ga K "UnlikeCounts") && He.eqO (PySem.W.findIn K (.ref (He.ga K "UnlikeCounts")) "__class__") (some (some (.builtin "object.__class__"))) && decide (PySem.W.mroIn K (He.ga K "UnlikeCounts") (.type "object") = some true)) K = true := W.ex 63 rfl
theorem Wd.e_kits (W : Wd K mg) : (fun K => (["NoShare", "NoUnknown", "NotStraight", "NotRow", "Nothing", "NotCounted", "BadCount", "BadLimit", "TooDeep", "TooMany", "Wavers", "Stale", "NotTruth", "NotNumber", "HasGiven", "UnlikeCounts"] : List PySem.Str).all fun a => (["NoShare", "NoUnknown", "NotStraight", "NotRow", "Nothing", "NotCounted", "BadCount", "BadLimit", "TooDeep", "TooMany", "Wavers", "Stale", "NotTruth", "NotNumber", "HasGiven", "UnlikeCounts"] : List PySem.Str).all fun b => decide (PySem.W.kitOne K (.ref (He.ga K a)) (.ref (He.ga K b)) = some (decide (a = b)))) K = true := W.ex 64 rfl
theorem Wd.e_less (W : Wd K mg) : (fun K => (["NoShare", "NoUnknown", "NotStraight", "NotRow", "Nothing", "NotCounted", "BadCount", "BadLimit", "TooDeep", "TooMany", "Wavers", "Stale", "NotTruth", "NotNumber", "HasGiven", "UnlikeCounts"] : List PySem.Str).all fun a => decide (PySem.W.kitOne K (.ref (He.ga K a)) (.ref (He.ga K "LessError")) = some true) && decide (PySem.W.kitOne K (.ref (He.ga K a)) (.type "ValueError") = some true)) K = true := W.ex 65 rfl
theorem Wd.e_get (W : Wd K mg) : (fun K => He.eqO (PySem.W.specialIn K (.builtin "object.__class__") "__get__") (some (some (.builtin "getset_descriptor.__get__"))) && decide (PySem.W.takesIn K (.builtin "object.__class__") = some true)) K = true := W.ex 66 rfl
end
def big9 : Nat := 2 ^ 8999
def bigM : Nat := 2 ^ 400000
section
variable {X : Cx}
/-- // by a divisor that is not 0, below 2 ^ 9000 either way -/
theorem op_fdivX : OpR X (binaryOp .FloorDiv) (rI (fun _ j => j ≠ 0 ∧ j.natAbs < big9) fun i j => .int (i.fdiv j)) := opI fun i j _ _ _ _ _ hc q => by
  exact floordiv_int hc.1 q (.inl (PyProof.noPylong_of_log2 (Nat.lt_of_lt_of_le (PySem.Flt.log2_lt_of (by decide) hc.2) (by decide))))
theorem call_intI : CallR X (.type "int") (fun xs H Q => ∃ i, xs = [.int i] ∧ Q (.int i) H) := fun pins s σ H xs us Q I r h => by
  obtain ⟨i, e, q⟩ := h
  exact call_int1 pins s σ H xs us Q I r (.inl ⟨i, e, q⟩)
theorem op_mulX9 : OpR X (binaryOp .Mult) (rI (fun i j => i.natAbs < bigM ∧ j.natAbs < bigM) fun i j => .int (i * j)) := opI fun i j _ _ _ _ _ hc q => by
  refine mul_int q (CMulW.ok (wide_mul hc.1 hc.2 (by omega) (by omega) (by omega)))
end
def rIxLH : R2 := fun x y H Q => ∃ (p : Addr) (xs : List V) (i : Int) (v : V), x = .ref p ∧ y = .int i ∧ H p = some (.lst xs) ∧ atI xs i = some v ∧ Q v H
def rIxTH : R2 := fun x y H Q => ∃ (p : Addr) (xs : List V) (i : Int) (v : V), x = .ref p ∧ y = .int i ∧ H p = some (.tup xs) ∧ atI xs i = some v ∧ Q v H
section
variable {X : Cx}
theorem ix_lstH : IxR X rIxLH := by
  intro value slice pins s σ H x y v u Q I rx ry h hs
  obtain ⟨p, xs, i, z, e1, e2, hp, a, q⟩ := h
  exact ix_list value slice pins s σ H x y v u Q I rx ry ⟨p, xs, i, z, e1, e2, SqL.of hp, a, q⟩ hs
theorem ix_tupH : IxR X rIxTH := by
  intro value slice pins s σ H x y v u Q I rx ry h hs
  obtain ⟨p, xs, i, z, e1, e2, hp, a, q⟩ := h
  exact ix_tup value slice pins s σ H x y v u Q I rx ry ⟨p, xs, i, z, e1, e2, SqT.of hp, a, q⟩ hs
end
theorem cxK {CX : CXT} {P : Program} {w : World} {K : PySem.W.Frag} {mg : Str → Option Value} {base : Heap} {N : List Str} {qual : Str} {scope : Scope} {f : Addr} {cd : Value} {A : Around} {outer : List Env} {s : Shared} {H : Hp} {E : XK} :
    (cxOf CX P w K mg base N qual scope f cd A outer s H E).K = K := rfl
/-- the size of the int in slot i -/
def intAt (i : Nat) (σ : List (Option V)) : Nat := match σ[i]? with
  | some (some (V.int x)) => x.natAbs
  | _ => 0
theorem ex2 {α β : Type} {a : α} {b : β} {P : α → β → Prop} : (∃ x y, (a = x ∧ b = y) ∧ P x y) ↔ P a b := ⟨fun ⟨_, _, ⟨e1, e2⟩, h⟩ => by subst e1 e2; exact h, fun h => ⟨_, _, ⟨rfl, rfl⟩, h⟩⟩
theorem ex3 {α β γ : Type} {a : α} {b : β} {c : γ} {P : α → β → γ → Prop} : (∃ x y z, (a = x ∧ b = y ∧ c = z) ∧ P x y z) ↔ P a b c := ⟨fun ⟨_, _, _, ⟨e1, e2, e3⟩, h⟩ => by subst e1 e2 e3; exact h, fun h => ⟨_, _, _, ⟨rfl, rfl, rfl⟩, h⟩⟩
theorem ex3b {α β γ : Type} {a : α} {b : β} {c : γ} {P : α → β → γ → Prop} : (∃ x y z, (a = x ∧ b = y ∧ z = c) ∧ P x y z) ↔ P a b c := ⟨fun ⟨_, _, _, ⟨e1, e2, e3⟩, h⟩ => by subst e1 e2 e3; exact h, fun h => ⟨_, _, _, ⟨rfl, rfl, rfl⟩, h⟩⟩
universe u
/-- what a is locked with: behind it simp leaves a be -/
structure Lk {α : Sort u} (a : α) : Type
/-- a new object: what follows holds of it and of the heap with it -/
def Alloc (H : Hp) (o : HO) (Q : V → Hp → Prop) (_ : Lk Q := ⟨⟩) : Prop := ∀ p, H p = none → Q (.ref p) (upd H p o)
theorem same_upd {H : Hp} {p : Addr} {o : HO} (h : H p = none) : Same H (upd H p o) := fun b u e => by
  rw [upd_ne (ne_of_none e h)]
  exact e
theorem Alloc.of {H : Hp} {o : HO} {Q : V → Hp → Prop} (h : ∀ p H', H p = none → H' p = some o → Same H H' → Q (.ref p) H') : Alloc H o Q := fun p hp => h p _ hp upd_same (same_upd hp)
theorem tLst_A {t : TA} {σ : List (Option V)} {H : Hp} {Q : V → Hp → Prop} : tLst t σ H Q = t σ H fun xs H1 => xs.length ≤ sizeLine ∧ Alloc H1 (.lst xs) Q := rfl
theorem tTup_A {t : TA} {σ : List (Option V)} {H : Hp} {Q : V → Hp → Prop} : tTup t σ H Q = t σ H fun xs H1 => xs.length ≤ sizeLine ∧ Alloc H1 (.tup xs) Q := rfl
/-! ### the draws -/
section
variable {P : Program} {w : World} {K : PySem.W.Frag} {mg : Str → Option Value} {base : Heap}
def draws (d0 d1 d2 : Int) : HO := .lst [.int d0, .int d1, .int d2]
theorem scSource : FnScope ["_law_script", "_law_at", "_law_cell"] ["_law_script", "_law_at"] d_source.scope := ⟨rfl, rfl, rfl, by decide +kernel, rfl, by decide +kernel, by decide +kernel⟩
def spSource (K : PySem.W.Frag) : Sp := fun vs H Q _ => ∃ (a : Addr) (ns : List Int) (k : Nat), vs = [.ref a, .int k] ∧ SqL K H a (ns.map V.int) ∧ k < 100 ∧ ∀ (d0 d1 : Int) (p : Addr), H p = none → Q (.ref p) (upd H p (draws d0 d1 0))
theorem le3 : 3 ≤ sizeLine := by decide
theorem ok_source (W : Wd K mg) : ∃ fd, FnOk P w K mg base CX0 1 (He.ga K "_law_source") fd ["_law_script", "_law_at"] (spSource K) ∧ Binds K fd ["_law_script", "_law_at"] [] := by
  obtain ⟨fd, F⟩ := W.F_source
  refine ⟨fd, F.ok scSource (fun vs H Q E h => ?_) (fun cdv A outer s H vs Q E hr h => ?_), FunD.bindsN F fun _ _ _ _ _ _ us hl => match us, hl with | [_, _], _ => rfl⟩
  · obtain ⟨a, ns, k, rfl, _⟩ := h
    rfl
  · obtain ⟨a, ns, k, rfl, hS, hk, q⟩ := h
    refine ⟨_, PSs.nox (pss_cons (ps_set (i := 2) scSource.nd rfl (Or.inl rfl) (pe_ifExp (pt_cmpR op_lt (pv 1) (pe_callB call_len_seq (by rfl) W.f_len boot_len (pa_cons (pv 0) pa_nil)) (nomark _)) (pe_ix ix_list (pv 0) (pv 1) (fun _ _ => rfl)) (pe_op op_add (pe_op op_mul pe_int (pv 1)) pe_int)))
      (pss_one (ps_ret (pe_lst (pa_cons (pe_ifExp (pt_cmpR op_ge (pv 2) (pe_op op_pow pe_int pe_int) (nomark _)) (pv 2) pe_int) (pa_cons (pe_op op_mod (pe_callTy call_intI (by rfl) W.f_int (by decide +kernel) (pa_cons (pv 2) pa_nil)) pe_int) (pa_cons pe_int pa_nil))))))), ?_⟩
    simp -dsimp [tSeq, tAsg, tRet, tIfS, tIf, tTest, tVar, tCons, tNil, tC, tOp, tUn, rI, rI0, rU, tCB, tLst_A, tTup_A, gName, L2.start, CMul, CPow, CDiv, tDrop, tBM, tBM0, tNext, tPar, gSub, rSetL, rIxL, rIxT, tChain, tB, tNot, tNotV, tAnd, tOr, tAndV, tOrV, tFld, tCall, rIxLH, rIxTH, ixN, upd_same, cxK, ex2, ex3, ex3b]
    refine ⟨ns.map V.int, .inl hS, ?_⟩
    split
    · rename_i hk'
      obtain ⟨z, hz⟩ : ∃ z : Int, (ns.map V.int)[k]? = some (V.int z) := by
        rw [List.length_map] at hk'
        exact ⟨ns[k], by rw [List.getElem?_map, List.getElem?_eq_getElem hk']; rfl⟩
      refine ⟨_, hS, _, atI_nat hz, ?_⟩
      simp -dsimp [tSeq, tAsg, tRet, tIfS, tIf, tTest, tVar, tCons, tNil, tC, tOp, tUn, rI, rI0, rU, tCB, tLst_A, tTup_A, gName, L2.start, CMul, CPow, CDiv, tDrop, tBM, tBM0, tNext, tPar, gSub, rSetL, rIxL, rIxT, tChain, tB, tNot, tNotV, tAnd, tOr, tAndV, tOrV, tFld, tCall, rIxLH, rIxTH, atI, ixN, upd_same, cxK, ex2, ex3, ex3b]
      split <;> exact ⟨le3, fun p hp => q _ _ p hp⟩
    · split <;> exact ⟨le3, fun p hp => q _ _ p hp⟩
theorem scDraw : FnScope ["_law_draws", "_law_many", "_law_found"] ["_law_draws", "_law_many"] d_draw.scope := ⟨rfl, rfl, rfl, by decide +kernel, rfl, by decide +kernel, by decide +kernel⟩
def spDraw (K : PySem.W.Frag) : Sp := fun vs H Q _ => ∃ (l : Addr) (d0 d1 d2 m : Int), vs = [.ref l, .int m] ∧ H l = some (draws d0 d1 d2) ∧ 0 < m ∧ m.natAbs < 2 ^ 64 ∧ ∀ (r e0 e1 e2 : Int), 0 ≤ r → r < m → Q (.int r) (upd H l (draws e0 e1 e2))
theorem ok_draw (W : Wd K mg) : ∃ fd, FnOk P w K mg base CX0 1 (He.ga K "_law_draw") fd ["_law_draws", "_law_many"] (spDraw K) ∧ Binds K fd ["_law_draws", "_law_many"] [] := by
  obtain ⟨fd, F⟩ := W.F_draw
  refine ⟨fd, F.ok scDraw (fun vs H Q E h => ?_) (fun cdv A outer s H vs Q E hr h => ?_), FunD.bindsN F fun _ _ _ _ _ _ us hl => match us, hl with | [_, _], _ => rfl⟩
  · obtain ⟨a, d0, d1, d2, m, rfl, _⟩ := h
    rfl
  · obtain ⟨l, d0, d1, d2, m, rfl, hl, h0, hm, q⟩ := h
    refine ⟨_, PSs.nox (pss_cons (ps_if (pt_cmpR op_gt (pe_ix ix_lstH (pv 0) pe_int (fun _ _ => rfl)) pe_int (nomark _))
        (pss_cons (ps_set (i := 2) scDraw.nd rfl (Or.inl rfl) (pe_op op_mod (pe_callTy call_intI (by rfl) W.f_int (by decide +kernel) (pa_cons (pe_ix ix_lstH (pv 0) pe_int (fun _ _ => rfl)) pa_nil)) (pv 1)))
        (pss_cons (ps_asg (pe_op op_fdivW (pe_ix ix_lstH (pv 0) pe_int (fun _ _ => rfl)) (pv 1)) (pg_sub (pv 0) pe_int set_list))
        (pss_one (ps_ret (pv 2))))) pss_nil)
      (pss_cons (ps_asg (pe_op op_add (pe_ix ix_lstH (pv 0) pe_int (fun _ _ => rfl)) pe_int) (pg_sub (pv 0) pe_int set_list))
      (pss_cons (ps_asg (pe_op op_mod (pe_callTy call_intI (by rfl) W.f_int (by decide +kernel) (pa_cons (pe_op op_add (pe_op op_add (pe_op op_mul (pe_ix ix_lstH (pv 0) pe_int (fun _ _ => rfl)) pe_int) (pe_op op_mul (pe_ix ix_lstH (pv 0) pe_int (fun _ _ => rfl)) pe_int)) pe_int) pa_nil)) pe_int) (pg_sub (pv 0) pe_int set_list))
      (pss_one (ps_ret (pe_op op_mod (pe_callTy call_intI (by rfl) W.f_int (by decide +kernel) (pa_cons (pe_op op_add (pe_op op_fdiv (pe_ix ix_lstH (pv 0) pe_int (fun _ _ => rfl)) pe_int) (pe_ix ix_lstH (pv 0) pe_int (fun _ _ => rfl))) pa_nil)) (pv 1))))))), ?_⟩
    simp -dsimp [tSeq, tAsg, tRet, tIfS, tIf, tTest, tVar, tCons, tNil, tC, tOp, tUn, rI, rI0, rU, tCB, tLst_A, tTup_A, gName, L2.start, CMul, CPow, CDiv, tDrop, tBM, tBM0, tNext, tPar, gSub, rSetL, rIxL, rIxT, tChain, tB, tNot, tNotV, tAnd, tOr, tAndV, tOrV, tFld, tCall, rIxLH, rIxTH, atI, ixN, upd_same, cxK, ex2, ex3, ex3b, hl, draws]
    split
    · exact ⟨h0, ⟨h0, Nat.lt_of_lt_of_le (PySem.Flt.log2_lt_of (by decide) hm) (by decide)⟩, q _ _ _ _ (Int.emod_nonneg _ (by omega)) (Int.emod_lt_of_pos _ h0)⟩
    · rw [upd_upd]
      exact ⟨h0, q _ _ _ _ (Int.emod_nonneg _ (by omega)) (Int.emod_lt_of_pos _ h0)⟩
end
open NdefX LamX
/-! ### lambdas as values: made, kept, called -/
/-- its words, the cells that it captured, its code object -/
structure LF where
  qual : Str
  params : Arguments
  body : Expr
  scope : Scope
  cl : List (Str × Addr)
  c : Addr
abbrev LF.fd (F : LF) (pm ctv : Value) : FuncData := PySem.W.kla_fn "<lambda>" F.qual F.params F.body F.scope F.cl pm (.ref F.c) ctv
/-- as a nested def with the same names -/
abbrev LF.nf (F : LF) : NF := ⟨"<lambda>", F.qual, F.params, [], F.scope, F.cl, F.c⟩
/-- the object at f is the lambda F -/
def LmO (f : Addr) (F : LF) : HO := .ext fun h => ∃ (pm ctv : Value), h.get? f = some ({ cls := .type "function", data := .func (F.fd pm ctv) } : Obj)
theorem lmO_at {P : Program} {w : World} {H : Hp} {h : Heap} {f : Addr} {F : LF} (hok : HOk P w H h) (e : H f = some (LmO f F)) : ∃ (pm ctv : Value), h.get? f = some ({ cls := .type "function", data := .func (F.fd pm ctv) } : Obj) := (hok f _ e).1
section
variable {X : Cx} {pins : List (Addr × Obj)} {σ : L2.St} {H : Hp} {s : Shared}
theorem inv_lm {F : LF} {o : Obj} {t' : Nat} {pm ctv : Value} (I : Inv X pins σ H s) (ho : o = { cls := .type "function", data := .func (F.fd pm ctv) }) :
    Inv X pins σ (upd H s.heap.objs.size (LmO s.heap.objs.size F)) { s with heap := s.heap.push o, toks := t' } := by
  subst ho
  refine I.laid (a := s.heap.objs.size) (fun b u e => Heap.get?_push_of_some _ e) (Nat.le_refl _) ?_
  have e : (s.heap.push ({ cls := .type "function", data := .func (F.fd pm ctv) } : Obj)).get? s.heap.objs.size = some ({ cls := .type "function", data := .func (F.fd pm ctv) } : Obj) := Heap.get?_push_size _ rfl
  exact ⟨⟨pm, ctv, e⟩, ⟨_, e⟩, fun _ _ ⟨p, t, z⟩ st => ⟨p, t, st _ z⟩⟩
/-- what is told once a lambda F is made -/
def LmGot (T : List NTab) (H : Hp) (F : LF) (f : Addr) (H1 : Hp) : Prop := ExtN H H1 ∧ (∀ b, H1 b = Option.none → H b = Option.none) ∧ TabsN T H1 ∧ H f = none ∧ H1 f = some (LmO f F) ∧ H1 F.c = some (CodeO F.c F.qual)
/-- what was there is there still -/
theorem upd_keep {H : Hp} {a b : Addr} {o u : HO} (n : H a = none) (e : H b = some u) : upd H a o b = some u := (upd_ne (ne_of_none e n)).trans e
/-- the tables with one code object more -/
theorem tabs_more {T : List NTab} {nm : Nat → Nat → Str} {P c' : Addr} {ps : Array Value} {q : Str} {pos : Pos} {H : Hp} (hT : TabsN T H) (hm : (P, nm) ∈ T) (hu : ∀ p ∈ T, p.1 = P → p.2 = nm) (hn : nm pos.line pos.col = q) (hP : H P = some (.tbl ps)) (nC : H c' = none) :
    TabsN T (upd (upd H P (.tbl (ps ++ #[rawInt pos.line, rawInt pos.col, .ref c']))) c' (CodeO c' q)) ∧ ExtN H (upd (upd H P (.tbl (ps ++ #[rawInt pos.line, rawInt pos.col, .ref c']))) c' (CodeO c' q)) := by
  have kept : ExtN H (upd (upd H P (.tbl (ps ++ #[rawInt pos.line, rawInt pos.col, .ref c']))) c' (CodeO c' q)) := by
    intro b o e n
    have b1 : b ≠ c' := ne_of_none e nC
    have b2 : b ≠ P := fun z => by
      subst z
      rw [hP] at e
      exact n ps (Option.some.inj e.symm)
    rw [upd_ne b1, upd_ne b2]
    exact e
  obtain ⟨ps2, eP, ok, among⟩ := hT _ hm
  rw [show (P, nm).1 = P from rfl, hP] at eP
  obtain rfl : ps = ps2 := by
    injection eP with eP
    injection eP
  refine ⟨fun p hp => ?_, kept⟩
  rcases Decidable.em (p.1 = P) with same | other
  · have nP : P ≠ c' := ne_of_none hP nC
    rw [same, hu p hp same]
    refine ⟨ps ++ #[rawInt pos.line, rawInt pos.col, .ref c'], ?_, ?_, fun p' cv hcv => ?_⟩
    · rw [upd_ne nP, upd_same]
    · rw [Array.toList_append]
      exact PySem.TriplesOk_snoc _ _ _ _ ok
    · rw [Array.toList_append] at hcv
      rcases among_app2 _ ok hcv with old | ⟨rfl, l1, l2⟩
      · obtain ⟨c0, e0, h0⟩ := among p' cv old
        exact ⟨c0, e0, kept _ _ h0 codeO_ne⟩
      · refine ⟨c', rfl, ?_⟩
        rw [upd_same, ← hn, l1, l2]
  · obtain ⟨ps', e', ok', among'⟩ := hT p hp
    refine ⟨ps', ?_, ok', fun p' cv hcv => ?_⟩
    · rw [upd_ne (ne_of_none e' nC), upd_ne other]
      exact e'
    · obtain ⟨c0, e0, h0⟩ := among' p' cv hcv
      exact ⟨c0, e0, kept _ _ h0 codeO_ne⟩
/-- a lambda is made: its code object is new, or found in the table -/
theorem lmv_make {T : List NTab} {nm : Nat → Nat → Str} {c P : Addr} {params : Arguments} {body : Expr} {scope : Scope} {pos : Pos} {E : Value → Shared → Prop} {Q : Value → Shared → Prop} (I : Inv X pins σ H s) (TB : TabB X.base X.mg c P) (hcode : X.env.code = .ref c)
    (hm : (P, nm) ∈ T) (hn : nm pos.line pos.col = X.env.qual ++ "<lambda>") (hu : ∀ p ∈ T, p.1 = P → p.2 = nm) (hT : TabsN T H) (hdef : defaultsOf params X.env = ([], [])) (hfree : ∀ y ∈ scope.names, y.2 = .free → ∃ c, X.env.cells.lookup y.1 = some c)
    (h : ∀ (f c' : Addr) (H1 : Hp) (s' : Shared), Inv X pins σ H1 s' → LmGot T H ⟨X.env.qual ++ "<lambda>", params, body, scope, cloFrom X.env.cells scope.names [], c'⟩ f H1 → Q (.ref f) s') :
    wpAny (model X.prog X.w) X.A (eval (.Lambda params body scope pos) X.env) Q E s := by
  obtain ⟨ps, hP, ok, among⟩ := (show TabN H P nm from hT _ hm)
  have tab := I.hok P _ hP
  have blt : s.heap.BuiltinsAt X.mg P := TB.bm.keeps I.bk
  refine PySem.W.kla_eval hdef ?_
  match hc : codeAmong pos ps.toList with
  | some cv =>
    obtain ⟨c', rfl, hco⟩ := among pos cv hc
    refine PySem.W.kla_makeFunctionHit (mg := X.mg) (c := c) (P := P) (ps := ps) (closure_ok hfree) I.ok.glob (I.mod.glob.keeps I.bk) hcode (TB.code.keeps I.bk) tab ok hc blt fun ctv h' tk keep _ => ?_
    have J : Inv X pins σ H { s with heap := h', toks := tk } := I.kept keep
    have fresh : H h'.objs.size = none := J.hok.fresh (Nat.le_refl _)
    exact h _ c' _ _ (inv_lm J rfl) ⟨fun b o e _ => upd_keep fresh e, fun b e => upd_none e, hT.ext fun b o e => upd_keep fresh e, fresh, upd_same, upd_keep fresh (by rw [← hn]; exact hco)⟩
  | none =>
    refine PySem.W.kla_makeFunction (mg := X.mg) (c := c) (P := P) (ps := ps) (closure_ok hfree) I.ok.glob (I.mod.glob.keeps I.bk) hcode (TB.code.keeps I.bk) tab ok hc TB.gP blt fun c' ctv h' tk other ge lt rec tab' => ?_
    obtain ⟨_, oc, vs, tt, ec, hoc, hd, hv⟩ := rec
    cases ec
    have nC : H c' = none := I.hok.fresh ge
    obtain ⟨tabs, kept⟩ := tabs_more hT hm hu hn hP nC
    have J := inv_table (t' := tk) (more := #[rawInt pos.line, rawInt pos.col, .ref c']) (h' := h') I hP (fun b o hb e => other b o hb e) tab' ge ⟨oc, vs, tt, hoc, hd, hv⟩
    have fresh := J.hok.fresh (Nat.le_refl _)
    have old : H h'.objs.size = none := upd_none (upd_none fresh)
    exact h _ c' _ _ (inv_lm J rfl) ⟨fun b o e n => upd_keep fresh (kept b o e n), fun b e => upd_none (upd_none (upd_none e)), tabs.ext fun b o e => upd_keep fresh e, old, upd_same, upd_keep fresh upd_same⟩
end
/-- the reading of «lambda ..: ..» -/
def tLamV (T : List NTab) (mk : Addr → LF) : TE := fun _ H Q => TabsN T H ∧ ∀ (f c' : Addr) (H1 : Hp), LmGot T H (mk c') f H1 → Q (.ref f) H1
theorem pe_lamV {X : Cx} {T : List NTab} {nm : Nat → Nat → Str} {c P : Addr} {params : Arguments} {body : Expr} {scope : Scope} {pos : Pos} (TB : TabB X.base X.mg c P) (hcode : X.env.code = .ref c) (hm : (P, nm) ∈ T) (hn : nm pos.line pos.col = X.env.qual ++ "<lambda>") (hu : ∀ p ∈ T, p.1 = P → p.2 = nm)
    (hdef : defaultsOf params X.env = ([], [])) (hfree : ∀ y ∈ scope.names, y.2 = .free → X.env.scope.names.lookup y.1 = some .cell ∨ X.env.scope.names.lookup y.1 = some .free) :
    PE X (.Lambda params body scope pos) (tLamV T fun c' => ⟨X.env.qual ++ "<lambda>", params, body, scope, cloFrom X.env.cells scope.names [], c'⟩) := by
  refine ⟨fun pins s σ H Q I h => ?_⟩
  obtain ⟨hT, h⟩ := h
  have hfr : ∀ y ∈ scope.names, y.2 = .free → ∃ c, X.env.cells.lookup y.1 = some c := fun y hy e => (hfree y hy e).elim (fun z => I.ok.has _ (.inl z)) fun z => I.ok.has _ (.inr z)
  exact lmv_make I TB hcode hm hn hu hT hdef hfr fun f c' H1 s' I1 got => ⟨.ref f, H1, I1, rfl, h f c' H1 got⟩
/-- what a call of f with vs promises, whoever calls -/
def Runs (P : Program) (w : World) (K : PySem.W.Frag) (mg : Str → Option Value) (base : Heap) (CX : CXT) (k : Nat) (f : Addr) (vs : List V) (H : Hp) (Q : VK) (E : XK) : Prop :=
  ∀ (A : Around) (outer : List Env) (s : Shared) (us : List Value), Room k A → Env0 P w K mg base A outer s H → Vals vs us → codeAny (model P w) A (.call (.ref f) ⟨us, []⟩) (CR CX outer P w H s Q E) s
/-- the promise of the lambda F at f: sp ws, ws what its captured cells hold at the call -/
structure LOk (P : Program) (w : World) (K : PySem.W.Frag) (mg : Str → Option Value) (base : Heap) (CX : CXT) (k : Nat) (f : Addr) (F : LF) (ps fr : List Str) (sp : List (Option V) → Sp) : Prop where
  len : ∀ ws vs H Q E, sp ws vs H Q E → vs.length = ps.length
  run : ∀ (A : Around) (outer : List Env) (s : Shared) (H : Hp) (us : List Value) (vs : List V) (ws : List (Option V)) (Q : VK) (E : XK), Room k A → Env0 P w K mg base A outer s H → H f = some (LmO f F) → H F.c = some (CodeO F.c F.qual) →
    CellsAt F.cl fr ws s.heap H → Vals vs us → sp ws vs H Q E → codeAny (model P w) A (.call (.ref f) ⟨us, []⟩) (CR CX outer P w H s Q E) s
section
variable {CX : CXT} {P : Program} {w : World} {K : PySem.W.Frag} {mg : Str → Option Value} {base : Heap} {N ps fr : List Str} {F : LF} {f : Addr} {k j : Nat} {sp sp' : List (Option V) → Sp}
/-- a lambda by its body -/
theorem lok_of (S : NScope N ps fr F.scope) (hb : ∀ (pm ctv : Value) (us : List Value), us.length = ps.length → bindArgs (F.fd pm ctv) ⟨us, []⟩ = pure (ps.zip us)) (len : ∀ ws vs H Q E, sp ws vs H Q E → vs.length = ps.length)
    (hbody : ∀ (A : Around) (outer : List Env) (s : Shared) (H : Hp) (vs : List V) (ws : List (Option V)) (Q : VK) (E : XK), Room k (A.deeper (envF F.nf f s.heap.objs.size)) → H f = some (LmO f F) → H F.c = some (CodeO F.c F.qual) → ws.length = fr.length → sp ws vs H Q E →
      ∃ t, PE (ncx CX P w K mg base N F.nf f A outer s H E) F.body t ∧ t (startF N vs ws) H Q) :
    LOk P w K mg base CX (k + 1) f F ps fr sp := by
  refine ⟨len, fun A outer s H us vs ws Q E hr e0 hf hc C r hsp => ?_⟩
  have hl := len _ _ _ _ _ hsp
  have lim : s.heap.NoLimit := e0.mod.nolimit.keeps fun b o e => (e0.bs b o e).1
  obtain ⟨pm, ctv, ho⟩ := lmO_at e0.hok hf
  refine PySem.W.kla_callFunE hr.depth ho rfl S.co S.gen rfl (codeO_at e0.hok hc) ?_
  rw [hb pm ctv us (by rw [← r.length]; exact hl)]
  refine wpAny_pure (wpAny_newFunctionEnv S.nocell (fun ⟨n, _⟩ hy => S.par n (List.of_mem_zip hy).1) (fun h₁ hns hsb => ⟨lim.fresh _ hsb, ?_⟩) S.kind)
  show codeAny _ _ (.expr F.body (envF F.nf f s.heap.objs.size)) _ _
  refine PySem.W.kla_codeExpr ?_
  have kp : ∀ b o, s.heap.get? b = some o → h₁.get? b = some o := fun b o e => hsb.extBut b o (Nat.ne_of_lt (Heap.lt_size e)) (Heap.get?_push_of_some _ e)
  obtain ⟨t, ht, hq⟩ := hbody A outer s H vs ws Q E (hr.deeper _) hf hc C.len hsp
  have I : Inv (ncx CX P w K mg base N F.nf f A outer s H E) [] (startF N vs ws) H { s with heap := h₁, toks := s.toks + (ps.zip us).length } := inv_startN S hr.hd e0 hl r C hns kp
  refine wpAny_mono (ht.run [] _ (startF N vs ws) H _ I hq) (fun u s' ⟨v, H', J, rv, q⟩ => ?_) fun e s' hs => hs
  exact ⟨v, H', J.os, J.bare, J.base, J.hok, rv, q⟩
/-- a lambda without captured names runs wherever it's called -/
theorem LOk.runs {fr : List Str} (o : LOk P w K mg base CX k f F ps [] sp) (hcl : F.cl = []) {H : Hp} {vs : List V} {Q : VK} {E : XK} (hf : H f = some (LmO f F)) (hc : H F.c = some (CodeO F.c F.qual)) (q : sp [] vs H Q E) : Runs P w K mg base CX k f vs H Q E :=
  fun A outer s us hr e0 r => o.run A outer s H us vs [] Q E hr e0 hf hc ⟨rfl, fun y c e => (by rw [hcl] at e; cases e), fun x y c e => (by rw [hcl] at e; cases e), fun i y e => (by cases e)⟩ r q
end
/-- a function's object -/
def IsF (H : Hp) (f : Addr) : Prop := (∃ F, H f = some (FnO f F)) ∨ ∃ F, H f = some (LmO f F)
theorem isF_at {X : Cx} {pins : List (Addr × Obj)} {σ : L2.St} {H : Hp} {s : Shared} {f : Addr} (I : Inv X pins σ H s) (h : IsF H f) : PySem.W.FnAt f s.heap := by
  rcases h with ⟨F, e⟩ | ⟨F, e⟩
  · exact fnAt_of I e
  · obtain ⟨pm, ctv, q⟩ := lmO_at I.hok e
    exact ⟨_, _, _, _, q⟩
/-- f(..), f a name that holds a function -/
def tCallV (P : Program) (w : World) (K : PySem.W.Frag) (mg : Str → Option Value) (base : Heap) (CX : CXT) (k i : Nat) (E : XK) (t : TA) : TE := fun σ H Q => ∃ f, σ[i]? = some (some (.ref f)) ∧ IsF H f ∧ t σ H fun vs H1 => IsF H1 f ∧ Runs P w K mg base CX k f vs H1 Q E
theorem pe_callV {X : Cx} {CX : CXT} {i j k : Nat} {x : Str} {E : XK} {t : TA} {e : Expr} {es : List Expr} {p pos : Pos} (hr : Room j X.A) (hk : k ≤ j) (hx : Passes CX X E) (hN : X.N[i]? = some x) (hv : Vis X.env.scope x) (ha : PA X (e :: es) t)
    (hd : (x == ("__debug__" : Str)) = false := by decide) (hcd : (x == ("__classdict__" : Str)) = false := by decide)
    (he : starEach (e :: es) X.env = (false, eval e X.env) :: starEach es X.env := by rfl) (hpl : (backTo pos (starEach es X.env)).any (·.1) = false := by rfl) :
    PE X (.Call (.Name x p) (e :: es) [] pos) (tCallV X.prog X.w X.K X.mg X.base CX k i E t) := by
  refine ⟨fun pins s σ H Q I h => ?_⟩
  obtain ⟨f, hs, hf, ht⟩ := h
  refine wpAny_Call_Name_kw (thn ((pe_var (pos := p) hN hv hd hcd).run pins s σ H (fun v H1 => v = .ref f ∧ H1 = H) I ⟨.ref f, hs, rfl, rfl⟩) fun u s1 ⟨v, H1, I1, r1, q1⟩ => ?_)
  obtain ⟨ev, eH⟩ := q1
  subst ev
  rw [eH] at I1
  obtain rfl : u = Value.ref f := r1
  refine PySem.W.callWith_F (first := []) (isF_at I1 hf) (thn (ha.run pos pins s1 σ H _ I1 ht) fun us s2 ⟨vs, H2, I2, r, h1, q⟩ => ⟨isF_at I2 h1, ?_⟩) he hpl
  show wpAny _ _ (call (.ref f) us) _ _ _
  refine wpAny_call (codeAny_mono (q X.A X.stack s2 us (hr.mono hk) I2.env0 r) fun r s' hq => ?_)
  cases r with
  | error e => exact hx pins σ H2 s2 e s' I2 hq
  | ok fl =>
    cases fl with
    | ret u => exact I2.after hq
    | next => exact False.elim hq
    | brk => exact False.elim hq
    | cont => exact False.elim hq
/-! ### errors as values: made, their fields read, asked of what class they are -/
/-- the reading of X(..): sp what __init__ promises -/
def tMkV (C : Addr) (sp : Sp) (dvs : List V) (ta : TA) : TE := fun σ H Q => ta σ H fun vs H1 => vs.length ≤ 1000 ∧ ∀ a, H1 a = none → sp (.ref a :: (vs ++ dvs)) (upd H1 a (exo a C none)) (fun v H2 => v = .non ∧ Q (.ref a) H2) (fun _ _ _ => False)
theorem pe_oexV {X : Cx} {CX : CXT} {x : Str} {C fI : Addr} {k : Nat} {fd : FuncData} {ps : List Str} {sp : Sp} {ds : List Value} {dvs : List V} {ta : TA} {e : Expr} {es : List Expr} {p pos : Pos} (T : OexC X.K C) (iC : PySem.W.findIn X.K (.ref C) "__init__" = some (some (.ref fI))) (tI : PySem.W.typeIn X.K (.ref fI) = some (.type "function"))
    (F1 : FnOk X.prog X.w X.K X.mg X.base CX k fI fd ps sp) (hr : Room (k + 1) X.A) (hb : Binds X.K fd ps ds) (hd : Vals dvs ds) (hx : Passes CX X (fun _ _ _ => False)) (hg : Gl X x) (hm : X.mg x = some (.ref C)) (ha : PA X (e :: es) ta)
    (hdb : (x == ("__debug__" : Str)) = false := by decide) (he : starEach (e :: es) X.env = (false, eval e X.env) :: starEach es X.env := by rfl) (hpl : (backTo pos (starEach es X.env)).any (·.1) = false := by rfl) :
    PE X (.Call (.Name x p) (e :: es) [] pos) (tMkV C sp dvs ta) := by
  refine ⟨fun pins s σ H Q I h => ?_⟩
  obtain ⟨nm, q, N, bs, bm, sn, sub, ab, col, dd, k0, k1, k2, k3, k5, hC, hbm⟩ := T.cls
  refine wpAny_Call_Name_kw (ld_glob I hg hm ?_ hdb)
  refine PySem.W.callWith_K (h₀ := X.base) I.ok.mod.kin T.kC (thn (ha.run pos pins s σ H _ I h) fun us s1 ⟨vs, H1, I1, r1, hz, q1⟩ => ⟨I1.kIn, ?_⟩) he hpl
  show wpAny _ _ (call (.ref C) us) _ _ _
  obtain ⟨hp, g, dr, tk, os⟩ := s1
  have hsz : hp.objs.size ≤ hp.objs.size + 1 := Nat.le_succ _
  have hn : H1 (hp.objs.size + 1) = none := I1.hok.fresh hsz
  have hq := q1 (hp.objs.size + 1) hn
  have kk : ∀ b o, hp.get? b = some o → ((hp.push (PySem.W.kdv_tup us)).push (PySem.HandSPX.excO C hp.objs.size)).get? b = some o := fun b o e => Heap.get?_push_of_some _ (Heap.get?_push_of_some _ e)
  have hget : ((hp.push (PySem.W.kdv_tup us)).push (PySem.HandSPX.excO C hp.objs.size)).get? (hp.objs.size + 1) = some (PySem.HandSPX.excO C hp.objs.size) := by heap_get
  have I2 : Inv X pins σ (upd H1 (hp.objs.size + 1) (exo (hp.objs.size + 1) C none)) ⟨(hp.push (PySem.W.kdv_tup us)).push (PySem.HandSPX.excO C hp.objs.size), g, dr, tk, os⟩ :=
    I1.laid (t' := tk) (a := hp.objs.size + 1) (o := exo (hp.objs.size + 1) C none) (h' := (hp.push (PySem.W.kdv_tup us)).push (PySem.HandSPX.excO C hp.objs.size)) kk hsz (exo_ok hget)
  have r2 : Vals (V.ref (hp.objs.size + 1) :: (vs ++ dvs)) (Value.ref (hp.objs.size + 1) :: (us ++ ds)) := .cons rfl (r1.append hd)
  have hl : (Value.ref (hp.objs.size + 1) :: us ++ ds).length = ps.length := by
    have e := r2.length
    rw [F1.len _ _ _ _ hq] at e
    exact e.symm
  have hus : us.length ≤ sizeLine := by
    rw [← Paired.length r1, sizeLine_eq]
    omega
  refine wpAny_call (PySem.HandSPX.call_own F.excBase_ValueError (fun Y => PySem.HandSPX.refsVE_contains Y bm hbm) (I1.kIn _ _ hC) (PySem.W.looks_findIn I1.kIn iC) (fun self => PySem.W.bind_fn I1.kIn self tI) hus
    (codeAny_mono (F1.run _ X.stack _ _ ⟨Value.ref (hp.objs.size + 1) :: us, []⟩ (Value.ref (hp.objs.size + 1) :: (us ++ ds)) _ _ (fun _ _ _ => False) (hr.make C us []) (I2.env0.make C us []) (hb _ (Value.ref (hp.objs.size + 1) :: us) I2.kIn hl) r2 hq) fun r s' hq' => ?_))
  cases r with
  | error er => exact hx pins σ _ _ er s' I2 hq'
  | ok fl =>
    cases fl with
    | ret u =>
      obtain ⟨v, H2, I3, rv, ev, q2⟩ := I2.after hq'
      subst ev
      exact ⟨rv, .ref (hp.objs.size + 1), H2, I3, rfl, q2⟩
    | next => exact False.elim hq'
    | brk => exact False.elim hq'
    | cont => exact False.elim hq'
/-- e.f, e an error of our own with fields -/
def tXfV (f : Str) (C : Addr → Prop) (te : TE) : TE := fun σ H Q => te σ H fun x H1 => ∃ (a c d : Addr) (fs : List (Str × V)) (v : V), x = .ref a ∧ C c ∧ H1 a = some (exo a c (some d)) ∧ H1 d = some (exd d fs) ∧ fs.lookup f = some v ∧ Q v H1
theorem pe_xfV {X : Cx} {C : Addr → Prop} {e : Expr} {te : TE} {pos : Pos} {n : Str} (T : ∀ c, C c → XfC X.K c) (hno : ∀ c, C c → PySem.W.findIn X.K (.ref c) n = some none) (he : PE X e te) (hb : attributeBase e n X.env (eval e X.env) = eval e X.env := by rfl) :
    PE X (.Attribute e n pos) (tXfV n C te) := by
  refine ⟨fun pins s σ H Q I h => ?_⟩
  refine attr_of hb (thn (he.run pins s σ H _ I h) fun u s1 hh => ?_)
  obtain ⟨x, H1, I1, rx, a, c, d, fs, v, ex, hc, ea, ed, l, q⟩ := hh
  subst ex
  obtain rfl : u = Value.ref a := rx
  obtain ⟨t1, ha⟩ := exo_at I1.hok ea
  obtain ⟨mA, hns, hr⟩ := exd_at I1.hok ed
  obtain ⟨od, ho, hl⟩ := lookIn_ns hns
  obtain ⟨u, hu, ru⟩ := RelO.some_of (v := v) (o := mA n) (by rw [← l]; exact hr n)
  have T := T c hc
  have J : PySem.W.InstAt s1.heap a _ c (some od) := ⟨ha, rfl, rfl, ho⟩
  exact HandSPX.exc_get I1.kIn J T.ga T.gg T.exC (PySem.W.findObj_own T.hdC (hno c hc) rfl (by rw [hl, hu])) (handed_of ru) ⟨v, H1, I1.tok _, ru, q⟩
/-- e.__class__, e an error with a dict of its own -/
theorem isx_class {prog : Program} {w : World} {A : Around} {E : Value → Shared → Prop} {s : Shared} {K : PySem.W.Frag} {x D : Addr} {ox od : Obj} {Q : Option Value → Shared → Prop} (C : ExcC K D) (X : K.In s.heap) (I : PySem.W.InstAt s.heap x ox D (some od)) (h : Q (some (.ref D)) { s with toks := s.toks + 1 }) : wpAny (model prog w) A (getAttr? (.ref x) "__class__") Q E s := by
  have hf : PySem.W.findObj K D (some od) "__class__" = some (.bind (.builtin "getset_descriptor.__get__") (.builtin "object.__class__")) := PySem.W.findObj_data (by obtain ⟨cd, hc, _⟩ := PySem.W.any_some C.hd; rw [hc]; rfl) C.ha C.hn C.ht
  obtain ⟨hp, g, d, t, os⟩ := s
  have L0 := I.type (M := model prog w)
  have L1 := PySem.W.looks_findIn (M := model prog w) X C.hg
  have L2 := PySem.W.looks_findIn (M := model prog w) X C.hk
  have L3 := PySem.W.looks_find (M := model prog w) X I hf
  have sub : PySem.W.Looks (model prog w) hp (isInstance (.ref x) (.type "BaseException")) true := L0.andThen (PySem.W.looks_subIn X C.hs)
  have n0 : (false && onTheHeap (Value.builtin "BaseException.__getattribute__")) = false := rfl
  have n2 : (Value.builtin "BaseException.__getattribute__" == Value.builtin "object.__getattribute__") = false := by decide +kernel
  have n1 : (onTheHeap (Value.ref D) && Value.builtin "BaseException.__getattribute__" == Value.builtin "object.__getattribute__") = false := by rw [n2]; rfl
  unfold getAttr? getAttrBy? getAttrBy
  refine wpAny_bind (wpAny_mkText (wpAny_bind (wpAny_attempt (wpAny_holding (wpAny_bind (L0.at (wpAny_bind (L1.at ?_))))))))
  show wpAny _ _ (if (onTheHeap (Value.ref D) && Value.builtin "BaseException.__getattribute__" == Value.builtin "object.__getattribute__") = true then _ else _) _ _ _
  rw [n1, if_neg Bool.false_ne_true]
  unfold getAttrByItsOwn hookBefore
  refine wpAny_bind ?_
  rw [if_pos (show onTheHeap (Value.ref D) = true from rfl)]
  refine L2.at ?_
  refine wpAny_bind (wpAny_attempt (wpAny_holding ?_))
  unfold callGetattribute
  rw [n0, if_neg Bool.false_ne_true]
  unfold boundAndCalled
  rw [PySem.F.excAttr_ValueError.ga.bind (.ref x)]
  refine wpAny_bind (wpAny_pure ?_)
  show wpAny _ _ (call (.builtin "BaseException.__getattribute__") [.ref x, .str "__class__" t]) _ _ _
  refine wpAny_call (codeAny_call_builtin PySem.F.excAttr_ValueError.ga.plain PySem.F.entry_bexc_ga ?_)
  refine @PySem.W.check_slot (model prog w) _ _ ⟨hp, g, d, t + 1, os⟩ "BaseException.__getattribute__" "BaseException" "__getattribute__" (.ref x) [.str "__class__" t] [] _ (by decide +kernel) (by decide +kernel) sub (PySem.F.args_bexc_ga (.ref x) (.str "__class__" t)) ?_
  unfold Builtin.«object.__getattribute__»
  refine wpAny_bind (wpAny_of_eq (a := ((Value.ref x : Value), [Value.str "__class__" t])) (by first | rfl | (simp only [slotArgs]; rfl)) ?_)
  refine wpAny_bind (wpAny_pure (wpAny_bind (L0.at (wpAny_bind (L3.at ?_)))))
  show wpAny _ _ (holding [Value.builtin "object.__class__"] (call (.builtin "getset_descriptor.__get__") [.builtin "object.__class__", .ref x, .ref D]) >>= ret) _ _ _
  refine wpAny_bind (wpAny_holding (wpAny_call (PySem.W.class_get (s := ⟨hp, g, d, t + 1, os⟩) (ox := ox) (od := some od) X I C.hm ?_)))
  refine wpAny_pure ?_
  show wpAny _ _ (handedOut (.ref D)) _ _ _
  rw [PySem.W.handedOut_of (v := .ref D) rfl]
  first
    | exact wpAny_pure (wpAny_pure h)
    | exact wpAny_pure h
    | exact wpAny_pure (wpAny_bind (wpAny_pure (wpAny_pure h)))
theorem isx_kit {K : PySem.W.Frag} {x D : Addr} {ox od : Obj} (C : ExcC K D) : PySem.W.KitX K (.ref x) (.ref D) (fun h => PySem.W.InstAt h x ox D (some od)) where
  ty := fun _ _ _ I => I.type
  it := fun _ _ X _ => by
    obtain ⟨cdD, hcD, _⟩ := PySem.W.any_some C.hd
    unfold PySem.W.clsIn at hcD
    split at hcD
    · rename_i c' d' cd' sl' ho
      intro A' Q' E' s' k q
      unfold isType loadHead
      exact wpAny_bind (wpAny_loadPart (k _ _ (X _ _ ho)) (wpAny_pure q))
    · cases hcD
  ne := fun h tp dd its n sl X htp => (PySem.W.handS_kitx_exc (x := x) (ox := ox) C.hg C.hk C.hs C.hd C.ha C.hn C.ht C.hm).ne h tp dd its n sl X htp
  ca := fun X I k => isx_class C X I k
/-- isinstance(e, c), e an error of our own -/
def rIsV (K : PySem.W.Frag) : List V → Hp → VK → Prop := fun xs H Q => ∃ (a D d : Addr) (c : V) (cv : Value) (b : Bool) (fs : List (Str × V)), xs = [.ref a, c] ∧ ExcC K D ∧ H a = some (exo a D (some d)) ∧ H d = some (exd d fs) ∧ (∀ u, RelV c u → u = cv) ∧ PySem.W.kitOne K (.ref D) cv = some b ∧ Q (.bl b) H
theorem call_isV {X : Cx} : CallR X (.builtin "isinstance") (rIsV X.K) := by
  intro pins s σ H xs us Q I r h
  obtain ⟨a, D, d, c, cv, b, fs, rfl, C, ea, ed, hcv, e, q⟩ := h
  cases r with
  | cons rx rr =>
    cases rr with
    | cons rt rr =>
      cases rr
      cases rx
      have ec := hcv _ rt
      subst ec
      obtain ⟨t1, ha⟩ := exo_at I.hok ea
      obtain ⟨mA, hns, hr⟩ := exd_at I.hok ed
      obtain ⟨od, ho, hl⟩ := lookIn_ns hns
      have J : PySem.W.InstAt s.heap a _ D (some od) := ⟨ha, rfl, rfl, ho⟩
      exact PySem.W.kia_one (isx_kit C) I.kIn J e (fun z => nomatch z) fun tk => ⟨.bl b, H, I.kept (t' := tk) fun _ _ z => z, rfl, q⟩
/-! ### errors of our own made by name -/
section
open PySem.W PySem.Calls PySem.HandSPX
/-- X(.., k = v), X an error class of our own with an __init__ of its own: the object is made whatever it's made with, then __init__ gets all -/
theorem call_kw {prog : Program} {w : World} {A : Around} {R : Result → Shared → Prop} {h : Heap} {g : Array GenState} {d : Drawn} {t : Nat} {os : OsState} {nm q : Str} {C N : Addr} {bs bm bmB : List Value} {hdct : Bool} {sn : List Str} {sub : List Value} {ab : Bool} {col : Option Bool} {dd : Option Addr} {k0 k1 k2 k3 k5 : Option Value} {B newId initId : String}
    (F : ExcBaseFacts B newId initId bmB) (hT : ∀ X : String, bm.contains (.type X) = bmB.contains (.type X)) {rest : List Value} {kw : List (Str × Value)} {fI : Addr} (hC : h.get? C = some (excClassObj nm q C N bs bm hdct sn sub ab col dd k0 k1 k2 k3 k5 newId))
    (hi : Looks (model prog w) h (typeLookup (.ref C) "__init__") (some (.ref fI))) (hb : ∀ self, Looks (model prog w) h (bindSpecial (.ref fI) self) (.ref fI, [self])) (hrest : rest.length ≤ sizeLine)
    (hq : codeAny (model prog w) (A.under (.builtin "type.__call__" ⟨.ref C :: rest, kw⟩)) (.call (.ref fI) ⟨.ref (h.objs.size + 1) :: rest, kw⟩) (InitBack (h.objs.size + 1) R) ⟨(h.push (kdv_tup rest)).push (excO C h.objs.size), g, d, t, os⟩) :
    codeAny (model prog w) A (.call (.ref C) ⟨rest, kw⟩) R ⟨h, g, d, t, os⟩ := by
  have isB : (Value.ref C :: bm).contains (.type B) = true := by rw [List.contains_cons, hT, F.hasB, Bool.or_true]
  have noA : (Value.ref C :: bm).contains (.type "AttributeError") = false := by rw [List.contains_cons, hT, F.noAttr]; rfl
  have noN : (Value.ref C :: bm).contains (.type "NameError") = false := by rw [List.contains_cons, hT, F.noName]; rfl
  have isC : (Value.ref C :: bm).contains (.ref C) = true := by simp
  -- the object itself
  have made : ∀ {A' : Around} {R' : Result → Shared → Prop}, R' (.ok (.ret (.ref (h.objs.size + 1)))) ⟨(h.push (kdv_tup rest)).push (excO C h.objs.size), g, d, t, os⟩ → codeAny (model prog w) A' (.builtin newId ⟨.ref C :: rest, kw⟩) R' ⟨h, g, d, t, os⟩ := fun {A' R'} r => by
    have ends := F.ends
    refine codeAny_builtinAt F.entry ?_
    unfold Builtin.«BaseException.__new__»
    refine PyProof.Rows.wpAt_bind ?_
    show PyProof.Rows.wpAt _ _ _ (stack >>= _) _ _ _
    refine PyProof.Rows.wpAt_bind (PyProof.Rows.wpAt_stack fun p below => wpAt_of_wpAny ?_)
    wp_walk
    refine wpAt_of_wpAny ?_
    rw [F.owner]
    repeat (first | with_reducible refine wpAny_madeHere_exc F.canon hC ?_ | with_reducible refine wpAny_loadPart_at hC ?_ | (with_reducible refine wpAny_isSubtype_exc hC ?_; first | rw [isB] | rw [noA] | rw [noN]) | wp_step)
    show R' _ _
    rw [Heap.size_push]
    exact r
  -- what __new__ may be called with
  have may : ∀ {A' : Around} {E' : Value → Shared → Prop} {Q' : Unit → Shared → Prop}, Q' () ⟨h, g, d, t, os⟩ → wpAny (model prog w) A' (checkBuiltinCall newId ⟨.ref C :: rest, kw⟩) Q' E' ⟨h, g, d, t, os⟩ := fun {A' E' Q'} r => by
    have star := F.noStar
    simp only [checkBuiltinCall, F.newKind, F.newSplit, F.newRow]
    repeat (first | refine wpAny_loadPart_at hC ?_ | (refine wpAny_isSubtype_exc hC ?_; rw [isB]) | refine wpAny_staticBase_exc hC ?_ | refine wpAny_madeBy_exc hC ?_ | simp only [bne_self_eq_false, Bool.false_eq_true, if_false] | wp_step)
    exact r
  have tl := tc_lookup
  have tb := tc_bind (.ref C)
  have ty : (⟨h, g, d, t, os⟩ : Shared).TypeIs (.ref C) "type" := ⟨_, hC, rfl⟩
  refine codeAny_of_tree ?_
  show wpAny _ _ (callAny (.ref C) _) _ _ _
  repeat (any_goals (first | assumption | with_reducible refine wpAny_loadPart_at hC ?_ | wp_step))
  refine ⟨rfl, ?_⟩
  refine codeAny_call_builtin_at (Code.quiet_builtin _ (by decide +kernel)) entry_typeCall (wpAny_check_type_call_sub hC ?_)
  repeat (first | with_reducible refine wpAny_loadPart_at hC ?_ | with_reducible refine wpAny_madeBy_exc hC ?_ | wp_step)
  refine codeAny_call_builtin_code (Code.quiet_builtin _ F.quiet) (may (made ?_))
  show wpAny _ _ _ _ _ _
  have keep : ∀ b o, h.get? b = some o → ((h.push (kdv_tup rest)).push (excO C h.objs.size)).get? b = some o := fun b o e => Heap.get?_push_of_some _ (Heap.get?_push_of_some _ e)
  have hC1 := keep _ _ hC
  have at_ : ((h.push (kdv_tup rest)).push (excO C h.objs.size)).get? (h.objs.size + 1) = some (excO C h.objs.size) := by heap_get
  have hi1 := hi.keeps keep
  have hb1 := (hb (.ref (h.objs.size + 1))).keeps keep
  unfold isInstance
  repeat (first | with_reducible refine wpAny_loadPart_at at_ ?_ | (with_reducible refine wpAny_isSubtype_exc hC1 ?_; rw [isC]) | wp_step)
  show wpAny _ _ (typeLookup (.ref C) _) _ _ _
  refine hi1.at (wpAny_holding (wpAny_bind (hb1.at (wpAny_bind (wpAny_call (codeAny_mono hq fun r s' z => ?_))))))
  rcases r with e | (v | _ | _ | _) <;> first | exact z | exact z.elim | skip
  obtain ⟨rfl, z⟩ := z
  first
    | exact wpAny_pure (wpAny_pure z)
    | (wp_walk; exact z)
end
/-- the reading of X(k = v, ..): sp what __init__ promises, gV puts the values into its parameters' order -/
def tMkK (C : Addr) (n : Nat) (sp : Sp) (gV : List V → List V → List V) (tk : TA) : TE := fun σ H Q => tk σ H fun zs H1 => zs.length = n ∧ ∀ a, H1 a = none → sp (gV [.ref a] zs) (upd H1 a (exo a C none)) (fun v H2 => v = .non ∧ Q (.ref a) H2) (fun _ _ _ => False)
theorem pe_oexK {X : Cx} {CX : CXT} {x : Str} {C fI : Addr} {k : Nat} {fd : FuncData} {ps ks : List Str} {sp : Sp} {g : List Value → List Value → List Value} {gV : List V → List V → List V} {tk : TA} {kws : List Keyword} {p pos : Pos} (T : OexC X.K C) (iC : PySem.W.findIn X.K (.ref C) "__init__" = some (some (.ref fI))) (tI : PySem.W.typeIn X.K (.ref fI) = some (.type "function"))
    (F1 : FnOk X.prog X.w X.K X.mg X.base CX k fI fd ps sp) (hr : Room (k + 1) X.A) (hb : KBn X.K fd ps 1 ks g gV) (hx : Passes CX X (fun _ _ _ => False)) (hg : Gl X x) (hm : X.mg x = some (.ref C)) (hkw : PK X kws tk)
    (hall : (backToKw pos (keywordEach kws X.env)).all (·.1.isSome) = true := by rfl) (hks : (backToKw pos (keywordEach kws X.env)).filterMap (·.1) = ks := by rfl) (hdb : (x == ("__debug__" : Str)) = false := by decide)
    (hpl : ((backTo pos (starEach [] X.env)).any (·.1) || (backToKw pos (keywordEach kws X.env)).any (·.1.isNone)) = false := by rfl) :
    PE X (.Call (.Name x p) [] kws pos) (tMkK C ks.length sp gV tk) := by
  refine ⟨fun pins s σ H Q I h => ?_⟩
  obtain ⟨nm, q, N, bs, bm, sn, sub, ab, col, dd, k0, k1, k2, k3, k5, hC, hbm⟩ := T.cls
  refine wpAny_Call_Name_kw (ld_glob I hg hm ?_ hdb)
  refine PySem.W.callWith_KW0 (h₀ := X.base) I.ok.mod.kin T.kC hall (thn (hkw.run pos pins s σ H _ I h) fun ws s1 ⟨zs, H1, I1, rz, l2, q1⟩ => ⟨I1.kIn, ?_⟩) hpl
  rw [hks]
  show wpAny _ _ (call (.ref C) [] (ks.zip ws)) _ _ _
  obtain ⟨hp, g', dr, tk', os⟩ := s1
  have hsz : hp.objs.size ≤ hp.objs.size + 1 := Nat.le_succ _
  have hq := q1 (hp.objs.size + 1) (I1.hok.fresh hsz)
  have keep : ∀ b o, hp.get? b = some o → ((hp.push (PySem.W.kdv_tup [])).push (PySem.HandSPX.excO C hp.objs.size)).get? b = some o := fun b o e => Heap.get?_push_of_some _ (Heap.get?_push_of_some _ e)
  have at_ : ((hp.push (PySem.W.kdv_tup [])).push (PySem.HandSPX.excO C hp.objs.size)).get? (hp.objs.size + 1) = some (PySem.HandSPX.excO C hp.objs.size) := by heap_get
  have I2 : Inv X pins σ (upd H1 (hp.objs.size + 1) (exo (hp.objs.size + 1) C none)) ⟨(hp.push (PySem.W.kdv_tup [])).push (PySem.HandSPX.excO C hp.objs.size), g', dr, tk', os⟩ :=
    I1.laid (t' := tk') (a := hp.objs.size + 1) (o := exo (hp.objs.size + 1) C none) (h' := (hp.push (PySem.W.kdv_tup [])).push (PySem.HandSPX.excO C hp.objs.size)) keep hsz (exo_ok at_)
  have r1 : Vals [V.ref (hp.objs.size + 1)] [Value.ref (hp.objs.size + 1)] := .cons rfl .nil
  have e2 : ws.length = ks.length := rz.length.symm.trans l2
  refine wpAny_call (call_kw F.excBase_ValueError (fun Y => PySem.HandSPX.refsVE_contains Y bm hbm) (I1.kIn _ _ hC) (PySem.W.looks_findIn I1.kIn iC) (fun self => PySem.W.bind_fn I1.kIn self tI) (Nat.zero_le _)
    (codeAny_mono (F1.run _ X.stack _ _ ⟨[Value.ref (hp.objs.size + 1)], ks.zip ws⟩ (g [Value.ref (hp.objs.size + 1)] ws) _ _ (fun _ _ _ => False) (hr.make C [] (ks.zip ws)) (I2.env0.make C [] (ks.zip ws)) (hb.to _ [Value.ref (hp.objs.size + 1)] ws I2.kIn rfl e2) (hb.rel r1 rz) hq) fun r s' hq' => ?_))
  cases r with
  | error er => exact hx pins σ _ _ er s' I2 hq'
  | ok fl =>
    cases fl with
    | ret u =>
      obtain ⟨v, H2, I3, rv, ev, q2⟩ := I2.after hq'
      subst ev
      exact ⟨rv, .ref (hp.objs.size + 1), H2, I3, rfl, q2⟩
    | next => exact False.elim hq'
    | brk => exact False.elim hq'
    | cont => exact False.elim hq'
namespace SupX
section
variable {P : Program} {w : World} {K : PySem.W.Frag} {mg : Str → Option Value} {base : Heap} {CX : CXT} {k : Nat} {C f cc cda : Addr} {name qual : Str} {st : Stmt} {par fld : Str}
theorem exc_initF (T : SupC P K C f cc cda name qual st) (S : NdefX.NScope ["self", par, "__class__"] ["self", par] ["__class__"] (defScope st)) (hno : PySem.W.findIn K (.ref C) fld = some none)
    (hks : (defScope st).names.lookup ("super" : Str) = some .globalImplicit)
    (hb : ∀ (doc pm ct : Value) (an : Option Addr) (us : List Value), us.length = 2 → bindArgs (PySem.W.ksFn name qual (defArgs st) (defBody st) (defScope st) .none .none doc pm an (.ref cda) ct cc) ⟨us, []⟩ = pure ((["self", par] : List Str).zip us))
    (hp : ((defArgs st).posonlyargs ++ (defArgs st).args).head?.map (·.arg) = some ("self" : Str))
    {p0 p1 p2 p3 p4 p5 p6 p7 p8 p9 : Pos} {msg : Str} {j : Nat}
    (hbody : defBody st = [.Expr (.Call (.Attribute (.Call (.Name "super" p0) [] [] p1) "__init__" p2) [.Constant (.str msg) j p3] [] p4) p5, .Assign [.Attribute (.Name "self" p6) fld p7] (.Name par p8) p9])
    {pl : Env → Sem Bool}
    (he : ∀ env : Env, env.scope = defScope st → eval (.Call (.Attribute (.Call (.Name "super" p0) [] [] p1) "__init__" p2) [.Constant (.str msg) j p3] [] p4) env = (do
      let ov ← attributeBase (.Call (.Name "super" p0) [] [] p1) "__init__" env (eval (.Call (.Name "super" p0) [] [] p1) env)
      standAt p2.atName
      let (f, first) ← holding [ov] (getMethod ov "__init__" (pl env))
      callWith p4 f first (backTo p4 (starEach [.Constant (.str msg) j p3] env)) []))
    (hsw : ∀ env : Env, env.scope = defScope st → swapsWith (.Call (.Attribute (.Call (.Name "super" p0) [] [] p1) "__init__" p2) [.Constant (.str msg) j p3] [] p4) none p5.line env = pure false) (hi : ∀ env : Env, env.scope = defScope st → interactive env = false)
    (hsw2 : ∀ env : Env, env.scope = defScope st → swapsWith (.Name par p8) (some (.Attribute (.Name "self" p6) fld p7)) p9.line env = pure false) (hd1 : (par == ("__debug__" : Str)) = false) (hd2 : (par == ("__classdict__" : Str)) = false) :
    ∃ fd, FnOk P w K mg base CX (k + 1) f fd ["self", par] (spExc C fld) ∧ Binds K fd ["self", par] [] ∧ ∃ (doc pm : Value) (an : Option Addr) (ct : Value), fd = PySem.W.ksFn name qual (defArgs st) (defBody st) (defScope st) .none .none doc pm an (.ref cda) ct cc := by
  obtain ⟨oc, od, doc, pm, an, ct, osl, lk⟩ := id T.lk
  obtain ⟨cl, cld, csl, lcc⟩ := id T.cell
  refine ⟨_, ⟨fun vs H Q E h => ?_, fun A outer s H args us vs Q E hr e0 hbd r hsp => ?_⟩, .all (hb doc pm ct an), doc, pm, an, ct, rfl⟩
  · obtain ⟨a, v, rfl, _⟩ := h
    rfl
  · have KX : K.In s.heap := e0.mod.kin.keeps fun b o e => (e0.bs b o e).1
    have lim : s.heap.NoLimit := e0.mod.nolimit.keeps fun b o e => (e0.bs b o e).1
    obtain ⟨a, v, rfl, ha, q⟩ := hsp
    refine PySem.ks_codeAny_call_defAt (fd := PySem.W.ksFn name qual (defArgs st) (defBody st) (defScope st) .none .none doc pm an (.ref cda) ct cc) (body := defBody st) (binds := (["self", par] : List Str).zip us) hr.depth (KX _ _ lk) rfl lim (PySem.W.codeRec_of KX T.code) rfl hbd S.nocell (fun ⟨n, _⟩ hy => S.par n (List.of_mem_zip hy).1) (fun h₁ hns hk₁ => ?_) S.co S.gen S.kind
    have hl : us.length = 2 := r.length.symm
    have CA : NdefX.CellsAt [("__class__", cc)] ["__class__"] [none] s.heap H := by
      have one : ∀ (y : Str) (c : Addr), ([(("__class__" : Str), cc)] : List (Str × Addr)).lookup y = some c → y = "__class__" ∧ c = cc := fun y c e => by
        by_cases hy : y = "__class__"
        · subst hy
          exact ⟨rfl, (Option.some.inj (show some cc = some c from e)).symm⟩
        · have hy2 : (y == ("__class__" : Str)) = false := by simpa using hy
          rw [List.lookup_cons, hy2] at e
          cases e
      refine ⟨rfl, fun y c e => ?_, fun x y c e1 e2 => (one x c e1).1.trans (one y c e2).1.symm, fun i y hi => ?_⟩
      · obtain ⟨_, rfl⟩ := one y c e
        exact ⟨(e0.bs c _ (e0.mod.kin _ _ lcc)).2, _, _, KX _ _ lcc, rfl⟩
      · match i, hi with
        | 0, hi =>
          cases hi
          exact ⟨cc, rfl, fun v e => by cases e⟩
    have I := NdefX.inv_startN (CX := CX) (mg := mg) (E := E) (F := nfOf name qual st cc cda) (f := f) (tk := s.toks + ((["self", par] : List Str).zip us).length) S hr.hd e0 rfl r CA hns hk₁
    have hself : (defScope st).names.lookup ("self" : Str) = some .local := S.par _ (List.mem_cons_self ..)
    have hpar : (defScope st).names.lookup par = some .local := S.par _ (List.mem_cons_of_mem _ (List.mem_cons_self ..))
    have hcls : (defScope st).names.lookup ("__class__" : Str) = some .free := S.frk _ (List.mem_cons_self ..)
    have hstep : _root_.PySem.wpAt (model P w) (NdefX.ncx CX P w K mg base ["self", par, "__class__"] (nfOf name qual st cc cda) f A outer s H E).A (.func (defBody st) (NdefX.envF (nfOf name qual st cc cda) f s.heap.objs.size)) (execs (defBody st) (NdefX.envF (nfOf name qual st cc cda) f s.heap.objs.size))
        (fun fl s' => CR CX outer P w H s Q E (.ok (.ret (match fl with | .ret v => v | _ => .none))) s') (NdefX.ncx CX P w K mg base ["self", par, "__class__"] (nfOf name qual st cc cda) f A outer s H E).xe
        { s with heap := h₁, toks := s.toks + ((["self", par] : List Str).zip us).length } := by
      have eb : execs (defBody st) (NdefX.envF (nfOf name qual st cc cda) f s.heap.objs.size) = execs [.Expr (.Call (.Attribute (.Call (.Name "super" p0) [] [] p1) "__init__" p2) [.Constant (.str msg) j p3] [] p4) p5, .Assign [.Attribute (.Name "self" p6) fld p7] (.Name par p8) p9] (NdefX.envF (nfOf name qual st cc cda) f s.heap.objs.size) := by rw [hbody]
      rw [eb]
      refine PySem.ks_wpAt_execs_cons (super_stmt (X := NdefX.ncx CX P w K mg base ["self", par, "__class__"] (nfOf name qual st cc cda) f A outer s H E) T rfl rfl hks hcls hself S.kind hp (he _ rfl) (hsw _ rfl) (hi _ rfl) (σ := NdefX.startF ["self", par, "__class__"] [.ref a, v] [none]) rfl I ha (fun s' I' => ?_))
      have d2 : PSs (NdefX.ncx CX P w K mg base ["self", par, "__class__"] (nfOf name qual st cc cda) f A outer s H E) [.Assign [.Attribute (.Name "self" p6) fld p7] (.Name par p8) p9] _ := pss_one (ps_ost (pe_var (i := 0) rfl (.inl hself)) (pe_var (i := 1) rfl (.inl hpar) hd1 hd2) (hsw2 _ rfl))
      refine wpAt_of_wpAny (wpAny_mono (d2.run [] s' _ H { nx := fun _ H' => Q .non H', rt := Q } I' ⟨v, rfl, .ref a, rfl, a, C, rfl, T.oex, hno, .inl ⟨ha, fun dx n ne => q dx n ne⟩⟩) (fun fl s'' hs => ?_) fun e s'' hs => hs)
      cases fl with
      | ret u =>
        obtain ⟨v', σ', H', J, rv, q'⟩ := hs
        exact ⟨v', H', J.os, J.bare, J.base, J.hok, rv, q'⟩
      | next =>
        obtain ⟨σ', H', J, q'⟩ := hs
        exact ⟨.non, H', J.os, J.bare, J.base, J.hok, rfl, q'⟩
      | brk =>
        obtain ⟨_, _, _, q'⟩ := hs
        exact False.elim q'
      | cont =>
        obtain ⟨_, _, _, q'⟩ := hs
        exact False.elim q'
    exact hstep
end
end SupX
/-! ### an own exception with two fields -/
namespace SupX
section
variable {P : Program} {w : World} {K : PySem.W.Frag} {mg : Str → Option Value} {base : Heap} {CX : CXT} {k : Nat} {C f cc cda : Addr} {name qual : Str} {st : Stmt} {par fld par2 fld2 : Str}
/-- the promise of such an __init__ of two parameters -/
def spExc2 (C : Addr) (f1 f2 : Str) : Sp := fun vs H Q _ => ∃ (a : Addr) (v v' : V), vs = [.ref a, v, v'] ∧ H a = some (exo a C none) ∧ ∀ dx, H dx = none → dx ≠ a → Q .non (upd (upd H dx (exd dx [(f2, v'), (f1, v)])) a (exo a C (some dx)))
theorem exc_initF2 (T : SupC P K C f cc cda name qual st) (S : NdefX.NScope ["self", par, par2, "__class__"] ["self", par, par2] ["__class__"] (defScope st)) (hno : PySem.W.findIn K (.ref C) fld = some none) (hno2 : PySem.W.findIn K (.ref C) fld2 = some none)
    (hks : (defScope st).names.lookup ("super" : Str) = some .globalImplicit)
    (hb : ∀ (doc pm ct : Value) (an : Option Addr) (us : List Value), us.length = 3 → bindArgs (PySem.W.ksFn name qual (defArgs st) (defBody st) (defScope st) .none .none doc pm an (.ref cda) ct cc) ⟨us, []⟩ = pure ((["self", par, par2] : List Str).zip us))
    (hp : ((defArgs st).posonlyargs ++ (defArgs st).args).head?.map (·.arg) = some ("self" : Str))
    {p0 p1 p2 p3 p4 p5 p6 p7 p8 p9 p6' p7' p8' p9' : Pos} {msg : Str} {j : Nat}
    (hbody : defBody st = [.Expr (.Call (.Attribute (.Call (.Name "super" p0) [] [] p1) "__init__" p2) [.Constant (.str msg) j p3] [] p4) p5, .Assign [.Attribute (.Name "self" p6) fld p7] (.Name par p8) p9, .Assign [.Attribute (.Name "self" p6') fld2 p7'] (.Name par2 p8') p9'])
    {pl : Env → Sem Bool}
    (he : ∀ env : Env, env.scope = defScope st → eval (.Call (.Attribute (.Call (.Name "super" p0) [] [] p1) "__init__" p2) [.Constant (.str msg) j p3] [] p4) env = (do
      let ov ← attributeBase (.Call (.Name "super" p0) [] [] p1) "__init__" env (eval (.Call (.Name "super" p0) [] [] p1) env)
      standAt p2.atName
      let (f, first) ← holding [ov] (getMethod ov "__init__" (pl env))
      callWith p4 f first (backTo p4 (starEach [.Constant (.str msg) j p3] env)) []))
    (hsw : ∀ env : Env, env.scope = defScope st → swapsWith (.Call (.Attribute (.Call (.Name "super" p0) [] [] p1) "__init__" p2) [.Constant (.str msg) j p3] [] p4) none p5.line env = pure false) (hi : ∀ env : Env, env.scope = defScope st → interactive env = false)
    (hsw2 : ∀ env : Env, env.scope = defScope st → swapsWith (.Name par p8) (some (.Attribute (.Name "self" p6) fld p7)) p9.line env = pure false) (hsw3 : ∀ env : Env, env.scope = defScope st → swapsWith (.Name par2 p8') (some (.Attribute (.Name "self" p6') fld2 p7')) p9'.line env = pure false) (hd1 : (par == ("__debug__" : Str)) = false) (hd2 : (par == ("__classdict__" : Str)) = false) (hd1' : (par2 == ("__debug__" : Str)) = false) (hd2' : (par2 == ("__classdict__" : Str)) = false) :
    ∃ fd, FnOk P w K mg base CX (k + 1) f fd ["self", par, par2] (spExc2 C fld fld2) ∧ Binds K fd ["self", par, par2] [] ∧ ∃ (doc pm : Value) (an : Option Addr) (ct : Value), fd = PySem.W.ksFn name qual (defArgs st) (defBody st) (defScope st) .none .none doc pm an (.ref cda) ct cc := by
  obtain ⟨oc, od, doc, pm, an, ct, osl, lk⟩ := id T.lk
  obtain ⟨cl, cld, csl, lcc⟩ := id T.cell
  refine ⟨_, ⟨fun vs H Q E h => ?_, fun A outer s H args us vs Q E hr e0 hbd r hsp => ?_⟩, .all (hb doc pm ct an), doc, pm, an, ct, rfl⟩
  · obtain ⟨a, v, v', rfl, _⟩ := h
    rfl
  · have KX : K.In s.heap := e0.mod.kin.keeps fun b o e => (e0.bs b o e).1
    have lim : s.heap.NoLimit := e0.mod.nolimit.keeps fun b o e => (e0.bs b o e).1
    obtain ⟨a, v, v', rfl, ha, q⟩ := hsp
    refine PySem.ks_codeAny_call_defAt (fd := PySem.W.ksFn name qual (defArgs st) (defBody st) (defScope st) .none .none doc pm an (.ref cda) ct cc) (body := defBody st) (binds := (["self", par, par2] : List Str).zip us) hr.depth (KX _ _ lk) rfl lim (PySem.W.codeRec_of KX T.code) rfl hbd S.nocell (fun ⟨n, _⟩ hy => S.par n (List.of_mem_zip hy).1) (fun h₁ hns hk₁ => ?_) S.co S.gen S.kind
    have hl : us.length = 3 := r.length.symm
    have CA : NdefX.CellsAt [("__class__", cc)] ["__class__"] [none] s.heap H := by
      have one : ∀ (y : Str) (c : Addr), ([(("__class__" : Str), cc)] : List (Str × Addr)).lookup y = some c → y = "__class__" ∧ c = cc := fun y c e => by
        by_cases hy : y = "__class__"
        · subst hy
          exact ⟨rfl, (Option.some.inj (show some cc = some c from e)).symm⟩
        · have hy2 : (y == ("__class__" : Str)) = false := by simpa using hy
          rw [List.lookup_cons, hy2] at e
          cases e
      refine ⟨rfl, fun y c e => ?_, fun x y c e1 e2 => (one x c e1).1.trans (one y c e2).1.symm, fun i y hi => ?_⟩
      · obtain ⟨_, rfl⟩ := one y c e
        exact ⟨(e0.bs c _ (e0.mod.kin _ _ lcc)).2, _, _, KX _ _ lcc, rfl⟩
      · match i, hi with
        | 0, hi =>
          cases hi
          exact ⟨cc, rfl, fun v e => by cases e⟩
    have I := NdefX.inv_startN (CX := CX) (mg := mg) (E := E) (F := nfOf name qual st cc cda) (f := f) (tk := s.toks + ((["self", par, par2] : List Str).zip us).length) S hr.hd e0 rfl r CA hns hk₁
    have hself : (defScope st).names.lookup ("self" : Str) = some .local := S.par _ (List.mem_cons_self ..)
    have hpar : (defScope st).names.lookup par = some .local := S.par _ (List.mem_cons_of_mem _ (List.mem_cons_self ..))
    have hpar2 : (defScope st).names.lookup par2 = some .local := S.par _ (List.mem_cons_of_mem _ (List.mem_cons_of_mem _ (List.mem_cons_self ..)))
    have hcls : (defScope st).names.lookup ("__class__" : Str) = some .free := S.frk _ (List.mem_cons_self ..)
    have hstep : _root_.PySem.wpAt (model P w) (NdefX.ncx CX P w K mg base ["self", par, par2, "__class__"] (nfOf name qual st cc cda) f A outer s H E).A (.func (defBody st) (NdefX.envF (nfOf name qual st cc cda) f s.heap.objs.size)) (execs (defBody st) (NdefX.envF (nfOf name qual st cc cda) f s.heap.objs.size))
        (fun fl s' => CR CX outer P w H s Q E (.ok (.ret (match fl with | .ret v => v | _ => .none))) s') (NdefX.ncx CX P w K mg base ["self", par, par2, "__class__"] (nfOf name qual st cc cda) f A outer s H E).xe
        { s with heap := h₁, toks := s.toks + ((["self", par, par2] : List Str).zip us).length } := by
      have eb : execs (defBody st) (NdefX.envF (nfOf name qual st cc cda) f s.heap.objs.size) = execs [.Expr (.Call (.Attribute (.Call (.Name "super" p0) [] [] p1) "__init__" p2) [.Constant (.str msg) j p3] [] p4) p5, .Assign [.Attribute (.Name "self" p6) fld p7] (.Name par p8) p9, .Assign [.Attribute (.Name "self" p6') fld2 p7'] (.Name par2 p8') p9'] (NdefX.envF (nfOf name qual st cc cda) f s.heap.objs.size) := by rw [hbody]
      rw [eb]
      refine PySem.ks_wpAt_execs_cons (super_stmt (X := NdefX.ncx CX P w K mg base ["self", par, par2, "__class__"] (nfOf name qual st cc cda) f A outer s H E) T rfl rfl hks hcls hself S.kind hp (he _ rfl) (hsw _ rfl) (hi _ rfl) (σ := NdefX.startF ["self", par, par2, "__class__"] [.ref a, v, v'] [none]) rfl I ha (fun s' I' => ?_))
      have d2 : PSs (NdefX.ncx CX P w K mg base ["self", par, par2, "__class__"] (nfOf name qual st cc cda) f A outer s H E) [.Assign [.Attribute (.Name "self" p6) fld p7] (.Name par p8) p9, .Assign [.Attribute (.Name "self" p6') fld2 p7'] (.Name par2 p8') p9'] _ := pss_cons (ps_ost (pe_var (i := 0) rfl (.inl hself)) (pe_var (i := 1) rfl (.inl hpar) hd1 hd2) (hsw2 _ rfl)) (pss_one (ps_ost (pe_var (i := 0) rfl (.inl hself)) (pe_var (i := 2) rfl (.inl hpar2) hd1' hd2') (hsw3 _ rfl)))
      refine wpAt_of_wpAny (wpAny_mono (d2.run [] s' _ H { nx := fun _ H' => Q .non H', rt := Q } I' ⟨v, rfl, .ref a, rfl, a, C, rfl, T.oex, hno, .inl ⟨ha, fun dx n ne => ⟨v', rfl, .ref a, rfl, a, C, rfl, T.oex, hno2, .inr ⟨dx, [(fld, v)], upd_same, by rw [upd_ne ne, upd_same], (by show 1 ≤ 900; decide), by
        have e : upd (upd (upd H dx (exd dx [(fld, v)])) a (exo a C (some dx))) dx (exd dx [(fld2, v'), (fld, v)]) = upd (upd H dx (exd dx [(fld2, v'), (fld, v)])) a (exo a C (some dx)) := by
          funext b
          by_cases hb : b = dx
          · subst hb
            rw [upd_same, upd_ne ne, upd_same]
          · rw [upd_ne hb]
            by_cases hc : b = a
            · subst hc
              rw [upd_same, upd_same]
            · rw [upd_ne hc, upd_ne hc, upd_ne hb, upd_ne hb]
        show Q .non _
        rw [e]
        exact q dx n ne⟩⟩⟩⟩) (fun fl s'' hs => ?_) fun e s'' hs => hs)
      cases fl with
      | ret u =>
        obtain ⟨v', σ', H', J, rv, q'⟩ := hs
        exact ⟨v', H', J.os, J.bare, J.base, J.hok, rv, q'⟩
      | next =>
        obtain ⟨σ', H', J, q'⟩ := hs
        exact ⟨.non, H', J.os, J.bare, J.base, J.hok, rfl, q'⟩
      | brk =>
        obtain ⟨_, _, _, q'⟩ := hs
        exact False.elim q'
      | cont =>
        obtain ⟨_, _, _, q'⟩ := hs
        exact False.elim q'
    exact hstep
end
end SupX
theorem looks_kb {K : PySem.W.Frag} {fd : FuncData} {ps ks : List Str} {g : List Value → List Value → List Value} {gV : List V → List V → List V} (rel : ∀ {vs : List V} {us : List Value} {zs : List V} {ws : List Value}, Vals vs us → Vals zs ws → Vals (gV vs zs) (g us ws)) (h : ∀ us ws : List Value, us.length = 1 → ws.length = ks.length → bindArgs fd ⟨us, ks.zip ws⟩ = pure (ps.zip (g us ws))) : KBn K fd ps 1 ks g gV :=
  ⟨fun s us ws X l1 l2 => BindsTo.of_looks fun M => by rw [h us ws l1 l2]; exact .of_pure rfl, rel⟩
section
variable {P : Program} {w : World} {K : PySem.W.Frag} {mg : Str → Option Value} {base : Heap}
theorem ok_NoShare (W : Wd K mg) (hP : SupX.PrgOk P) : ∃ fd, FnOk P w K mg base CX0 1 (He.ma K (He.ga K "NoShare") "__init__") fd ["self", "top"] (SupX.spExc (He.ga K "NoShare") "top") ∧ Binds K fd ["self", "top"] [] ∧ KBn K fd ["self", "top"] 1 ["top"] (fun us ws => us ++ ws) (fun vs zs => vs ++ zs) := by
  obtain ⟨cc, cda, T⟩ := SupX.supC_of hP (W.sup 0 rfl) W.e_oexNoShare W.e_supNoShare
  obtain ⟨fd, F, b, doc, pm, an, ct, e⟩ := SupX.exc_initF (P := P) (w := w) (mg := mg) (base := base) (CX := CX0) (k := 0) T (NdefX.nscope_by (by decide +kernel)) W.n_NoShare_top (by decide +kernel) (fun _ _ _ _ us hl => match us, hl with | [_, _], _ => rfl) rfl rfl (fun env h => rfl) (fun env h => rfl) (fun env h => by unfold interactive; rw [h]; rfl) (fun env h => rfl) rfl rfl
  subst e
  exact ⟨_, F, b, looks_kb (fun r z => r.append z) fun us ws l1 l2 => match us, ws, l1, l2 with | [_], [_], _, _ => rfl⟩
theorem ok_NoUnknown (W : Wd K mg) (hP : SupX.PrgOk P) : ∃ fd, FnOk P w K mg base CX0 1 (He.ma K (He.ga K "NoUnknown") "__init__") fd ["self", "k"] (SupX.spExc (He.ga K "NoUnknown") "k") ∧ Binds K fd ["self", "k"] [] ∧ KBn K fd ["self", "k"] 1 ["k"] (fun us ws => us ++ ws) (fun vs zs => vs ++ zs) := by
  obtain ⟨cc, cda, T⟩ := SupX.supC_of hP (W.sup 1 rfl) W.e_oexNoUnknown W.e_supNoUnknown
  obtain ⟨fd, F, b, doc, pm, an, ct, e⟩ := SupX.exc_initF (P := P) (w := w) (mg := mg) (base := base) (CX := CX0) (k := 0) T (NdefX.nscope_by (by decide +kernel)) W.n_NoUnknown_k (by decide +kernel) (fun _ _ _ _ us hl => match us, hl with | [_, _], _ => rfl) rfl rfl (fun env h => rfl) (fun env h => rfl) (fun env h => by unfold interactive; rw [h]; rfl) (fun env h => rfl) rfl rfl
  subst e
  exact ⟨_, F, b, looks_kb (fun r z => r.append z) fun us ws l1 l2 => match us, ws, l1, l2 with | [_], [_], _, _ => rfl⟩
theorem ok_NotStraight (W : Wd K mg) (hP : SupX.PrgOk P) : ∃ fd, FnOk P w K mg base CX0 1 (He.ma K (He.ga K "NotStraight") "__init__") fd ["self", "left", "right"] (SupX.spExc2 (He.ga K "NotStraight") "left" "right") ∧ Binds K fd ["self", "left", "right"] [] ∧ KBn K fd ["self", "left", "right"] 1 ["right", "left"] (fun us ws => us ++ ws.reverse) (fun vs zs => vs ++ zs.reverse) := by
  obtain ⟨cc, cda, T⟩ := SupX.supC_of hP (W.sup 2 rfl) W.e_oexNotStraight W.e_supNotStraight
  obtain ⟨fd, F, b, doc, pm, an, ct, e⟩ := SupX.exc_initF2 (P := P) (w := w) (mg := mg) (base := base) (CX := CX0) (k := 0) T (NdefX.nscope_by (by decide +kernel)) W.n_NotStraight_left W.n_NotStraight_right (by decide +kernel) (fun _ _ _ _ us hl => match us, hl with | [_, _, _], _ => rfl) rfl rfl (fun env h => rfl) (fun env h => rfl) (fun env h => by unfold interactive; rw [h]; rfl) (fun env h => rfl) (fun env h => rfl) rfl rfl rfl rfl
  subst e
  exact ⟨_, F, b, looks_kb (fun r z => r.append z.reverse) fun us ws l1 l2 => match us, ws, l1, l2 with | [_], [_, _], _, _ => rfl⟩
theorem ok_NotRow (W : Wd K mg) (hP : SupX.PrgOk P) : ∃ fd, FnOk P w K mg base CX0 1 (He.ma K (He.ga K "NotRow") "__init__") fd ["self", "thing"] (SupX.spExc (He.ga K "NotRow") "thing") ∧ Binds K fd ["self", "thing"] [] ∧ KBn K fd ["self", "thing"] 1 ["thing"] (fun us ws => us ++ ws) (fun vs zs => vs ++ zs) := by
  obtain ⟨cc, cda, T⟩ := SupX.supC_of hP (W.sup 3 rfl) W.e_oexNotRow W.e_supNotRow
  obtain ⟨fd, F, b, doc, pm, an, ct, e⟩ := SupX.exc_initF (P := P) (w := w) (mg := mg) (base := base) (CX := CX0) (k := 0) T (NdefX.nscope_by (by decide +kernel)) W.n_NotRow_thing (by decide +kernel) (fun _ _ _ _ us hl => match us, hl with | [_, _], _ => rfl) rfl rfl (fun env h => rfl) (fun env h => rfl) (fun env h => by unfold interactive; rw [h]; rfl) (fun env h => rfl) rfl rfl
  subst e
  exact ⟨_, F, b, looks_kb (fun r z => r.append z) fun us ws l1 l2 => match us, ws, l1, l2 with | [_], [_], _, _ => rfl⟩
theorem ok_Nothing (W : Wd K mg) (hP : SupX.PrgOk P) : ∃ fd, FnOk P w K mg base CX0 1 (He.ma K (He.ga K "Nothing") "__init__") fd ["self", "rows"] (SupX.spExc (He.ga K "Nothing") "rows") ∧ Binds K fd ["self", "rows"] [] ∧ KBn K fd ["self", "rows"] 1 ["rows"] (fun us ws => us ++ ws) (fun vs zs => vs ++ zs) := by
  obtain ⟨cc, cda, T⟩ := SupX.supC_of hP (W.sup 4 rfl) W.e_oexNothing W.e_supNothing
  obtain ⟨fd, F, b, doc, pm, an, ct, e⟩ := SupX.exc_initF (P := P) (w := w) (mg := mg) (base := base) (CX := CX0) (k := 0) T (NdefX.nscope_by (by decide +kernel)) W.n_Nothing_rows (by decide +kernel) (fun _ _ _ _ us hl => match us, hl with | [_, _], _ => rfl) rfl rfl (fun env h => rfl) (fun env h => rfl) (fun env h => by unfold interactive; rw [h]; rfl) (fun env h => rfl) rfl rfl
  subst e
  exact ⟨_, F, b, looks_kb (fun r z => r.append z) fun us ws l1 l2 => match us, ws, l1, l2 with | [_], [_], _, _ => rfl⟩
theorem ok_NotCounted (W : Wd K mg) (hP : SupX.PrgOk P) : ∃ fd, FnOk P w K mg base CX0 1 (He.ma K (He.ga K "NotCounted") "__init__") fd ["self", "point"] (SupX.spExc (He.ga K "NotCounted") "point") ∧ Binds K fd ["self", "point"] [] ∧ KBn K fd ["self", "point"] 1 ["point"] (fun us ws => us ++ ws) (fun vs zs => vs ++ zs) := by
  obtain ⟨cc, cda, T⟩ := SupX.supC_of hP (W.sup 5 rfl) W.e_oexNotCounted W.e_supNotCounted
  obtain ⟨fd, F, b, doc, pm, an, ct, e⟩ := SupX.exc_initF (P := P) (w := w) (mg := mg) (base := base) (CX := CX0) (k := 0) T (NdefX.nscope_by (by decide +kernel)) W.n_NotCounted_point (by decide +kernel) (fun _ _ _ _ us hl => match us, hl with | [_, _], _ => rfl) rfl rfl (fun env h => rfl) (fun env h => rfl) (fun env h => by unfold interactive; rw [h]; rfl) (fun env h => rfl) rfl rfl
  subst e
  exact ⟨_, F, b, looks_kb (fun r z => r.append z) fun us ws l1 l2 => match us, ws, l1, l2 with | [_], [_], _, _ => rfl⟩
theorem ok_BadCount (W : Wd K mg) (hP : SupX.PrgOk P) : ∃ fd, FnOk P w K mg base CX0 1 (He.ma K (He.ga K "BadCount") "__init__") fd ["self", "value"] (SupX.spExc (He.ga K "BadCount") "value") ∧ Binds K fd ["self", "value"] [] ∧ KBn K fd ["self", "value"] 1 ["value"] (fun us ws => us ++ ws) (fun vs zs => vs ++ zs) := by
  obtain ⟨cc, cda, T⟩ := SupX.supC_of hP (W.sup 6 rfl) W.e_oexBadCount W.e_supBadCount
  obtain ⟨fd, F, b, doc, pm, an, ct, e⟩ := SupX.exc_initF (P := P) (w := w) (mg := mg) (base := base) (CX := CX0) (k := 0) T (NdefX.nscope_by (by decide +kernel)) W.n_BadCount_value (by decide +kernel) (fun _ _ _ _ us hl => match us, hl with | [_, _], _ => rfl) rfl rfl (fun env h => rfl) (fun env h => rfl) (fun env h => by unfold interactive; rw [h]; rfl) (fun env h => rfl) rfl rfl
  subst e
  exact ⟨_, F, b, looks_kb (fun r z => r.append z) fun us ws l1 l2 => match us, ws, l1, l2 with | [_], [_], _, _ => rfl⟩
theorem ok_BadLimit (W : Wd K mg) (hP : SupX.PrgOk P) : ∃ fd, FnOk P w K mg base CX0 1 (He.ma K (He.ga K "BadLimit") "__init__") fd ["self", "value"] (SupX.spExc (He.ga K "BadLimit") "value") ∧ Binds K fd ["self", "value"] [] ∧ KBn K fd ["self", "value"] 1 ["value"] (fun us ws => us ++ ws) (fun vs zs => vs ++ zs) := by
  obtain ⟨cc, cda, T⟩ := SupX.supC_of hP (W.sup 7 rfl) W.e_oexBadLimit W.e_supBadLimit
  obtain ⟨fd, F, b, doc, pm, an, ct, e⟩ := SupX.exc_initF (P := P) (w := w) (mg := mg) (base := base) (CX := CX0) (k := 0) T (NdefX.nscope_by (by decide +kernel)) W.n_BadLimit_value (by decide +kernel) (fun _ _ _ _ us hl => match us, hl with | [_, _], _ => rfl) rfl rfl (fun env h => rfl) (fun env h => rfl) (fun env h => by unfold interactive; rw [h]; rfl) (fun env h => rfl) rfl rfl
  subst e
  exact ⟨_, F, b, looks_kb (fun r z => r.append z) fun us ws l1 l2 => match us, ws, l1, l2 with | [_], [_], _, _ => rfl⟩
theorem ok_TooDeep (W : Wd K mg) (hP : SupX.PrgOk P) : ∃ fd, FnOk P w K mg base CX0 1 (He.ma K (He.ga K "TooDeep") "__init__") fd ["self", "path"] (SupX.spExc (He.ga K "TooDeep") "path") ∧ Binds K fd ["self", "path"] [] ∧ KBn K fd ["self", "path"] 1 ["path"] (fun us ws => us ++ ws) (fun vs zs => vs ++ zs) := by
  obtain ⟨cc, cda, T⟩ := SupX.supC_of hP (W.sup 8 rfl) W.e_oexTooDeep W.e_supTooDeep
  obtain ⟨fd, F, b, doc, pm, an, ct, e⟩ := SupX.exc_initF (P := P) (w := w) (mg := mg) (base := base) (CX := CX0) (k := 0) T (NdefX.nscope_by (by decide +kernel)) W.n_TooDeep_path (by decide +kernel) (fun _ _ _ _ us hl => match us, hl with | [_, _], _ => rfl) rfl rfl (fun env h => rfl) (fun env h => rfl) (fun env h => by unfold interactive; rw [h]; rfl) (fun env h => rfl) rfl rfl
  subst e
  exact ⟨_, F, b, looks_kb (fun r z => r.append z) fun us ws l1 l2 => match us, ws, l1, l2 with | [_], [_], _, _ => rfl⟩
theorem ok_TooMany (W : Wd K mg) (hP : SupX.PrgOk P) : ∃ fd, FnOk P w K mg base CX0 1 (He.ma K (He.ga K "TooMany") "__init__") fd ["self", "path"] (SupX.spExc (He.ga K "TooMany") "path") ∧ Binds K fd ["self", "path"] [] ∧ KBn K fd ["self", "path"] 1 ["path"] (fun us ws => us ++ ws) (fun vs zs => vs ++ zs) := by
  obtain ⟨cc, cda, T⟩ := SupX.supC_of hP (W.sup 9 rfl) W.e_oexTooMany W.e_supTooMany
  obtain ⟨fd, F, b, doc, pm, an, ct, e⟩ := SupX.exc_initF (P := P) (w := w) (mg := mg) (base := base) (CX := CX0) (k := 0) T (NdefX.nscope_by (by decide +kernel)) W.n_TooMany_path (by decide +kernel) (fun _ _ _ _ us hl => match us, hl with | [_, _], _ => rfl) rfl rfl (fun env h => rfl) (fun env h => rfl) (fun env h => by unfold interactive; rw [h]; rfl) (fun env h => rfl) rfl rfl
  subst e
  exact ⟨_, F, b, looks_kb (fun r z => r.append z) fun us ws l1 l2 => match us, ws, l1, l2 with | [_], [_], _, _ => rfl⟩
theorem ok_Wavers (W : Wd K mg) (hP : SupX.PrgOk P) : ∃ fd, FnOk P w K mg base CX0 1 (He.ma K (He.ga K "Wavers") "__init__") fd ["self", "path"] (SupX.spExc (He.ga K "Wavers") "path") ∧ Binds K fd ["self", "path"] [] ∧ KBn K fd ["self", "path"] 1 ["path"] (fun us ws => us ++ ws) (fun vs zs => vs ++ zs) := by
  obtain ⟨cc, cda, T⟩ := SupX.supC_of hP (W.sup 10 rfl) W.e_oexWavers W.e_supWavers
  obtain ⟨fd, F, b, doc, pm, an, ct, e⟩ := SupX.exc_initF (P := P) (w := w) (mg := mg) (base := base) (CX := CX0) (k := 0) T (NdefX.nscope_by (by decide +kernel)) W.n_Wavers_path (by decide +kernel) (fun _ _ _ _ us hl => match us, hl with | [_, _], _ => rfl) rfl rfl (fun env h => rfl) (fun env h => rfl) (fun env h => by unfold interactive; rw [h]; rfl) (fun env h => rfl) rfl rfl
  subst e
  exact ⟨_, F, b, looks_kb (fun r z => r.append z) fun us ws l1 l2 => match us, ws, l1, l2 with | [_], [_], _, _ => rfl⟩
theorem ok_Stale (W : Wd K mg) (hP : SupX.PrgOk P) : ∃ fd, FnOk P w K mg base CX0 1 (He.ma K (He.ga K "Stale") "__init__") fd ["self", "row"] (SupX.spExc (He.ga K "Stale") "row") ∧ Binds K fd ["self", "row"] [] ∧ KBn K fd ["self", "row"] 1 ["row"] (fun us ws => us ++ ws) (fun vs zs => vs ++ zs) := by
  obtain ⟨cc, cda, T⟩ := SupX.supC_of hP (W.sup 11 rfl) W.e_oexStale W.e_supStale
  obtain ⟨fd, F, b, doc, pm, an, ct, e⟩ := SupX.exc_initF (P := P) (w := w) (mg := mg) (base := base) (CX := CX0) (k := 0) T (NdefX.nscope_by (by decide +kernel)) W.n_Stale_row (by decide +kernel) (fun _ _ _ _ us hl => match us, hl with | [_, _], _ => rfl) rfl rfl (fun env h => rfl) (fun env h => rfl) (fun env h => by unfold interactive; rw [h]; rfl) (fun env h => rfl) rfl rfl
  subst e
  exact ⟨_, F, b, looks_kb (fun r z => r.append z) fun us ws l1 l2 => match us, ws, l1, l2 with | [_], [_], _, _ => rfl⟩
theorem ok_NotTruth (W : Wd K mg) (hP : SupX.PrgOk P) : ∃ fd, FnOk P w K mg base CX0 1 (He.ma K (He.ga K "NotTruth") "__init__") fd ["self", "path"] (SupX.spExc (He.ga K "NotTruth") "path") ∧ Binds K fd ["self", "path"] [] ∧ KBn K fd ["self", "path"] 1 ["path"] (fun us ws => us ++ ws) (fun vs zs => vs ++ zs) := by
  obtain ⟨cc, cda, T⟩ := SupX.supC_of hP (W.sup 12 rfl) W.e_oexNotTruth W.e_supNotTruth
  obtain ⟨fd, F, b, doc, pm, an, ct, e⟩ := SupX.exc_initF (P := P) (w := w) (mg := mg) (base := base) (CX := CX0) (k := 0) T (NdefX.nscope_by (by decide +kernel)) W.n_NotTruth_path (by decide +kernel) (fun _ _ _ _ us hl => match us, hl with | [_, _], _ => rfl) rfl rfl (fun env h => rfl) (fun env h => rfl) (fun env h => by unfold interactive; rw [h]; rfl) (fun env h => rfl) rfl rfl
  subst e
  exact ⟨_, F, b, looks_kb (fun r z => r.append z) fun us ws l1 l2 => match us, ws, l1, l2 with | [_], [_], _, _ => rfl⟩
theorem ok_NotNumber (W : Wd K mg) (hP : SupX.PrgOk P) : ∃ fd, FnOk P w K mg base CX0 1 (He.ma K (He.ga K "NotNumber") "__init__") fd ["self", "path"] (SupX.spExc (He.ga K "NotNumber") "path") ∧ Binds K fd ["self", "path"] [] ∧ KBn K fd ["self", "path"] 1 ["path"] (fun us ws => us ++ ws) (fun vs zs => vs ++ zs) := by
  obtain ⟨cc, cda, T⟩ := SupX.supC_of hP (W.sup 13 rfl) W.e_oexNotNumber W.e_supNotNumber
  obtain ⟨fd, F, b, doc, pm, an, ct, e⟩ := SupX.exc_initF (P := P) (w := w) (mg := mg) (base := base) (CX := CX0) (k := 0) T (NdefX.nscope_by (by decide +kernel)) W.n_NotNumber_path (by decide +kernel) (fun _ _ _ _ us hl => match us, hl with | [_, _], _ => rfl) rfl rfl (fun env h => rfl) (fun env h => rfl) (fun env h => by unfold interactive; rw [h]; rfl) (fun env h => rfl) rfl rfl
  subst e
  exact ⟨_, F, b, looks_kb (fun r z => r.append z) fun us ws l1 l2 => match us, ws, l1, l2 with | [_], [_], _, _ => rfl⟩
theorem ok_HasGiven (W : Wd K mg) (hP : SupX.PrgOk P) : ∃ fd, FnOk P w K mg base CX0 1 (He.ma K (He.ga K "HasGiven") "__init__") fd ["self", "rows"] (SupX.spExc (He.ga K "HasGiven") "rows") ∧ Binds K fd ["self", "rows"] [] ∧ KBn K fd ["self", "rows"] 1 ["rows"] (fun us ws => us ++ ws) (fun vs zs => vs ++ zs) := by
  obtain ⟨cc, cda, T⟩ := SupX.supC_of hP (W.sup 14 rfl) W.e_oexHasGiven W.e_supHasGiven
  obtain ⟨fd, F, b, doc, pm, an, ct, e⟩ := SupX.exc_initF (P := P) (w := w) (mg := mg) (base := base) (CX := CX0) (k := 0) T (NdefX.nscope_by (by decide +kernel)) W.n_HasGiven_rows (by decide +kernel) (fun _ _ _ _ us hl => match us, hl with | [_, _], _ => rfl) rfl rfl (fun env h => rfl) (fun env h => rfl) (fun env h => by unfold interactive; rw [h]; rfl) (fun env h => rfl) rfl rfl
  subst e
  exact ⟨_, F, b, looks_kb (fun r z => r.append z) fun us ws l1 l2 => match us, ws, l1, l2 with | [_], [_], _, _ => rfl⟩
theorem ok_UnlikeCounts (W : Wd K mg) (hP : SupX.PrgOk P) : ∃ fd, FnOk P w K mg base CX0 1 (He.ma K (He.ga K "UnlikeCounts") "__init__") fd ["self", "one", "other"] (SupX.spExc2 (He.ga K "UnlikeCounts") "one" "other") ∧ Binds K fd ["self", "one", "other"] [] ∧ KBn K fd ["self", "one", "other"] 1 ["other", "one"] (fun us ws => us ++ ws.reverse) (fun vs zs => vs ++ zs.reverse) := by
  obtain ⟨cc, cda, T⟩ := SupX.supC_of hP (W.sup 15 rfl) W.e_oexUnlikeCounts W.e_supUnlikeCounts
  obtain ⟨fd, F, b, doc, pm, an, ct, e⟩ := SupX.exc_initF2 (P := P) (w := w) (mg := mg) (base := base) (CX := CX0) (k := 0) T (NdefX.nscope_by (by decide +kernel)) W.n_UnlikeCounts_one W.n_UnlikeCounts_other (by decide +kernel) (fun _ _ _ _ us hl => match us, hl with | [_, _, _], _ => rfl) rfl rfl (fun env h => rfl) (fun env h => rfl) (fun env h => by unfold interactive; rw [h]; rfl) (fun env h => rfl) (fun env h => rfl) rfl rfl rfl rfl
  subst e
  exact ⟨_, F, b, looks_kb (fun r z => r.append z.reverse) fun us ws l1 l2 => match us, ws, l1, l2 with | [_], [_, _], _, _ => rfl⟩
end
/-- the error classes -/
def XS : List Str := (["NoShare", "NoUnknown", "NotStraight", "NotRow", "Nothing", "NotCounted", "BadCount", "BadLimit", "TooDeep", "TooMany", "Wavers", "Stale", "NotTruth", "NotNumber", "HasGiven", "UnlikeCounts"] : List Str)
theorem exc_by {K : PySem.W.Frag} {C : Addr} (h : (xfB K C && He.eqO (PySem.W.findIn K (.ref C) "__class__") (some (some (.builtin "object.__class__"))) && decide (PySem.W.mroIn K C (.type "object") = some true)) = true) (g : (He.eqO (PySem.W.specialIn K (.builtin "object.__class__") "__get__") (some (some (.builtin "getset_descriptor.__get__"))) && decide (PySem.W.takesIn K (.builtin "object.__class__") = some true)) = true) : ExcC K C ∧ XfC K C := by
  obtain ⟨h, h3⟩ := Bool.and_eq_true_iff.mp h
  obtain ⟨h1, h2⟩ := Bool.and_eq_true_iff.mp h
  obtain ⟨g1, g2⟩ := Bool.and_eq_true_iff.mp g
  have x := xfB_ok h1
  exact ⟨⟨x.ga, x.gg, x.exC, x.hdC, He.eqO_ok h2, He.eqO_ok g1, of_decide_eq_true g2, of_decide_eq_true h3⟩, x⟩
theorem mem_XS {c : Str} {p : Str → Prop} (h : c ∈ XS) (h0 : p "NoShare") (h1 : p "NoUnknown") (h2 : p "NotStraight") (h3 : p "NotRow") (h4 : p "Nothing") (h5 : p "NotCounted") (h6 : p "BadCount") (h7 : p "BadLimit") (h8 : p "TooDeep") (h9 : p "TooMany") (h10 : p "Wavers") (h11 : p "Stale") (h12 : p "NotTruth") (h13 : p "NotNumber") (h14 : p "HasGiven") (h15 : p "UnlikeCounts") : p c := by
  unfold XS at h
  simp only [List.mem_cons, List.not_mem_nil, or_false] at h
  rcases h with rfl | rfl | rfl | rfl | rfl | rfl | rfl | rfl | rfl | rfl | rfl | rfl | rfl | rfl | rfl | rfl
  all_goals assumption
theorem exc_of {K : PySem.W.Frag} {mg : Str → Option Value} (W : Wd K mg) {c : Str} (h : c ∈ XS) : ExcC K (He.ga K c) ∧ XfC K (He.ga K c) := mem_XS (p := fun c => ExcC K (He.ga K c) ∧ XfC K (He.ga K c)) h (exc_by W.e_xfNoShare W.e_get) (exc_by W.e_xfNoUnknown W.e_get) (exc_by W.e_xfNotStraight W.e_get) (exc_by W.e_xfNotRow W.e_get) (exc_by W.e_xfNothing W.e_get) (exc_by W.e_xfNotCounted W.e_get) (exc_by W.e_xfBadCount W.e_get) (exc_by W.e_xfBadLimit W.e_get) (exc_by W.e_xfTooDeep W.e_get) (exc_by W.e_xfTooMany W.e_get) (exc_by W.e_xfWavers W.e_get) (exc_by W.e_xfStale W.e_get) (exc_by W.e_xfNotTruth W.e_get) (exc_by W.e_xfNotNumber W.e_get) (exc_by W.e_xfHasGiven W.e_get) (exc_by W.e_xfUnlikeCounts W.e_get)
theorem kit_of {K : PySem.W.Frag} {mg : Str → Option Value} (W : Wd K mg) {c b : Str} (h : c ∈ XS) (k : b ∈ XS) : PySem.W.kitOne K (.ref (He.ga K c)) (.ref (He.ga K b)) = some (decide (c = b)) := of_decide_eq_true (List.all_eq_true.mp (List.all_eq_true.mp W.e_kits c h) b k)
theorem isv_of {K : PySem.W.Frag} {mg : Str → Option Value} (W : Wd K mg) {a d : Addr} {c b : Str} {fs : List (Str × V)} {H : Hp} {Q : VK} (h : c ∈ XS) (ha : H a = some (exo a (He.ga K c) (some d))) (hd : H d = some (exd d fs)) (k : b ∈ XS) (q : Q (.bl (decide (c = b))) H) : rIsV K [.ref a, .ref (He.ga K b)] H Q :=
  ⟨a, _, d, _, _, _, fs, rfl, (exc_of W h).1, ha, hd, fun u r => r, kit_of W h k, q⟩
/-- a new object may be written to -/
theorem same_updF {H H' : Hp} {p : Addr} {o : HO} (s : Same H H') (n : H p = none) : Same H (upd H' p o) := fun b u e => by
  rw [upd_ne (ne_of_none e n)]
  exact s _ _ e
/-- the truths of a list, gathered -/
theorem lc_bl {K : PySem.W.Frag} {i0 : Nat} {tl : TE} {tt : TT} {te : TE} {σ : List (Option V)} {H : Hp} {Q : V → Hp → Prop} (a : Addr) (bs : List Bool) (hn : bs.length < 1000) (hw : ∀ x : V, wipe ((wipe σ [i0]).set i0 (some x)) [i0] = wipe σ [i0]) (ha : H a = some (.lst (bs.map V.bl))) (htl : ∀ R : V → Hp → Prop, R (.ref a) H → tl σ H R)
    (ht : ∀ (b : Bool) (H' : Hp) (R : Bool → Hp → Prop), Same H H' → R b H' → tt ((wipe σ [i0]).set i0 (some (.bl b))) H' R) (he : ∀ (b : Bool) (H' : Hp) (R : V → Hp → Prop), Same H H' → R (.bl b) H' → te ((wipe σ [i0]).set i0 (some (.bl b))) H' R)
    (hq : ∀ (D : Addr) (H' : Hp), Same H H' → H' D = some (.lst ((bs.filter id).map V.bl)) → Q (.ref D) H') : tLc (iList K tl) (gName i0) tt te [i0] σ H Q := by
  refine htl _ ⟨a, rfl, ⟨bs.map V.bl, SqL.of ha⟩, fun D hD => ?_⟩
  refine lc_it (walk_list (K := K) (a := a) (xs := bs.map V.bl)) (fun i H' => Same H H' ∧ H' D = some (.lst (((bs.take i).filter id).map V.bl))) ⟨same_upd hD, upd_same⟩ (fun _ _ _ h => SqL.of (h.1 _ _ ha)) ?_ ?_
  · rintro i x H' H'' hi ⟨sm, dD⟩ ⟨rfl, fx⟩
    rw [List.getElem?_map] at fx
    obtain ⟨b, eb, rfl⟩ := Option.map_eq_some_iff.mp fx
    have et : (bs.take (i + 1)).filter id = (bs.take i).filter id ++ [b].filter id := by
      rw [List.take_add_one, eb, ← List.filter_append]
      rfl
    refine ⟨hw _, ht b _ _ sm ?_⟩
    have le : ((bs.take i).filter id).length ≤ bs.length := Nat.le_trans (List.length_filter_le ..) (by rw [List.length_take]; omega)
    cases b with
    | true =>
      rw [if_pos rfl]
      refine he true _ _ sm ⟨_, dD, small1000 (by rw [List.length_map]; omega), fun c o e => ?_, ?_⟩
      · rw [upd_ne (ne_of_none e hD)]
        exact sm _ _ e
      · rw [upd_same, et, List.map_append]
        rfl
    | false =>
      rw [if_neg (by decide)]
      exact ⟨sm, by rw [et, show [false].filter id = [] from rfl, List.append_nil]; exact dD⟩
  · rintro H' ⟨sm, dD⟩
    rw [List.length_map, List.take_length] at dD
    exact hq D H' sm dD
/-- an object of the law: it is itself wherever it's compared -/
def ObV (v : V) : Prop := flatB v = true ∨ ∃ c, v = .ref c
section
variable {P : Program} {w : World} {K : PySem.W.Frag} {mg : Str → Option Value} {base : Heap} {fd : FuncData}
def spObj (K : PySem.W.Frag) : Sp := fun vs H Q _ => ∃ (l : Addr) (d0 d1 d2 : Int), vs = [.ref l] ∧ H l = some (draws d0 d1 d2) ∧ ∀ (v : V) (H' : Hp) (e0 e1 e2 : Int), ObV v → (∀ b o, b ≠ l → H b = some o → H' b = some o) → H' l = some (draws e0 e1 e2) → Q v H'
theorem scObject : FnScope ["_law_draws", "_law_n"] ["_law_draws"] d_object.scope := ⟨rfl, rfl, rfl, by decide +kernel, rfl, by decide +kernel, by decide +kernel⟩
theorem ok_object (W : Wd K mg) : ∃ fd, FnOk P w K mg base CX0 2 (He.ga K "_law_object") fd ["_law_draws"] (spObj K) ∧ Binds K fd ["_law_draws"] [] := by
  obtain ⟨fd_draw, G_draw, b_draw⟩ := ok_draw (P := P) (w := w) (base := base) W
  have k_draw : PySem.W.keepIn K (.ref (He.ga K "_law_draw")) = true := by obtain ⟨fd, F⟩ := W.F_draw; exact F.kp
  obtain ⟨fd, F⟩ := W.F_object
  refine ⟨fd, F.ok scObject (fun vs H Q E h => ?_) (fun cdv A outer s H vs Q E hr h => ?_), FunD.bindsN F fun _ _ _ _ _ _ us hl => match us, hl with | [_], _ => rfl⟩
  · obtain ⟨l, _, _, _, rfl, _⟩ := h
    rfl
  · obtain ⟨l, d0, d1, d2, rfl, hl, q⟩ := h
    have r1 : Room 1 _ := hr.mono (by decide)
    refine ⟨_, PSs.nox (pss_cons (ps_set (i := 1) scObject.nd rfl (Or.inl rfl) (pe_call G_draw r1 rfl W.g_law_draw k_draw b_draw .nil pass0 (pa_cons (pv 0) (pa_cons pe_int pa_nil))))
    (pss_one (ps_ret (pe_ix ix_lstH (pe_lst (pa_cons (pe_op op_sub (pe_op op_pow pe_int pe_int) (pv 1)) (pa_cons pe_str (pa_cons (pe_tup (pa_cons (pv 1) (pa_cons pe_str pa_nil))) (pa_cons pe_non (pa_cons (pe_tup (pa_cons (pe_tup (pa_cons pe_int (pa_cons pe_bl pa_nil))) (pa_cons (pe_tup (pa_cons (pv 1) (pa_cons pe_bl pa_nil))) pa_nil))) (pa_cons (pe_un un_neg (pv 1)) pa_nil))))))) (pe_call G_draw r1 rfl W.g_law_draw k_draw b_draw .nil pass0 (pa_cons (pv 0) (pa_cons pe_int pa_nil))) (fun _ _ => rfl))))), ?_⟩
    simp -dsimp [tSeq, tAsg, tRet, tIfS, tIf, tTest, tVar, tCons, tNil, tC, tOp, tUn, rI, rI0, rU, tCB, tLst_A, tTup_A, gName, L2.start, CMul, CPow, CDiv, tDrop, tBM, tBM0, tNext, tPar, gSub, rSetL, rIxL, rIxT, tChain, tB, tNot, tNotV, tAnd, tOr, tAndV, tOrV, tFld, tCall, rIxLH, rIxTH, atI, ixN, upd_same, cxK, ex2, ex3, ex3b, rEq, rNe, scal]
    refine ⟨l, d0, d1, d2, 5, rfl, hl, by decide, by decide, fun n e0 e1 e2 n0 n1 => ⟨n, rfl, by decide, Alloc.of fun t1 H1 m1 g1 s1 => ⟨by decide, Alloc.of fun t2 H2 m2 g2 s2 => ⟨by decide, Alloc.of fun t3 H3 m3 g3 s3 => ⟨by decide, Alloc.of fun t4 H4 m4 g4 s4 => ⟨n, rfl, by decide, Alloc.of fun L H5 m5 g5 s5 => ?_⟩⟩⟩⟩⟩⟩
    have s15 := (((s1.trans s2).trans s3).trans s4).trans s5
    have hl5 : H5 l = some (draws e0 e1 e2) := s15 _ _ upd_same
    have Ll : L ≠ l := fun e => by rw [e, hl5] at g5; cases g5
    refine ⟨l, e0, e1, e2, 6, rfl, hl5, by decide, by decide, fun r f0 f1 f2 r0 r1 => ⟨L, rfl, _, r, rfl, by rw [upd_ne Ll]; exact g5, ?_⟩⟩
    have keep : ∀ b o, b ≠ l → H b = some o → upd H5 l (draws f0 f1 f2) b = some o := fun b o nb e => by
      rw [upd_ne nb]
      refine s15 _ _ ?_
      rw [upd_ne nb]
      exact e
    have fin : ∀ v, ObV v → Q v (upd H5 l (draws f0 f1 f2)) := fun v hv => q v _ f0 f1 f2 hv keep upd_same
    have h6 : r = 0 ∨ r = 1 ∨ r = 2 ∨ r = 3 ∨ r = 4 ∨ r = 5 := by omega
    rcases h6 with rfl | rfl | rfl | rfl | rfl | rfl
    · exact ⟨_, rfl, fin _ (.inl rfl)⟩
    · exact ⟨_, rfl, fin _ (.inl rfl)⟩
    · exact ⟨_, rfl, fin _ (.inr ⟨_, rfl⟩)⟩
    · exact ⟨_, rfl, fin _ (.inl rfl)⟩
    · exact ⟨_, rfl, fin _ (.inr ⟨_, rfl⟩)⟩
    · exact ⟨_, rfl, fin _ (.inl rfl)⟩

def spKinds (K : PySem.W.Frag) : Sp := fun vs H Q _ => ∃ (a d : Addr) (c : Str) (fs : List (Str × V)), vs = [.ref a] ∧ c ∈ XS ∧ H a = some (exo a (He.ga K c) (some d)) ∧ H d = some (exd d fs) ∧ ∀ H', Same H H' → Q (.int 1) H'
theorem scKinds : FnScope ["_law_e", "_law_found", "_law_is_so"] ["_law_e"] d_kinds.scope := ⟨rfl, rfl, rfl, by decide +kernel, rfl, by decide +kernel, by decide +kernel⟩
theorem ok_kinds (W : Wd K mg) : ∃ fd, FnOk P w K mg base CX0 1 (He.ga K "_law_kinds") fd ["_law_e"] (spKinds K) ∧ Binds K fd ["_law_e"] [] := by
  obtain ⟨fd, F⟩ := W.F_kinds
  refine ⟨fd, F.ok scKinds (fun vs H Q E h => ?_) (fun cdv A outer s H vs Q E hr h => ?_), FunD.bindsN F fun _ _ _ _ _ _ us hl => match us, hl with | [_], _ => rfl⟩
  · obtain ⟨a, _, _, _, rfl, _⟩ := h
    rfl
  · obtain ⟨a, d, c, fs, rfl, hc, ha, hd, q⟩ := h

    refine ⟨_, PSs.nox (C8.pss_cut (ps_set (i := 1) scKinds.nd rfl (Or.inl rfl) (pe_lst (pa_cons (pe_callB (show CallR _ _ (rIsV K) from call_isV) (by rfl) W.f_isinstance boot_isinstance (pa_cons (pv 0) (pa_cons (pe_glob (v := .ref (He.ga K "BadCount")) rfl W.g_BadCount rfl) pa_nil))) (pa_cons (pe_callB (show CallR _ _ (rIsV K) from call_isV) (by rfl) W.f_isinstance boot_isinstance (pa_cons (pv 0) (pa_cons (pe_glob (v := .ref (He.ga K "BadLimit")) rfl W.g_BadLimit rfl) pa_nil))) (pa_cons (pe_callB (show CallR _ _ (rIsV K) from call_isV) (by rfl) W.f_isinstance boot_isinstance (pa_cons (pv 0) (pa_cons (pe_glob (v := .ref (He.ga K "HasGiven")) rfl W.g_HasGiven rfl) pa_nil))) (pa_cons (pe_callB (show CallR _ _ (rIsV K) from call_isV) (by rfl) W.f_isinstance boot_isinstance (pa_cons (pv 0) (pa_cons (pe_glob (v := .ref (He.ga K "NoShare")) rfl W.g_NoShare rfl) pa_nil))) pa_nil))))))
    (C8.pss_cut (ps_expr (pe_bm PySem.F.plainAttrs_list PySem.F.slot_list_extend PySem.F.type_list_extend mt_extend (pv 1) (pa_cons (pe_lst (pa_cons (pe_callB (show CallR _ _ (rIsV K) from call_isV) (by rfl) W.f_isinstance boot_isinstance (pa_cons (pv 0) (pa_cons (pe_glob (v := .ref (He.ga K "NotCounted")) rfl W.g_NotCounted rfl) pa_nil))) (pa_cons (pe_callB (show CallR _ _ (rIsV K) from call_isV) (by rfl) W.f_isinstance boot_isinstance (pa_cons (pv 0) (pa_cons (pe_glob (v := .ref (He.ga K "NotNumber")) rfl W.g_NotNumber rfl) pa_nil))) (pa_cons (pe_callB (show CallR _ _ (rIsV K) from call_isV) (by rfl) W.f_isinstance boot_isinstance (pa_cons (pv 0) (pa_cons (pe_glob (v := .ref (He.ga K "NotRow")) rfl W.g_NotRow rfl) pa_nil))) pa_nil)))) pa_nil)))
    (C8.pss_cut (ps_expr (pe_bm PySem.F.plainAttrs_list PySem.F.slot_list_extend PySem.F.type_list_extend mt_extend (pv 1) (pa_cons (pe_lst (pa_cons (pe_callB (show CallR _ _ (rIsV K) from call_isV) (by rfl) W.f_isinstance boot_isinstance (pa_cons (pv 0) (pa_cons (pe_glob (v := .ref (He.ga K "NotStraight")) rfl W.g_NotStraight rfl) pa_nil))) (pa_cons (pe_callB (show CallR _ _ (rIsV K) from call_isV) (by rfl) W.f_isinstance boot_isinstance (pa_cons (pv 0) (pa_cons (pe_glob (v := .ref (He.ga K "NotTruth")) rfl W.g_NotTruth rfl) pa_nil))) (pa_cons (pe_callB (show CallR _ _ (rIsV K) from call_isV) (by rfl) W.f_isinstance boot_isinstance (pa_cons (pv 0) (pa_cons (pe_glob (v := .ref (He.ga K "Nothing")) rfl W.g_Nothing rfl) pa_nil))) pa_nil)))) pa_nil)))
    (C8.pss_cut (ps_expr (pe_bm PySem.F.plainAttrs_list PySem.F.slot_list_extend PySem.F.type_list_extend mt_extend (pv 1) (pa_cons (pe_lst (pa_cons (pe_callB (show CallR _ _ (rIsV K) from call_isV) (by rfl) W.f_isinstance boot_isinstance (pa_cons (pv 0) (pa_cons (pe_glob (v := .ref (He.ga K "NoUnknown")) rfl W.g_NoUnknown rfl) pa_nil))) (pa_cons (pe_callB (show CallR _ _ (rIsV K) from call_isV) (by rfl) W.f_isinstance boot_isinstance (pa_cons (pv 0) (pa_cons (pe_glob (v := .ref (He.ga K "Stale")) rfl W.g_Stale rfl) pa_nil))) (pa_cons (pe_callB (show CallR _ _ (rIsV K) from call_isV) (by rfl) W.f_isinstance boot_isinstance (pa_cons (pv 0) (pa_cons (pe_glob (v := .ref (He.ga K "TooDeep")) rfl W.g_TooDeep rfl) pa_nil))) (pa_cons (pe_callB (show CallR _ _ (rIsV K) from call_isV) (by rfl) W.f_isinstance boot_isinstance (pa_cons (pv 0) (pa_cons (pe_glob (v := .ref (He.ga K "TooMany")) rfl W.g_TooMany rfl) pa_nil))) pa_nil))))) pa_nil)))
    (C8.pss_cut (ps_expr (pe_bm PySem.F.plainAttrs_list PySem.F.slot_list_extend PySem.F.type_list_extend mt_extend (pv 1) (pa_cons (pe_lst (pa_cons (pe_callB (show CallR _ _ (rIsV K) from call_isV) (by rfl) W.f_isinstance boot_isinstance (pa_cons (pv 0) (pa_cons (pe_glob (v := .ref (He.ga K "UnlikeCounts")) rfl W.g_UnlikeCounts rfl) pa_nil))) (pa_cons (pe_callB (show CallR _ _ (rIsV K) from call_isV) (by rfl) W.f_isinstance boot_isinstance (pa_cons (pv 0) (pa_cons (pe_glob (v := .ref (He.ga K "Wavers")) rfl W.g_Wavers rfl) pa_nil))) pa_nil))) pa_nil)))
    (pss_one (ps_ret (pe_callB call_len (by rfl) W.f_len boot_len (pa_cons (pe_lc (own := [("_law_is_so", 2)]) (g := gName 2) (tt := _) rfl scKinds.nd (pi_list (pv 1)) (blkOk_by (N := ["_law_e", "_law_found", "_law_is_so"]) (sc := defScope s_kinds) (by decide +kernel))
            (fun _ _ _ _ _ => (pg_name (i := 2) scKinds.nd rfl (Or.inl rfl))) (fun _ _ _ _ _ => (pts_one (pt_val (pv 2))))
            (fun _ _ _ _ _ => (pv 2))) pa_nil))))))))), ?_⟩
    refine ⟨fun σ' G' => ∃ F, σ' = [some (.ref a), some (.ref F), none] ∧ Same H G' ∧ H F = none ∧ G' F = some (.lst ([decide (c = "BadCount"), decide (c = "BadLimit"), decide (c = "HasGiven"), decide (c = "NoShare")].map V.bl)), ?_, ?_⟩
    · simp -dsimp [tSeq, tAsg, tRet, tIfS, tIf, tTest, tVar, tCons, tNil, tC, tOp, tUn, rI, rI0, rU, tCB, tLst_A, tTup_A, gName, L2.start, CMul, CPow, CDiv, tDrop, tBM, tBM0, tNext, tPar, gSub, rSetL, rIxL, rIxT, tChain, tB, tNot, tNotV, tAnd, tOr, tAndV, tOrV, tFld, tCall, rIxLH, rIxTH, atI, ixN, upd_same, cxK, ex2, ex3, ex3b, rEq, rNe, scal]
      exact (isv_of W hc ha hd (by decide) (isv_of W hc ha hd (by decide) (isv_of W hc ha hd (by decide) (isv_of W hc ha hd (by decide) ⟨by decide, Alloc.of fun F H1 n1 e1 s1 => ⟨F, rfl, s1, n1, e1⟩⟩))))
    rintro σ' G0 ⟨F, rfl, s0, nF, f0⟩
    refine ⟨fun σ' G' => σ' = [some (.ref a), some (.ref F), none] ∧ Same H G' ∧ H F = none ∧ G' F = some (.lst ([decide (c = "BadCount"), decide (c = "BadLimit"), decide (c = "HasGiven"), decide (c = "NoShare"), decide (c = "NotCounted"), decide (c = "NotNumber"), decide (c = "NotRow")].map V.bl)), ?_, ?_⟩
    · simp -dsimp [tSeq, tAsg, tRet, tIfS, tIf, tTest, tVar, tCons, tNil, tC, tOp, tUn, rI, rI0, rU, tCB, tLst_A, tTup_A, gName, L2.start, CMul, CPow, CDiv, tDrop, tBM, tBM0, tNext, tPar, gSub, rSetL, rIxL, rIxT, tChain, tB, tNot, tNotV, tAnd, tOr, tAndV, tOrV, tFld, tCall, rIxLH, rIxTH, atI, ixN, upd_same, cxK, ex2, ex3, ex3b, rEq, rNe, scal]
      exact ⟨.inl ⟨rfl, _, SqL.of f0⟩, (isv_of W hc (s0 _ _ ha) (s0 _ _ hd) (by decide) (isv_of W hc (s0 _ _ ha) (s0 _ _ hd) (by decide) (isv_of W hc (s0 _ _ ha) (s0 _ _ hd) (by decide) ⟨by decide, Alloc.of fun Y H1 n1 e1 t1 => ⟨F, Y, _, _, rfl, rfl, t1 _ _ f0, e1, (by show 7 ≤ sizeLine; decide), same_updF (s0.trans t1) nF, nF, by rw [upd_same]; rfl⟩⟩)))⟩
    rintro σ' G1 ⟨rfl, s1, _, f1⟩
    refine ⟨fun σ' G' => σ' = [some (.ref a), some (.ref F), none] ∧ Same H G' ∧ H F = none ∧ G' F = some (.lst ([decide (c = "BadCount"), decide (c = "BadLimit"), decide (c = "HasGiven"), decide (c = "NoShare"), decide (c = "NotCounted"), decide (c = "NotNumber"), decide (c = "NotRow"), decide (c = "NotStraight"), decide (c = "NotTruth"), decide (c = "Nothing")].map V.bl)), ?_, ?_⟩
    · simp -dsimp [tSeq, tAsg, tRet, tIfS, tIf, tTest, tVar, tCons, tNil, tC, tOp, tUn, rI, rI0, rU, tCB, tLst_A, tTup_A, gName, L2.start, CMul, CPow, CDiv, tDrop, tBM, tBM0, tNext, tPar, gSub, rSetL, rIxL, rIxT, tChain, tB, tNot, tNotV, tAnd, tOr, tAndV, tOrV, tFld, tCall, rIxLH, rIxTH, atI, ixN, upd_same, cxK, ex2, ex3, ex3b, rEq, rNe, scal]
      exact ⟨.inl ⟨rfl, _, SqL.of f1⟩, (isv_of W hc (s1 _ _ ha) (s1 _ _ hd) (by decide) (isv_of W hc (s1 _ _ ha) (s1 _ _ hd) (by decide) (isv_of W hc (s1 _ _ ha) (s1 _ _ hd) (by decide) ⟨by decide, Alloc.of fun Y H1 n1 e1 t1 => ⟨F, Y, _, _, rfl, rfl, t1 _ _ f1, e1, (by show 10 ≤ sizeLine; decide), same_updF (s1.trans t1) nF, nF, by rw [upd_same]; rfl⟩⟩)))⟩
    rintro σ' G2 ⟨rfl, s2, _, f2⟩
    refine ⟨fun σ' G' => σ' = [some (.ref a), some (.ref F), none] ∧ Same H G' ∧ H F = none ∧ G' F = some (.lst ([decide (c = "BadCount"), decide (c = "BadLimit"), decide (c = "HasGiven"), decide (c = "NoShare"), decide (c = "NotCounted"), decide (c = "NotNumber"), decide (c = "NotRow"), decide (c = "NotStraight"), decide (c = "NotTruth"), decide (c = "Nothing"), decide (c = "NoUnknown"), decide (c = "Stale"), decide (c = "TooDeep"), decide (c = "TooMany")].map V.bl)), ?_, ?_⟩
    · simp -dsimp [tSeq, tAsg, tRet, tIfS, tIf, tTest, tVar, tCons, tNil, tC, tOp, tUn, rI, rI0, rU, tCB, tLst_A, tTup_A, gName, L2.start, CMul, CPow, CDiv, tDrop, tBM, tBM0, tNext, tPar, gSub, rSetL, rIxL, rIxT, tChain, tB, tNot, tNotV, tAnd, tOr, tAndV, tOrV, tFld, tCall, rIxLH, rIxTH, atI, ixN, upd_same, cxK, ex2, ex3, ex3b, rEq, rNe, scal]
      exact ⟨.inl ⟨rfl, _, SqL.of f2⟩, (isv_of W hc (s2 _ _ ha) (s2 _ _ hd) (by decide) (isv_of W hc (s2 _ _ ha) (s2 _ _ hd) (by decide) (isv_of W hc (s2 _ _ ha) (s2 _ _ hd) (by decide) (isv_of W hc (s2 _ _ ha) (s2 _ _ hd) (by decide) ⟨by decide, Alloc.of fun Y H1 n1 e1 t1 => ⟨F, Y, _, _, rfl, rfl, t1 _ _ f2, e1, (by show 14 ≤ sizeLine; decide), same_updF (s2.trans t1) nF, nF, by rw [upd_same]; rfl⟩⟩))))⟩
    rintro σ' G3 ⟨rfl, s3, _, f3⟩
    refine ⟨fun σ' G' => σ' = [some (.ref a), some (.ref F), none] ∧ Same H G' ∧ H F = none ∧ G' F = some (.lst ([decide (c = "BadCount"), decide (c = "BadLimit"), decide (c = "HasGiven"), decide (c = "NoShare"), decide (c = "NotCounted"), decide (c = "NotNumber"), decide (c = "NotRow"), decide (c = "NotStraight"), decide (c = "NotTruth"), decide (c = "Nothing"), decide (c = "NoUnknown"), decide (c = "Stale"), decide (c = "TooDeep"), decide (c = "TooMany"), decide (c = "UnlikeCounts"), decide (c = "Wavers")].map V.bl)), ?_, ?_⟩
    · simp -dsimp [tSeq, tAsg, tRet, tIfS, tIf, tTest, tVar, tCons, tNil, tC, tOp, tUn, rI, rI0, rU, tCB, tLst_A, tTup_A, gName, L2.start, CMul, CPow, CDiv, tDrop, tBM, tBM0, tNext, tPar, gSub, rSetL, rIxL, rIxT, tChain, tB, tNot, tNotV, tAnd, tOr, tAndV, tOrV, tFld, tCall, rIxLH, rIxTH, atI, ixN, upd_same, cxK, ex2, ex3, ex3b, rEq, rNe, scal]
      exact ⟨.inl ⟨rfl, _, SqL.of f3⟩, (isv_of W hc (s3 _ _ ha) (s3 _ _ hd) (by decide) (isv_of W hc (s3 _ _ ha) (s3 _ _ hd) (by decide) ⟨by decide, Alloc.of fun Y H1 n1 e1 t1 => ⟨F, Y, _, _, rfl, rfl, t1 _ _ f3, e1, (by show 16 ≤ sizeLine; decide), same_updF (s3.trans t1) nF, nF, by rw [upd_same]; rfl⟩⟩))⟩
    rintro σ' G4 ⟨rfl, s4, _, f4⟩
    simp -dsimp [tSeq, tAsg, tRet, tIfS, tIf, tTest, tVar, tCons, tNil, tC, tOp, tUn, rI, rI0, rU, tCB, tLst_A, tTup_A, gName, L2.start, CMul, CPow, CDiv, tDrop, tBM, tBM0, tNext, tPar, gSub, rSetL, rIxL, rIxT, tChain, tB, tNot, tNotV, tAnd, tOr, tAndV, tOrV, tFld, tCall, rIxLH, rIxTH, atI, ixN, upd_same, cxK, ex2, ex3, ex3b, rEq, rNe, scal]
    refine lc_bl (K := K) F [decide (c = "BadCount"), decide (c = "BadLimit"), decide (c = "HasGiven"), decide (c = "NoShare"), decide (c = "NotCounted"), decide (c = "NotNumber"), decide (c = "NotRow"), decide (c = "NotStraight"), decide (c = "NotTruth"), decide (c = "Nothing"), decide (c = "NoUnknown"), decide (c = "Stale"), decide (c = "TooDeep"), decide (c = "TooMany"), decide (c = "UnlikeCounts"), decide (c = "Wavers")] (by show 16 < 1000; decide) (fun _ => rfl) f4 (fun R h => ⟨_, rfl, h⟩) (fun b H' R s' h => ?_) (fun b H' R s' h => ?_) (fun D H' s' hD => ?_)
    · simp -dsimp [tSeq, tAsg, tRet, tIfS, tIf, tTest, tVar, tCons, tNil, tC, tOp, tUn, rI, rI0, rU, tCB, tLst_A, tTup_A, gName, L2.start, CMul, CPow, CDiv, tDrop, tBM, tBM0, tNext, tPar, gSub, rSetL, rIxL, rIxT, tChain, tB, tNot, tNotV, tAnd, tOr, tAndV, tOrV, tFld, tCall, rIxLH, rIxTH, atI, ixN, upd_same, cxK, ex2, ex3, ex3b, rEq, rNe, scal, wipe]
      cases b
      · exact .inl ⟨rfl, h⟩
      · exact .inr ⟨rfl, h⟩
    · simp -dsimp [tSeq, tAsg, tRet, tIfS, tIf, tTest, tVar, tCons, tNil, tC, tOp, tUn, rI, rI0, rU, tCB, tLst_A, tTup_A, gName, L2.start, CMul, CPow, CDiv, tDrop, tBM, tBM0, tNext, tPar, gSub, rSetL, rIxL, rIxT, tChain, tB, tNot, tNotV, tAnd, tOr, tAndV, tOrV, tFld, tCall, rIxLH, rIxTH, atI, ixN, upd_same, cxK, ex2, ex3, ex3b, rEq, rNe, scal, wipe]
      exact h
    · have cnt : ([decide (c = "BadCount"), decide (c = "BadLimit"), decide (c = "HasGiven"), decide (c = "NoShare"), decide (c = "NotCounted"), decide (c = "NotNumber"), decide (c = "NotRow"), decide (c = "NotStraight"), decide (c = "NotTruth"), decide (c = "Nothing"), decide (c = "NoUnknown"), decide (c = "Stale"), decide (c = "TooDeep"), decide (c = "TooMany"), decide (c = "UnlikeCounts"), decide (c = "Wavers")].filter id).length = 1 := mem_XS (p := fun c => ([decide (c = "BadCount"), decide (c = "BadLimit"), decide (c = "HasGiven"), decide (c = "NoShare"), decide (c = "NotCounted"), decide (c = "NotNumber"), decide (c = "NotRow"), decide (c = "NotStraight"), decide (c = "NotTruth"), decide (c = "Nothing"), decide (c = "NoUnknown"), decide (c = "Stale"), decide (c = "TooDeep"), decide (c = "TooMany"), decide (c = "UnlikeCounts"), decide (c = "Wavers")].filter id).length = 1) hc (by decide) (by decide) (by decide) (by decide) (by decide) (by decide) (by decide) (by decide) (by decide) (by decide) (by decide) (by decide) (by decide) (by decide) (by decide) (by decide)
      exact ⟨1, .inl ⟨_, SqL.of hD, (by rw [List.length_map]; exact cnt.symm)⟩, q H' (s4.trans s')⟩

end
/-- the third of a tuple -/
def third : Expr → Expr
  | .Tuple [_, _, l] _ _ => l
  | e => e
/-- the lambda that the j-th row ends with -/
def lamE (j : Nat) : Expr := match (defBody s_rows)[j]? with
  | some (.Assign _ (.List [t] _) _) => third t
  | some (.Expr (.Call _ [t] _ _) _) => third t
  | _ => .Constant .none 0 default
def lamP : Expr → Arguments
  | .Lambda p _ _ _ => p
  | _ => ⟨[], [], none, [], [], none, []⟩
def lamB : Expr → Expr
  | .Lambda _ b _ _ => b
  | e => e
def lamS : Expr → Scope
  | .Lambda _ _ s _ => s
  | _ => ⟨.function, [], false, false, []⟩
def lamF (c : Addr) (e : Expr) : LF := ⟨"_law_rows.<locals>.<lambda>", lamP e, lamB e, lamS e, [], c⟩
theorem one_of {x : Option V} {us : List V} (h : [x] = us.map some) : ∃ v, us = [v] ∧ x = some v := by
  cases us with
  | nil => cases h
  | cons v r =>
    cases r with
    | nil => exact ⟨v, rfl, (List.cons.inj h).1⟩
    | cons _ _ => cases (List.cons.inj h).2
theorem two_of {x y : Option V} {us : List V} (h : [x, y] = us.map some) : ∃ v v', us = [v, v'] ∧ x = some v ∧ y = some v' := by
  cases us with
  | nil => cases h
  | cons v r =>
    obtain ⟨h1, h2⟩ := List.cons.inj h
    obtain ⟨v', rfl, h3⟩ := one_of h2
    exact ⟨v, v', rfl, h1, h3⟩
/-- what a lambda of the law does: the fields gathered -/
def spLamb (K : PySem.W.Frag) (c : Str) (ns : List Str) : List (Option V) → Sp := fun _ vs H Q _ => ∃ (a d : Addr) (fs : List (Str × V)) (us : List V), vs = [.ref a] ∧ H a = some (exo a (He.ga K c) (some d)) ∧ H d = some (exd d fs) ∧ (ns.map fun n => fs.lookup n) = us.map some ∧ ∀ (D : Addr) (H' : Hp), Same H H' → H' D = some (.lst us) → Q (.ref D) H'
section
variable {P : Program} {w : World} {K : PySem.W.Frag} {mg : Str → Option Value} {base : Heap}
theorem lam_0 (W : Wd K mg) (f c' : Addr) : LOk P w K mg base CX0 1 f (lamF c' (lamE 0)) ["_law_e"] [] (spLamb K "NoShare" ["top"]) := by
  refine lok_of (N := ["_law_e"]) (k := 0) (show NdefX.NScope _ _ _ (lamS (lamE 0)) from NdefX.nscope_by (by decide +kernel)) (fun pm ctv us hl => match us, hl with | [_], _ => rfl) (fun ws vs H Q E h => ?_) (fun A outer s H vs ws Q E hr hf hc lw h => ?_)
  · obtain ⟨_, _, _, _, rfl, _⟩ := h
    rfl
  · obtain ⟨a, d, fl, us, rfl, ha, hd, hu, q⟩ := h
    obtain rfl : ws = [] := List.length_eq_zero_iff.mp lw
    refine ⟨_, (pe_lst (pa_cons (pe_xfV (C := fun x => x = He.ga K "NoShare") (fun x e => by rw [e]; exact (exc_of W (c := "NoShare") (by decide)).2) (fun x e => by rw [e]; exact W.n_NoShare_top) (pv 0)) pa_nil)), ?_⟩
    simp -dsimp [tSeq, tAsg, tRet, tIfS, tIf, tTest, tVar, tCons, tNil, tC, tOp, tUn, rI, rI0, rU, tCB, tLst_A, tTup_A, gName, L2.start, CMul, CPow, CDiv, tDrop, tBM, tBM0, tNext, tPar, gSub, rSetL, rIxL, rIxT, tChain, tB, tNot, tNotV, tAnd, tOr, tAndV, tOrV, tFld, tCall, rIxLH, rIxTH, atI, ixN, upd_same, cxK, ex2, ex3, ex3b, rEq, rNe, scal, tXfV, tLst]
    obtain ⟨v, rfl, hv⟩ : ∃ v, us = [v] ∧ fl.lookup ("top" : Str) = some v := by
      exact one_of hu
    exact ⟨.ref a, rfl, a, rfl, d, ha, fl, hd, v, hv, by decide, fun p np => q p _ (same_upd np) upd_same⟩
theorem lam_1 (W : Wd K mg) (f c' : Addr) : LOk P w K mg base CX0 1 f (lamF c' (lamE 1)) ["_law_e"] [] (spLamb K "NoUnknown" ["k"]) := by
  refine lok_of (N := ["_law_e"]) (k := 0) (show NdefX.NScope _ _ _ (lamS (lamE 1)) from NdefX.nscope_by (by decide +kernel)) (fun pm ctv us hl => match us, hl with | [_], _ => rfl) (fun ws vs H Q E h => ?_) (fun A outer s H vs ws Q E hr hf hc lw h => ?_)
  · obtain ⟨_, _, _, _, rfl, _⟩ := h
    rfl
  · obtain ⟨a, d, fl, us, rfl, ha, hd, hu, q⟩ := h
    obtain rfl : ws = [] := List.length_eq_zero_iff.mp lw
    refine ⟨_, (pe_lst (pa_cons (pe_xfV (C := fun x => x = He.ga K "NoUnknown") (fun x e => by rw [e]; exact (exc_of W (c := "NoUnknown") (by decide)).2) (fun x e => by rw [e]; exact W.n_NoUnknown_k) (pv 0)) pa_nil)), ?_⟩
    simp -dsimp [tSeq, tAsg, tRet, tIfS, tIf, tTest, tVar, tCons, tNil, tC, tOp, tUn, rI, rI0, rU, tCB, tLst_A, tTup_A, gName, L2.start, CMul, CPow, CDiv, tDrop, tBM, tBM0, tNext, tPar, gSub, rSetL, rIxL, rIxT, tChain, tB, tNot, tNotV, tAnd, tOr, tAndV, tOrV, tFld, tCall, rIxLH, rIxTH, atI, ixN, upd_same, cxK, ex2, ex3, ex3b, rEq, rNe, scal, tXfV, tLst]
    obtain ⟨v, rfl, hv⟩ : ∃ v, us = [v] ∧ fl.lookup ("k" : Str) = some v := by
      exact one_of hu
    exact ⟨.ref a, rfl, a, rfl, d, ha, fl, hd, v, hv, by decide, fun p np => q p _ (same_upd np) upd_same⟩
theorem lam_2 (W : Wd K mg) (f c' : Addr) : LOk P w K mg base CX0 1 f (lamF c' (lamE 2)) ["_law_e"] [] (spLamb K "NotStraight" ["left", "right"]) := by
  refine lok_of (N := ["_law_e"]) (k := 0) (show NdefX.NScope _ _ _ (lamS (lamE 2)) from NdefX.nscope_by (by decide +kernel)) (fun pm ctv us hl => match us, hl with | [_], _ => rfl) (fun ws vs H Q E h => ?_) (fun A outer s H vs ws Q E hr hf hc lw h => ?_)
  · obtain ⟨_, _, _, _, rfl, _⟩ := h
    rfl
  · obtain ⟨a, d, fl, us, rfl, ha, hd, hu, q⟩ := h
    obtain rfl : ws = [] := List.length_eq_zero_iff.mp lw
    refine ⟨_, (pe_lst (pa_cons (pe_xfV (C := fun x => x = He.ga K "NotStraight") (fun x e => by rw [e]; exact (exc_of W (c := "NotStraight") (by decide)).2) (fun x e => by rw [e]; exact W.n_NotStraight_left) (pv 0)) (pa_cons (pe_xfV (C := fun x => x = He.ga K "NotStraight") (fun x e => by rw [e]; exact (exc_of W (c := "NotStraight") (by decide)).2) (fun x e => by rw [e]; exact W.n_NotStraight_right) (pv 0)) pa_nil))), ?_⟩
    simp -dsimp [tSeq, tAsg, tRet, tIfS, tIf, tTest, tVar, tCons, tNil, tC, tOp, tUn, rI, rI0, rU, tCB, tLst_A, tTup_A, gName, L2.start, CMul, CPow, CDiv, tDrop, tBM, tBM0, tNext, tPar, gSub, rSetL, rIxL, rIxT, tChain, tB, tNot, tNotV, tAnd, tOr, tAndV, tOrV, tFld, tCall, rIxLH, rIxTH, atI, ixN, upd_same, cxK, ex2, ex3, ex3b, rEq, rNe, scal, tXfV, tLst]
    obtain ⟨v, v', rfl, hv, hv'⟩ : ∃ v v', us = [v, v'] ∧ fl.lookup ("left" : Str) = some v ∧ fl.lookup ("right" : Str) = some v' := by
      exact two_of hu
    exact ⟨.ref a, rfl, a, rfl, d, ha, fl, hd, v, hv, .ref a, rfl, a, rfl, d, ha, fl, hd, v', hv', by decide, fun p np => q p _ (same_upd np) upd_same⟩
theorem lam_3 (W : Wd K mg) (f c' : Addr) : LOk P w K mg base CX0 1 f (lamF c' (lamE 3)) ["_law_e"] [] (spLamb K "NotRow" ["thing"]) := by
  refine lok_of (N := ["_law_e"]) (k := 0) (show NdefX.NScope _ _ _ (lamS (lamE 3)) from NdefX.nscope_by (by decide +kernel)) (fun pm ctv us hl => match us, hl with | [_], _ => rfl) (fun ws vs H Q E h => ?_) (fun A outer s H vs ws Q E hr hf hc lw h => ?_)
  · obtain ⟨_, _, _, _, rfl, _⟩ := h
    rfl
  · obtain ⟨a, d, fl, us, rfl, ha, hd, hu, q⟩ := h
    obtain rfl : ws = [] := List.length_eq_zero_iff.mp lw
    refine ⟨_, (pe_lst (pa_cons (pe_xfV (C := fun x => x = He.ga K "NotRow") (fun x e => by rw [e]; exact (exc_of W (c := "NotRow") (by decide)).2) (fun x e => by rw [e]; exact W.n_NotRow_thing) (pv 0)) pa_nil)), ?_⟩
    simp -dsimp [tSeq, tAsg, tRet, tIfS, tIf, tTest, tVar, tCons, tNil, tC, tOp, tUn, rI, rI0, rU, tCB, tLst_A, tTup_A, gName, L2.start, CMul, CPow, CDiv, tDrop, tBM, tBM0, tNext, tPar, gSub, rSetL, rIxL, rIxT, tChain, tB, tNot, tNotV, tAnd, tOr, tAndV, tOrV, tFld, tCall, rIxLH, rIxTH, atI, ixN, upd_same, cxK, ex2, ex3, ex3b, rEq, rNe, scal, tXfV, tLst]
    obtain ⟨v, rfl, hv⟩ : ∃ v, us = [v] ∧ fl.lookup ("thing" : Str) = some v := by
      exact one_of hu
    exact ⟨.ref a, rfl, a, rfl, d, ha, fl, hd, v, hv, by decide, fun p np => q p _ (same_upd np) upd_same⟩
theorem lam_4 (W : Wd K mg) (f c' : Addr) : LOk P w K mg base CX0 1 f (lamF c' (lamE 4)) ["_law_e"] [] (spLamb K "Nothing" ["rows"]) := by
  refine lok_of (N := ["_law_e"]) (k := 0) (show NdefX.NScope _ _ _ (lamS (lamE 4)) from NdefX.nscope_by (by decide +kernel)) (fun pm ctv us hl => match us, hl with | [_], _ => rfl) (fun ws vs H Q E h => ?_) (fun A outer s H vs ws Q E hr hf hc lw h => ?_)
  · obtain ⟨_, _, _, _, rfl, _⟩ := h
    rfl
  · obtain ⟨a, d, fl, us, rfl, ha, hd, hu, q⟩ := h
    obtain rfl : ws = [] := List.length_eq_zero_iff.mp lw
    refine ⟨_, (pe_lst (pa_cons (pe_xfV (C := fun x => x = He.ga K "Nothing") (fun x e => by rw [e]; exact (exc_of W (c := "Nothing") (by decide)).2) (fun x e => by rw [e]; exact W.n_Nothing_rows) (pv 0)) pa_nil)), ?_⟩
    simp -dsimp [tSeq, tAsg, tRet, tIfS, tIf, tTest, tVar, tCons, tNil, tC, tOp, tUn, rI, rI0, rU, tCB, tLst_A, tTup_A, gName, L2.start, CMul, CPow, CDiv, tDrop, tBM, tBM0, tNext, tPar, gSub, rSetL, rIxL, rIxT, tChain, tB, tNot, tNotV, tAnd, tOr, tAndV, tOrV, tFld, tCall, rIxLH, rIxTH, atI, ixN, upd_same, cxK, ex2, ex3, ex3b, rEq, rNe, scal, tXfV, tLst]
    obtain ⟨v, rfl, hv⟩ : ∃ v, us = [v] ∧ fl.lookup ("rows" : Str) = some v := by
      exact one_of hu
    exact ⟨.ref a, rfl, a, rfl, d, ha, fl, hd, v, hv, by decide, fun p np => q p _ (same_upd np) upd_same⟩
theorem lam_5 (W : Wd K mg) (f c' : Addr) : LOk P w K mg base CX0 1 f (lamF c' (lamE 5)) ["_law_e"] [] (spLamb K "NotCounted" ["point"]) := by
  refine lok_of (N := ["_law_e"]) (k := 0) (show NdefX.NScope _ _ _ (lamS (lamE 5)) from NdefX.nscope_by (by decide +kernel)) (fun pm ctv us hl => match us, hl with | [_], _ => rfl) (fun ws vs H Q E h => ?_) (fun A outer s H vs ws Q E hr hf hc lw h => ?_)
  · obtain ⟨_, _, _, _, rfl, _⟩ := h
    rfl
  · obtain ⟨a, d, fl, us, rfl, ha, hd, hu, q⟩ := h
    obtain rfl : ws = [] := List.length_eq_zero_iff.mp lw
    refine ⟨_, (pe_lst (pa_cons (pe_xfV (C := fun x => x = He.ga K "NotCounted") (fun x e => by rw [e]; exact (exc_of W (c := "NotCounted") (by decide)).2) (fun x e => by rw [e]; exact W.n_NotCounted_point) (pv 0)) pa_nil)), ?_⟩
    simp -dsimp [tSeq, tAsg, tRet, tIfS, tIf, tTest, tVar, tCons, tNil, tC, tOp, tUn, rI, rI0, rU, tCB, tLst_A, tTup_A, gName, L2.start, CMul, CPow, CDiv, tDrop, tBM, tBM0, tNext, tPar, gSub, rSetL, rIxL, rIxT, tChain, tB, tNot, tNotV, tAnd, tOr, tAndV, tOrV, tFld, tCall, rIxLH, rIxTH, atI, ixN, upd_same, cxK, ex2, ex3, ex3b, rEq, rNe, scal, tXfV, tLst]
    obtain ⟨v, rfl, hv⟩ : ∃ v, us = [v] ∧ fl.lookup ("point" : Str) = some v := by
      exact one_of hu
    exact ⟨.ref a, rfl, a, rfl, d, ha, fl, hd, v, hv, by decide, fun p np => q p _ (same_upd np) upd_same⟩
theorem lam_6 (W : Wd K mg) (f c' : Addr) : LOk P w K mg base CX0 1 f (lamF c' (lamE 6)) ["_law_e"] [] (spLamb K "BadCount" ["value"]) := by
  refine lok_of (N := ["_law_e"]) (k := 0) (show NdefX.NScope _ _ _ (lamS (lamE 6)) from NdefX.nscope_by (by decide +kernel)) (fun pm ctv us hl => match us, hl with | [_], _ => rfl) (fun ws vs H Q E h => ?_) (fun A outer s H vs ws Q E hr hf hc lw h => ?_)
  · obtain ⟨_, _, _, _, rfl, _⟩ := h
    rfl
  · obtain ⟨a, d, fl, us, rfl, ha, hd, hu, q⟩ := h
    obtain rfl : ws = [] := List.length_eq_zero_iff.mp lw
    refine ⟨_, (pe_lst (pa_cons (pe_xfV (C := fun x => x = He.ga K "BadCount") (fun x e => by rw [e]; exact (exc_of W (c := "BadCount") (by decide)).2) (fun x e => by rw [e]; exact W.n_BadCount_value) (pv 0)) pa_nil)), ?_⟩
    simp -dsimp [tSeq, tAsg, tRet, tIfS, tIf, tTest, tVar, tCons, tNil, tC, tOp, tUn, rI, rI0, rU, tCB, tLst_A, tTup_A, gName, L2.start, CMul, CPow, CDiv, tDrop, tBM, tBM0, tNext, tPar, gSub, rSetL, rIxL, rIxT, tChain, tB, tNot, tNotV, tAnd, tOr, tAndV, tOrV, tFld, tCall, rIxLH, rIxTH, atI, ixN, upd_same, cxK, ex2, ex3, ex3b, rEq, rNe, scal, tXfV, tLst]
    obtain ⟨v, rfl, hv⟩ : ∃ v, us = [v] ∧ fl.lookup ("value" : Str) = some v := by
      exact one_of hu
    exact ⟨.ref a, rfl, a, rfl, d, ha, fl, hd, v, hv, by decide, fun p np => q p _ (same_upd np) upd_same⟩
theorem lam_7 (W : Wd K mg) (f c' : Addr) : LOk P w K mg base CX0 1 f (lamF c' (lamE 7)) ["_law_e"] [] (spLamb K "BadLimit" ["value"]) := by
  refine lok_of (N := ["_law_e"]) (k := 0) (show NdefX.NScope _ _ _ (lamS (lamE 7)) from NdefX.nscope_by (by decide +kernel)) (fun pm ctv us hl => match us, hl with | [_], _ => rfl) (fun ws vs H Q E h => ?_) (fun A outer s H vs ws Q E hr hf hc lw h => ?_)
  · obtain ⟨_, _, _, _, rfl, _⟩ := h
    rfl
  · obtain ⟨a, d, fl, us, rfl, ha, hd, hu, q⟩ := h
    obtain rfl : ws = [] := List.length_eq_zero_iff.mp lw
    refine ⟨_, (pe_lst (pa_cons (pe_xfV (C := fun x => x = He.ga K "BadLimit") (fun x e => by rw [e]; exact (exc_of W (c := "BadLimit") (by decide)).2) (fun x e => by rw [e]; exact W.n_BadLimit_value) (pv 0)) pa_nil)), ?_⟩
    simp -dsimp [tSeq, tAsg, tRet, tIfS, tIf, tTest, tVar, tCons, tNil, tC, tOp, tUn, rI, rI0, rU, tCB, tLst_A, tTup_A, gName, L2.start, CMul, CPow, CDiv, tDrop, tBM, tBM0, tNext, tPar, gSub, rSetL, rIxL, rIxT, tChain, tB, tNot, tNotV, tAnd, tOr, tAndV, tOrV, tFld, tCall, rIxLH, rIxTH, atI, ixN, upd_same, cxK, ex2, ex3, ex3b, rEq, rNe, scal, tXfV, tLst]
    obtain ⟨v, rfl, hv⟩ : ∃ v, us = [v] ∧ fl.lookup ("value" : Str) = some v := by
      exact one_of hu
    exact ⟨.ref a, rfl, a, rfl, d, ha, fl, hd, v, hv, by decide, fun p np => q p _ (same_upd np) upd_same⟩
theorem lam_8 (W : Wd K mg) (f c' : Addr) : LOk P w K mg base CX0 1 f (lamF c' (lamE 8)) ["_law_e"] [] (spLamb K "TooDeep" ["path"]) := by
  refine lok_of (N := ["_law_e"]) (k := 0) (show NdefX.NScope _ _ _ (lamS (lamE 8)) from NdefX.nscope_by (by decide +kernel)) (fun pm ctv us hl => match us, hl with | [_], _ => rfl) (fun ws vs H Q E h => ?_) (fun A outer s H vs ws Q E hr hf hc lw h => ?_)
  · obtain ⟨_, _, _, _, rfl, _⟩ := h
    rfl
  · obtain ⟨a, d, fl, us, rfl, ha, hd, hu, q⟩ := h
    obtain rfl : ws = [] := List.length_eq_zero_iff.mp lw
    refine ⟨_, (pe_lst (pa_cons (pe_xfV (C := fun x => x = He.ga K "TooDeep") (fun x e => by rw [e]; exact (exc_of W (c := "TooDeep") (by decide)).2) (fun x e => by rw [e]; exact W.n_TooDeep_path) (pv 0)) pa_nil)), ?_⟩
    simp -dsimp [tSeq, tAsg, tRet, tIfS, tIf, tTest, tVar, tCons, tNil, tC, tOp, tUn, rI, rI0, rU, tCB, tLst_A, tTup_A, gName, L2.start, CMul, CPow, CDiv, tDrop, tBM, tBM0, tNext, tPar, gSub, rSetL, rIxL, rIxT, tChain, tB, tNot, tNotV, tAnd, tOr, tAndV, tOrV, tFld, tCall, rIxLH, rIxTH, atI, ixN, upd_same, cxK, ex2, ex3, ex3b, rEq, rNe, scal, tXfV, tLst]
    obtain ⟨v, rfl, hv⟩ : ∃ v, us = [v] ∧ fl.lookup ("path" : Str) = some v := by
      exact one_of hu
    exact ⟨.ref a, rfl, a, rfl, d, ha, fl, hd, v, hv, by decide, fun p np => q p _ (same_upd np) upd_same⟩
theorem lam_9 (W : Wd K mg) (f c' : Addr) : LOk P w K mg base CX0 1 f (lamF c' (lamE 9)) ["_law_e"] [] (spLamb K "TooMany" ["path"]) := by
  refine lok_of (N := ["_law_e"]) (k := 0) (show NdefX.NScope _ _ _ (lamS (lamE 9)) from NdefX.nscope_by (by decide +kernel)) (fun pm ctv us hl => match us, hl with | [_], _ => rfl) (fun ws vs H Q E h => ?_) (fun A outer s H vs ws Q E hr hf hc lw h => ?_)
  · obtain ⟨_, _, _, _, rfl, _⟩ := h
    rfl
  · obtain ⟨a, d, fl, us, rfl, ha, hd, hu, q⟩ := h
    obtain rfl : ws = [] := List.length_eq_zero_iff.mp lw
    refine ⟨_, (pe_lst (pa_cons (pe_xfV (C := fun x => x = He.ga K "TooMany") (fun x e => by rw [e]; exact (exc_of W (c := "TooMany") (by decide)).2) (fun x e => by rw [e]; exact W.n_TooMany_path) (pv 0)) pa_nil)), ?_⟩
    simp -dsimp [tSeq, tAsg, tRet, tIfS, tIf, tTest, tVar, tCons, tNil, tC, tOp, tUn, rI, rI0, rU, tCB, tLst_A, tTup_A, gName, L2.start, CMul, CPow, CDiv, tDrop, tBM, tBM0, tNext, tPar, gSub, rSetL, rIxL, rIxT, tChain, tB, tNot, tNotV, tAnd, tOr, tAndV, tOrV, tFld, tCall, rIxLH, rIxTH, atI, ixN, upd_same, cxK, ex2, ex3, ex3b, rEq, rNe, scal, tXfV, tLst]
    obtain ⟨v, rfl, hv⟩ : ∃ v, us = [v] ∧ fl.lookup ("path" : Str) = some v := by
      exact one_of hu
    exact ⟨.ref a, rfl, a, rfl, d, ha, fl, hd, v, hv, by decide, fun p np => q p _ (same_upd np) upd_same⟩
theorem lam_10 (W : Wd K mg) (f c' : Addr) : LOk P w K mg base CX0 1 f (lamF c' (lamE 10)) ["_law_e"] [] (spLamb K "Wavers" ["path"]) := by
  refine lok_of (N := ["_law_e"]) (k := 0) (show NdefX.NScope _ _ _ (lamS (lamE 10)) from NdefX.nscope_by (by decide +kernel)) (fun pm ctv us hl => match us, hl with | [_], _ => rfl) (fun ws vs H Q E h => ?_) (fun A outer s H vs ws Q E hr hf hc lw h => ?_)
  · obtain ⟨_, _, _, _, rfl, _⟩ := h
    rfl
  · obtain ⟨a, d, fl, us, rfl, ha, hd, hu, q⟩ := h
    obtain rfl : ws = [] := List.length_eq_zero_iff.mp lw
    refine ⟨_, (pe_lst (pa_cons (pe_xfV (C := fun x => x = He.ga K "Wavers") (fun x e => by rw [e]; exact (exc_of W (c := "Wavers") (by decide)).2) (fun x e => by rw [e]; exact W.n_Wavers_path) (pv 0)) pa_nil)), ?_⟩
    simp -dsimp [tSeq, tAsg, tRet, tIfS, tIf, tTest, tVar, tCons, tNil, tC, tOp, tUn, rI, rI0, rU, tCB, tLst_A, tTup_A, gName, L2.start, CMul, CPow, CDiv, tDrop, tBM, tBM0, tNext, tPar, gSub, rSetL, rIxL, rIxT, tChain, tB, tNot, tNotV, tAnd, tOr, tAndV, tOrV, tFld, tCall, rIxLH, rIxTH, atI, ixN, upd_same, cxK, ex2, ex3, ex3b, rEq, rNe, scal, tXfV, tLst]
    obtain ⟨v, rfl, hv⟩ : ∃ v, us = [v] ∧ fl.lookup ("path" : Str) = some v := by
      exact one_of hu
    exact ⟨.ref a, rfl, a, rfl, d, ha, fl, hd, v, hv, by decide, fun p np => q p _ (same_upd np) upd_same⟩
theorem lam_11 (W : Wd K mg) (f c' : Addr) : LOk P w K mg base CX0 1 f (lamF c' (lamE 11)) ["_law_e"] [] (spLamb K "Stale" ["row"]) := by
  refine lok_of (N := ["_law_e"]) (k := 0) (show NdefX.NScope _ _ _ (lamS (lamE 11)) from NdefX.nscope_by (by decide +kernel)) (fun pm ctv us hl => match us, hl with | [_], _ => rfl) (fun ws vs H Q E h => ?_) (fun A outer s H vs ws Q E hr hf hc lw h => ?_)
  · obtain ⟨_, _, _, _, rfl, _⟩ := h
    rfl
  · obtain ⟨a, d, fl, us, rfl, ha, hd, hu, q⟩ := h
    obtain rfl : ws = [] := List.length_eq_zero_iff.mp lw
    refine ⟨_, (pe_lst (pa_cons (pe_xfV (C := fun x => x = He.ga K "Stale") (fun x e => by rw [e]; exact (exc_of W (c := "Stale") (by decide)).2) (fun x e => by rw [e]; exact W.n_Stale_row) (pv 0)) pa_nil)), ?_⟩
    simp -dsimp [tSeq, tAsg, tRet, tIfS, tIf, tTest, tVar, tCons, tNil, tC, tOp, tUn, rI, rI0, rU, tCB, tLst_A, tTup_A, gName, L2.start, CMul, CPow, CDiv, tDrop, tBM, tBM0, tNext, tPar, gSub, rSetL, rIxL, rIxT, tChain, tB, tNot, tNotV, tAnd, tOr, tAndV, tOrV, tFld, tCall, rIxLH, rIxTH, atI, ixN, upd_same, cxK, ex2, ex3, ex3b, rEq, rNe, scal, tXfV, tLst]
    obtain ⟨v, rfl, hv⟩ : ∃ v, us = [v] ∧ fl.lookup ("row" : Str) = some v := by
      exact one_of hu
    exact ⟨.ref a, rfl, a, rfl, d, ha, fl, hd, v, hv, by decide, fun p np => q p _ (same_upd np) upd_same⟩
theorem lam_12 (W : Wd K mg) (f c' : Addr) : LOk P w K mg base CX0 1 f (lamF c' (lamE 12)) ["_law_e"] [] (spLamb K "NotTruth" ["path"]) := by
  refine lok_of (N := ["_law_e"]) (k := 0) (show NdefX.NScope _ _ _ (lamS (lamE 12)) from NdefX.nscope_by (by decide +kernel)) (fun pm ctv us hl => match us, hl with | [_], _ => rfl) (fun ws vs H Q E h => ?_) (fun A outer s H vs ws Q E hr hf hc lw h => ?_)
  · obtain ⟨_, _, _, _, rfl, _⟩ := h
    rfl
  · obtain ⟨a, d, fl, us, rfl, ha, hd, hu, q⟩ := h
    obtain rfl : ws = [] := List.length_eq_zero_iff.mp lw
    refine ⟨_, (pe_lst (pa_cons (pe_xfV (C := fun x => x = He.ga K "NotTruth") (fun x e => by rw [e]; exact (exc_of W (c := "NotTruth") (by decide)).2) (fun x e => by rw [e]; exact W.n_NotTruth_path) (pv 0)) pa_nil)), ?_⟩
    simp -dsimp [tSeq, tAsg, tRet, tIfS, tIf, tTest, tVar, tCons, tNil, tC, tOp, tUn, rI, rI0, rU, tCB, tLst_A, tTup_A, gName, L2.start, CMul, CPow, CDiv, tDrop, tBM, tBM0, tNext, tPar, gSub, rSetL, rIxL, rIxT, tChain, tB, tNot, tNotV, tAnd, tOr, tAndV, tOrV, tFld, tCall, rIxLH, rIxTH, atI, ixN, upd_same, cxK, ex2, ex3, ex3b, rEq, rNe, scal, tXfV, tLst]
    obtain ⟨v, rfl, hv⟩ : ∃ v, us = [v] ∧ fl.lookup ("path" : Str) = some v := by
      exact one_of hu
    exact ⟨.ref a, rfl, a, rfl, d, ha, fl, hd, v, hv, by decide, fun p np => q p _ (same_upd np) upd_same⟩
theorem lam_13 (W : Wd K mg) (f c' : Addr) : LOk P w K mg base CX0 1 f (lamF c' (lamE 13)) ["_law_e"] [] (spLamb K "NotNumber" ["path"]) := by
  refine lok_of (N := ["_law_e"]) (k := 0) (show NdefX.NScope _ _ _ (lamS (lamE 13)) from NdefX.nscope_by (by decide +kernel)) (fun pm ctv us hl => match us, hl with | [_], _ => rfl) (fun ws vs H Q E h => ?_) (fun A outer s H vs ws Q E hr hf hc lw h => ?_)
  · obtain ⟨_, _, _, _, rfl, _⟩ := h
    rfl
  · obtain ⟨a, d, fl, us, rfl, ha, hd, hu, q⟩ := h
    obtain rfl : ws = [] := List.length_eq_zero_iff.mp lw
    refine ⟨_, (pe_lst (pa_cons (pe_xfV (C := fun x => x = He.ga K "NotNumber") (fun x e => by rw [e]; exact (exc_of W (c := "NotNumber") (by decide)).2) (fun x e => by rw [e]; exact W.n_NotNumber_path) (pv 0)) pa_nil)), ?_⟩
    simp -dsimp [tSeq, tAsg, tRet, tIfS, tIf, tTest, tVar, tCons, tNil, tC, tOp, tUn, rI, rI0, rU, tCB, tLst_A, tTup_A, gName, L2.start, CMul, CPow, CDiv, tDrop, tBM, tBM0, tNext, tPar, gSub, rSetL, rIxL, rIxT, tChain, tB, tNot, tNotV, tAnd, tOr, tAndV, tOrV, tFld, tCall, rIxLH, rIxTH, atI, ixN, upd_same, cxK, ex2, ex3, ex3b, rEq, rNe, scal, tXfV, tLst]
    obtain ⟨v, rfl, hv⟩ : ∃ v, us = [v] ∧ fl.lookup ("path" : Str) = some v := by
      exact one_of hu
    exact ⟨.ref a, rfl, a, rfl, d, ha, fl, hd, v, hv, by decide, fun p np => q p _ (same_upd np) upd_same⟩
theorem lam_14 (W : Wd K mg) (f c' : Addr) : LOk P w K mg base CX0 1 f (lamF c' (lamE 14)) ["_law_e"] [] (spLamb K "HasGiven" ["rows"]) := by
  refine lok_of (N := ["_law_e"]) (k := 0) (show NdefX.NScope _ _ _ (lamS (lamE 14)) from NdefX.nscope_by (by decide +kernel)) (fun pm ctv us hl => match us, hl with | [_], _ => rfl) (fun ws vs H Q E h => ?_) (fun A outer s H vs ws Q E hr hf hc lw h => ?_)
  · obtain ⟨_, _, _, _, rfl, _⟩ := h
    rfl
  · obtain ⟨a, d, fl, us, rfl, ha, hd, hu, q⟩ := h
    obtain rfl : ws = [] := List.length_eq_zero_iff.mp lw
    refine ⟨_, (pe_lst (pa_cons (pe_xfV (C := fun x => x = He.ga K "HasGiven") (fun x e => by rw [e]; exact (exc_of W (c := "HasGiven") (by decide)).2) (fun x e => by rw [e]; exact W.n_HasGiven_rows) (pv 0)) pa_nil)), ?_⟩
    simp -dsimp [tSeq, tAsg, tRet, tIfS, tIf, tTest, tVar, tCons, tNil, tC, tOp, tUn, rI, rI0, rU, tCB, tLst_A, tTup_A, gName, L2.start, CMul, CPow, CDiv, tDrop, tBM, tBM0, tNext, tPar, gSub, rSetL, rIxL, rIxT, tChain, tB, tNot, tNotV, tAnd, tOr, tAndV, tOrV, tFld, tCall, rIxLH, rIxTH, atI, ixN, upd_same, cxK, ex2, ex3, ex3b, rEq, rNe, scal, tXfV, tLst]
    obtain ⟨v, rfl, hv⟩ : ∃ v, us = [v] ∧ fl.lookup ("rows" : Str) = some v := by
      exact one_of hu
    exact ⟨.ref a, rfl, a, rfl, d, ha, fl, hd, v, hv, by decide, fun p np => q p _ (same_upd np) upd_same⟩
theorem lam_15 (W : Wd K mg) (f c' : Addr) : LOk P w K mg base CX0 1 f (lamF c' (lamE 15)) ["_law_e"] [] (spLamb K "UnlikeCounts" ["one", "other"]) := by
  refine lok_of (N := ["_law_e"]) (k := 0) (show NdefX.NScope _ _ _ (lamS (lamE 15)) from NdefX.nscope_by (by decide +kernel)) (fun pm ctv us hl => match us, hl with | [_], _ => rfl) (fun ws vs H Q E h => ?_) (fun A outer s H vs ws Q E hr hf hc lw h => ?_)
  · obtain ⟨_, _, _, _, rfl, _⟩ := h
    rfl
  · obtain ⟨a, d, fl, us, rfl, ha, hd, hu, q⟩ := h
    obtain rfl : ws = [] := List.length_eq_zero_iff.mp lw
    refine ⟨_, (pe_lst (pa_cons (pe_xfV (C := fun x => x = He.ga K "UnlikeCounts") (fun x e => by rw [e]; exact (exc_of W (c := "UnlikeCounts") (by decide)).2) (fun x e => by rw [e]; exact W.n_UnlikeCounts_one) (pv 0)) (pa_cons (pe_xfV (C := fun x => x = He.ga K "UnlikeCounts") (fun x e => by rw [e]; exact (exc_of W (c := "UnlikeCounts") (by decide)).2) (fun x e => by rw [e]; exact W.n_UnlikeCounts_other) (pv 0)) pa_nil))), ?_⟩
    simp -dsimp [tSeq, tAsg, tRet, tIfS, tIf, tTest, tVar, tCons, tNil, tC, tOp, tUn, rI, rI0, rU, tCB, tLst_A, tTup_A, gName, L2.start, CMul, CPow, CDiv, tDrop, tBM, tBM0, tNext, tPar, gSub, rSetL, rIxL, rIxT, tChain, tB, tNot, tNotV, tAnd, tOr, tAndV, tOrV, tFld, tCall, rIxLH, rIxTH, atI, ixN, upd_same, cxK, ex2, ex3, ex3b, rEq, rNe, scal, tXfV, tLst]
    obtain ⟨v, v', rfl, hv, hv'⟩ : ∃ v v', us = [v, v'] ∧ fl.lookup ("one" : Str) = some v ∧ fl.lookup ("other" : Str) = some v' := by
      exact two_of hu
    exact ⟨.ref a, rfl, a, rfl, d, ha, fl, hd, v, hv, .ref a, rfl, a, rfl, d, ha, fl, hd, v', hv', by decide, fun p np => q p _ (same_upd np) upd_same⟩
end
open NdefX LamX
/-- a def whose code object is known -/
theorem okC {P : Program} {w : World} {K : PySem.W.Frag} {mg : Str → Option Value} {base : Heap} {CX : CXT} {x qual : Str} {params : Arguments} {body : List Stmt} {scope : Scope} {dvs : List V} {kws : List (Str × V)} {p : Str × Option Str} {fd : FuncData} {N ps : List Str} {k : Nat} {sp : Sp} (F : FunD K x qual params body scope dvs kws (He.fAd K p) fd) (S : FnScope N ps scope) (len : ∀ vs H Q E, sp vs H Q E → vs.length = ps.length)
    (hbody : ∀ (A : Around) (outer : List Env) (s : Shared) (H : Hp) (vs : List V) (Q : VK) (E : XK), Room k (A.deeper (envOfC qual scope s.heap.objs.size (He.fAd K p) (.ref (He.codeOf K p)))) → sp vs H Q E →
      ∃ t, PSs (cxOf CX P w K mg base N qual scope (He.fAd K p) (.ref (He.codeOf K p)) A outer s H E) body t ∧ t { nx := fun _ H' => Q .non H', rt := Q } (start N vs) H) : FnOk P w K mg base CX (k + 1) (He.fAd K p) fd ps sp := by
  obtain ⟨oc, od, dV, kV, doc, pm, an, cdv, ct, osl, rfl, lk, hcd, _, _⟩ := F.ex
  obtain ⟨c, rfl⟩ := He.codeIn_ref hcd
  have e := He.codeOf_eq lk rfl
  subst e
  exact fn_of lk hcd S len fun A outer s H vs Q E hr hsp => hbody A outer s H vs Q E hr hsp
theorem nofree {sc scope : Scope} (h : (scope.names.all fun y => !decide (y.2 = .free)) = true) : ∀ y ∈ scope.names, y.2 = .free → sc.names.lookup y.1 = some .cell ∨ sc.names.lookup y.1 = some .free := fun y hy e => by
  have := List.all_eq_true.mp h y hy
  rw [e] at this
  cases this
/-- the table of the code objects of the law's lambdas -/
def rowsT (Pt : Addr) : List NTab := [(Pt, ((fun _ _ => "_law_rows.<locals>.<lambda>") : Nat → Nat → Str))]
/-- an error of the class c made of us under the names ns -/
def ErV (K : PySem.W.Frag) (H : Hp) (e : Addr) (c : Str) (ns : List Str) (us : List V) : Prop := ∃ (d : Addr) (fs : List (Str × V)), H e = some (exo e (He.ga K c) (some d)) ∧ H d = some (exd d fs) ∧ (ns.map fun n => fs.lookup n) = us.map some
def rowsC : List (Str × List Str) := [("NoShare", ["top"]), ("NoUnknown", ["k"]), ("NotStraight", ["left", "right"]), ("NotRow", ["thing"]), ("Nothing", ["rows"]), ("NotCounted", ["point"]), ("BadCount", ["value"]), ("BadLimit", ["value"]), ("TooDeep", ["path"]), ("TooMany", ["path"]), ("Wavers", ["path"]), ("Stale", ["row"]), ("NotTruth", ["path"]), ("NotNumber", ["path"]), ("HasGiven", ["rows"]), ("UnlikeCounts", ["one", "other"])]
theorem mk_one {K : PySem.W.Frag} {c f : Str} {v : V} {H : Hp} {Q : Addr → Hp → Prop} {E : XK} (hq : ∀ a H', Same H H' → ErV K H' a c [f] [v] → Q a H') : ∀ a, H a = none → SupX.spExc (He.ga K c) f [.ref a, v] (upd H a (exo a (He.ga K c) none)) (fun u H2 => u = .non ∧ Q a H2) E := fun a na => ⟨a, v, rfl, upd_same, fun dx ndx ne => by
  rw [upd_ne ne] at ndx
  refine ⟨rfl, hq a _ (fun b o e => ?_) ⟨dx, [(f, v)], upd_same, ?_, ?_⟩⟩
  · have b1 := ne_of_none e na
    have b2 := ne_of_none e ndx
    rw [upd_ne b1, upd_ne b2, upd_ne b1]
    exact e
  · rw [upd_ne ne, upd_same]
  · show [List.lookup f [(f, v)]] = [some v]
    simp⟩
theorem mk_two {K : PySem.W.Frag} {c f g : Str} {v v' : V} {H : Hp} {Q : Addr → Hp → Prop} {E : XK} (fg : (f == g) = false) (hq : ∀ a H', Same H H' → ErV K H' a c [f, g] [v, v'] → Q a H') : ∀ a, H a = none → SupX.spExc2 (He.ga K c) f g [.ref a, v, v'] (upd H a (exo a (He.ga K c) none)) (fun u H2 => u = .non ∧ Q a H2) E := fun a na => ⟨a, v, v', rfl, upd_same, fun dx ndx ne => by
  rw [upd_ne ne] at ndx
  refine ⟨rfl, hq a _ (fun b o e => ?_) ⟨dx, [(g, v'), (f, v)], upd_same, ?_, ?_⟩⟩
  · have b1 := ne_of_none e na
    have b2 := ne_of_none e ndx
    rw [upd_ne b1, upd_ne b2, upd_ne b1]
    exact e
  · rw [upd_ne ne, upd_same]
  · show [List.lookup f [(g, v'), (f, v)], List.lookup g [(g, v'), (f, v)]] = [some v, some v']
    simp [List.lookup, fg]⟩
/-- all but lists and tables stays -/
def KL (G G' : Hp) : Prop := ∀ b o, G b = some o → (∀ xs, o ≠ .lst xs) → (∀ ps, o ≠ .tbl ps) → G' b = some o
theorem ErV.keep {K : PySem.W.Frag} {G G' : Hp} {e : Addr} {c : Str} {ns : List Str} {us : List V} (h : ErV K G e c ns us) (k : KL G G') : ErV K G' e c ns us := by
  obtain ⟨d, fs, h1, h2, h3⟩ := h
  exact ⟨d, fs, k _ _ h1 (fun xs z => (by cases z)) (fun xs z => (by cases z)), k _ _ h2 (fun xs z => (by cases z)) (fun xs z => (by cases z)), h3⟩
/-- the j-th row: two errors and a lambda -/
def ItemOk (K : PySem.W.Frag) (G : Hp) (va vb : V) (j : Nat) (c : Str) (ns : List Str) (t : Addr) : Prop := ∃ e1 e2 f c', G t = some (.tup [.ref e1, .ref e2, .ref f]) ∧ ErV K G e1 c ns ([va, vb].take ns.length) ∧ ErV K G e2 c ns ([va, vb].take ns.length) ∧ G f = some (LmO f (lamF c' (lamE j))) ∧ G c' = some (CodeO c' "_law_rows.<locals>.<lambda>")
theorem ItemOk.keep {K : PySem.W.Frag} {G G' : Hp} {va vb : V} {j : Nat} {c : Str} {ns : List Str} {t : Addr} (h : ItemOk K G va vb j c ns t) (k : KL G G') : ItemOk K G' va vb j c ns t := by
  obtain ⟨e1, e2, f, c', h1, h2, h3, h4, h5⟩ := h
  exact ⟨e1, e2, f, c', k _ _ h1 (fun xs z => (by cases z)) (fun xs z => (by cases z)), h2.keep k, h3.keep k, k _ _ h4 (fun xs z => (by cases z)) (fun xs z => (by cases z)), k _ _ h5 (fun xs z => (by cases z)) (fun xs z => (by cases z))⟩
/-- the rows so far -/
def ItemsOk (K : PySem.W.Frag) (G : Hp) (va vb : V) (ts : List V) (k : Nat) : Prop := ts.length = k ∧ ∀ (j : Nat) (c : Str) (ns : List Str), j < k → rowsC[j]? = some (c, ns) → ∃ t, ts[j]? = some (.ref t) ∧ ItemOk K G va vb j c ns t
theorem ItemsOk.push {K : PySem.W.Frag} {G G' : Hp} {va vb : V} {ts : List V} {k : Nat} {c : Str} {ns : List Str} {t : Addr} (h : ItemsOk K G va vb ts k) (kl : KL G G') (e : rowsC[k]? = some (c, ns)) (it : ItemOk K G' va vb k c ns t) : ItemsOk K G' va vb (ts ++ [.ref t]) (k + 1) := by
  obtain ⟨hl, h⟩ := h
  refine ⟨by rw [List.length_append, hl]; rfl, fun j c' ns' hj e' => ?_⟩
  by_cases ej : j = k
  · subst ej
    rw [e] at e'
    cases e'
    exact ⟨t, by rw [List.getElem?_append_right (by omega), hl, Nat.sub_self]; rfl, it⟩
  · obtain ⟨t', h1, h2⟩ := h j c' ns' (by omega) e'
    exact ⟨t', by rw [List.getElem?_append_left (by omega)]; exact h1, h2.keep kl⟩
/-- one row more, from the heap G of before to G3 and the tuple's -/
theorem item_of {K : PySem.W.Frag} {Pt : Addr} {G G1 G2 G3 G4 : Hp} {va vb : V} {j : Nat} {c : Str} {ns : List Str} {e1 e2 f c' t : Addr} (s1 : Same G G1) (r1 : ErV K G1 e1 c ns ([va, vb].take ns.length)) (s2 : Same G1 G2) (r2 : ErV K G2 e2 c ns ([va, vb].take ns.length)) (got : LmGot (rowsT Pt) G2 (lamF c' (lamE j)) f G3) (s4 : Same G3 G4) (e4 : G4 t = some (.tup [.ref e1, .ref e2, .ref f])) :
    ItemOk K G4 va vb j c ns t ∧ TabsN (rowsT Pt) G4 ∧ ExtN G G4 ∧ ∀ b, G4 b = Option.none → G b = Option.none := by
  obtain ⟨ex, nn, tb, _, lf, cc⟩ := got
  have back : ∀ {A B : Hp} {b : Addr}, Same A B → B b = Option.none → A b = Option.none := fun {A B b} s n => by
    cases e : A b with
    | none => rfl
    | some o =>
      rw [s _ _ e] at n
      cases n
  have k3 : KL G2 G3 := fun b o e _ n => ex b o e n
  have k4 : KL G3 G4 := fun b o e _ _ => s4 b o e
  have k12 : KL G1 G2 := fun b o e _ _ => s2 b o e
  exact ⟨⟨e1, e2, f, c', e4, ((r1.keep k12).keep k3).keep k4, (r2.keep k3).keep k4, s4 _ _ lf, s4 _ _ cc⟩, tb.ext s4, fun b o e n => s4 _ _ (ex b o (s2 _ _ (s1 _ _ e)) n), fun b n => back s1 (back s2 (nn b (back s4 n)))⟩
theorem tabs_upd {T : List NTab} {G : Hp} {F : Addr} {xs ys : List V} (h : TabsN T G) (hF : G F = some (.lst xs)) : TabsN T (upd G F (.lst ys)) := fun p hp => by
  obtain ⟨ps, h1, h2, h3⟩ := h p hp
  refine ⟨ps, ?_, h2, fun pos cv hc => ?_⟩
  · rw [upd_ne (fun e => by rw [e, hF] at h1; cases h1)]
    exact h1
  · obtain ⟨c, e, hc⟩ := h3 pos cv hc
    refine ⟨c, e, ?_⟩
    rw [upd_ne (fun e => by rw [e, hF] at hc; cases hc)]
    exact hc
theorem kl_upd {G : Hp} {F : Addr} {xs ys : List V} (hF : G F = some (.lst xs)) : KL G (upd G F (.lst ys)) := fun b o e n _ => by
  rw [upd_ne (fun z => by rw [z, hF] at e; exact n xs (Option.some.inj e).symm)]
  exact e
section
variable {P : Program} {w : World} {K : PySem.W.Frag} {mg : Str → Option Value} {base : Heap} {fd : FuncData}
def spRows (K : PySem.W.Frag) (Pt : Addr) : Sp := fun vs H Q _ => ∃ (va vb : V), vs = [va, vb] ∧ TabsN (rowsT Pt) H ∧ ∀ (L : Addr) (H' : Hp) (ts : List V), ExtN H H' → TabsN (rowsT Pt) H' → ts.length = 16 → H' L = some (.lst ts) →
  (∀ (j : Nat) (c : Str) (ns : List Str), rowsC[j]? = some (c, ns) → ∃ t e1 e2 f c', ts[j]? = some (.ref t) ∧ H' t = some (.tup [.ref e1, .ref e2, .ref f]) ∧ ErV K H' e1 c ns ([va, vb].take ns.length) ∧ ErV K H' e2 c ns ([va, vb].take ns.length) ∧ H' f = some (LmO f (lamF c' (lamE j))) ∧ H' c' = some (CodeO c' "_law_rows.<locals>.<lambda>")) → Q (.ref L) H'
theorem scRows : FnScope ["_law_a", "_law_b", "_law_found"] ["_law_a", "_law_b"] d_rows.scope := ⟨rfl, rfl, rfl, by decide +kernel, rfl, by decide +kernel, by decide +kernel⟩
theorem ok_rows (W : Wd K mg) (hP : SupX.PrgOk P) {Pt : Addr} (TB : TabB base mg (He.codeOf K ("_law_rows", none)) Pt) : ∃ fd, FnOk P w K mg base CX0 3 (He.ga K "_law_rows") fd ["_law_a", "_law_b"] (spRows K Pt) ∧ Binds K fd ["_law_a", "_law_b"] [] := by
  obtain ⟨fd_NoShare, G_NoShare, B_NoShare, K_NoShare⟩ := ok_NoShare (P := P) (w := w) (base := base) W hP
  obtain ⟨fd_NoUnknown, G_NoUnknown, B_NoUnknown, K_NoUnknown⟩ := ok_NoUnknown (P := P) (w := w) (base := base) W hP
  obtain ⟨fd_NotStraight, G_NotStraight, B_NotStraight, K_NotStraight⟩ := ok_NotStraight (P := P) (w := w) (base := base) W hP
  obtain ⟨fd_NotRow, G_NotRow, B_NotRow, K_NotRow⟩ := ok_NotRow (P := P) (w := w) (base := base) W hP
  obtain ⟨fd_Nothing, G_Nothing, B_Nothing, K_Nothing⟩ := ok_Nothing (P := P) (w := w) (base := base) W hP
  obtain ⟨fd_NotCounted, G_NotCounted, B_NotCounted, K_NotCounted⟩ := ok_NotCounted (P := P) (w := w) (base := base) W hP
  obtain ⟨fd_BadCount, G_BadCount, B_BadCount, K_BadCount⟩ := ok_BadCount (P := P) (w := w) (base := base) W hP
  obtain ⟨fd_BadLimit, G_BadLimit, B_BadLimit, K_BadLimit⟩ := ok_BadLimit (P := P) (w := w) (base := base) W hP
  obtain ⟨fd_TooDeep, G_TooDeep, B_TooDeep, K_TooDeep⟩ := ok_TooDeep (P := P) (w := w) (base := base) W hP
  obtain ⟨fd_TooMany, G_TooMany, B_TooMany, K_TooMany⟩ := ok_TooMany (P := P) (w := w) (base := base) W hP
  obtain ⟨fd_Wavers, G_Wavers, B_Wavers, K_Wavers⟩ := ok_Wavers (P := P) (w := w) (base := base) W hP
  obtain ⟨fd_Stale, G_Stale, B_Stale, K_Stale⟩ := ok_Stale (P := P) (w := w) (base := base) W hP
  obtain ⟨fd_NotTruth, G_NotTruth, B_NotTruth, K_NotTruth⟩ := ok_NotTruth (P := P) (w := w) (base := base) W hP
  obtain ⟨fd_NotNumber, G_NotNumber, B_NotNumber, K_NotNumber⟩ := ok_NotNumber (P := P) (w := w) (base := base) W hP
  obtain ⟨fd_HasGiven, G_HasGiven, B_HasGiven, K_HasGiven⟩ := ok_HasGiven (P := P) (w := w) (base := base) W hP
  obtain ⟨fd_UnlikeCounts, G_UnlikeCounts, B_UnlikeCounts, K_UnlikeCounts⟩ := ok_UnlikeCounts (P := P) (w := w) (base := base) W hP
  obtain ⟨fd, F⟩ := W.F_rows
  refine ⟨fd, okC (p := ("_law_rows", none)) F scRows (fun vs H Q E h => ?_) (fun A outer s H vs Q E hr h => ?_), FunD.bindsN F fun _ _ _ _ _ _ us hl => match us, hl with | [_, _], _ => rfl⟩
  · obtain ⟨_, _, rfl, _⟩ := h
    rfl
  · obtain ⟨va, vb, rfl, hT, q⟩ := h
    have r1 : Room 2 _ := hr
    refine ⟨_, (C8.pss_cut (ps_set (i := 2) scRows.nd rfl (Or.inl rfl) (pe_lst (pa_cons (pe_tup (pa_cons (pe_oexV (SupX.oexB_ok W.e_oexNoShare) (He.eqO_ok (He.ba W.e_iniNoShare).1) (of_decide_eq_true (He.ba W.e_iniNoShare).2) G_NoShare r1 B_NoShare .nil pass0 rfl W.g_NoShare (pa_cons (pv 0) pa_nil)) (pa_cons (pe_oexK (SupX.oexB_ok W.e_oexNoShare) (He.eqO_ok (He.ba W.e_iniNoShare).1) (of_decide_eq_true (He.ba W.e_iniNoShare).2) G_NoShare r1 K_NoShare pass0 rfl W.g_NoShare (pk_cons (pv 0) pk_nil)) (pa_cons (show PE _ _ (tLamV (rowsT Pt) (fun c' => lamF c' (lamE 0))) from pe_lamV (nm := fun _ _ => "_law_rows.<locals>.<lambda>") TB rfl (List.mem_singleton.mpr rfl) rfl (fun p hp _ => by rw [List.mem_singleton.mp hp]) rfl (nofree (by decide +kernel))) pa_nil)))) pa_nil)))
    (C8.pss_cut (ps_expr (pe_bm PySem.F.plainAttrs_list PySem.F.slot_list_append PySem.F.type_list_append mt_append (pv 2) (pa_cons (pe_tup (pa_cons (pe_oexV (SupX.oexB_ok W.e_oexNoUnknown) (He.eqO_ok (He.ba W.e_iniNoUnknown).1) (of_decide_eq_true (He.ba W.e_iniNoUnknown).2) G_NoUnknown r1 B_NoUnknown .nil pass0 rfl W.g_NoUnknown (pa_cons (pv 0) pa_nil)) (pa_cons (pe_oexK (SupX.oexB_ok W.e_oexNoUnknown) (He.eqO_ok (He.ba W.e_iniNoUnknown).1) (of_decide_eq_true (He.ba W.e_iniNoUnknown).2) G_NoUnknown r1 K_NoUnknown pass0 rfl W.g_NoUnknown (pk_cons (pv 0) pk_nil)) (pa_cons (show PE _ _ (tLamV (rowsT Pt) (fun c' => lamF c' (lamE 1))) from pe_lamV (nm := fun _ _ => "_law_rows.<locals>.<lambda>") TB rfl (List.mem_singleton.mpr rfl) rfl (fun p hp _ => by rw [List.mem_singleton.mp hp]) rfl (nofree (by decide +kernel))) pa_nil)))) pa_nil)))
    (C8.pss_cut (ps_expr (pe_bm PySem.F.plainAttrs_list PySem.F.slot_list_append PySem.F.type_list_append mt_append (pv 2) (pa_cons (pe_tup (pa_cons (pe_oexV (SupX.oexB_ok W.e_oexNotStraight) (He.eqO_ok (He.ba W.e_iniNotStraight).1) (of_decide_eq_true (He.ba W.e_iniNotStraight).2) G_NotStraight r1 B_NotStraight .nil pass0 rfl W.g_NotStraight (pa_cons (pv 0) (pa_cons (pv 1) pa_nil))) (pa_cons (pe_oexK (SupX.oexB_ok W.e_oexNotStraight) (He.eqO_ok (He.ba W.e_iniNotStraight).1) (of_decide_eq_true (He.ba W.e_iniNotStraight).2) G_NotStraight r1 K_NotStraight pass0 rfl W.g_NotStraight (pk_cons (pv 1) (pk_cons (pv 0) pk_nil))) (pa_cons (show PE _ _ (tLamV (rowsT Pt) (fun c' => lamF c' (lamE 2))) from pe_lamV (nm := fun _ _ => "_law_rows.<locals>.<lambda>") TB rfl (List.mem_singleton.mpr rfl) rfl (fun p hp _ => by rw [List.mem_singleton.mp hp]) rfl (nofree (by decide +kernel))) pa_nil)))) pa_nil)))
    (C8.pss_cut (ps_expr (pe_bm PySem.F.plainAttrs_list PySem.F.slot_list_append PySem.F.type_list_append mt_append (pv 2) (pa_cons (pe_tup (pa_cons (pe_oexV (SupX.oexB_ok W.e_oexNotRow) (He.eqO_ok (He.ba W.e_iniNotRow).1) (of_decide_eq_true (He.ba W.e_iniNotRow).2) G_NotRow r1 B_NotRow .nil pass0 rfl W.g_NotRow (pa_cons (pv 0) pa_nil)) (pa_cons (pe_oexK (SupX.oexB_ok W.e_oexNotRow) (He.eqO_ok (He.ba W.e_iniNotRow).1) (of_decide_eq_true (He.ba W.e_iniNotRow).2) G_NotRow r1 K_NotRow pass0 rfl W.g_NotRow (pk_cons (pv 0) pk_nil)) (pa_cons (show PE _ _ (tLamV (rowsT Pt) (fun c' => lamF c' (lamE 3))) from pe_lamV (nm := fun _ _ => "_law_rows.<locals>.<lambda>") TB rfl (List.mem_singleton.mpr rfl) rfl (fun p hp _ => by rw [List.mem_singleton.mp hp]) rfl (nofree (by decide +kernel))) pa_nil)))) pa_nil)))
    (C8.pss_cut (ps_expr (pe_bm PySem.F.plainAttrs_list PySem.F.slot_list_append PySem.F.type_list_append mt_append (pv 2) (pa_cons (pe_tup (pa_cons (pe_oexV (SupX.oexB_ok W.e_oexNothing) (He.eqO_ok (He.ba W.e_iniNothing).1) (of_decide_eq_true (He.ba W.e_iniNothing).2) G_Nothing r1 B_Nothing .nil pass0 rfl W.g_Nothing (pa_cons (pv 0) pa_nil)) (pa_cons (pe_oexK (SupX.oexB_ok W.e_oexNothing) (He.eqO_ok (He.ba W.e_iniNothing).1) (of_decide_eq_true (He.ba W.e_iniNothing).2) G_Nothing r1 K_Nothing pass0 rfl W.g_Nothing (pk_cons (pv 0) pk_nil)) (pa_cons (show PE _ _ (tLamV (rowsT Pt) (fun c' => lamF c' (lamE 4))) from pe_lamV (nm := fun _ _ => "_law_rows.<locals>.<lambda>") TB rfl (List.mem_singleton.mpr rfl) rfl (fun p hp _ => by rw [List.mem_singleton.mp hp]) rfl (nofree (by decide +kernel))) pa_nil)))) pa_nil)))
    (C8.pss_cut (ps_expr (pe_bm PySem.F.plainAttrs_list PySem.F.slot_list_append PySem.F.type_list_append mt_append (pv 2) (pa_cons (pe_tup (pa_cons (pe_oexV (SupX.oexB_ok W.e_oexNotCounted) (He.eqO_ok (He.ba W.e_iniNotCounted).1) (of_decide_eq_true (He.ba W.e_iniNotCounted).2) G_NotCounted r1 B_NotCounted .nil pass0 rfl W.g_NotCounted (pa_cons (pv 0) pa_nil)) (pa_cons (pe_oexK (SupX.oexB_ok W.e_oexNotCounted) (He.eqO_ok (He.ba W.e_iniNotCounted).1) (of_decide_eq_true (He.ba W.e_iniNotCounted).2) G_NotCounted r1 K_NotCounted pass0 rfl W.g_NotCounted (pk_cons (pv 0) pk_nil)) (pa_cons (show PE _ _ (tLamV (rowsT Pt) (fun c' => lamF c' (lamE 5))) from pe_lamV (nm := fun _ _ => "_law_rows.<locals>.<lambda>") TB rfl (List.mem_singleton.mpr rfl) rfl (fun p hp _ => by rw [List.mem_singleton.mp hp]) rfl (nofree (by decide +kernel))) pa_nil)))) pa_nil)))
    (C8.pss_cut (ps_expr (pe_bm PySem.F.plainAttrs_list PySem.F.slot_list_append PySem.F.type_list_append mt_append (pv 2) (pa_cons (pe_tup (pa_cons (pe_oexV (SupX.oexB_ok W.e_oexBadCount) (He.eqO_ok (He.ba W.e_iniBadCount).1) (of_decide_eq_true (He.ba W.e_iniBadCount).2) G_BadCount r1 B_BadCount .nil pass0 rfl W.g_BadCount (pa_cons (pv 0) pa_nil)) (pa_cons (pe_oexK (SupX.oexB_ok W.e_oexBadCount) (He.eqO_ok (He.ba W.e_iniBadCount).1) (of_decide_eq_true (He.ba W.e_iniBadCount).2) G_BadCount r1 K_BadCount pass0 rfl W.g_BadCount (pk_cons (pv 0) pk_nil)) (pa_cons (show PE _ _ (tLamV (rowsT Pt) (fun c' => lamF c' (lamE 6))) from pe_lamV (nm := fun _ _ => "_law_rows.<locals>.<lambda>") TB rfl (List.mem_singleton.mpr rfl) rfl (fun p hp _ => by rw [List.mem_singleton.mp hp]) rfl (nofree (by decide +kernel))) pa_nil)))) pa_nil)))
    (C8.pss_cut (ps_expr (pe_bm PySem.F.plainAttrs_list PySem.F.slot_list_append PySem.F.type_list_append mt_append (pv 2) (pa_cons (pe_tup (pa_cons (pe_oexV (SupX.oexB_ok W.e_oexBadLimit) (He.eqO_ok (He.ba W.e_iniBadLimit).1) (of_decide_eq_true (He.ba W.e_iniBadLimit).2) G_BadLimit r1 B_BadLimit .nil pass0 rfl W.g_BadLimit (pa_cons (pv 0) pa_nil)) (pa_cons (pe_oexK (SupX.oexB_ok W.e_oexBadLimit) (He.eqO_ok (He.ba W.e_iniBadLimit).1) (of_decide_eq_true (He.ba W.e_iniBadLimit).2) G_BadLimit r1 K_BadLimit pass0 rfl W.g_BadLimit (pk_cons (pv 0) pk_nil)) (pa_cons (show PE _ _ (tLamV (rowsT Pt) (fun c' => lamF c' (lamE 7))) from pe_lamV (nm := fun _ _ => "_law_rows.<locals>.<lambda>") TB rfl (List.mem_singleton.mpr rfl) rfl (fun p hp _ => by rw [List.mem_singleton.mp hp]) rfl (nofree (by decide +kernel))) pa_nil)))) pa_nil)))
    (C8.pss_cut (ps_expr (pe_bm PySem.F.plainAttrs_list PySem.F.slot_list_append PySem.F.type_list_append mt_append (pv 2) (pa_cons (pe_tup (pa_cons (pe_oexV (SupX.oexB_ok W.e_oexTooDeep) (He.eqO_ok (He.ba W.e_iniTooDeep).1) (of_decide_eq_true (He.ba W.e_iniTooDeep).2) G_TooDeep r1 B_TooDeep .nil pass0 rfl W.g_TooDeep (pa_cons (pv 0) pa_nil)) (pa_cons (pe_oexK (SupX.oexB_ok W.e_oexTooDeep) (He.eqO_ok (He.ba W.e_iniTooDeep).1) (of_decide_eq_true (He.ba W.e_iniTooDeep).2) G_TooDeep r1 K_TooDeep pass0 rfl W.g_TooDeep (pk_cons (pv 0) pk_nil)) (pa_cons (show PE _ _ (tLamV (rowsT Pt) (fun c' => lamF c' (lamE 8))) from pe_lamV (nm := fun _ _ => "_law_rows.<locals>.<lambda>") TB rfl (List.mem_singleton.mpr rfl) rfl (fun p hp _ => by rw [List.mem_singleton.mp hp]) rfl (nofree (by decide +kernel))) pa_nil)))) pa_nil)))
    (C8.pss_cut (ps_expr (pe_bm PySem.F.plainAttrs_list PySem.F.slot_list_append PySem.F.type_list_append mt_append (pv 2) (pa_cons (pe_tup (pa_cons (pe_oexV (SupX.oexB_ok W.e_oexTooMany) (He.eqO_ok (He.ba W.e_iniTooMany).1) (of_decide_eq_true (He.ba W.e_iniTooMany).2) G_TooMany r1 B_TooMany .nil pass0 rfl W.g_TooMany (pa_cons (pv 0) pa_nil)) (pa_cons (pe_oexK (SupX.oexB_ok W.e_oexTooMany) (He.eqO_ok (He.ba W.e_iniTooMany).1) (of_decide_eq_true (He.ba W.e_iniTooMany).2) G_TooMany r1 K_TooMany pass0 rfl W.g_TooMany (pk_cons (pv 0) pk_nil)) (pa_cons (show PE _ _ (tLamV (rowsT Pt) (fun c' => lamF c' (lamE 9))) from pe_lamV (nm := fun _ _ => "_law_rows.<locals>.<lambda>") TB rfl (List.mem_singleton.mpr rfl) rfl (fun p hp _ => by rw [List.mem_singleton.mp hp]) rfl (nofree (by decide +kernel))) pa_nil)))) pa_nil)))
    (C8.pss_cut (ps_expr (pe_bm PySem.F.plainAttrs_list PySem.F.slot_list_append PySem.F.type_list_append mt_append (pv 2) (pa_cons (pe_tup (pa_cons (pe_oexV (SupX.oexB_ok W.e_oexWavers) (He.eqO_ok (He.ba W.e_iniWavers).1) (of_decide_eq_true (He.ba W.e_iniWavers).2) G_Wavers r1 B_Wavers .nil pass0 rfl W.g_Wavers (pa_cons (pv 0) pa_nil)) (pa_cons (pe_oexK (SupX.oexB_ok W.e_oexWavers) (He.eqO_ok (He.ba W.e_iniWavers).1) (of_decide_eq_true (He.ba W.e_iniWavers).2) G_Wavers r1 K_Wavers pass0 rfl W.g_Wavers (pk_cons (pv 0) pk_nil)) (pa_cons (show PE _ _ (tLamV (rowsT Pt) (fun c' => lamF c' (lamE 10))) from pe_lamV (nm := fun _ _ => "_law_rows.<locals>.<lambda>") TB rfl (List.mem_singleton.mpr rfl) rfl (fun p hp _ => by rw [List.mem_singleton.mp hp]) rfl (nofree (by decide +kernel))) pa_nil)))) pa_nil)))
    (C8.pss_cut (ps_expr (pe_bm PySem.F.plainAttrs_list PySem.F.slot_list_append PySem.F.type_list_append mt_append (pv 2) (pa_cons (pe_tup (pa_cons (pe_oexV (SupX.oexB_ok W.e_oexStale) (He.eqO_ok (He.ba W.e_iniStale).1) (of_decide_eq_true (He.ba W.e_iniStale).2) G_Stale r1 B_Stale .nil pass0 rfl W.g_Stale (pa_cons (pv 0) pa_nil)) (pa_cons (pe_oexK (SupX.oexB_ok W.e_oexStale) (He.eqO_ok (He.ba W.e_iniStale).1) (of_decide_eq_true (He.ba W.e_iniStale).2) G_Stale r1 K_Stale pass0 rfl W.g_Stale (pk_cons (pv 0) pk_nil)) (pa_cons (show PE _ _ (tLamV (rowsT Pt) (fun c' => lamF c' (lamE 11))) from pe_lamV (nm := fun _ _ => "_law_rows.<locals>.<lambda>") TB rfl (List.mem_singleton.mpr rfl) rfl (fun p hp _ => by rw [List.mem_singleton.mp hp]) rfl (nofree (by decide +kernel))) pa_nil)))) pa_nil)))
    (C8.pss_cut (ps_expr (pe_bm PySem.F.plainAttrs_list PySem.F.slot_list_append PySem.F.type_list_append mt_append (pv 2) (pa_cons (pe_tup (pa_cons (pe_oexV (SupX.oexB_ok W.e_oexNotTruth) (He.eqO_ok (He.ba W.e_iniNotTruth).1) (of_decide_eq_true (He.ba W.e_iniNotTruth).2) G_NotTruth r1 B_NotTruth .nil pass0 rfl W.g_NotTruth (pa_cons (pv 0) pa_nil)) (pa_cons (pe_oexK (SupX.oexB_ok W.e_oexNotTruth) (He.eqO_ok (He.ba W.e_iniNotTruth).1) (of_decide_eq_true (He.ba W.e_iniNotTruth).2) G_NotTruth r1 K_NotTruth pass0 rfl W.g_NotTruth (pk_cons (pv 0) pk_nil)) (pa_cons (show PE _ _ (tLamV (rowsT Pt) (fun c' => lamF c' (lamE 12))) from pe_lamV (nm := fun _ _ => "_law_rows.<locals>.<lambda>") TB rfl (List.mem_singleton.mpr rfl) rfl (fun p hp _ => by rw [List.mem_singleton.mp hp]) rfl (nofree (by decide +kernel))) pa_nil)))) pa_nil)))
    (C8.pss_cut (ps_expr (pe_bm PySem.F.plainAttrs_list PySem.F.slot_list_append PySem.F.type_list_append mt_append (pv 2) (pa_cons (pe_tup (pa_cons (pe_oexV (SupX.oexB_ok W.e_oexNotNumber) (He.eqO_ok (He.ba W.e_iniNotNumber).1) (of_decide_eq_true (He.ba W.e_iniNotNumber).2) G_NotNumber r1 B_NotNumber .nil pass0 rfl W.g_NotNumber (pa_cons (pv 0) pa_nil)) (pa_cons (pe_oexK (SupX.oexB_ok W.e_oexNotNumber) (He.eqO_ok (He.ba W.e_iniNotNumber).1) (of_decide_eq_true (He.ba W.e_iniNotNumber).2) G_NotNumber r1 K_NotNumber pass0 rfl W.g_NotNumber (pk_cons (pv 0) pk_nil)) (pa_cons (show PE _ _ (tLamV (rowsT Pt) (fun c' => lamF c' (lamE 13))) from pe_lamV (nm := fun _ _ => "_law_rows.<locals>.<lambda>") TB rfl (List.mem_singleton.mpr rfl) rfl (fun p hp _ => by rw [List.mem_singleton.mp hp]) rfl (nofree (by decide +kernel))) pa_nil)))) pa_nil)))
    (C8.pss_cut (ps_expr (pe_bm PySem.F.plainAttrs_list PySem.F.slot_list_append PySem.F.type_list_append mt_append (pv 2) (pa_cons (pe_tup (pa_cons (pe_oexV (SupX.oexB_ok W.e_oexHasGiven) (He.eqO_ok (He.ba W.e_iniHasGiven).1) (of_decide_eq_true (He.ba W.e_iniHasGiven).2) G_HasGiven r1 B_HasGiven .nil pass0 rfl W.g_HasGiven (pa_cons (pv 0) pa_nil)) (pa_cons (pe_oexK (SupX.oexB_ok W.e_oexHasGiven) (He.eqO_ok (He.ba W.e_iniHasGiven).1) (of_decide_eq_true (He.ba W.e_iniHasGiven).2) G_HasGiven r1 K_HasGiven pass0 rfl W.g_HasGiven (pk_cons (pv 0) pk_nil)) (pa_cons (show PE _ _ (tLamV (rowsT Pt) (fun c' => lamF c' (lamE 14))) from pe_lamV (nm := fun _ _ => "_law_rows.<locals>.<lambda>") TB rfl (List.mem_singleton.mpr rfl) rfl (fun p hp _ => by rw [List.mem_singleton.mp hp]) rfl (nofree (by decide +kernel))) pa_nil)))) pa_nil)))
    (C8.pss_cut (ps_expr (pe_bm PySem.F.plainAttrs_list PySem.F.slot_list_append PySem.F.type_list_append mt_append (pv 2) (pa_cons (pe_tup (pa_cons (pe_oexV (SupX.oexB_ok W.e_oexUnlikeCounts) (He.eqO_ok (He.ba W.e_iniUnlikeCounts).1) (of_decide_eq_true (He.ba W.e_iniUnlikeCounts).2) G_UnlikeCounts r1 B_UnlikeCounts .nil pass0 rfl W.g_UnlikeCounts (pa_cons (pv 0) (pa_cons (pv 1) pa_nil))) (pa_cons (pe_oexK (SupX.oexB_ok W.e_oexUnlikeCounts) (He.eqO_ok (He.ba W.e_iniUnlikeCounts).1) (of_decide_eq_true (He.ba W.e_iniUnlikeCounts).2) G_UnlikeCounts r1 K_UnlikeCounts pass0 rfl W.g_UnlikeCounts (pk_cons (pv 1) (pk_cons (pv 0) pk_nil))) (pa_cons (show PE _ _ (tLamV (rowsT Pt) (fun c' => lamF c' (lamE 15))) from pe_lamV (nm := fun _ _ => "_law_rows.<locals>.<lambda>") TB rfl (List.mem_singleton.mpr rfl) rfl (fun p hp _ => by rw [List.mem_singleton.mp hp]) rfl (nofree (by decide +kernel))) pa_nil)))) pa_nil)))
    (pss_one (ps_ret (pv 2))))))))))))))))))), ?_⟩
    refine ⟨fun σ' G' => ∃ (F : Addr) (ts : List V), σ' = [some va, some vb, some (.ref F)] ∧ ExtN H G' ∧ H F = none ∧ TabsN (rowsT Pt) G' ∧ G' F = some (.lst ts) ∧ ItemsOk K G' va vb ts 1, ?_, ?_⟩
    · simp -dsimp [tSeq, tAsg, tRet, tIfS, tIf, tTest, tVar, tCons, tNil, tC, tOp, tUn, rI, rI0, rU, tCB, tLst_A, tTup_A, gName, L2.start, CMul, CPow, CDiv, tDrop, tBM, tBM0, tNext, tPar, gSub, rSetL, rIxL, rIxT, tChain, tB, tNot, tNotV, tAnd, tOr, tAndV, tOrV, tFld, tCall, rIxLH, rIxTH, atI, ixN, upd_same, cxK, ex2, ex3, ex3b, rEq, rNe, scal]
      refine ⟨va, rfl, (by show 1 ≤ 1000; decide), mk_one fun a1 H1 s1 r1 => ?_⟩
      refine ⟨va, rfl, rfl, mk_one fun a2 H2 s2 r2 => ?_⟩
      refine ⟨(hT.ext s1).ext s2, fun f c' H3 got => ⟨by decide, Alloc.of fun t H4 n4 e4 s4 => ⟨by decide, Alloc.of fun F H5 n5 e5 s5 => ?_⟩⟩⟩
      obtain ⟨it, tb, ex, nn⟩ := item_of (va := va) (vb := vb) (c := "NoShare") (ns := ["top"]) s1 r1 s2 r2 got s4 e4
      have nF : H F = none := nn F n5
      refine ⟨F, rfl, fun b o e n => s5 _ _ (ex b o e n), nF, tb.ext s5, [.ref t], e5, ⟨rfl, fun j c ns hj e => ?_⟩⟩
      obtain rfl : j = 0 := by omega
      cases e
      exact ⟨t, rfl, it.keep fun b o e _ _ => s5 _ _ e⟩
    rintro σ' G0 ⟨F, ts, rfl, ex0, nF, tb0, f0, it0⟩
    refine ⟨fun σ' G' => ∃ (F : Addr) (ts : List V), σ' = [some va, some vb, some (.ref F)] ∧ ExtN H G' ∧ H F = none ∧ TabsN (rowsT Pt) G' ∧ G' F = some (.lst ts) ∧ ItemsOk K G' va vb ts 2, ?_, ?_⟩
    · simp -dsimp [tSeq, tAsg, tRet, tIfS, tIf, tTest, tVar, tCons, tNil, tC, tOp, tUn, rI, rI0, rU, tCB, tLst_A, tTup_A, gName, L2.start, CMul, CPow, CDiv, tDrop, tBM, tBM0, tNext, tPar, gSub, rSetL, rIxL, rIxT, tChain, tB, tNot, tNotV, tAnd, tOr, tAndV, tOrV, tFld, tCall, rIxLH, rIxTH, atI, ixN, upd_same, cxK, ex2, ex3, ex3b, rEq, rNe, scal]
      refine ⟨.inl ⟨rfl, _, SqL.of f0⟩, ?_⟩
      refine ⟨va, rfl, (by show 1 ≤ 1000; decide), mk_one fun a1 H1 s1 r1 => ?_⟩
      refine ⟨va, rfl, rfl, mk_one fun a2 H2 s2 r2 => ?_⟩
      refine ⟨(tb0.ext s1).ext s2, fun f c' H3 got => ⟨by decide, Alloc.of fun t H4 n4 e4 s4 => ?_⟩⟩
      obtain ⟨it, tb, ex, nn⟩ := item_of (va := va) (vb := vb) (c := "NoUnknown") (ns := ["k"]) s1 r1 s2 r2 got s4 e4
      have f4 := ex _ _ f0 (fun ps z => by cases z)
      refine ⟨F, ts, _, rfl, rfl, f4, small1000 (by have := it0.1; omega), ?_⟩
      refine ⟨fun b o e n => ?_, nF, tabs_upd tb f4, ts ++ [.ref t], (by first | rfl | exact upd_same), it0.push (fun b o e n n' => kl_upd f4 b o (ex b o e n') n n') rfl (it.keep (kl_upd f4))⟩
      rw [upd_ne (ne_of_none e nF)]
      exact ex b o (ex0 b o e n) n
    clear tb0 f0 it0 ex0 nF
    rintro σ' G1 ⟨F, ts, rfl, ex1, nF, tb1, f1, it1⟩
    refine ⟨fun σ' G' => ∃ (F : Addr) (ts : List V), σ' = [some va, some vb, some (.ref F)] ∧ ExtN H G' ∧ H F = none ∧ TabsN (rowsT Pt) G' ∧ G' F = some (.lst ts) ∧ ItemsOk K G' va vb ts 3, ?_, ?_⟩
    · simp -dsimp [tSeq, tAsg, tRet, tIfS, tIf, tTest, tVar, tCons, tNil, tC, tOp, tUn, rI, rI0, rU, tCB, tLst_A, tTup_A, gName, L2.start, CMul, CPow, CDiv, tDrop, tBM, tBM0, tNext, tPar, gSub, rSetL, rIxL, rIxT, tChain, tB, tNot, tNotV, tAnd, tOr, tAndV, tOrV, tFld, tCall, rIxLH, rIxTH, atI, ixN, upd_same, cxK, ex2, ex3, ex3b, rEq, rNe, scal]
      refine ⟨.inl ⟨rfl, _, SqL.of f1⟩, ?_⟩
      refine ⟨va, rfl, vb, rfl, (by show 2 ≤ 1000; decide), mk_two rfl fun a1 H1 s1 r1 => ?_⟩
      refine ⟨vb, rfl, va, rfl, rfl, mk_two rfl fun a2 H2 s2 r2 => ?_⟩
      refine ⟨(tb1.ext s1).ext s2, fun f c' H3 got => ⟨by decide, Alloc.of fun t H4 n4 e4 s4 => ?_⟩⟩
      obtain ⟨it, tb, ex, nn⟩ := item_of (va := va) (vb := vb) (c := "NotStraight") (ns := ["left", "right"]) s1 r1 s2 r2 got s4 e4
      have f4 := ex _ _ f1 (fun ps z => by cases z)
      refine ⟨F, ts, _, rfl, rfl, f4, small1000 (by have := it1.1; omega), ?_⟩
      refine ⟨fun b o e n => ?_, nF, tabs_upd tb f4, ts ++ [.ref t], (by first | rfl | exact upd_same), it1.push (fun b o e n n' => kl_upd f4 b o (ex b o e n') n n') rfl (it.keep (kl_upd f4))⟩
      rw [upd_ne (ne_of_none e nF)]
      exact ex b o (ex1 b o e n) n
    clear tb1 f1 it1 ex1 nF
    rintro σ' G2 ⟨F, ts, rfl, ex2, nF, tb2, f2, it2⟩
    refine ⟨fun σ' G' => ∃ (F : Addr) (ts : List V), σ' = [some va, some vb, some (.ref F)] ∧ ExtN H G' ∧ H F = none ∧ TabsN (rowsT Pt) G' ∧ G' F = some (.lst ts) ∧ ItemsOk K G' va vb ts 4, ?_, ?_⟩
    · simp -dsimp [tSeq, tAsg, tRet, tIfS, tIf, tTest, tVar, tCons, tNil, tC, tOp, tUn, rI, rI0, rU, tCB, tLst_A, tTup_A, gName, L2.start, CMul, CPow, CDiv, tDrop, tBM, tBM0, tNext, tPar, gSub, rSetL, rIxL, rIxT, tChain, tB, tNot, tNotV, tAnd, tOr, tAndV, tOrV, tFld, tCall, rIxLH, rIxTH, atI, ixN, upd_same, cxK, ex2, ex3, ex3b, rEq, rNe, scal]
      refine ⟨.inl ⟨rfl, _, SqL.of f2⟩, ?_⟩
      refine ⟨va, rfl, (by show 1 ≤ 1000; decide), mk_one fun a1 H1 s1 r1 => ?_⟩
      refine ⟨va, rfl, rfl, mk_one fun a2 H2 s2 r2 => ?_⟩
      refine ⟨(tb2.ext s1).ext s2, fun f c' H3 got => ⟨by decide, Alloc.of fun t H4 n4 e4 s4 => ?_⟩⟩
      obtain ⟨it, tb, ex, nn⟩ := item_of (va := va) (vb := vb) (c := "NotRow") (ns := ["thing"]) s1 r1 s2 r2 got s4 e4
      have f4 := ex _ _ f2 (fun ps z => by cases z)
      refine ⟨F, ts, _, rfl, rfl, f4, small1000 (by have := it2.1; omega), ?_⟩
      refine ⟨fun b o e n => ?_, nF, tabs_upd tb f4, ts ++ [.ref t], (by first | rfl | exact upd_same), it2.push (fun b o e n n' => kl_upd f4 b o (ex b o e n') n n') rfl (it.keep (kl_upd f4))⟩
      rw [upd_ne (ne_of_none e nF)]
      exact ex b o (ex2 b o e n) n
    clear tb2 f2 it2 ex2 nF
    rintro σ' G3 ⟨F, ts, rfl, ex3, nF, tb3, f3, it3⟩
    refine ⟨fun σ' G' => ∃ (F : Addr) (ts : List V), σ' = [some va, some vb, some (.ref F)] ∧ ExtN H G' ∧ H F = none ∧ TabsN (rowsT Pt) G' ∧ G' F = some (.lst ts) ∧ ItemsOk K G' va vb ts 5, ?_, ?_⟩
    · simp -dsimp [tSeq, tAsg, tRet, tIfS, tIf, tTest, tVar, tCons, tNil, tC, tOp, tUn, rI, rI0, rU, tCB, tLst_A, tTup_A, gName, L2.start, CMul, CPow, CDiv, tDrop, tBM, tBM0, tNext, tPar, gSub, rSetL, rIxL, rIxT, tChain, tB, tNot, tNotV, tAnd, tOr, tAndV, tOrV, tFld, tCall, rIxLH, rIxTH, atI, ixN, upd_same, cxK, ex2, ex3, ex3b, rEq, rNe, scal]
      refine ⟨.inl ⟨rfl, _, SqL.of f3⟩, ?_⟩
      refine ⟨va, rfl, (by show 1 ≤ 1000; decide), mk_one fun a1 H1 s1 r1 => ?_⟩
      refine ⟨va, rfl, rfl, mk_one fun a2 H2 s2 r2 => ?_⟩
      refine ⟨(tb3.ext s1).ext s2, fun f c' H3 got => ⟨by decide, Alloc.of fun t H4 n4 e4 s4 => ?_⟩⟩
      obtain ⟨it, tb, ex, nn⟩ := item_of (va := va) (vb := vb) (c := "Nothing") (ns := ["rows"]) s1 r1 s2 r2 got s4 e4
      have f4 := ex _ _ f3 (fun ps z => by cases z)
      refine ⟨F, ts, _, rfl, rfl, f4, small1000 (by have := it3.1; omega), ?_⟩
      refine ⟨fun b o e n => ?_, nF, tabs_upd tb f4, ts ++ [.ref t], (by first | rfl | exact upd_same), it3.push (fun b o e n n' => kl_upd f4 b o (ex b o e n') n n') rfl (it.keep (kl_upd f4))⟩
      rw [upd_ne (ne_of_none e nF)]
      exact ex b o (ex3 b o e n) n
    clear tb3 f3 it3 ex3 nF
    rintro σ' G4 ⟨F, ts, rfl, ex4, nF, tb4, f4, it4⟩
    refine ⟨fun σ' G' => ∃ (F : Addr) (ts : List V), σ' = [some va, some vb, some (.ref F)] ∧ ExtN H G' ∧ H F = none ∧ TabsN (rowsT Pt) G' ∧ G' F = some (.lst ts) ∧ ItemsOk K G' va vb ts 6, ?_, ?_⟩
    · simp -dsimp [tSeq, tAsg, tRet, tIfS, tIf, tTest, tVar, tCons, tNil, tC, tOp, tUn, rI, rI0, rU, tCB, tLst_A, tTup_A, gName, L2.start, CMul, CPow, CDiv, tDrop, tBM, tBM0, tNext, tPar, gSub, rSetL, rIxL, rIxT, tChain, tB, tNot, tNotV, tAnd, tOr, tAndV, tOrV, tFld, tCall, rIxLH, rIxTH, atI, ixN, upd_same, cxK, ex2, ex3, ex3b, rEq, rNe, scal]
      refine ⟨.inl ⟨rfl, _, SqL.of f4⟩, ?_⟩
      refine ⟨va, rfl, (by show 1 ≤ 1000; decide), mk_one fun a1 H1 s1 r1 => ?_⟩
      refine ⟨va, rfl, rfl, mk_one fun a2 H2 s2 r2 => ?_⟩
      refine ⟨(tb4.ext s1).ext s2, fun f c' H3 got => ⟨by decide, Alloc.of fun t H4 n4 e4 s4 => ?_⟩⟩
      obtain ⟨it, tb, ex, nn⟩ := item_of (va := va) (vb := vb) (c := "NotCounted") (ns := ["point"]) s1 r1 s2 r2 got s4 e4
      have f4 := ex _ _ f4 (fun ps z => by cases z)
      refine ⟨F, ts, _, rfl, rfl, f4, small1000 (by have := it4.1; omega), ?_⟩
      refine ⟨fun b o e n => ?_, nF, tabs_upd tb f4, ts ++ [.ref t], (by first | rfl | exact upd_same), it4.push (fun b o e n n' => kl_upd f4 b o (ex b o e n') n n') rfl (it.keep (kl_upd f4))⟩
      rw [upd_ne (ne_of_none e nF)]
      exact ex b o (ex4 b o e n) n
    clear tb4 f4 it4 ex4 nF
    rintro σ' G5 ⟨F, ts, rfl, ex5, nF, tb5, f5, it5⟩
    refine ⟨fun σ' G' => ∃ (F : Addr) (ts : List V), σ' = [some va, some vb, some (.ref F)] ∧ ExtN H G' ∧ H F = none ∧ TabsN (rowsT Pt) G' ∧ G' F = some (.lst ts) ∧ ItemsOk K G' va vb ts 7, ?_, ?_⟩
    · simp -dsimp [tSeq, tAsg, tRet, tIfS, tIf, tTest, tVar, tCons, tNil, tC, tOp, tUn, rI, rI0, rU, tCB, tLst_A, tTup_A, gName, L2.start, CMul, CPow, CDiv, tDrop, tBM, tBM0, tNext, tPar, gSub, rSetL, rIxL, rIxT, tChain, tB, tNot, tNotV, tAnd, tOr, tAndV, tOrV, tFld, tCall, rIxLH, rIxTH, atI, ixN, upd_same, cxK, ex2, ex3, ex3b, rEq, rNe, scal]
      refine ⟨.inl ⟨rfl, _, SqL.of f5⟩, ?_⟩
      refine ⟨va, rfl, (by show 1 ≤ 1000; decide), mk_one fun a1 H1 s1 r1 => ?_⟩
      refine ⟨va, rfl, rfl, mk_one fun a2 H2 s2 r2 => ?_⟩
      refine ⟨(tb5.ext s1).ext s2, fun f c' H3 got => ⟨by decide, Alloc.of fun t H4 n4 e4 s4 => ?_⟩⟩
      obtain ⟨it, tb, ex, nn⟩ := item_of (va := va) (vb := vb) (c := "BadCount") (ns := ["value"]) s1 r1 s2 r2 got s4 e4
      have f4 := ex _ _ f5 (fun ps z => by cases z)
      refine ⟨F, ts, _, rfl, rfl, f4, small1000 (by have := it5.1; omega), ?_⟩
      refine ⟨fun b o e n => ?_, nF, tabs_upd tb f4, ts ++ [.ref t], (by first | rfl | exact upd_same), it5.push (fun b o e n n' => kl_upd f4 b o (ex b o e n') n n') rfl (it.keep (kl_upd f4))⟩
      rw [upd_ne (ne_of_none e nF)]
      exact ex b o (ex5 b o e n) n
    clear tb5 f5 it5 ex5 nF
    rintro σ' G6 ⟨F, ts, rfl, ex6, nF, tb6, f6, it6⟩
    refine ⟨fun σ' G' => ∃ (F : Addr) (ts : List V), σ' = [some va, some vb, some (.ref F)] ∧ ExtN H G' ∧ H F = none ∧ TabsN (rowsT Pt) G' ∧ G' F = some (.lst ts) ∧ ItemsOk K G' va vb ts 8, ?_, ?_⟩
    · simp -dsimp [tSeq, tAsg, tRet, tIfS, tIf, tTest, tVar, tCons, tNil, tC, tOp, tUn, rI, rI0, rU, tCB, tLst_A, tTup_A, gName, L2.start, CMul, CPow, CDiv, tDrop, tBM, tBM0, tNext, tPar, gSub, rSetL, rIxL, rIxT, tChain, tB, tNot, tNotV, tAnd, tOr, tAndV, tOrV, tFld, tCall, rIxLH, rIxTH, atI, ixN, upd_same, cxK, ex2, ex3, ex3b, rEq, rNe, scal]
      refine ⟨.inl ⟨rfl, _, SqL.of f6⟩, ?_⟩
      refine ⟨va, rfl, (by show 1 ≤ 1000; decide), mk_one fun a1 H1 s1 r1 => ?_⟩
      refine ⟨va, rfl, rfl, mk_one fun a2 H2 s2 r2 => ?_⟩
      refine ⟨(tb6.ext s1).ext s2, fun f c' H3 got => ⟨by decide, Alloc.of fun t H4 n4 e4 s4 => ?_⟩⟩
      obtain ⟨it, tb, ex, nn⟩ := item_of (va := va) (vb := vb) (c := "BadLimit") (ns := ["value"]) s1 r1 s2 r2 got s4 e4
      have f4 := ex _ _ f6 (fun ps z => by cases z)
      refine ⟨F, ts, _, rfl, rfl, f4, small1000 (by have := it6.1; omega), ?_⟩
      refine ⟨fun b o e n => ?_, nF, tabs_upd tb f4, ts ++ [.ref t], (by first | rfl | exact upd_same), it6.push (fun b o e n n' => kl_upd f4 b o (ex b o e n') n n') rfl (it.keep (kl_upd f4))⟩
      rw [upd_ne (ne_of_none e nF)]
      exact ex b o (ex6 b o e n) n
    clear tb6 f6 it6 ex6 nF
    rintro σ' G7 ⟨F, ts, rfl, ex7, nF, tb7, f7, it7⟩
    refine ⟨fun σ' G' => ∃ (F : Addr) (ts : List V), σ' = [some va, some vb, some (.ref F)] ∧ ExtN H G' ∧ H F = none ∧ TabsN (rowsT Pt) G' ∧ G' F = some (.lst ts) ∧ ItemsOk K G' va vb ts 9, ?_, ?_⟩
    · simp -dsimp [tSeq, tAsg, tRet, tIfS, tIf, tTest, tVar, tCons, tNil, tC, tOp, tUn, rI, rI0, rU, tCB, tLst_A, tTup_A, gName, L2.start, CMul, CPow, CDiv, tDrop, tBM, tBM0, tNext, tPar, gSub, rSetL, rIxL, rIxT, tChain, tB, tNot, tNotV, tAnd, tOr, tAndV, tOrV, tFld, tCall, rIxLH, rIxTH, atI, ixN, upd_same, cxK, ex2, ex3, ex3b, rEq, rNe, scal]
      refine ⟨.inl ⟨rfl, _, SqL.of f7⟩, ?_⟩
      refine ⟨va, rfl, (by show 1 ≤ 1000; decide), mk_one fun a1 H1 s1 r1 => ?_⟩
      refine ⟨va, rfl, rfl, mk_one fun a2 H2 s2 r2 => ?_⟩
      refine ⟨(tb7.ext s1).ext s2, fun f c' H3 got => ⟨by decide, Alloc.of fun t H4 n4 e4 s4 => ?_⟩⟩
      obtain ⟨it, tb, ex, nn⟩ := item_of (va := va) (vb := vb) (c := "TooDeep") (ns := ["path"]) s1 r1 s2 r2 got s4 e4
      have f4 := ex _ _ f7 (fun ps z => by cases z)
      refine ⟨F, ts, _, rfl, rfl, f4, small1000 (by have := it7.1; omega), ?_⟩
      refine ⟨fun b o e n => ?_, nF, tabs_upd tb f4, ts ++ [.ref t], (by first | rfl | exact upd_same), it7.push (fun b o e n n' => kl_upd f4 b o (ex b o e n') n n') rfl (it.keep (kl_upd f4))⟩
      rw [upd_ne (ne_of_none e nF)]
      exact ex b o (ex7 b o e n) n
    clear tb7 f7 it7 ex7 nF
    rintro σ' G8 ⟨F, ts, rfl, ex8, nF, tb8, f8, it8⟩
    refine ⟨fun σ' G' => ∃ (F : Addr) (ts : List V), σ' = [some va, some vb, some (.ref F)] ∧ ExtN H G' ∧ H F = none ∧ TabsN (rowsT Pt) G' ∧ G' F = some (.lst ts) ∧ ItemsOk K G' va vb ts 10, ?_, ?_⟩
    · simp -dsimp [tSeq, tAsg, tRet, tIfS, tIf, tTest, tVar, tCons, tNil, tC, tOp, tUn, rI, rI0, rU, tCB, tLst_A, tTup_A, gName, L2.start, CMul, CPow, CDiv, tDrop, tBM, tBM0, tNext, tPar, gSub, rSetL, rIxL, rIxT, tChain, tB, tNot, tNotV, tAnd, tOr, tAndV, tOrV, tFld, tCall, rIxLH, rIxTH, atI, ixN, upd_same, cxK, ex2, ex3, ex3b, rEq, rNe, scal]
      refine ⟨.inl ⟨rfl, _, SqL.of f8⟩, ?_⟩
      refine ⟨va, rfl, (by show 1 ≤ 1000; decide), mk_one fun a1 H1 s1 r1 => ?_⟩
      refine ⟨va, rfl, rfl, mk_one fun a2 H2 s2 r2 => ?_⟩
      refine ⟨(tb8.ext s1).ext s2, fun f c' H3 got => ⟨by decide, Alloc.of fun t H4 n4 e4 s4 => ?_⟩⟩
      obtain ⟨it, tb, ex, nn⟩ := item_of (va := va) (vb := vb) (c := "TooMany") (ns := ["path"]) s1 r1 s2 r2 got s4 e4
      have f4 := ex _ _ f8 (fun ps z => by cases z)
      refine ⟨F, ts, _, rfl, rfl, f4, small1000 (by have := it8.1; omega), ?_⟩
      refine ⟨fun b o e n => ?_, nF, tabs_upd tb f4, ts ++ [.ref t], (by first | rfl | exact upd_same), it8.push (fun b o e n n' => kl_upd f4 b o (ex b o e n') n n') rfl (it.keep (kl_upd f4))⟩
      rw [upd_ne (ne_of_none e nF)]
      exact ex b o (ex8 b o e n) n
    clear tb8 f8 it8 ex8 nF
    rintro σ' G9 ⟨F, ts, rfl, ex9, nF, tb9, f9, it9⟩
    refine ⟨fun σ' G' => ∃ (F : Addr) (ts : List V), σ' = [some va, some vb, some (.ref F)] ∧ ExtN H G' ∧ H F = none ∧ TabsN (rowsT Pt) G' ∧ G' F = some (.lst ts) ∧ ItemsOk K G' va vb ts 11, ?_, ?_⟩
    · simp -dsimp [tSeq, tAsg, tRet, tIfS, tIf, tTest, tVar, tCons, tNil, tC, tOp, tUn, rI, rI0, rU, tCB, tLst_A, tTup_A, gName, L2.start, CMul, CPow, CDiv, tDrop, tBM, tBM0, tNext, tPar, gSub, rSetL, rIxL, rIxT, tChain, tB, tNot, tNotV, tAnd, tOr, tAndV, tOrV, tFld, tCall, rIxLH, rIxTH, atI, ixN, upd_same, cxK, ex2, ex3, ex3b, rEq, rNe, scal]
      refine ⟨.inl ⟨rfl, _, SqL.of f9⟩, ?_⟩
      refine ⟨va, rfl, (by show 1 ≤ 1000; decide), mk_one fun a1 H1 s1 r1 => ?_⟩
      refine ⟨va, rfl, rfl, mk_one fun a2 H2 s2 r2 => ?_⟩
      refine ⟨(tb9.ext s1).ext s2, fun f c' H3 got => ⟨by decide, Alloc.of fun t H4 n4 e4 s4 => ?_⟩⟩
      obtain ⟨it, tb, ex, nn⟩ := item_of (va := va) (vb := vb) (c := "Wavers") (ns := ["path"]) s1 r1 s2 r2 got s4 e4
      have f4 := ex _ _ f9 (fun ps z => by cases z)
      refine ⟨F, ts, _, rfl, rfl, f4, small1000 (by have := it9.1; omega), ?_⟩
      refine ⟨fun b o e n => ?_, nF, tabs_upd tb f4, ts ++ [.ref t], (by first | rfl | exact upd_same), it9.push (fun b o e n n' => kl_upd f4 b o (ex b o e n') n n') rfl (it.keep (kl_upd f4))⟩
      rw [upd_ne (ne_of_none e nF)]
      exact ex b o (ex9 b o e n) n
    clear tb9 f9 it9 ex9 nF
    rintro σ' G10 ⟨F, ts, rfl, ex10, nF, tb10, f10, it10⟩
    refine ⟨fun σ' G' => ∃ (F : Addr) (ts : List V), σ' = [some va, some vb, some (.ref F)] ∧ ExtN H G' ∧ H F = none ∧ TabsN (rowsT Pt) G' ∧ G' F = some (.lst ts) ∧ ItemsOk K G' va vb ts 12, ?_, ?_⟩
    · simp -dsimp [tSeq, tAsg, tRet, tIfS, tIf, tTest, tVar, tCons, tNil, tC, tOp, tUn, rI, rI0, rU, tCB, tLst_A, tTup_A, gName, L2.start, CMul, CPow, CDiv, tDrop, tBM, tBM0, tNext, tPar, gSub, rSetL, rIxL, rIxT, tChain, tB, tNot, tNotV, tAnd, tOr, tAndV, tOrV, tFld, tCall, rIxLH, rIxTH, atI, ixN, upd_same, cxK, ex2, ex3, ex3b, rEq, rNe, scal]
      refine ⟨.inl ⟨rfl, _, SqL.of f10⟩, ?_⟩
      refine ⟨va, rfl, (by show 1 ≤ 1000; decide), mk_one fun a1 H1 s1 r1 => ?_⟩
      refine ⟨va, rfl, rfl, mk_one fun a2 H2 s2 r2 => ?_⟩
      refine ⟨(tb10.ext s1).ext s2, fun f c' H3 got => ⟨by decide, Alloc.of fun t H4 n4 e4 s4 => ?_⟩⟩
      obtain ⟨it, tb, ex, nn⟩ := item_of (va := va) (vb := vb) (c := "Stale") (ns := ["row"]) s1 r1 s2 r2 got s4 e4
      have f4 := ex _ _ f10 (fun ps z => by cases z)
      refine ⟨F, ts, _, rfl, rfl, f4, small1000 (by have := it10.1; omega), ?_⟩
      refine ⟨fun b o e n => ?_, nF, tabs_upd tb f4, ts ++ [.ref t], (by first | rfl | exact upd_same), it10.push (fun b o e n n' => kl_upd f4 b o (ex b o e n') n n') rfl (it.keep (kl_upd f4))⟩
      rw [upd_ne (ne_of_none e nF)]
      exact ex b o (ex10 b o e n) n
    clear tb10 f10 it10 ex10 nF
    rintro σ' G11 ⟨F, ts, rfl, ex11, nF, tb11, f11, it11⟩
    refine ⟨fun σ' G' => ∃ (F : Addr) (ts : List V), σ' = [some va, some vb, some (.ref F)] ∧ ExtN H G' ∧ H F = none ∧ TabsN (rowsT Pt) G' ∧ G' F = some (.lst ts) ∧ ItemsOk K G' va vb ts 13, ?_, ?_⟩
    · simp -dsimp [tSeq, tAsg, tRet, tIfS, tIf, tTest, tVar, tCons, tNil, tC, tOp, tUn, rI, rI0, rU, tCB, tLst_A, tTup_A, gName, L2.start, CMul, CPow, CDiv, tDrop, tBM, tBM0, tNext, tPar, gSub, rSetL, rIxL, rIxT, tChain, tB, tNot, tNotV, tAnd, tOr, tAndV, tOrV, tFld, tCall, rIxLH, rIxTH, atI, ixN, upd_same, cxK, ex2, ex3, ex3b, rEq, rNe, scal]
      refine ⟨.inl ⟨rfl, _, SqL.of f11⟩, ?_⟩
      refine ⟨va, rfl, (by show 1 ≤ 1000; decide), mk_one fun a1 H1 s1 r1 => ?_⟩
      refine ⟨va, rfl, rfl, mk_one fun a2 H2 s2 r2 => ?_⟩
      refine ⟨(tb11.ext s1).ext s2, fun f c' H3 got => ⟨by decide, Alloc.of fun t H4 n4 e4 s4 => ?_⟩⟩
      obtain ⟨it, tb, ex, nn⟩ := item_of (va := va) (vb := vb) (c := "NotTruth") (ns := ["path"]) s1 r1 s2 r2 got s4 e4
      have f4 := ex _ _ f11 (fun ps z => by cases z)
      refine ⟨F, ts, _, rfl, rfl, f4, small1000 (by have := it11.1; omega), ?_⟩
      refine ⟨fun b o e n => ?_, nF, tabs_upd tb f4, ts ++ [.ref t], (by first | rfl | exact upd_same), it11.push (fun b o e n n' => kl_upd f4 b o (ex b o e n') n n') rfl (it.keep (kl_upd f4))⟩
      rw [upd_ne (ne_of_none e nF)]
      exact ex b o (ex11 b o e n) n
    clear tb11 f11 it11 ex11 nF
    rintro σ' G12 ⟨F, ts, rfl, ex12, nF, tb12, f12, it12⟩
    refine ⟨fun σ' G' => ∃ (F : Addr) (ts : List V), σ' = [some va, some vb, some (.ref F)] ∧ ExtN H G' ∧ H F = none ∧ TabsN (rowsT Pt) G' ∧ G' F = some (.lst ts) ∧ ItemsOk K G' va vb ts 14, ?_, ?_⟩
    · simp -dsimp [tSeq, tAsg, tRet, tIfS, tIf, tTest, tVar, tCons, tNil, tC, tOp, tUn, rI, rI0, rU, tCB, tLst_A, tTup_A, gName, L2.start, CMul, CPow, CDiv, tDrop, tBM, tBM0, tNext, tPar, gSub, rSetL, rIxL, rIxT, tChain, tB, tNot, tNotV, tAnd, tOr, tAndV, tOrV, tFld, tCall, rIxLH, rIxTH, atI, ixN, upd_same, cxK, ex2, ex3, ex3b, rEq, rNe, scal]
      refine ⟨.inl ⟨rfl, _, SqL.of f12⟩, ?_⟩
      refine ⟨va, rfl, (by show 1 ≤ 1000; decide), mk_one fun a1 H1 s1 r1 => ?_⟩
      refine ⟨va, rfl, rfl, mk_one fun a2 H2 s2 r2 => ?_⟩
      refine ⟨(tb12.ext s1).ext s2, fun f c' H3 got => ⟨by decide, Alloc.of fun t H4 n4 e4 s4 => ?_⟩⟩
      obtain ⟨it, tb, ex, nn⟩ := item_of (va := va) (vb := vb) (c := "NotNumber") (ns := ["path"]) s1 r1 s2 r2 got s4 e4
      have f4 := ex _ _ f12 (fun ps z => by cases z)
      refine ⟨F, ts, _, rfl, rfl, f4, small1000 (by have := it12.1; omega), ?_⟩
      refine ⟨fun b o e n => ?_, nF, tabs_upd tb f4, ts ++ [.ref t], (by first | rfl | exact upd_same), it12.push (fun b o e n n' => kl_upd f4 b o (ex b o e n') n n') rfl (it.keep (kl_upd f4))⟩
      rw [upd_ne (ne_of_none e nF)]
      exact ex b o (ex12 b o e n) n
    clear tb12 f12 it12 ex12 nF
    rintro σ' G13 ⟨F, ts, rfl, ex13, nF, tb13, f13, it13⟩
    refine ⟨fun σ' G' => ∃ (F : Addr) (ts : List V), σ' = [some va, some vb, some (.ref F)] ∧ ExtN H G' ∧ H F = none ∧ TabsN (rowsT Pt) G' ∧ G' F = some (.lst ts) ∧ ItemsOk K G' va vb ts 15, ?_, ?_⟩
    · simp -dsimp [tSeq, tAsg, tRet, tIfS, tIf, tTest, tVar, tCons, tNil, tC, tOp, tUn, rI, rI0, rU, tCB, tLst_A, tTup_A, gName, L2.start, CMul, CPow, CDiv, tDrop, tBM, tBM0, tNext, tPar, gSub, rSetL, rIxL, rIxT, tChain, tB, tNot, tNotV, tAnd, tOr, tAndV, tOrV, tFld, tCall, rIxLH, rIxTH, atI, ixN, upd_same, cxK, ex2, ex3, ex3b, rEq, rNe, scal]
      refine ⟨.inl ⟨rfl, _, SqL.of f13⟩, ?_⟩
      refine ⟨va, rfl, (by show 1 ≤ 1000; decide), mk_one fun a1 H1 s1 r1 => ?_⟩
      refine ⟨va, rfl, rfl, mk_one fun a2 H2 s2 r2 => ?_⟩
      refine ⟨(tb13.ext s1).ext s2, fun f c' H3 got => ⟨by decide, Alloc.of fun t H4 n4 e4 s4 => ?_⟩⟩
      obtain ⟨it, tb, ex, nn⟩ := item_of (va := va) (vb := vb) (c := "HasGiven") (ns := ["rows"]) s1 r1 s2 r2 got s4 e4
      have f4 := ex _ _ f13 (fun ps z => by cases z)
      refine ⟨F, ts, _, rfl, rfl, f4, small1000 (by have := it13.1; omega), ?_⟩
      refine ⟨fun b o e n => ?_, nF, tabs_upd tb f4, ts ++ [.ref t], (by first | rfl | exact upd_same), it13.push (fun b o e n n' => kl_upd f4 b o (ex b o e n') n n') rfl (it.keep (kl_upd f4))⟩
      rw [upd_ne (ne_of_none e nF)]
      exact ex b o (ex13 b o e n) n
    clear tb13 f13 it13 ex13 nF
    rintro σ' G14 ⟨F, ts, rfl, ex14, nF, tb14, f14, it14⟩
    refine ⟨fun σ' G' => ∃ (F : Addr) (ts : List V), σ' = [some va, some vb, some (.ref F)] ∧ ExtN H G' ∧ H F = none ∧ TabsN (rowsT Pt) G' ∧ G' F = some (.lst ts) ∧ ItemsOk K G' va vb ts 16, ?_, ?_⟩
    · simp -dsimp [tSeq, tAsg, tRet, tIfS, tIf, tTest, tVar, tCons, tNil, tC, tOp, tUn, rI, rI0, rU, tCB, tLst_A, tTup_A, gName, L2.start, CMul, CPow, CDiv, tDrop, tBM, tBM0, tNext, tPar, gSub, rSetL, rIxL, rIxT, tChain, tB, tNot, tNotV, tAnd, tOr, tAndV, tOrV, tFld, tCall, rIxLH, rIxTH, atI, ixN, upd_same, cxK, ex2, ex3, ex3b, rEq, rNe, scal]
      refine ⟨.inl ⟨rfl, _, SqL.of f14⟩, ?_⟩
      refine ⟨va, rfl, vb, rfl, (by show 2 ≤ 1000; decide), mk_two rfl fun a1 H1 s1 r1 => ?_⟩
      refine ⟨vb, rfl, va, rfl, rfl, mk_two rfl fun a2 H2 s2 r2 => ?_⟩
      refine ⟨(tb14.ext s1).ext s2, fun f c' H3 got => ⟨by decide, Alloc.of fun t H4 n4 e4 s4 => ?_⟩⟩
      obtain ⟨it, tb, ex, nn⟩ := item_of (va := va) (vb := vb) (c := "UnlikeCounts") (ns := ["one", "other"]) s1 r1 s2 r2 got s4 e4
      have f4 := ex _ _ f14 (fun ps z => by cases z)
      refine ⟨F, ts, _, rfl, rfl, f4, small1000 (by have := it14.1; omega), ?_⟩
      refine ⟨fun b o e n => ?_, nF, tabs_upd tb f4, ts ++ [.ref t], (by first | rfl | exact upd_same), it14.push (fun b o e n n' => kl_upd f4 b o (ex b o e n') n n') rfl (it.keep (kl_upd f4))⟩
      rw [upd_ne (ne_of_none e nF)]
      exact ex b o (ex14 b o e n) n
    clear tb14 f14 it14 ex14 nF
    rintro σ' G15 ⟨F, ts, rfl, ex15, nF, tb15, f15, it15⟩
    simp -dsimp [tSeq, tAsg, tRet, tIfS, tIf, tTest, tVar, tCons, tNil, tC, tOp, tUn, rI, rI0, rU, tCB, tLst_A, tTup_A, gName, L2.start, CMul, CPow, CDiv, tDrop, tBM, tBM0, tNext, tPar, gSub, rSetL, rIxL, rIxT, tChain, tB, tNot, tNotV, tAnd, tOr, tAndV, tOrV, tFld, tCall, rIxLH, rIxTH, atI, ixN, upd_same, cxK, ex2, ex3, ex3b, rEq, rNe, scal]
    refine q F G15 ts ex15 tb15 it15.1 f15 fun j c ns e => ?_
    have hj : j < 16 := (List.getElem?_eq_some_iff.mp e).1
    obtain ⟨t, h1, e1, e2, f, c', h2⟩ := it15.2 j c ns hj e
    exact ⟨t, e1, e2, f, c', h1, h2⟩
end
open NdefX LamX
/-- != of two lists that hold the same -/
def rNeS : R2 := fun x y H Q => ∃ (a b : Addr) (xs : List V), x = .ref a ∧ y = .ref b ∧ H a = some (.lst xs) ∧ H b = some (.lst xs) ∧ (∀ v ∈ xs, flatB v = true ∨ ∃ c, v = .ref c) ∧ Q (.bl false) H
theorem op_neS {X : Cx} (hu : X.A.units + 64 < cLine) : OpR X (compareOp .NotEq) rNeS := by
  intro pins s σ H x y v u Q I rx ry h
  obtain ⟨a, b, xs, rfl, rfl, ha, hb, f, q⟩ := h
  cases (show v = Value.ref a from rx)
  cases (show u = Value.ref b from ry)
  obtain ⟨us, r1, p1, _⟩ := I.list (SqL.of ha)
  obtain ⟨ws, r2, p2, _⟩ := I.list (SqL.of hb)
  have l1 := r1.length
  have l2 := r2.length
  refine SeqAt.RcNeAt.lists (e := fun _ => true) p1.isList p2.isList (by rw [List.size_toArray, List.size_toArray]; omega) (by omega) (fun j h1 h2 => ?_) X.prog X.w _ _ ?_
  · have hj : j < xs.length := by
      rw [List.size_toArray] at h1
      omega
    have hx : xs[j]? = some xs[j] := List.getElem?_eq_getElem hj
    obtain ⟨w1, e1, q1⟩ := r1.get hx
    obtain ⟨w2, e2, q2⟩ := r2.get hx
    have k1 : us.toArray[j] = w1 := by
      have := (List.getElem?_eq_some_iff.mp e1).2
      simpa using this
    have k2 : ws.toArray[j] = w2 := by
      have := (List.getElem?_eq_some_iff.mp e2).2
      simpa using this
    rw [k1, k2]
    rcases f xs[j] (List.getElem_mem hj) with k | ⟨c, k⟩
    · exact eqAt_same q1 q2 k
    · rw [k] at q1 q2
      cases (show w1 = Value.ref c from q1)
      cases (show w2 = Value.ref c from q2)
      exact SeqAt.EqAt.same _
  · rw [show ((List.range us.toArray.size).all fun _ => true) = true from List.all_eq_true.mpr fun _ _ => rfl]
    exact ⟨.bl false, H, I, rfl, q⟩
def ForW (K : PySem.W.Frag) (a : Addr) (g : TG) (tb : TS) (D : Ends) (σ : List (Option V)) (H : Hp) (_ : Lk (g, tb, D) := ⟨⟩) : Prop :=
  ∃ W : Nat → Nat → List (Option V) → Hp → Prop, (∃ m, W 0 m σ H) ∧ ∀ i m σ H, W i m σ H → ((Itl K a).stop i H ∧ D.nx σ H) ∨ ((Itl K a).go i H ∧ ∃ N : List (Option V) → Hp → Prop, (∀ σ' H', N σ' H' → ∃ m', m' < m ∧ W (i + 1) m' σ' H') ∧ ∀ x H', (Itl K a).yld i H x H' → g x σ H' fun σ2 H2 => tb { D with nx := N, ct := N, bk := D.nx } σ2 H2)
theorem tFor_iL {K : PySem.W.Frag} {tl : TE} {g : TG} {tb : TS} {D : Ends} {σ : List (Option V)} {H : Hp} : tFor (iList K tl) g tb D σ H = tl σ H fun x H1 => ∃ a, x = .ref a ∧ (∃ xs, SqL K H1 a xs) ∧ ForW K a g tb D σ H1 := rfl
def ForT (K : PySem.W.Frag) (a : Addr) (g : TG) (tb : TS) (D : Ends) (σ : List (Option V)) (H : Hp) (_ : Lk (g, tb, D) := ⟨⟩) : Prop :=
  ∃ W : Nat → Nat → List (Option V) → Hp → Prop, (∃ m, W 0 m σ H) ∧ ∀ i m σ H, W i m σ H → ((Itt K a).stop i H ∧ D.nx σ H) ∨ ((Itt K a).go i H ∧ ∃ N : List (Option V) → Hp → Prop, (∀ σ' H', N σ' H' → ∃ m', m' < m ∧ W (i + 1) m' σ' H') ∧ ∀ x H', (Itt K a).yld i H x H' → g x σ H' fun σ2 H2 => tb { D with nx := N, ct := N, bk := D.nx } σ2 H2)
theorem tFor_iT {K : PySem.W.Frag} {tl : TE} {g : TG} {tb : TS} {D : Ends} {σ : List (Option V)} {H : Hp} : tFor (iTup K tl) g tb D σ H = tl σ H fun x H1 => ∃ a, x = .ref a ∧ (∃ xs, SqT K H1 a xs) ∧ ForT K a g tb D σ H1 := rfl
theorem _root_.L2.SqL.extN {K : PySem.W.Frag} {H H' : Hp} {a : Addr} {xs : List V} (h : SqL K H a xs) (e : ExtN H H') : SqL K H' a xs :=
  h.elim (fun h => .inl (h.elim (fun h => .inl (e _ _ h fun ps z => by cases z)) fun ⟨o, h⟩ => .inr ⟨o, e _ _ h fun ps z => by cases z⟩)) fun h => .inr h
theorem isv_by {K : PySem.W.Frag} {mg : Str → Option Value} (W : Wd K mg) {a d : Addr} {c : Str} {t : V} {cv : Value} {fs : List (Str × V)} {H : Hp} {Q : VK} (h : c ∈ XS) (ha : H a = some (exo a (He.ga K c) (some d))) (hd : H d = some (exd d fs)) (hr : ∀ u, RelV t u → u = cv) (k : PySem.W.kitOne K (.ref (He.ga K c)) cv = some true) (q : Q (.bl true) H) : rIsV K [.ref a, t] H Q :=
  ⟨a, _, d, _, _, _, fs, rfl, (exc_of W h).1, ha, hd, hr, k, q⟩
theorem less_of {K : PySem.W.Frag} {mg : Str → Option Value} (W : Wd K mg) {c : Str} (h : c ∈ XS) : PySem.W.kitOne K (.ref (He.ga K c)) (.ref (He.ga K "LessError")) = some true ∧ PySem.W.kitOne K (.ref (He.ga K c)) (.type "ValueError") = some true := by
  obtain ⟨h1, h2⟩ := Bool.and_eq_true_iff.mp (List.all_eq_true.mp W.e_less c h)
  exact ⟨of_decide_eq_true h1, of_decide_eq_true h2⟩
theorem rowsC_in {j : Nat} {c : Str} {ns : List Str} (h : rowsC[j]? = some (c, ns)) : c ∈ XS ∧ ns.length ≤ 2 := by
  have m := List.mem_of_getElem? h
  have all : (rowsC.all fun p => decide (p.1 ∈ XS) && decide (p.2.length ≤ 2)) = true := by decide +kernel
  have := List.all_eq_true.mp all _ m
  obtain ⟨h1, h2⟩ := Bool.and_eq_true_iff.mp this
  exact ⟨of_decide_eq_true h1, of_decide_eq_true h2⟩
section
variable {P : Program} {w : World} {K : PySem.W.Frag} {mg : Str → Option Value} {base : Heap}
/-- what the j-th lambda gives of an error of its row, wherever it's called -/
theorem runs_of (W : Wd K mg) {j : Nat} {c : Str} {ns : List Str} (e : rowsC[j]? = some (c, ns)) {f c' a : Addr} {us : List V} {H : Hp} {Q : VK} {E : XK} (hf : H f = some (LmO f (lamF c' (lamE j)))) (hc : H c' = some (CodeO c' "_law_rows.<locals>.<lambda>")) (ha : ErV K H a c ns us) (q : ∀ (D : Addr) (H' : Hp), Same H H' → H' D = some (.lst us) → Q (.ref D) H') : Runs P w K mg base CX0 1 f [.ref a] H Q E := by
  have hj : j < 16 := (List.getElem?_eq_some_iff.mp e).1
  obtain ⟨d, fs, h1, h2, h3⟩ := ha
  match j, hj, e with
  | 0, _, rfl => exact (lam_0 (P := P) (w := w) (base := base) W f c').runs (fr := []) rfl hf hc ⟨a, d, fs, us, rfl, h1, h2, h3, q⟩
  | 1, _, rfl => exact (lam_1 (P := P) (w := w) (base := base) W f c').runs (fr := []) rfl hf hc ⟨a, d, fs, us, rfl, h1, h2, h3, q⟩
  | 2, _, rfl => exact (lam_2 (P := P) (w := w) (base := base) W f c').runs (fr := []) rfl hf hc ⟨a, d, fs, us, rfl, h1, h2, h3, q⟩
  | 3, _, rfl => exact (lam_3 (P := P) (w := w) (base := base) W f c').runs (fr := []) rfl hf hc ⟨a, d, fs, us, rfl, h1, h2, h3, q⟩
  | 4, _, rfl => exact (lam_4 (P := P) (w := w) (base := base) W f c').runs (fr := []) rfl hf hc ⟨a, d, fs, us, rfl, h1, h2, h3, q⟩
  | 5, _, rfl => exact (lam_5 (P := P) (w := w) (base := base) W f c').runs (fr := []) rfl hf hc ⟨a, d, fs, us, rfl, h1, h2, h3, q⟩
  | 6, _, rfl => exact (lam_6 (P := P) (w := w) (base := base) W f c').runs (fr := []) rfl hf hc ⟨a, d, fs, us, rfl, h1, h2, h3, q⟩
  | 7, _, rfl => exact (lam_7 (P := P) (w := w) (base := base) W f c').runs (fr := []) rfl hf hc ⟨a, d, fs, us, rfl, h1, h2, h3, q⟩
  | 8, _, rfl => exact (lam_8 (P := P) (w := w) (base := base) W f c').runs (fr := []) rfl hf hc ⟨a, d, fs, us, rfl, h1, h2, h3, q⟩
  | 9, _, rfl => exact (lam_9 (P := P) (w := w) (base := base) W f c').runs (fr := []) rfl hf hc ⟨a, d, fs, us, rfl, h1, h2, h3, q⟩
  | 10, _, rfl => exact (lam_10 (P := P) (w := w) (base := base) W f c').runs (fr := []) rfl hf hc ⟨a, d, fs, us, rfl, h1, h2, h3, q⟩
  | 11, _, rfl => exact (lam_11 (P := P) (w := w) (base := base) W f c').runs (fr := []) rfl hf hc ⟨a, d, fs, us, rfl, h1, h2, h3, q⟩
  | 12, _, rfl => exact (lam_12 (P := P) (w := w) (base := base) W f c').runs (fr := []) rfl hf hc ⟨a, d, fs, us, rfl, h1, h2, h3, q⟩
  | 13, _, rfl => exact (lam_13 (P := P) (w := w) (base := base) W f c').runs (fr := []) rfl hf hc ⟨a, d, fs, us, rfl, h1, h2, h3, q⟩
  | 14, _, rfl => exact (lam_14 (P := P) (w := w) (base := base) W f c').runs (fr := []) rfl hf hc ⟨a, d, fs, us, rfl, h1, h2, h3, q⟩
  | 15, _, rfl => exact (lam_15 (P := P) (w := w) (base := base) W f c').runs (fr := []) rfl hf hc ⟨a, d, fs, us, rfl, h1, h2, h3, q⟩
  | n + 16, h, _ => exact absurd h (by omega)
end
abbrev CXL (_ : Program) (_ : World) : CXT := CX0
def lawK : Nat := 6
def spLaw (K : PySem.W.Frag) (Pt : Addr) : Sp := fun vs H Q _ => ∃ (a : Addr) (ns : List Int), vs = [.ref a] ∧ SqL K H a (ns.map V.int) ∧ ns.length ≤ 63 ∧ TabsN (rowsT Pt) H ∧ ∀ H', Q (.bl true) H'
theorem hCX {P : Program} {w : World} : ∀ (H : Hp) (s : Shared) (e : Value) (s' : Shared), CXL P w [] H s (fun _ _ _ => False) e s' → False := fun _ _ _ _ z => z
section
variable {P : Program} {w : World} {K : PySem.W.Frag} {mg : Str → Option Value} {base : Heap}
theorem scLaw : FnScope ["_law_script", "_law_turn", "_law_draws", "_law_a", "_law_b", "_law_first", "_law_second", "_law_fields", "_law_e"] ["_law_script"] d_law.scope := ⟨rfl, rfl, rfl, by decide +kernel, rfl, by decide +kernel, by decide +kernel⟩
theorem ok_law (W : Wd K mg) (hP : SupX.PrgOk P) {Pt : Addr} (TB : TabB base mg (He.codeOf K ("_law_rows", none)) Pt) {fd : FuncData} (F : FunD K d_law.name d_law.qual d_law.params d_law.body d_law.scope (d_law.dvs K) (d_law.kws K) (He.fAd K d_law.at_) fd) : FnOk P w K mg base (CXL P w) lawK (He.ga K "law") fd ["_law_script"] (spLaw K Pt) := by
  obtain ⟨fd_source, G_source, b_source⟩ := ok_source (P := P) (w := w) (base := base) W
  have k_source : PySem.W.keepIn K (.ref (He.ga K "_law_source")) = true := by obtain ⟨fd, F⟩ := W.F_source; exact F.kp
  obtain ⟨fd_object, G_object, b_object⟩ := ok_object (P := P) (w := w) (base := base) W
  have k_object : PySem.W.keepIn K (.ref (He.ga K "_law_object")) = true := by obtain ⟨fd, F⟩ := W.F_object; exact F.kp
  obtain ⟨fd_rows, G_rows, b_rows⟩ := ok_rows (P := P) (w := w) (base := base) W hP TB
  have k_rows : PySem.W.keepIn K (.ref (He.ga K "_law_rows")) = true := by obtain ⟨fd, F⟩ := W.F_rows; exact F.kp
  obtain ⟨fd_kinds, G_kinds, b_kinds⟩ := ok_kinds (P := P) (w := w) (base := base) W
  have k_kinds : PySem.W.keepIn K (.ref (He.ga K "_law_kinds")) = true := by obtain ⟨fd, F⟩ := W.F_kinds; exact F.kp
  refine F.ok scLaw (fun vs H Q E h => ?_) (fun cdv A outer s H vs Q E hr h => ?_)
  · obtain ⟨a, ns, rfl, _⟩ := h
    rfl
  · obtain ⟨a, ns, rfl, hS, hlen, hT, q⟩ := h
    have r1 : Room 1 _ := hr.mono (by decide)
    have r2 : Room 2 _ := hr.mono (by decide)
    have r3 : Room 3 _ := hr.mono (by decide)
    have r4 : Room 4 _ := hr.mono (by decide)
    have r5 : Room 5 _ := hr.mono (by decide)
    refine ⟨_, PSs.nox (pss_cons (ps_for PassesOwn.never rfl (pi_range1 rfl W.f_range (pa_cons (pe_op op_add pe_int (pe_callB (call_min2 rfl) (by rfl) W.f_min (by decide +kernel) (pa_cons (pe_callB call_len_seq (by rfl) W.f_len boot_len (pa_cons (pv 0) pa_nil)) (pa_cons pe_int pa_nil)))) pa_nil)) (pg_name (i := 1) scLaw.nd rfl (Or.inl rfl)) (pss_cons (ps_set (i := 2) scLaw.nd rfl (Or.inl rfl) (pe_call G_source r1 rfl W.g_law_source k_source b_source .nil pass0 (pa_cons (pv 0) (pa_cons (pv 1) pa_nil))))
    (pss_cons (ps_par (i := 3) (j := 4) rfl scLaw.nd rfl rfl (by decide) rfl rfl (pa_cons (pe_call G_object r2 rfl W.g_law_object k_object b_object .nil pass0 (pa_cons (pv 2) pa_nil)) (pa_cons (pe_call G_object r2 rfl W.g_law_object k_object b_object .nil pass0 (pa_cons (pv 2) pa_nil)) pa_nil)) rfl)
    (pss_one (ps_for PassesOwn.never rfl (pi_list (pe_call G_rows r3 rfl W.g_law_rows k_rows b_rows .nil pass0 (pa_cons (pv 3) (pa_cons (pv 4) pa_nil)))) (pg_tup rfl (pgs_cons (pg_name (i := 5) scLaw.nd rfl (Or.inl rfl)) (pgs_cons (pg_name (i := 6) scLaw.nd rfl (Or.inl rfl)) (pgs_cons (pg_name (i := 7) scLaw.nd rfl (Or.inl rfl)) pgs_nil)))) (pss_one (ps_for PassesOwn.never rfl (pi_tup (pe_tup (pa_cons (pv 5) (pa_cons (pv 6) pa_nil)))) (pg_name (i := 8) scLaw.nd rfl (Or.inl rfl)) (pss_cons (ps_if (PW.pt (pw_or (pt_not (pt_val (pe_callB (show CallR _ _ (rIsV K) from call_isV) (by rfl) W.f_isinstance boot_isinstance (pa_cons (pv 8) (pa_cons (pe_glob (v := .ref (He.ga K "LessError")) rfl W.g_LessError rfl) pa_nil))))) (pw_or (pt_not (pt_val (pe_callB (show CallR _ _ (rIsV K) from call_isV) (by rfl) W.f_isinstance boot_isinstance (pa_cons (pv 8) (pa_cons (pe_bltn (v := .ty "ValueError") (by rfl) W.f_ValueError (by decide +kernel) rfl) pa_nil))))) (pw_or1 (pt_cmpR op_ne (pe_call G_kinds r1 rfl W.g_law_kinds k_kinds b_kinds .nil pass0 (pa_cons (pv 8) pa_nil)) pe_int (nomark _)))))) (pss_one (ps_ret pe_bl)) pss_nil)
    (pss_one (ps_if (pt_cmpR ((op_neS hr.units)) (show PE _ _ (tCallV P w K mg base CX0 1 7 (fun _ _ _ => False) (tCons (tVar 8) tNil)) from pe_callV r1 (Nat.le_refl _) pass0 rfl (Or.inl rfl) (pa_cons (pv 8) pa_nil)) (pe_slice sl_list (pe_lst (pa_cons (pv 3) (pa_cons (pv 4) pa_nil))) po_none (po_some (pe_callB call_len_seq (by rfl) W.f_len boot_len (pa_cons (show PE _ _ (tCallV P w K mg base CX0 1 7 (fun _ _ _ => False) (tCons (tVar 8) tNil)) from pe_callV r1 (Nat.le_refl _) pass0 rfl (Or.inl rfl) (pa_cons (pv 8) pa_nil)) pa_nil)))) (nomark _)) (pss_one (ps_ret pe_bl)) pss_nil))))))))))
    (pss_one (ps_ret pe_bl))), ?_⟩
    simp -dsimp [tSeq, tAsg, tRet, tIfS, tIf, tTest, tVar, tCons, tNil, tC, tOp, tUn, rI, rI0, rU, tCB, tLst_A, tTup_A, gName, L2.start, CMul, CPow, CDiv, tDrop, tBM, tBM0, tNext, tPar, gSub, rSetL, rIxL, rIxT, tChain, tB, tNot, tNotV, tAnd, tOr, tAndV, tOrV, tFld, tCall, rIxLH, rIxTH, atI, ixN, upd_same, cxK, ex2, ex3, ex3b, rEq, rNe, scal, tFor_iL, tFor_iT, tCallV]
    refine ⟨.ref a, rfl, a, rfl, ns.map V.int, .inl hS, ((ns.map V.int).length : Int), 4, rfl, 2, _, rfl, rfl, _, rfl, by split <;> omega, by split <;> omega, for_range (fun i σ' G => ∃ (v1 v2 v3 v4 v5 v6 v7 v8 : Option V), σ' = [some (.ref a), v1, v2, v3, v4, v5, v6, v7, v8] ∧ SqL K G a (ns.map V.int) ∧ TabsN (rowsT Pt) G) ⟨_, _, _, _, _, _, _, _, rfl, hS, hT⟩ ?_ ?_⟩
    · rintro i σ' G hi ⟨v1, v2, v3, v4, v5, v6, v7, v8, rfl, gS, gT⟩
      have hi6 : i < 6 := by split at hi <;> omega
      clear hi
      simp -dsimp [tSeq, tAsg, tRet, tIfS, tIf, tTest, tVar, tCons, tNil, tC, tOp, tUn, rI, rI0, rU, tCB, tLst_A, tTup_A, gName, L2.start, CMul, CPow, CDiv, tDrop, tBM, tBM0, tNext, tPar, gSub, rSetL, rIxL, rIxT, tChain, tB, tNot, tNotV, tAnd, tOr, tAndV, tOrV, tFld, tCall, rIxLH, rIxTH, atI, ixN, upd_same, cxK, ex2, ex3, ex3b, rEq, rNe, scal, tFor_iL, tFor_iT, tCallV]
      refine ⟨a, ns, i, rfl, gS, by omega, fun d0 d1 l nl => ⟨l, d0, d1, 0, rfl, upd_same, fun va H2 e0 e1 e2 oa k2 l2 => ⟨l, e0, e1, e2, rfl, l2, fun vb H3 f0 f1 f2 ob k3 l3 => ?_⟩⟩⟩
      have s3 : Same G H3 := fun b o e => by
        have nb := ne_of_none e nl
        refine k3 b o nb (k2 b o nb ?_)
        rw [upd_ne nb]
        exact e
      simp -dsimp [tSeq, tAsg, tRet, tIfS, tIf, tTest, tVar, tCons, tNil, tC, tOp, tUn, rI, rI0, rU, tCB, tLst_A, tTup_A, gName, L2.start, CMul, CPow, CDiv, tDrop, tBM, tBM0, tNext, tPar, gSub, rSetL, rIxL, rIxT, tChain, tB, tNot, tNotV, tAnd, tOr, tAndV, tOrV, tFld, tCall, rIxLH, rIxTH, atI, ixN, upd_same, cxK, ex2, ex3, ex3b, rEq, rNe, scal, tFor_iL, tFor_iT, tCallV, tPar]
      have S3 := s3.seq gS
      refine ⟨va, vb, rfl, gT.ext s3, fun L H4 ts ex tb len hL rows => ⟨L, rfl, ⟨_, SqL.of hL⟩, ?_⟩⟩
      have S4 : SqL K H4 a (ns.map V.int) := S3.extN ex
      clear S3 s3 k2 k3 l2 l3 gS gT
      unfold ForW
      refine for_list (K := K) (a := L) (xs := ts) (fun j σ' G' => ∃ (v5 v6 v7 v8 : Option V), σ' = [some (.ref a), some (.int i), some (.ref l), some va, some vb, v5, v6, v7, v8] ∧ Same H4 G') ⟨_, _, _, _, rfl, Same.refl _⟩ (fun j σ' G' _ ⟨_, _, _, _, _, s⟩ => SqL.of (s _ _ hL)) ?_ ?_
      · rintro j x σ' G1 hj ⟨v5, v6, v7, v8, rfl, s1⟩
        have hj16 : j < 16 := by rw [← len]; exact (List.getElem?_eq_some_iff.mp hj).1
        obtain ⟨⟨c, fns⟩, ec⟩ : ∃ p, rowsC[j]? = some p := ⟨_, List.getElem?_eq_getElem (show j < rowsC.length from hj16)⟩
        obtain ⟨hc, hn2⟩ := rowsC_in ec
        obtain ⟨t, x1, x2, f, c', ht, tt, r1', r2', hf, hcd⟩ := rows j c fns ec
        rw [ht] at hj
        obtain rfl := Option.some.inj hj
        refine ⟨t, _, rfl, SqT.of (s1 _ _ tt), rfl, ?_⟩
        refine ⟨_, _, rfl, _, _, rfl, _, _, rfl, rfl, ?_⟩
        simp -dsimp [tSeq, tAsg, tRet, tIfS, tIf, tTest, tVar, tCons, tNil, tC, tOp, tUn, rI, rI0, rU, tCB, tLst_A, tTup_A, gName, L2.start, CMul, CPow, CDiv, tDrop, tBM, tBM0, tNext, tPar, gSub, rSetL, rIxL, rIxT, tChain, tB, tNot, tNotV, tAnd, tOr, tAndV, tOrV, tFld, tCall, rIxLH, rIxTH, atI, ixN, upd_same, cxK, ex2, ex3, ex3b, rEq, rNe, scal, tFor_iL, tFor_iT, tCallV]
        refine ⟨by decide, Alloc.of fun pe G2 n2 f2 s2 => ⟨pe, rfl, ⟨_, SqT.of f2⟩, ?_⟩⟩
        have s12 := s1.trans s2
        unfold ForT
        refine for_tup (K := K) (a := pe) (xs := [.ref x1, .ref x2]) (fun m σ' G' => ∃ (v8 : Option V), σ' = [some (.ref a), some (.int i), some (.ref l), some va, some vb, some (.ref x1), some (.ref x2), some (.ref f), v8] ∧ Same G2 G') ⟨_, rfl, Same.refl _⟩ (fun m σ' G' _ ⟨_, _, s⟩ => SqT.of (s _ _ f2)) ?_ ?_
        · rintro m x σ' G3 hm ⟨v8, rfl, s3⟩
          have s13 := s12.trans s3
          obtain ⟨e, rfl, he⟩ : ∃ e, x = .ref e ∧ ErV K H4 e c fns ([va, vb].take fns.length) := by
            match m, hm with
            | 0, hm => cases hm; exact ⟨_, rfl, r1'⟩
            | 1, hm => cases hm; exact ⟨_, rfl, r2'⟩
          have KS : ∀ {A B : Hp}, Same A B → KL A B := fun s b o e _ _ => s b o e
          have he3 := he.keep (KS s13)
          obtain ⟨d, fs, q1, q2, q3⟩ := id he3
          simp -dsimp [tSeq, tAsg, tRet, tIfS, tIf, tTest, tVar, tCons, tNil, tC, tOp, tUn, rI, rI0, rU, tCB, tLst_A, tTup_A, gName, L2.start, CMul, CPow, CDiv, tDrop, tBM, tBM0, tNext, tPar, gSub, rSetL, rIxL, rIxT, tChain, tB, tNot, tNotV, tAnd, tOr, tAndV, tOrV, tFld, tCall, rIxLH, rIxTH, atI, ixN, upd_same, cxK, ex2, ex3, ex3b, rEq, rNe, scal, tFor_iL, tFor_iT, tCallV]
          refine isv_by W hc q1 q2 (fun u r => r) (less_of W hc).1 (.inr ⟨rfl, isv_by W hc q1 q2 (fun u r => r) (less_of W hc).2 (.inr ⟨rfl, ?_⟩)⟩)
          refine ⟨e, d, c, fs, rfl, hc, q1, q2, fun G4 s4 => ⟨rfl, .inl ⟨rfl, .inr ⟨_, s4 _ _ (s13 _ _ hf)⟩, ?_⟩⟩⟩
          have s14 := s13.trans s4
          refine runs_of W ec (s14 _ _ hf) (s14 _ _ hcd) (he.keep (KS s14)) fun D G5 s5 hD => ?_
          have s15 := s14.trans s5
          simp -dsimp [tSeq, tAsg, tRet, tIfS, tIf, tTest, tVar, tCons, tNil, tC, tOp, tUn, rI, rI0, rU, tCB, tLst_A, tTup_A, gName, L2.start, CMul, CPow, CDiv, tDrop, tBM, tBM0, tNext, tPar, gSub, rSetL, rIxL, rIxT, tChain, tB, tNot, tNotV, tAnd, tOr, tAndV, tOrV, tFld, tCall, rIxLH, rIxTH, atI, ixN, upd_same, cxK, ex2, ex3, ex3b, rEq, rNe, scal, tFor_iL, tFor_iT, tCallV, tSl, tNoPart, tPart]
          refine ⟨by decide, Alloc.of fun pl G6 n6 f6 s6 => ⟨.inr ⟨_, s6 _ _ (s15 _ _ hf)⟩, ?_⟩⟩
          have s16 := s15.trans s6
          refine runs_of W ec (s16 _ _ hf) (s16 _ _ hcd) (he.keep (KS s16)) fun D2 G7 s7 hD2 => ?_
          refine ⟨D2, rfl, _, .inl (SqL.of hD2), pl, _, rfl, SqL.of (s7 _ _ f6), fun p np => ?_⟩
          have hl3 : fns.length = 0 ∨ fns.length = 1 ∨ fns.length = 2 := by omega
          have cut : cutV [va, vb] none (some ((([va, vb] : List V).take fns.length).length : Int)) = ([va, vb] : List V).take fns.length := by
            rcases hl3 with h | h | h <;> rw [h] <;> rfl
          refine ⟨D, p, ([va, vb] : List V).take fns.length, rfl, rfl, ?_, ?_, ?_, .inl ⟨rfl, ?_⟩⟩
          · rw [upd_ne (ne_of_none (s7 _ _ (s6 _ _ hD)) np)]
            exact s7 _ _ (s6 _ _ hD)
          · rw [upd_same, cut]
          · intro v hv
            have hv2 := List.mem_of_mem_take hv
            rcases List.mem_cons.mp hv2 with rfl | hv2
            · exact oa
            · rw [List.mem_singleton.mp hv2]
              exact ob
          · exact ((((s3.trans s4).trans s5).trans s6).trans s7).trans (same_upd np)
        · rintro σ' G3 ⟨v8, rfl, s3⟩
          exact ⟨⟨_, _, _, _, rfl⟩, s12.trans s3⟩
      · rintro σ' G1 ⟨v5, v6, v7, v8, rfl, s1⟩
        exact ⟨⟨_, _, _, _, _, _, _, _, rfl⟩, s1.seq S4, tb.ext s1⟩
    · rintro σ' G ⟨v1, v2, v3, v4, v5, v6, v7, v8, rfl, gS, gT⟩
      exact q _
/-- the def in whose table the lambdas' code objects are kept -/
def tfs : List He.Defn := [("_law_rows", none)]
def spLawT (K : PySem.W.Frag) : Sp := spLaw K (He.cT K ("_law_rows", none)).2
theorem ok_lawT (W : Wd K mg) (hP : SupX.PrgOk P) (T : ∀ p ∈ tfs, TabB base mg (He.cT K p).1 (He.cT K p).2) {fd : FuncData} (F : FunD K d_law.name d_law.qual d_law.params d_law.body d_law.scope (d_law.dvs K) (d_law.kws K) (He.fAd K d_law.at_) fd) : FnOk P w K mg base (CXL P w) lawK (He.ga K "law") fd ["_law_script"] (spLawT K) := ok_law W hP (T _ (List.mem_singleton.mpr rfl)) F
theorem spLaw_of {H : Hp} {a : Addr} {ns : List Int} (hS : SqL K H a (ns.map V.int)) (hl : ns.length ≤ 63) (hT : ∀ p ∈ tfs, H (He.cT K p).2 = some (.tbl #[])) : spLawT K [.ref a] H (fun v _ => v = .bl true) fun _ _ _ => False :=
  ⟨a, ns, rfl, hS, hl, fun q hq => by
    rw [List.mem_singleton.mp hq]
    exact ⟨#[], hT _ (List.mem_singleton.mpr rfl), trivial, fun pos cv h => by cases h⟩, fun _ => rfl⟩
end
/-! ### the head with tables: the top run once in the kernel; the makers' tables of code objects are empty and not in K -/
/-- the heap's part that the law leans on, without empty tables -/
abbrev partM (g : Addr → Option Obj) : PySem.W.Frag := He.frT g (PySem.cStatics :: He.asD g 5)
/-- the table of the p's code object at g -/
abbrev tabM (K : PySem.W.Frag) (p : He.Defn) : Addr := (He.cT K p).2
structure TabsM (h : Heap) (K : PySem.W.Frag) : Prop where
  hd : ∀ p ∈ tfs, PySem.W.codeHdIn K (He.cT K p).1 (tabM K p) = true
  out : ∀ p ∈ tfs, K.lookup (tabM K p) = none
  empty : ∀ p ∈ tfs, h.get? (tabM K p) = some { cls := .none, data := .fields #[] }
theorem tabsM_of {h : Heap} (e : He.tabsB h.get? tfs (partM h.get?) = true) : TabsM h (partM h.get?) := by
  have all : ∀ p ∈ tfs, PySem.W.codeHdIn (partM h.get?) (He.cT (partM h.get?) p).1 (tabM (partM h.get?) p) = true ∧ ∃ o, h.get? (tabM (partM h.get?) p) = some o ∧ He.emptyTab o = true := by
    intro p hp
    have both := List.all_eq_true.mp e p hp
    obtain ⟨c1, c2⟩ := He.ba both
    refine ⟨c1, ?_⟩
    match q : h.get? (tabM (partM h.get?) p), c2 with
    | some o, c2 =>
      refine ⟨o, rfl, ?_⟩
      simpa [q] using c2
    | none, c2 =>
      exfalso
      simp [q] at c2
  refine ⟨fun p hp => (all p hp).1, fun p hp => ?_, fun p hp => ?_⟩
  · obtain ⟨_, o, q, z⟩ := all p hp
    exact He.frT_none q z
  · obtain ⟨_, o, q, z⟩ := all p hp
    exact q.trans (congrArg some (He.emptyTab_eq z))
abbrev AlM : Type := AlX × Bool
def hkM : PySem.W.Hook where
  α := AlM
  obs := fun s => (obsX fa fn sups extra stats (partM s.heap.get?), He.tabsB s.heap.get? tfs (partM s.heap.get?))
  val := fun _ => (valX fn sups stats, true)
  says := fun _ h => ∃ K : PySem.W.Frag, K.In h ∧ SaysX fa fn sups extra stats K ∧ TabsM h K
  of := fun _ _ e => ⟨_, He.frT_in, congrArg Prod.fst e, tabsM_of (congrArg Prod.snd e)⟩
  keeps := fun _ _ _ ⟨K, hK, c, t⟩ k => ⟨K, PySem.W.Frag.In.keeps hK k, c, t.hd, t.out, fun p hp => k _ _ (t.empty p hp)⟩
def obM (s : PySem.W.SharedT) : AlM := (obsX fa fn sups extra stats (partM (HandSHeadRun.getT s)), He.tabsB (HandSHeadRun.getT s) tfs (partM (HandSHeadRun.getT s)))
theorem obM_eq (s : PySem.W.SharedT) : obM s = hkM.obs s.abs := by
  have e : HandSHeadRun.getT s = s.abs.heap.get? := funext (HandSHeadRun.getT_eq s)
  unfold obM
  rw [e] <;> rfl
set_option maxHeartbeats 0 in
theorem run (w : World) : HandSHeadRun.RunEq R (PySem.W.view R.prog [lawAt]) hkM obM 9000 (loose1 ++ loose2) w := by
  intro os
  kernel_rfl
theorem facts {P : Program} {w : World} {K : PySem.W.Frag} {h : Heap} {mg : Str → Option Value} {f : Addr} (X : K.In h) (G : h.Ns mainGlobals mg) (hfa : mg ("law" : Str) = some (.ref f)) (c : SaysX fa fn sups extra stats K) (hP : SupX.PrgOk P) :
    ∃ fd : FuncData, (∀ (s : Shared) (v : Value), BindsTo s fd ⟨[v], []⟩ [("_law_script", v)]) ∧ ∀ base : Heap, (∀ p ∈ tfs, TabB base mg (He.cT K p).1 (tabM K p)) → FnOk P w K mg base (CXL P w) lawK f fd ["_law_script"] (spLawT K) := by
  have Wq : Wd K mg := ⟨c, h, X, G⟩
  have e := hfa.symm.trans (Wq.g_law)
  cases e
  obtain ⟨fd, F⟩ := Wq.F_law
  have b := FunD.bindsA (ps := ["_law_script"]) F fun _ _ _ _ _ _ us hl => match us, hl with | [_], _ => rfl
  exact ⟨fd, fun s v => b s [v] rfl, fun base T => ok_lawT Wq hP T F⟩
end LW
open PySem PySem.W PySem.Calls PyProof.Rows
set_option maxRecDepth 100000 in
set_option maxHeartbeats 0 in
theorem PySem.Challenge.cw_lessways_k01_errors_made_holds : PySem.Challenge.rw_lessways_k01_errors_made.Holds := by
  w_on; o_law
  refine HandSHeadRun.head_any (r := OpenLaw.row PySem.Challenge.rw_lessways_k01_errors_made) (q := view (OpenLaw.row PySem.Challenge.rw_lessways_k01_errors_made).prog [LW.lawAt]) (H := LW.hkM) (ob := LW.obM) (M := 9000) (loose := LW.loose1 ++ LW.loose2) (d := HandSHeadRun.topDef (OpenLaw.row PySem.Challenge.rw_lessways_k01_errors_made).prog LW.lawAt) (kwd := []) LW.obM_eq
    (by kernel_rfl) (fun s => by kernel_rfl) LW.run (by kernel_rfl) (by kernel_rfl) (by kernel_rfl) (by rfl) (by first | assumption | decide +kernel) (by decide +kernel) ⟨rfl, rfl, rfl, rfl, rfl, by decide +kernel⟩ ?hw ?hc
  case hw => w_witness2
  case hc =>
    refine LamX.walk_ofTsE (l := PySem.Challenge.rw_lessways_k01_errors_made) (n := 63) (k := LW.lawK) (x := "_law_script") (CX := fun _ => L2.CX0) rfl (by decide) (by kernel_rfl) ⟨rfl, by decide, by decide⟩ ?F (fun _ _ _ _ _ z => z)
    intro w mg fa h Y G hmg0
    obtain ⟨K, KX, c, T⟩ := Y
    have hmg : mg ("law" : PySem.Str) = some (.ref fa) := by
      have e : (HandSHeadRun.topDef (OpenLaw.row PySem.Challenge.rw_lessways_k01_errors_made).prog LW.lawAt).name = ("law" : PySem.Str) := by kernel_rfl
      rw [← e]
      exact hmg0
    obtain ⟨fd, hb, hF⟩ := LW.facts (P := (PySem.Challenge.rw_lessways_k01_errors_made).prog) (w := w) KX G hmg c ⟨by kernel_rfl, by kernel_rfl⟩
    refine ⟨K, KX, fd, LW.tfs.map (He.cT K), LW.spLawT K, ?_, ?_, ?_, hb, ?_, fun base _ _ T => hF base fun p hp => T _ (List.mem_map_of_mem hp)⟩
    · intro q hq
      obtain ⟨p, hp, rfl⟩ := List.mem_map.mp hq
      exact T.empty p hp
    · intro q hq
      obtain ⟨p, hp, rfl⟩ := List.mem_map.mp hq
      exact T.out p hp
    · intro q hq
      obtain ⟨p, hp, rfl⟩ := List.mem_map.mp hq
      exact PySem.W.codeHd_of_K KX (T.hd p hp)
    · intro H a ns hl _ hT hS
      exact LW.spLaw_of hS hl (fun p hp => hT _ (List.mem_map_of_mem hp))
#print axioms PySem.Challenge.cw_lessways_k01_errors_made_holds
