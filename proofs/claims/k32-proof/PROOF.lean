import PyProof.Rows.All
import Wide.All
import OpenK.AllK
import Wide.FinOn
import KE.KStateDown
import Lean
import HandS.ForMost
import HandS.ForExc
import HandS.Defaults
import HandS.IsInst
import HandS.Wide
import HandS.Zip
import HandS.Walk
import HandS.Codes
import HandS.FStr
import HandS.StrMore
import HandS.Style
import HandS.MakeKw
import HandS.MakeKwOnly
import HandS.CallSlots
import HandS.ExcInit
import HandS.ExcField
import HandS.SlotsOwn
import KE.KExcSuper
import HandS.HeadHook1
import HandS.HeadHook2
import KE.KCallOwn
import HandS.NestedK
import KE.KOpsOwn
import PySem.Challenge.RW_lessways_k32_shares_reckoned
set_option Elab.async false
set_option linter.all false
set_option maxRecDepth 100000
set_option maxHeartbeats 4000000
namespace LW
open PySem PySem.Spec PyProof.Rows L2
/-! ### super().__init__(text); self.f = p : an own exception's __init__ -/
namespace SupX
open PySem.W
/-- what the written part says of the class at C whose __init__ stands at f -/
structure SupC (P : Program) (K : PySem.W.Frag) (C f cc cda : Addr) (name qual : Str) (st : Stmt) : Prop where
  oex : OexC K C
  lk : ∃ (oc : Value) (od : Option Addr) (doc pm : Value) (an : Option Addr) (ct : Value) (osl : Array (Option Value)), K.lookup f = some ⟨oc, od, .func (PySem.W.ksFn name qual (defArgs st) (defBody st) (defScope st) .none .none doc pm an (.ref cda) ct cc), osl⟩
  code : PySem.W.codeIn K (.ref cda) qual = true
  file : ∃ (ccl : Value) (cdd : Option Addr) (vs : Array Value) (ccs : Array (Option Value)) (file : Str) (tf : Tok), K.lookup cda = some ⟨ccl, cdd, .fields vs, ccs⟩ ∧ vs[2]? = some (.str file tf) ∧ ((P.main.file : Str) == file) = true
  cell : ∃ (cl : Value) (cld : Option Addr) (csl : Array (Option Value)), K.lookup cc = some ⟨cl, cld, .cell (some (.ref C)), csl⟩
  isc : ∃ cd, PySem.W.clsIn K C = some cd
  sub : PySem.W.mroIn K C (.ref C) = some true
  sup : PySem.W.nsIn K mainGlobals "super" = some none
  opq : PySem.W.nsIn K PySem.cStatics "thirdparty.any" = some none
  ini : PySem.W.ks_superIn K C C "__init__" = some (some (.builtin "ValueError.__init__"))
  veb : PySem.W.subIn K (.ref C) (.type "ValueError") = some true
  top : (P.main.scope.names.lookup ("super" : Str)).isSome = false
section
variable {X : Cx} {C f cc cda a : Addr} {name qual : Str} {st : Stmt} {body : List Stmt} {scope : Scope} {H : Hp} {s : Shared} {v : V} {par : Str} {p0 p1 p2 p3 p4 p5 : Pos} {msg : Str} {j : Nat}
theorem super_stmt (T : SupC X.prog X.K C f cc cda name qual st) (henv : X.env = PySem.W.ksEnv qual scope X.env.locals f (.ref cda) cc) (hN0 : X.N[0]? = some ("self" : Str))
    (hks : scope.names.lookup ("super" : Str) = some .globalImplicit) (hkc : scope.names.lookup ("__class__" : Str) = some .free) (hka : scope.names.lookup ("self" : Str) = some .local) (hk : scope.kind = .function)
    (hp : ((defArgs st).posonlyargs ++ (defArgs st).args).head?.map (·.arg) = some ("self" : Str)) {pl : Sem Bool}
    (he : eval (.Call (.Attribute (.Call (.Name "super" p0) [] [] p1) "__init__" p2) [.Constant (.str msg) j p3] [] p4) X.env = (do
      let ov ← attributeBase (.Call (.Name "super" p0) [] [] p1) "__init__" X.env (eval (.Call (.Name "super" p0) [] [] p1) X.env)
      standAt p2.atName
      let (f, first) ← holding [ov] (getMethod ov "__init__" pl)
      callWith p4 f first (backTo p4 (starEach [.Constant (.str msg) j p3] X.env)) []))
    (hsw : swapsWith (.Call (.Attribute (.Call (.Name "super" p0) [] [] p1) "__init__" p2) [.Constant (.str msg) j p3] [] p4) none p5.line X.env = pure false) (hi : interactive X.env = false)
    {σ : List (Option V)} (hσ : σ[0]? = some (some (.ref a))) (I : Inv X [] σ H s) (ha : H a = some (exo a C none)) {Q : Flow → Shared → Prop} (h : ∀ s', Inv X [] σ H s' → Q .next s') :
    _root_.PySem.wpAt (model X.prog X.w) X.A (.func body X.env) (exec (.Expr (.Call (.Attribute (.Call (.Name "super" p0) [] [] p1) "__init__" p2) [.Constant (.str msg) j p3] [] p4) p5) X.env) Q X.xe s := by
  obtain ⟨oc, od, doc, pm, an, ct, osl, lk⟩ := T.lk
  obtain ⟨ccl, cdd, vs, ccs, file, tf, lcd, hvs, hfile⟩ := T.file
  obtain ⟨cl, cld, csl, lcc⟩ := T.cell
  obtain ⟨cd, hcd⟩ := T.isc
  obtain ⟨ar, har, hara⟩ : ∃ ar, ((defArgs st).posonlyargs ++ (defArgs st).args).head? = some ar ∧ ar.arg = "self" := by
    cases e : ((defArgs st).posonlyargs ++ (defArgs st).args).head? with
    | none =>
      rw [e] at hp
      cases hp
    | some ar =>
      rw [e] at hp
      exact ⟨ar, rfl, Option.some.inj hp⟩
  have kX : X.K.In s.heap := I.kIn
  have k4 : X.env.scope.kind = .function := I.ok.kind
  obtain ⟨mb, hb1, hb2⟩ := I.mod.blt
  obtain ⟨m, hns, hl⟩ := I.loc
  have hself : m ("self" : Str) = some (.ref a) := by
    obtain ⟨u, r, l⟩ := hl 0 "self" (.ref a) hN0 hσ (.inl (by rw [henv]; exact hka))
    obtain rfl : u = Value.ref a := r
    rcases l with ⟨_, e⟩ | ⟨e, _⟩
    · exact e
    · rw [henv] at e
      have e2 : scope.names.lookup ("self" : Str) = some .cell ∨ scope.names.lookup ("self" : Str) = some .free := e
      rw [hka] at e2
      rcases e2 with e2 | e2 <;> cases e2
  generalize hL : X.env.locals = L at *
  rw [henv] at he hsw hi ⊢
  obtain ⟨t1, ho⟩ := exo_at I.hok ha
  obtain ⟨oD, hD1, hD2⟩ : ∃ oD, s.heap.get? C = some oD ∧ oD.data = .cls cd := by
    unfold PySem.W.clsIn at hcd
    split at hcd
    · rename_i c d cd' sl hoo
      cases hcd
      exact ⟨_, kX _ _ hoo, rfl⟩
    · cases hcd
  have J0 : PySem.W.InstAt s.heap a { cls := .ref C, dict := none, data := .fields #[.ref t1, .none, .none, .none, .bool false, .none] } C none := ⟨ho, rfl, rfl, trivial⟩
  refine PySem.ks_wpAt_Expr_any (PySem.ks_wpAt_MethodCall (PySem.ks_wpAt_super_base hks hkc rfl rfl (kX _ _ lk) rfl har rfl (kX _ _ lcd) rfl hvs hfile T.top ?_) he) hi hsw
  refine PySem.W.ks_loadName_global hk hks (Calls.loadGlobal_builtin (I.mod.glob.keeps I.bk) (PySem.W.mg_none_of I.mod.kin I.mod.glob T.sup) (hb1.keeps I.bk) ((hb2 _ (by decide)).trans (by decide +kernel : bootBuiltins "super" = some (.type "super"))) ⟨rfl, ?_⟩)
  refine wpAny_loadName_free hk hkc rfl ⟨_, kX _ _ lcc, rfl⟩ ?_
  refine wpAny_loadName_local hk (by rw [hara]; exact hka) hns (by rw [hara]; exact hself) ?_
  refine PySem.ks_wpAny_isType_cls hD1 hD2 ⟨rfl, ?_⟩
  obtain ⟨hh, g, dr, tk, os⟩ := s
  refine PySem.ks_wpAny_call_super hD1 hD2 ho rfl (fun c e => by cases e) (PySem.W.looks_mroIn kX T.sub) (fun h1 e1 kk1 => ?_)
  have I1 : Inv X [] σ H ⟨h1, g, dr, tk, os⟩ := I.kept (t' := tk) kk1
  have ho1 := kk1 _ _ ho
  have kX1 : X.K.In h1 := I1.kIn
  have hI1 : PySem.W.Looks (model X.prog X.w) h1 (isInstance (.ref a) (.type "ValueError")) true := (PySem.W.InstAt.type (M := model X.prog X.w) (show PySem.W.InstAt h1 a { cls := .ref C, dict := none, data := .fields #[.ref t1, .none, .none, .none, .bool false, .none] } C none from ⟨ho1, rfl, rfl, trivial⟩)).andThen (PySem.W.looks_subIn kX1 T.veb)
  have hini := T.ini
  unfold PySem.W.ks_superIn at hini
  rw [hcd] at hini
  refine PySem.W.kxs_getMethod PySem.W.kxs_ValueError e1 (PySem.W.looks_opaque kX1 T.opq) (l₀ := cd.mro) (fun A Q E s k q => wpAny_bind ((PySem.W.looks_clsIn kX1 hcd) A _ E s k (wpAny_pure q))) rfl kX1 hini hI1 (PySem.W.ks_ne kX J0 hcd) rfl ?_
  have kk2 : ∀ b o, h1.get? b = some o → (h1.push (PySem.W.kxs_mw "ValueError.__init__" a)).get? b = some o := fun b o e => Heap.get?_push_of_some _ e
  have hu : (h1.push (PySem.W.kxs_mw "ValueError.__init__" a)).get? h1.objs.size = some (PySem.W.kxs_mw "ValueError.__init__" a) := Heap.get?_push_at rfl rfl
  have I2 : Inv X [] σ H ⟨h1.push (PySem.W.kxs_mw "ValueError.__init__" a), g, dr, tk + 1, os⟩ := I1.kept (t' := tk + 1) kk2
  have hu0 : H h1.objs.size = none := I1.hok.fresh (Nat.le_refl _)
  have I3 : Inv X [(h1.objs.size, PySem.W.kxs_mw "ValueError.__init__" a)] σ H ⟨h1.push (PySem.W.kxs_mw "ValueError.__init__" a), g, dr, tk + 1, os⟩ := ⟨I2.ok, I2.os, I2.bare, I2.base, I2.loc, I2.cell, I2.free, I2.freeC, fun p hp => by
    rcases List.mem_append.mp hp with hp | hp
    · exact I2.pin p (List.mem_append_left _ hp)
    · cases List.mem_singleton.mp hp
      exact ⟨hu, hu0, Nat.ne_of_gt I1.lt, I1.nofs (Nat.le_refl _), fun v e => by cases e⟩, I2.hok, I2.len⟩
  refine PySem.W.kxs_callWith (i := "ValueError.__init__") (x := a) rfl ?_
  rw [show ([.Constant (.str msg) j p3] : List Expr) = .Constant (.str msg) j p3 :: [] from rfl]
  refine Calls.evalArgs_plain ?_
  rw [← henv]
  refine thn ((pa_cons (X := X) (pe_str (x := msg) (j := j) (pos := p3)) pa_nil).run p4 _ _ σ H (fun vs H' => vs = [.str msg] ∧ H' = H) I3 ⟨rfl, rfl⟩) fun us s1 ⟨vs, H', I4, r4, ev, eH⟩ => ?_
  subst ev eH
  have hu4 := (I4.pin (h1.objs.size, PySem.W.kxs_mw "ValueError.__init__" a) (List.mem_append_right _ (List.mem_singleton.mpr rfl))).1
  refine ⟨hu4, ?_⟩
  have I5 : Inv X [] σ H' s1 := Inv.unpinned (pl := [(h1.objs.size, PySem.W.kxs_mw "ValueError.__init__" a)]) I4
  obtain ⟨nm, qn, Nn, bs, bm, sn, sub, ab, col, dd, k0, k1, k2, k3, k5, hC, hbm⟩ := T.oex.cls
  have hC4 := I5.kIn _ _ hC
  obtain ⟨t4, ho4⟩ := exo_at I5.hok ha
  have hlen : us.length ≤ sizeLine := by
    rw [← r4.length]
    show 1 ≤ sizeLine
    decide
  obtain ⟨hh4, g4, d4, tk4, os4⟩ := s1
  refine wpAny_call (codeAny_of_tree ?_)
  show wpAny _ X.A.in1 (callAny (.ref h1.objs.size) ⟨[] ++ us, []⟩) _ _ _
  rw [List.nil_append]
  simp only [callAny]
  refine wpAny_bind (wpAny_load hu4 ?_)
  simp only [PySem.W.kxs_mw, show (Value.type "method-wrapper" == Value.type "method" || Value.type "method-wrapper" == Value.type "builtin_function_or_method" || Value.type "method-wrapper" == Value.type "method-wrapper") = true by decide, if_true]
  refine PySem.W.KFB.if_so (by decide) ?_
  refine wpAny_bind (PySem.W.check_bound_init F.excBase_ValueError.toExcCallFacts hC4 ho4 rfl ?_)
  refine wpAny_bind (wpAny_pure (wpAny_pure ?_))
  refine ⟨plainId_quiet F.excBase_ValueError.init.plain _, codeAny_builtin F.excBase_ValueError.initEntry ?_⟩
  refine PySem.W.exc_init_tree (cls := .ref C) (t0 := t4) (dv := none) (c2 := .none) (c3 := .none) (b4 := .bool false) ho4 hlen fun h' k hx _ => ?_
  have J := I5.write (t' := tk4) (x := a) (e := a) (o := exo a C none) (by rw [ha]; exact True.intro) (.inl rfl) k ⟨_, hx⟩ (exo_ok hx)
  have eu : upd H' a (exo a C none) = H' := by
    funext b
    by_cases hb : b = a
    · rw [hb, upd_same, ha]
    · rw [upd_ne hb]
  rw [eu] at J
  exact h _ J
end
section
variable {P : Program} {w : World} {K : PySem.W.Frag} {mg : Str → Option Value} {base : Heap} {CX : CXT} {k : Nat} {C f cc cda : Addr} {name qual : Str} {st : Stmt} {par fld : Str}
/-- the promise of such an __init__ of one parameter -/
def spExc (C : Addr) (fld : Str) : Sp := fun vs H Q _ => ∃ (a : Addr) (v : V), vs = [.ref a, v] ∧ H a = some (exo a C none) ∧ ∀ dx, H dx = none → dx ≠ a → Q .non (upd (upd H dx (exd dx [(fld, v)])) a (exo a C (some dx)))
abbrev nfOf (name qual : Str) (st : Stmt) (cc cda : Addr) : NdefX.NF := ⟨name, qual, defArgs st, defBody st, defScope st, [("__class__", cc)], cda⟩
theorem exc_init (T : SupC P K C f cc cda name qual st) (S : NdefX.NScope ["self", par, "__class__"] ["self", par] ["__class__"] (defScope st)) (hno : PySem.W.findIn K (.ref C) fld = some none)
    (hks : (defScope st).names.lookup ("super" : Str) = some .globalImplicit)
    (hb : ∀ (doc pm ct : Value) (an : Option Addr) (us : List Value), us.length = 2 → bindArgs (PySem.W.ksFn name qual (defArgs st) (defBody st) (defScope st) .none .none doc pm an (.ref cda) ct cc) ⟨us, []⟩ = pure ((["self", par] : List Str).zip us))
    (hp : ((defArgs st).posonlyargs ++ (defArgs st).args).head?.map (·.arg) = some ("self" : Str))
    {p0 p1 p2 p3 p4 p5 p6 p7 p8 p9 : Pos} {msg : Str} {j : Nat}
    (hbody : defBody st = [.Expr (.Call (.Attribute (.Call (.Name "super" p0) [] [] p1) "__init__" p2) [.Constant (.str msg) j p3] [] p4) p5, .Assign [.Attribute (.Name "self" p6) fld p7] (.Name par p8) p9])
    {pl : Env → Sem Bool}
    (he : ∀ env : Env, env.scope = defScope st → eval (.Call (.Attribute (.Call (.Name "super" p0) [] [] p1) "__init__" p2) [.Constant (.str msg) j p3] [] p4) env = (do
      let ov ← attributeBase (.Call (.Name "super" p0) [] [] p1) "__init__" env (eval (.Call (.Name "super" p0) [] [] p1) env)
      standAt p2.atName
      let (f, first) ← holding [ov] (getMethod ov "__init__" (pl env))
      callWith p4 f first (backTo p4 (starEach [.Constant (.str msg) j p3] env)) []))
    (hsw : ∀ env : Env, env.scope = defScope st → swapsWith (.Call (.Attribute (.Call (.Name "super" p0) [] [] p1) "__init__" p2) [.Constant (.str msg) j p3] [] p4) none p5.line env = pure false) (hi : ∀ env : Env, env.scope = defScope st → interactive env = false)
    (hsw2 : ∀ env : Env, env.scope = defScope st → swapsWith (.Name par p8) (some (.Attribute (.Name "self" p6) fld p7)) p9.line env = pure false) (hd1 : (par == ("__debug__" : Str)) = false) (hd2 : (par == ("__classdict__" : Str)) = false) :
    ∃ fd, FnOk P w K mg base CX (k + 1) f fd ["self", par] (spExc C fld) ∧ Binds K fd ["self", par] [] := by
  obtain ⟨oc, od, doc, pm, an, ct, osl, lk⟩ := id T.lk
  obtain ⟨cl, cld, csl, lcc⟩ := id T.cell
  refine ⟨_, ⟨fun vs H Q E h => ?_, fun A outer s H args us vs Q E hr e0 hbd r hsp => ?_⟩, .all (hb doc pm ct an)⟩
  · obtain ⟨a, v, rfl, _⟩ := h
    rfl
  · have KX : K.In s.heap := e0.mod.kin.keeps fun b o e => (e0.bs b o e).1
    have lim : s.heap.NoLimit := e0.mod.nolimit.keeps fun b o e => (e0.bs b o e).1
    obtain ⟨a, v, rfl, ha, q⟩ := hsp
    refine PySem.ks_codeAny_call_defAt (fd := PySem.W.ksFn name qual (defArgs st) (defBody st) (defScope st) .none .none doc pm an (.ref cda) ct cc) (body := defBody st) (binds := (["self", par] : List Str).zip us) hr.depth (KX _ _ lk) rfl lim (PySem.W.codeRec_of KX T.code) rfl hbd S.nocell (fun ⟨n, _⟩ hy => S.par n (List.of_mem_zip hy).1) (fun h₁ hns hk₁ => ?_) S.co S.gen S.kind
    have hl : us.length = 2 := r.length.symm
    have CA : NdefX.CellsAt [("__class__", cc)] ["__class__"] [none] s.heap H := by
      have one : ∀ (y : Str) (c : Addr), ([(("__class__" : Str), cc)] : List (Str × Addr)).lookup y = some c → y = "__class__" ∧ c = cc := fun y c e => by
        by_cases hy : y = "__class__"
        · subst hy
          exact ⟨rfl, (Option.some.inj (show some cc = some c from e)).symm⟩
        · have hy2 : (y == ("__class__" : Str)) = false := by simpa using hy
          rw [List.lookup_cons, hy2] at e
          cases e
      refine ⟨rfl, fun y c e => ?_, fun x y c e1 e2 => (one x c e1).1.trans (one y c e2).1.symm, fun i y hi => ?_⟩
      · obtain ⟨_, rfl⟩ := one y c e
        exact ⟨(e0.bs c _ (e0.mod.kin _ _ lcc)).2, _, _, KX _ _ lcc, rfl⟩
      · match i, hi with
        | 0, hi =>
          cases hi
          exact ⟨cc, rfl, fun v e => by cases e⟩
    have I := NdefX.inv_startN (CX := CX) (mg := mg) (E := E) (F := nfOf name qual st cc cda) (f := f) (tk := s.toks + ((["self", par] : List Str).zip us).length) S hr.hd e0 rfl r CA hns hk₁
    have hself : (defScope st).names.lookup ("self" : Str) = some .local := S.par _ (List.mem_cons_self ..)
    have hpar : (defScope st).names.lookup par = some .local := S.par _ (List.mem_cons_of_mem _ (List.mem_cons_self ..))
    have hcls : (defScope st).names.lookup ("__class__" : Str) = some .free := S.frk _ (List.mem_cons_self ..)
    have hstep : _root_.PySem.wpAt (model P w) (NdefX.ncx CX P w K mg base ["self", par, "__class__"] (nfOf name qual st cc cda) f A outer s H E).A (.func (defBody st) (NdefX.envF (nfOf name qual st cc cda) f s.heap.objs.size)) (execs (defBody st) (NdefX.envF (nfOf name qual st cc cda) f s.heap.objs.size))
        (fun fl s' => CR CX outer P w H s Q E (.ok (.ret (match fl with | .ret v => v | _ => .none))) s') (NdefX.ncx CX P w K mg base ["self", par, "__class__"] (nfOf name qual st cc cda) f A outer s H E).xe
        { s with heap := h₁, toks := s.toks + ((["self", par] : List Str).zip us).length } := by
      have eb : execs (defBody st) (NdefX.envF (nfOf name qual st cc cda) f s.heap.objs.size) = execs [.Expr (.Call (.Attribute (.Call (.Name "super" p0) [] [] p1) "__init__" p2) [.Constant (.str msg) j p3] [] p4) p5, .Assign [.Attribute (.Name "self" p6) fld p7] (.Name par p8) p9] (NdefX.envF (nfOf name qual st cc cda) f s.heap.objs.size) := by rw [hbody]
      rw [eb]
      refine PySem.ks_wpAt_execs_cons (super_stmt (X := NdefX.ncx CX P w K mg base ["self", par, "__class__"] (nfOf name qual st cc cda) f A outer s H E) T rfl rfl hks hcls hself S.kind hp (he _ rfl) (hsw _ rfl) (hi _ rfl) (σ := NdefX.startF ["self", par, "__class__"] [.ref a, v] [none]) rfl I ha (fun s' I' => ?_))
      have d2 : PSs (NdefX.ncx CX P w K mg base ["self", par, "__class__"] (nfOf name qual st cc cda) f A outer s H E) [.Assign [.Attribute (.Name "self" p6) fld p7] (.Name par p8) p9] _ := pss_one (ps_ost (pe_var (i := 0) rfl (.inl hself)) (pe_var (i := 1) rfl (.inl hpar) hd1 hd2) (hsw2 _ rfl))
      refine wpAt_of_wpAny (wpAny_mono (d2.run [] s' _ H { nx := fun _ H' => Q .non H', rt := Q } I' ⟨v, rfl, .ref a, rfl, a, C, rfl, T.oex, hno, .inl ⟨ha, fun dx n ne => q dx n ne⟩⟩) (fun fl s'' hs => ?_) fun e s'' hs => hs)
      cases fl with
      | ret u =>
        obtain ⟨v', σ', H', J, rv, q'⟩ := hs
        exact ⟨v', H', J.os, J.bare, J.base, J.hok, rv, q'⟩
      | next =>
        obtain ⟨σ', H', J, q'⟩ := hs
        exact ⟨.non, H', J.os, J.bare, J.base, J.hok, rfl, q'⟩
      | brk =>
        obtain ⟨_, _, _, q'⟩ := hs
        exact False.elim q'
      | cont =>
        obtain ⟨_, _, _, q'⟩ := hs
        exact False.elim q'
    exact hstep
end
end SupX
/-! ### the facts of such a class as Bools -/
namespace SupX
open PySem.W
def oexB (K : PySem.W.Frag) (C : Addr) : Bool := (match K.lookup C with
  | some ⟨.type "type", _, .cls cd, sl⟩ => (match cd.mro, sl.toList with
    | .ref C' :: bm, [_, _, _, _, some (.builtin n), _] => C' == C && (n == "ValueError.__new__" && (!cd.hasDel && (cd.hasDict && PySem.HandSPX.refsVE bm)))
    | _, _ => false)
  | _ => false) && (He.eqO (PySem.W.findIn K (.ref C) "__setattr__") (some (some (.builtin "object.__setattr__"))) && (decide (PySem.W.subIn K (.ref C) (.type "BaseException") = some true) && (decide (PySem.W.typeIn K (.ref C) = some (.type "type")) && PySem.W.keepIn K (.ref C))))
theorem oexB_ok {K : PySem.W.Frag} {C : Addr} (h : oexB K C = true) : OexC K C := by
  obtain ⟨h1, h⟩ := He.ba h
  obtain ⟨h2, h⟩ := He.ba h
  obtain ⟨h3, h⟩ := He.ba h
  obtain ⟨h4, h5⟩ := He.ba h
  refine ⟨?_, He.eqO_ok h2, of_decide_eq_true h3, of_decide_eq_true h4, h5⟩
  split at h1
  · rename_i dd cd sl ho
    split at h1
    · rename_i C' bm k0 k1 k2 k3 n k5 hm hs
      obtain ⟨g1, h1⟩ := He.ba h1
      obtain ⟨g2, h1⟩ := He.ba h1
      obtain ⟨g3, h1⟩ := He.ba h1
      obtain ⟨g4, g5⟩ := He.ba h1
      have e1 : C' = C := beq_iff_eq.mp g1
      have e2 : n = "ValueError.__new__" := beq_iff_eq.mp g2
      have e3 : cd.hasDel = false := by simpa using g3
      subst e1 e2
      obtain ⟨nm, bs, mro, ns, qn, hd, sn, sub, ab, col, del⟩ := cd
      dsimp only at hm e3 g4
      subst hm e3 g4
      have hsl : sl = #[k0, k1, k2, k3, some (.builtin "ValueError.__new__"), k5] := by
        obtain ⟨l⟩ := sl
        simp only at hs
        rw [hs]
      subst hsl
      exact ⟨nm, qn, ns, bs, bm, sn, sub, ab, col, dd, k0, k1, k2, k3, k5, ho, g5⟩
    · cases h1
  · cases h1
abbrev SpW : Type := Option (Str × Str × Arguments × FuncBody × Scope × Addr × List Str × Addr)
def supW (K : PySem.W.Frag) (f : Addr) : SpW := match K.lookup f with
  | some ⟨_, _, .func fd, _⟩ => some (fd.name, fd.qualname, fd.params, fd.body, fd.scope, fd.globals, fd.closure.map (·.1), fd.builtins)
  | _ => none
def supV (name qual : Str) (st : Stmt) : SpW := some (name, qual, defArgs st, .stmts (defBody st), defScope st, mainGlobals, ["__class__"], builtinsNs)
def supB (K : PySem.W.Frag) (C f : Addr) (qual : Str) : Bool := (match K.lookup f with
  | some ⟨_, _, .func fd, _⟩ => (match fd.code, fd.defaults, fd.kwdefaults, fd.closure with
    | .ref cda, .none, .none, [(_, cc)] => PySem.W.codeIn K (.ref cda) qual && ((match K.lookup cda with
      | some ⟨_, _, .fields vs, _⟩ => (match (vs[2]? : Option Value) with
        | some (Value.str file _) => decide (file = "/claim/cut.py")
        | _ => false)
      | _ => false) && (match K.lookup cc with
      | some ⟨_, _, .cell (some (.ref D)), _⟩ => decide (D = C)
      | _ => false))
    | _, _, _, _ => false)
  | _ => false) && ((PySem.W.clsIn K C).isSome && (decide (PySem.W.mroIn K C (.ref C) = some true) && (He.eqO (PySem.W.nsIn K mainGlobals "super") (some none) && (He.eqO (PySem.W.nsIn K PySem.cStatics "thirdparty.any") (some none) && (He.eqO (PySem.W.ks_superIn K C C "__init__") (some (some (.builtin "ValueError.__init__"))) &&
    decide (PySem.W.subIn K (.ref C) (.type "ValueError") = some true))))))
structure PrgOk (P : Program) : Prop where
  file : P.main.file = "/claim/cut.py"
  top : (P.main.scope.names.lookup ("super" : Str)).isSome = false
theorem supC_of {P : Program} {K : PySem.W.Frag} {C f : Addr} {name qual : Str} {st : Stmt} (hP : PrgOk P) (e : supW K f = supV name qual st) (o : oexB K C = true) (c : supB K C f qual = true) : ∃ cc cda, SupC P K C f cc cda name qual st := by
  obtain ⟨c1, c⟩ := He.ba c
  obtain ⟨c2, c⟩ := He.ba c
  obtain ⟨c3, c⟩ := He.ba c
  obtain ⟨c4, c⟩ := He.ba c
  obtain ⟨c5, c⟩ := He.ba c
  obtain ⟨c6, c7⟩ := He.ba c
  unfold supW at e
  split at c1
  · rename_i oc od fd osl ho
    rw [ho] at e
    split at c1
    · rename_i cda x cc q1 q2 q3 q4
      obtain ⟨d1, c1⟩ := He.ba c1
      obtain ⟨d2, d3⟩ := He.ba c1
      obtain ⟨n1, n2, n3, n4, n5, n6, n7, n8, n9, n10, n11, n12, n13, n14, n15⟩ := fd
      dsimp only at q1 q2 q3 q4
      subst q1 q2 q3 q4
      have e2 : (some (n1, n2, n3, n4, n5, n6, [x], n15) : SpW) = supV name qual st := e
      unfold supV at e2
      simp only [Option.some.injEq, Prod.mk.injEq, List.cons.injEq, and_true] at e2
      obtain ⟨e1, e2, e3, e4, e5, e6, e7, e8⟩ := e2
      subst e1 e2 e3 e4 e5 e6 e7 e8
      refine ⟨cc, cda, ⟨oexB_ok o, ⟨oc, od, _, _, _, _, osl, ho⟩, d1, ?_, ?_, Option.isSome_iff_exists.mp c2, of_decide_eq_true c3, He.eqO_ok c4, He.eqO_ok c5, He.eqO_ok c6, of_decide_eq_true c7, hP.top⟩⟩
      · split at d2
        · rename_i ccl cdd vs ccs h1
          split at d2
          · rename_i file tf h2
            refine ⟨ccl, cdd, vs, ccs, file, tf, h1, h2, ?_⟩
            rw [hP.file, of_decide_eq_true d2]
            exact beq_self_eq_true _
          · cases d2
        · cases d2
      · split at d3
        · rename_i a1 a2 D a3 h1
          have eD : D = C := of_decide_eq_true d3
          subst eD
          exact ⟨a1, a2, a3, h1⟩
        · cases d3
    · cases c1
  · cases c1
end SupX
/-! ### own operators: both of one class, or an int ahead of one -/
namespace OpX
open PySem.W (InstAt findIn isFn selfFirst mroIn looks_mroIn ksp_first ksp_try fills_K instObj)
section
variable {prog : Program} {w : World} {A : Around} {E : Value → Shared → Prop} {s : Shared} {K : PySem.W.Frag} {x y C f : Addr} {ox oy : Obj} {od od2 : Option Obj} {nm : String}
/-- both operands are of the class at C -/
theorem bin1_same {Q : Value → Shared → Prop} (X : K.In s.heap) (I : InstAt s.heap x ox C od) (J : InstAt s.heap y oy C od2) (hc : selfFirst K C = true) (hs : findIn K (.ref C) (PySem.dunder nm) = some (some (.ref f))) (hf : isFn K (.ref f) = true)
    (h : wpAny (model prog w) A (call (.ref f) [.ref x, .ref y]) (PySem.W.CmpBack Q) E s) : wpAny (model prog w) A (binaryOp1 nm (.ref x) (.ref y)) (fun r s' => ∃ v, r = some v ∧ Q v s') E s := by
  obtain ⟨cd, rest, hcd, hm⟩ := ksp_first hc
  have one := ksp_try X I hs hf h
  obtain ⟨hh, g, d, tt, os⟩ := s
  have l1 : PySem.W.Looks (model prog w) hh (typeOf (.ref x)) (.ref C) := I.type
  have l2 : PySem.W.Looks (model prog w) hh (typeOf (.ref y)) (.ref C) := J.type
  have l3 : PySem.W.Looks (model prog w) hh (fillsNumberSlot (.ref C) nm) true := fills_K X hcd hm hs
  have hee : (Value.ref C == Value.ref C) = true := beq_self_eq_true _
  unfold binaryOp1
  refine wpAny_bind (l1.at (wpAny_bind (l2.at (wpAny_bind (l3.at ?_)))))
  simp only [hee, if_true, pure_bind, Bool.and_false, Bool.false_eq_true, if_false, Bool.false_and]
  refine wpAny_bind (wpAny_mono one (fun r s' hr' => ?_) fun _ _ e => e)
  obtain ⟨v, rfl, hq⟩ := hr'
  exact wpAny_pure ⟨v, rfl, hq⟩
/-- an int ahead of an instance: its own method declines, the other one's answers -/
theorem bin1_refl {Q : Value → Shared → Prop} {i : Int} {t : Tok} {g : Addr} (X : K.In s.heap) (I : InstAt s.heap x ox C od) (hc : selfFirst K C = true) (hs : findIn K (.ref C) (PySem.dunder nm) = some (some (.ref g)))
    (hr : findIn K (.ref C) (dunderR nm) = some (some (.ref f))) (hf : isFn K (.ref f) = true) (hsub : mroIn K C (.type "int") = some false) (hfi : fillsNumberSlot (.type "int") nm = pure true)
    (hdec : wpAny (model prog w) A (tryMethod (.int i t) (PySem.dunder nm) (.ref x)) (fun r s' => r = none ∧ s' = s) E s)
    (h : wpAny (model prog w) A (call (.ref f) [.ref x, .int i t]) (PySem.W.CmpBack Q) E s) : wpAny (model prog w) A (binaryOp1 nm (.int i t) (.ref x)) (fun r s' => ∃ v, r = some v ∧ Q v s') E s := by
  obtain ⟨cd, rest, hcd, hm⟩ := ksp_first hc
  have one := ksp_try X I hr hf h
  obtain ⟨hh, g', d, tt, os⟩ := s
  have l1 : PySem.W.Looks (model prog w) hh (typeOf (.ref x)) (.ref C) := I.type
  have l3 : PySem.W.Looks (model prog w) hh (fillsNumberSlot (.ref C) nm) true := fills_K X hcd hm hs
  have l4 : PySem.W.Looks (model prog w) hh (isSubtype (.ref C) (.type "int")) false := looks_mroIn X hsub
  have hne : (Value.type "int" == Value.ref C) = false := Bool.eq_false_iff.mpr fun q => by cases beq_iff_eq.mp q
  unfold binaryOp1
  refine wpAny_bind (wpAny_of_eq (a := .type "int") rfl (wpAny_bind (l1.at (wpAny_bind (wpAny_of_eq hfi ?_)))))
  simp only [hne, Bool.false_eq_true, if_false]
  refine wpAny_bind (l3.at ?_)
  simp only [Bool.and_self, if_true]
  refine wpAny_bind (l4.at ?_)
  have hpy : numberSlotInPython (.type "int") nm = pure false := rfl
  simp only [Bool.false_eq_true, if_false, pure_bind, Bool.not_false, Bool.and_self, if_true, hpy]
  refine wpAny_bind (wpAny_mono hdec (fun r s' hr' => ?_) fun _ _ e => e)
  obtain ⟨rfl, rfl⟩ := hr'
  simp only [pure_bind]
  refine wpAny_bind (wpAny_mono one (fun r s' hr' => ?_) fun _ _ e => e)
  obtain ⟨v, rfl, hq⟩ := hr'
  exact wpAny_bind (wpAny_rule (wpAny_pure ⟨v, rfl, hq⟩))
theorem bin_of {op : Operator} {a b : Value} {Q : Value → Shared → Prop} (h : wpAny (model prog w) A (binaryOp1 op.info.2 a b) (fun r s' => ∃ v, r = some v ∧ Q v s') E s) : wpAny (model prog w) A (binaryOp op a b) Q E s := by
  rcases hi : op.info with ⟨sym, n⟩
  rw [hi] at h
  simp only [binaryOp, hi]
  refine wpAny_holding (wpAny_bind (wpAny_mono h (fun r s' hr' => ?_) fun _ _ e => e))
  obtain ⟨v, rfl, hq⟩ := hr'
  exact wpAny_pure hq
end
end OpX
namespace OpX
open PySem.W (InstAt findIn isFn selfFirst mroIn looks_mroIn ksp_first ksp_try fills_K instObj looks_findIn clsIn looks_clsIn)
/-- the class at C stands ahead of object alone -/
def mro2B (K : PySem.W.Frag) (C : Addr) : Bool := match clsIn K C with
  | some cd => cd.mro == [.ref C, .type "object"]
  | none => false
/-- what the written part says of an operator's names: none in place, and int's own are known -/
def opB (K : PySem.W.Frag) (C : Addr) (nm : String) : Bool :=
  He.eqO (findIn K (.ref C) (dunderI nm)) (some none) && (He.eqO (findIn K (.type "object") (dunderI nm)) (some none) && ((findIn K (.type "int") (PySem.dunder nm)).isSome && (findIn K (.type "int") (dunderR nm)).isSome))
section
variable {prog : Program} {w : World} {A : Around} {E : Value → Shared → Prop} {s : Shared} {K : PySem.W.Frag} {x y C f : Addr} {ox oy : Obj} {od od2 : Option Obj} {nm : String}
theorem fillsI_no {h : Heap} {M : Model} {add : Bool} (X : K.In h) (hm : mro2B K C = true) (hi : findIn K (.ref C) (dunderI nm) = some none) (ho : findIn K (.type "object") (dunderI nm) = some none) :
    PySem.W.Looks M h (fillsInplaceSlot (.ref C) nm add) false := by
  unfold mro2B at hm
  cases hc : clsIn K C with
  | none => rw [hc] at hm; cases hm
  | some cd =>
    rw [hc] at hm
    have hm : cd.mro = [.ref C, .type "object"] := beq_iff_eq.mp hm
    intro A Q E s k q
    have lm : PySem.W.Looks M h (mroOf (.ref C)) cd.mro := (looks_clsIn X hc).andThen (f := fun cd => pure cd.mro) .now
    have lm' := lm.keeps k
    obtain ⟨hh, g, d, tt, os⟩ := s
    have X' : K.In hh := X.keeps k
    have l1 : PySem.W.Looks M hh (typeLookup (.ref C) (dunderI nm)) none := looks_findIn X' hi
    have l2 : PySem.W.Looks M hh (typeLookup (.type "object") (dunderI nm)) none := looks_findIn X' ho
    unfold fillsInplaceSlot
    refine wpAny_bind (lm'.at ?_)
    rw [hm, List.anyM_cons]
    refine wpAny_bind (wpAny_bind (l1.at ?_))
    refine wpAny_pure ?_
    rw [if_neg (by decide), List.anyM_cons]
    refine wpAny_bind (wpAny_bind (l2.at ?_))
    refine wpAny_pure ?_
    rw [if_neg (by decide)]
    exact wpAny_pure q
theorem inp_of {op : Operator} {b : Value} {Q : Value → Shared → Prop} (X : K.In s.heap) (I : InstAt s.heap x ox C od) (hm : mro2B K C = true) (hi : findIn K (.ref C) (dunderI op.info.2) = some none) (ho : findIn K (.type "object") (dunderI op.info.2) = some none)
    (h : wpAny (model prog w) A (binaryOp1 op.info.2 (.ref x) b) (fun r s' => ∃ v, r = some v ∧ Q v s') E s) : wpAny (model prog w) A (inplaceOp op (.ref x) b) Q E s := by
  obtain ⟨hh, g, d, tt, os⟩ := s
  have l1 : PySem.W.Looks (model prog w) hh (typeOf (.ref x)) (.ref C) := I.type
  have l2 : PySem.W.Looks (model prog w) hh (fillsInplaceSlot (.ref C) op.info.2 (op == .Add)) false := fillsI_no X hm hi ho
  unfold inplaceOp
  refine wpAny_holding (wpAny_bind (l1.at (wpAny_bind (l2.at ?_))))
  simp only [Bool.false_eq_true, if_false]
  refine wpAny_bind (wpAny_mono h (fun r s' hr' => ?_) fun _ _ e => e)
  obtain ⟨v, rfl, hq⟩ := hr'
  exact wpAny_pure hq
end
end OpX
namespace OpX
open PySem.W (InstAt findIn isFn selfFirst mroIn looks_mroIn ksp_first ksp_try fills_K instObj looks_findIn clsIn looks_clsIn subIn looks_subIn ksp_inPy)
section
variable {prog : Program} {w : World} {A : Around} {E : Value → Shared → Prop} {s : Shared} {K : PySem.W.Frag} {x y C dx f g : Addr} {ox oy : Obj} {od od2 : Option Obj} {nm : String} {i : Int} {t : Tok}
/-- an instance ahead of an int -/
theorem bin1_int {Q : Value → Shared → Prop} {ro : Option Value} (X : K.In s.heap) (I : InstAt s.heap x ox C od) (hc : selfFirst K C = true) (hs : findIn K (.ref C) (PySem.dunder nm) = some (some (.ref f))) (hf : isFn K (.ref f) = true)
    (hr : findIn K (.ref C) (dunderR nm) = some (some (.ref g))) (h2 : findIn K (.type "int") (dunderR nm) = some ro) (hsub : subIn K (.type "int") (.ref C) = some false) (hfi : fillsNumberSlot (.type "int") nm = pure true)
    (h : wpAny (model prog w) A (call (.ref f) [.ref x, .int i t]) (PySem.W.CmpBack Q) E s) : wpAny (model prog w) A (binaryOp1 nm (.ref x) (.int i t)) (fun r s' => ∃ v, r = some v ∧ Q v s') E s := by
  obtain ⟨cd, rest, hcd, hm⟩ := ksp_first hc
  have one := ksp_try X I hs hf h
  obtain ⟨hh, g', d, tt, os⟩ := s
  have l1 : PySem.W.Looks (model prog w) hh (typeOf (.ref x)) (.ref C) := I.type
  have l3 : PySem.W.Looks (model prog w) hh (fillsNumberSlot (.ref C) nm) true := fills_K X hcd hm hs
  have l4 : PySem.W.Looks (model prog w) hh (isSubtype (.type "int") (.ref C)) false := looks_subIn X hsub
  have l5 : PySem.W.Looks (model prog w) hh (numberSlotInPython (.ref C) nm) true := ksp_inPy X hs hr (.inr ⟨g, rfl⟩)
  have l6 : PySem.W.Looks (model prog w) hh (typeLookup (.type "int") (dunderR nm)) ro := looks_findIn X h2
  have hne : (Value.ref C == Value.type "int") = false := Bool.eq_false_iff.mpr fun q => by cases beq_iff_eq.mp q
  have hpy : numberSlotInPython (.type "int") nm = pure false := rfl
  unfold binaryOp1
  refine wpAny_bind (l1.at (wpAny_bind (wpAny_of_eq (a := .type "int") rfl (wpAny_bind (l3.at ?_)))))
  simp only [hne, Bool.false_eq_true, if_false]
  refine wpAny_bind (wpAny_of_eq hfi ?_)
  simp only [Bool.and_self, if_true]
  refine wpAny_bind (l4.at ?_)
  simp only [Bool.false_eq_true, if_false, pure_bind, Bool.not_false, Bool.and_self, if_true, hpy]
  refine wpAny_bind (l5.at ?_)
  simp only [if_true, pure_bind, Bool.not_false]
  refine wpAny_bind (l6.at ?_)
  refine wpAny_bind (wpAny_mono one (fun r s' hr' => ?_) fun _ _ e => e)
  obtain ⟨v, rfl, hq⟩ := hr'
  exact wpAny_pure ⟨v, rfl, hq⟩
/-- what a two-place method of int says to an instance -/
theorem int_ins {name : String} {F : Int → Int → Sem Fin} : Meets (Builtin.Int.intBinary name F false ⟨[.int i t, .ref x], []⟩) (fun _ R s => s.heap.get? x = some (instObj C dx) ∧ R (.ok (.ret Value.notImplemented)) s) :=
  .of_wp fun prog w A R s h => by
    obtain ⟨hl, h⟩ := h
    unfold Builtin.Int.intBinary
    refine wpAny_bind (wpAny_of_eq (a := (Value.int i t, [Value.ref x])) rfl ?_)
    refine wpAny_bind (wpAny_of_eq (a := i) rfl ?_)
    refine wpAny_bind (m := asInt? (.ref x)) (wpAny_bind (wpAny_load hl ?_))
    refine wpAny_pure ?_
    refine wpAny_bind (wpAny_rule ?_)
    exact wpAny_pure ⟨_, rfl, h⟩
/-- what int's own method says to an instance, by the operator's name -/
def Dec (nm : String) : Prop := ∀ (prog : Program) (w : World) (A : Around) (E : Value → Shared → Prop) (s : Shared) (x C dx : Addr) (i : Int) (t : Tok), s.heap.get? x = some (instObj C dx) →
  wpAny (model prog w) A (tryMethod (.int i t) (PySem.dunder nm) (.ref x)) (fun r s' => r = none ∧ s' = s) E s
theorem dec_gen {nm id name : String} {F : Int → Int → Sem Fin} (slot : Slot "int" (PySem.dunder nm) id) (entry : entryFor table id = some (Builtin.Int.intBinary name F false)) (args : ∀ a b : Value, argsOk id ⟨[a, b], []⟩) : Dec nm := fun prog w A E s x C dx i t hx =>
  wpAny_tryMethod_declines (Q := fun r s' => r = none ∧ s' = s) (typeIs_int s i t) slot (call_meets slot (typeIs_int s i t) entry (args _ _) (int_ins (C := C) (dx := dx)) ⟨hx, rfl, rfl, rfl⟩)
theorem dec_add : Dec "add" := dec_gen PySem.F.slot_int_add PySem.F.entry_int_add PySem.F.args_int_add_2
theorem dec_sub : Dec "sub" := dec_gen PySem.F.slot_int_sub PySem.F.entry_int_sub PySem.F.args_int_sub_2
theorem dec_mul : Dec "mul" := dec_gen PySem.F.slot_int_mul PySem.F.entry_int_mul PySem.F.args_int_mul_2
end
end OpX
/-! ### the operators' readings -/
/-- x op y by x's own def: y of the same class, or an int -/
def rBinL (C : Addr) (sp : Sp) (E : XK) : R2 := fun x y H Q => ∃ (a dx : Addr) (fs : List (Str × V)), x = .ref a ∧ H a = some (.ins C dx fs) ∧ ((∃ (b dy : Addr) (gs : List (Str × V)), y = .ref b ∧ H b = some (.ins C dy gs)) ∨ ∃ i : Int, y = .int i) ∧ sp [x, y] H Q E
/-- x op y by y's own def: x an int -/
def rBinR (C : Addr) (sp : Sp) (E : XK) : R2 := fun x y H Q => ∃ (i : Int) (b dy : Addr) (gs : List (Str × V)), x = .int i ∧ y = .ref b ∧ H b = some (.ins C dy gs) ∧ sp [y, x] H Q E
/-- what the written part says of one operator at the class C -/
structure OpAt (K : PySem.W.Frag) (C : Addr) (nm : String) (f g : Addr) : Prop where
  first : PySem.W.selfFirst K C = true
  at_ : PySem.W.findIn K (.ref C) (PySem.dunder nm) = some (some (.ref f))
  fn : PySem.W.isFn K (.ref f) = true
  atR : PySem.W.findIn K (.ref C) (dunderR nm) = some (some (.ref g))
  fnR : PySem.W.isFn K (.ref g) = true
  notInt : PySem.W.mroIn K C (.type "int") = some false
  intNot : PySem.W.subIn K (.type "int") (.ref C) = some false
  mro : OpX.mro2B K C = true
  names : OpX.opB K C nm = true
  fills : fillsNumberSlot (.type "int") nm = pure true
  dec : OpX.Dec nm
section
variable {X : Cx} {CX : CXT} {n : Nat} {sp : Sp} {E : XK} {C f g : Addr}
theorem bin1_at {nm : String} {pins : List (Addr × Obj)} {s : Shared} {σ : L2.St} {H : Hp} {x y : V} {v u : Value} {Q : VK} (o : OpAt X.K C nm f g) (F : FnR X.prog X.w X.K X.mg X.base CX n f sp) (hr : Room n X.A) (hx : Passes CX X E)
    (I : Inv X pins σ H s) (rx : RelV x v) (ry : RelV y u) (h : rBinL C sp E x y H Q) :
    (∃ (a : Addr) (od : Option Obj) (dx : Addr), v = .ref a ∧ PySem.W.InstAt s.heap a (PySem.W.instObj C dx) C od) ∧ wpAny (model X.prog X.w) X.A (binaryOp1 nm v u) (fun r s' => ∃ z, r = some z ∧ EP X pins σ Q z s') X.xe s := by
  obtain ⟨a, dx, fs, rfl, ha, hy, q⟩ := h
  cases (show v = Value.ref a from rx)
  obtain ⟨mA, O, _⟩ := ins_get I.hok ha
  obtain ⟨od, J, _⟩ := O.look
  refine ⟨⟨a, _, _, rfl, J⟩, ?_⟩
  have go : wpAny (model X.prog X.w) X.A (call (.ref f) [.ref a, u]) (PySem.W.CmpBack (EP X pins σ Q)) X.xe s :=
    wpAny_mono (wpAny_call (run_fnR (us := [.ref a, u]) (vs := [.ref a, y]) F hr hx I (.cons rfl (.cons ry .nil)) q)) (fun w s' z => by
      obtain ⟨z', H', I', rz, qz⟩ := z
      exact SlX.cmpback rz ⟨z', H', I', rz, qz⟩) fun _ _ x => x
  rcases hy with ⟨b, dy, gs, rfl, hb⟩ | ⟨i, rfl⟩
  · cases (show u = Value.ref b from ry)
    obtain ⟨mB, O', _⟩ := ins_get I.hok hb
    obtain ⟨od', J', _⟩ := O'.look
    exact OpX.bin1_same I.kIn J J' o.first o.at_ o.fn go
  · obtain ⟨t, e⟩ := (show ∃ t, u = Value.int i t from ry)
    cases e
    have h2 := (Bool.and_eq_true_iff.mp (Bool.and_eq_true_iff.mp (Bool.and_eq_true_iff.mp o.names).2).2).2
    obtain ⟨ro, h2⟩ := Option.isSome_iff_exists.mp h2
    exact OpX.bin1_int I.kIn J o.first o.at_ o.fn o.atR h2 o.intNot o.fills go
theorem op_L {op : Operator} (o : OpAt X.K C op.info.2 f g) (F : FnR X.prog X.w X.K X.mg X.base CX n f sp) (hr : Room n X.A) (hx : Passes CX X E) : OpR X (binaryOp op) (rBinL C sp E) :=
  fun pins s σ H x y v u Q I rx ry h => OpX.bin_of (bin1_at o F hr hx I rx ry h).2
theorem ip_L {op : Operator} (o : OpAt X.K C op.info.2 f g) (F : FnR X.prog X.w X.K X.mg X.base CX n f sp) (hr : Room n X.A) (hx : Passes CX X E) : PIp X op (rBinL C sp E) := by
  intro pins s σ H x y v u Q I rx ry h
  obtain ⟨⟨a, od, dx, rfl, J⟩, z⟩ := bin1_at o F hr hx I rx ry h
  have h1 := Bool.and_eq_true_iff.mp o.names
  exact OpX.inp_of I.kIn J o.mro (He.eqO_ok h1.1) (He.eqO_ok (Bool.and_eq_true_iff.mp h1.2).1) z
theorem op_Rt {op : Operator} (o : OpAt X.K C op.info.2 f g) (F : FnR X.prog X.w X.K X.mg X.base CX n g sp) (hr : Room n X.A) (hx : Passes CX X E) : OpR X (binaryOp op) (rBinR C sp E) := by
  intro pins s σ H x y v u Q I rx ry h
  obtain ⟨i, b, dy, gs, rfl, rfl, hb, q⟩ := h
  obtain ⟨t, e⟩ := (show ∃ t, v = Value.int i t from rx)
  cases e
  cases (show u = Value.ref b from ry)
  obtain ⟨mB, O, _⟩ := ins_get I.hok hb
  obtain ⟨od, J, _⟩ := O.look
  have go : wpAny (model X.prog X.w) X.A (call (.ref g) [.ref b, .int i t]) (PySem.W.CmpBack (EP X pins σ Q)) X.xe s :=
    wpAny_mono (wpAny_call (run_fnR (us := [.ref b, .int i t]) (vs := [.ref b, .int i]) F hr hx I (.cons rfl (.cons ⟨t, rfl⟩ .nil)) q)) (fun w s' z => by
      obtain ⟨z', H', I', rz, qz⟩ := z
      exact SlX.cmpback rz ⟨z', H', I', rz, qz⟩) fun _ _ x => x
  exact OpX.bin_of (OpX.bin1_refl I.kIn J o.first o.at_ o.atR o.fnR o.notInt o.fills (o.dec _ _ _ _ _ _ _ _ _ _ J.at_) go)
theorem op_or {F : Value → Value → Sem Value} {r1 r2 : R2} (h1 : OpR X F r1) (h2 : OpR X F r2) : OpR X F (fun x y H Q => r1 x y H Q ∨ r2 x y H Q) := by
  intro pins s σ H x y v u Q I rx ry h
  rcases h with h | h
  · exact h1 pins s σ H x y v u Q I rx ry h
  · exact h2 pins s σ H x y v u Q I rx ry h
/-- -x by x's own def -/
def rUnO (C : Addr) (sp : Sp) (E : XK) : V → Hp → VK → Prop := fun x H Q => ∃ (a dx : Addr) (fs : List (Str × V)), x = .ref a ∧ H a = some (.ins C dx fs) ∧ sp [x] H Q E
theorem un_own (hs : PySem.W.findIn X.K (.ref C) "__neg__" = some (some (.ref f))) (hf : PySem.W.isFn X.K (.ref f) = true) (F : FnR X.prog X.w X.K X.mg X.base CX n f sp) (hr : Room n X.A) (hx : Passes CX X E) : UnR X (unaryOp .USub) (rUnO C sp E) := by
  intro pins s σ H x v Q I rx h
  obtain ⟨a, dx, fs, rfl, ha, q⟩ := h
  cases (show v = Value.ref a from rx)
  obtain ⟨mA, O, _⟩ := ins_get I.hok ha
  obtain ⟨od, J, _⟩ := O.look
  obtain ⟨m, hF⟩ := I.fr
  exact PySem.W.ksp_neg hF I.ok.mod.kin J hs hf (wpAny_call (run_fnR (us := [.ref a]) (vs := [.ref a]) F hr hx I (.cons rfl .nil) q))
/-- abs(x) by x's own def -/
def rAbsO (C : Addr) (sp : Sp) (E : XK) : List V → Hp → VK → Prop := fun xs H Q => ∃ (a dx : Addr) (fs : List (Str × V)), xs = [.ref a] ∧ H a = some (.ins C dx fs) ∧ sp [.ref a] H Q E
end
section
variable {X : Cx} {CX : CXT} {n : Nat} {sp : Sp} {E : XK} {C f : Addr}
theorem call_absO (hs : PySem.W.findIn X.K (.ref C) "__abs__" = some (some (.ref f))) (hf : PySem.W.isFn X.K (.ref f) = true) (F : FnR X.prog X.w X.K X.mg X.base CX n f sp) (hr : Room (n + 1) X.A) (hx : Passes CX X E) : CallR X (.builtin "abs") (rAbsO C sp E) := by
  intro pins s σ H xs us Q I r h
  obtain ⟨a, dx, fs, rfl, ha, q⟩ := h
  obtain ⟨u, rfl, ru⟩ := r.one
  cases (show u = Value.ref a from ru)
  obtain ⟨mA, O, _⟩ := ins_get I.hok ha
  obtain ⟨od, J, _⟩ := O.look
  have hr2 : Room n X.A.in1 := Room.in1 hr
  refine Calls.call_function_entry kind_abs plain_abs entry_abs (args_abs _) ?_
  unfold Builtin.«abs»
  refine wpAny_bind (m := oneArg "abs" _) (wpAny_pure ?_)
  refine wpAny_bind (m := callSpecial? (.ref a) (Str.ofString "__abs__")) (PySem.W.special_fn I.kIn J hs (beq_iff_eq.mp hf) (wpAny_mono (wpAny_call (SlX.run_at (us := [.ref a]) (ws := [.ref a]) F hr2 I.env0.in1 hx I (.cons rfl .nil) q)) (fun w s' z => ?_) fun _ _ x => x))
  exact wpAny_pure ⟨_, rfl, z⟩
end
/-! ### the text by places -/
def top (i : Nat) : Stmt := PySem.Challenge.pw_lessways_k32_shares_reckoned.main.body.getD i (.Pass ⟨0, 0, 0, 0⟩)
abbrev s_divisor : Stmt := top 8
abbrev s_is_integer : Stmt := top 4
abbrev s_is_number : Stmt := top 5
abbrev s_share_of : Stmt := top 6
abbrev s_fraction : Stmt := top 7
abbrev s_excess : Stmt := top 9
abbrev s_source : Stmt := top 13
abbrev s_draw : Stmt := top 14
abbrev s_same : Stmt := top 15
abbrev s_lowest : Stmt := top 16
abbrev s_ratio : Stmt := top 17
abbrev s_sum : Stmt := top 18
abbrev s_product : Stmt := top 19
abbrev s_minus : Stmt := top 20
abbrev s_is_share : Stmt := top 21
abbrev s_integer : Stmt := top 22
abbrev s_divided : Stmt := top 23
abbrev s_totals : Stmt := top 24
abbrev s_right : Stmt := top 25
abbrev s_law : Stmt := top 26
abbrev s_Share_init : Stmt := inClass (top 11) 0
abbrev s_Share_add : Stmt := inClass (top 11) 2
abbrev s_Share_radd : Stmt := inClass (top 11) 3
abbrev s_Share_sub : Stmt := inClass (top 11) 4
abbrev s_Share_rsub : Stmt := inClass (top 11) 5
abbrev s_Share_mul : Stmt := inClass (top 11) 6
abbrev s_Share_rmul : Stmt := inClass (top 11) 7
abbrev s_Share_neg : Stmt := inClass (top 11) 8
abbrev s_Share_abs : Stmt := inClass (top 11) 9
abbrev s_Share_over : Stmt := inClass (top 11) 1
abbrev s_NoShare_init : Stmt := inClass (top 2) 0
def sups : List (Str × Str × Str × Stmt) := [("NoShare", "__init__", "NoShare.__init__", s_NoShare_init)]
/-! ### the facts by names -/
def d_divisor : He.DefD := ⟨("divisor", none), "divisor", "divisor", defArgs s_divisor, defBody s_divisor, defScope s_divisor, [], []⟩
def d_is_integer : He.DefD := ⟨("is_integer", none), "is_integer", "is_integer", defArgs s_is_integer, defBody s_is_integer, defScope s_is_integer, [], []⟩
def d_is_number : He.DefD := ⟨("is_number", none), "is_number", "is_number", defArgs s_is_number, defBody s_is_number, defScope s_is_number, [], []⟩
def d_share_of : He.DefD := ⟨("share_of", none), "share_of", "share_of", defArgs s_share_of, defBody s_share_of, defScope s_share_of, [], []⟩
def d_fraction : He.DefD := ⟨("fraction", none), "fraction", "fraction", defArgs s_fraction, defBody s_fraction, defScope s_fraction, [], []⟩
def d_excess : He.DefD := ⟨("excess", none), "excess", "excess", defArgs s_excess, defBody s_excess, defScope s_excess, [], []⟩
def d_source : He.DefD := ⟨("_law_source", none), "_law_source", "_law_source", defArgs s_source, defBody s_source, defScope s_source, [], []⟩
def d_draw : He.DefD := ⟨("_law_draw", none), "_law_draw", "_law_draw", defArgs s_draw, defBody s_draw, defScope s_draw, [], []⟩
def d_same : He.DefD := ⟨("_law_same", none), "_law_same", "_law_same", defArgs s_same, defBody s_same, defScope s_same, [], []⟩
def d_lowest : He.DefD := ⟨("_law_lowest", none), "_law_lowest", "_law_lowest", defArgs s_lowest, defBody s_lowest, defScope s_lowest, [], []⟩
def d_ratio : He.DefD := ⟨("_law_ratio", none), "_law_ratio", "_law_ratio", defArgs s_ratio, defBody s_ratio, defScope s_ratio, [], []⟩
def d_sum : He.DefD := ⟨("_law_sum", none), "_law_sum", "_law_sum", defArgs s_sum, defBody s_sum, defScope s_sum, [], []⟩
def d_product : He.DefD := ⟨("_law_product", none), "_law_product", "_law_product", defArgs s_product, defBody s_product, defScope s_product, [], []⟩
def d_minus : He.DefD := ⟨("_law_minus", none), "_law_minus", "_law_minus", defArgs s_minus, defBody s_minus, defScope s_minus, [], []⟩
def d_is_share : He.DefD := ⟨("_law_is_share", none), "_law_is_share", "_law_is_share", defArgs s_is_share, defBody s_is_share, defScope s_is_share, [], []⟩
def d_integer : He.DefD := ⟨("_law_integer", none), "_law_integer", "_law_integer", defArgs s_integer, defBody s_integer, defScope s_integer, [], []⟩
def d_divided : He.DefD := ⟨("_law_divided", none), "_law_divided", "_law_divided", defArgs s_divided, defBody s_divided, defScope s_divided, [], []⟩
def d_totals : He.DefD := ⟨("_law_totals", none), "_law_totals", "_law_totals", defArgs s_totals, defBody s_totals, defScope s_totals, [], []⟩
def d_right : He.DefD := ⟨("_law_right", none), "_law_right", "_law_right", defArgs s_right, defBody s_right, defScope s_right, [], []⟩
def d_law : He.DefD := ⟨("law", none), "law", "law", defArgs s_law, defBody s_law, defScope s_law, [], []⟩
def d_Share_init : He.DefD := ⟨("Share", some "__init__"), "__init__", "Share.__init__", defArgs s_Share_init, defBody s_Share_init, defScope s_Share_init, [.int 1], []⟩
def d_Share_add : He.DefD := ⟨("Share", some "__add__"), "__add__", "Share.__add__", defArgs s_Share_add, defBody s_Share_add, defScope s_Share_add, [], []⟩
def d_Share_radd : He.DefD := ⟨("Share", some "__radd__"), "__radd__", "Share.__radd__", defArgs s_Share_radd, defBody s_Share_radd, defScope s_Share_radd, [], []⟩
def d_Share_sub : He.DefD := ⟨("Share", some "__sub__"), "__sub__", "Share.__sub__", defArgs s_Share_sub, defBody s_Share_sub, defScope s_Share_sub, [], []⟩
def d_Share_rsub : He.DefD := ⟨("Share", some "__rsub__"), "__rsub__", "Share.__rsub__", defArgs s_Share_rsub, defBody s_Share_rsub, defScope s_Share_rsub, [], []⟩
def d_Share_mul : He.DefD := ⟨("Share", some "__mul__"), "__mul__", "Share.__mul__", defArgs s_Share_mul, defBody s_Share_mul, defScope s_Share_mul, [], []⟩
def d_Share_rmul : He.DefD := ⟨("Share", some "__rmul__"), "__rmul__", "Share.__rmul__", defArgs s_Share_rmul, defBody s_Share_rmul, defScope s_Share_rmul, [], []⟩
def d_Share_neg : He.DefD := ⟨("Share", some "__neg__"), "__neg__", "Share.__neg__", defArgs s_Share_neg, defBody s_Share_neg, defScope s_Share_neg, [], []⟩
def d_Share_abs : He.DefD := ⟨("Share", some "__abs__"), "__abs__", "Share.__abs__", defArgs s_Share_abs, defBody s_Share_abs, defScope s_Share_abs, [], []⟩
def d_Share_over : He.DefD := ⟨("Share", some "over"), "over", "Share.over", defArgs s_Share_over, defBody s_Share_over, defScope s_Share_over, [], []⟩
def fn : List He.DefD := [d_divisor, d_is_integer, d_is_number, d_share_of, d_fraction, d_excess, d_source, d_draw, d_same, d_lowest, d_ratio, d_sum, d_product, d_minus, d_is_share, d_integer, d_divided, d_totals, d_right, d_law, d_Share_init, d_Share_add, d_Share_radd, d_Share_sub, d_Share_rsub, d_Share_mul, d_Share_rmul, d_Share_neg, d_Share_abs, d_Share_over]
def fa : List He.Fa := [.glo "divisor", .glo "is_integer", .glo "is_number", .glo "share_of", .glo "fraction", .glo "excess", .glo "_law_source", .glo "_law_draw", .glo "_law_same", .glo "_law_lowest", .glo "_law_ratio", .glo "_law_sum", .glo "_law_product", .glo "_law_minus", .glo "_law_is_share", .glo "_law_integer", .glo "_law_divided", .glo "_law_totals", .glo "_law_right", .glo "law", .glo "Share", .glo "NoShare", .free "isinstance", .free "int", .free "bool", .free "abs", .free "len", .free "range", .free "str", .free "list", .free "tuple", .free "all", .free "zip", .free "super", .free "NotImplemented", .cls "Share", .mkr "Share", .noat "Share" "top", .noat "Share" "bottom", .noat "NoShare" "top", .meth "Share" "__add__", .meth "Share" "__radd__", .meth "Share" "__sub__", .meth "Share" "__rsub__", .meth "Share" "__mul__", .meth "Share" "__rmul__", .meth "Share" "__neg__", .meth "Share" "__abs__", .meth "Share" "over"]
/-- further facts, as Bools of the written part -/
def extra : List (PySem.W.Frag → Bool) := [fun K => He.eqO (PySem.W.findIn K (.ref (He.ga K "Share")) "__class__") (some (some (.builtin "object.__class__"))),
  fun K => He.eqO (PySem.W.specialIn K (.builtin "object.__class__") "__get__") (some (some (.builtin "getset_descriptor.__get__"))),
  fun K => decide (PySem.W.takesIn K (.builtin "object.__class__") = some true),
  fun K => decide (PySem.W.mroIn K (He.ga K "Share") (.type "object") = some true),
  fun K => decide (PySem.W.kitOne K (.ref (He.ga K "Share")) (.ref (He.ga K "Share")) = some true),
  fun K => SupX.oexB K (He.ga K "NoShare"),
  fun K => SupX.supB K (He.ga K "NoShare") (He.ma K (He.ga K "NoShare") "__init__") "NoShare.__init__",
  fun K => decide (PySem.W.exmOne K (.ref (He.ga K "NoShare")) (.ref (He.ga K "NoShare")) = some true),
  fun K => He.eqO (PySem.W.findIn K (.ref (He.ga K "NoShare")) "__init__") (some (some (.ref (He.ma K (He.ga K "NoShare") "__init__")))) && decide (PySem.W.typeIn K (.ref (He.ma K (He.ga K "NoShare") "__init__")) = some (.type "function")),
  fun K => xfB K (He.ga K "NoShare"),
  fun K => PySem.W.selfFirst K (He.ga K "Share"),
  fun K => decide (PySem.W.mroIn K (He.ga K "Share") (.type "int") = some false),
  fun K => decide (PySem.W.subIn K (.type "int") (.ref (He.ga K "Share")) = some false),
  fun K => decide (PySem.W.kitOne K (.ref (He.ga K "Share")) (.type "int") = some false),
  fun K => decide (PySem.W.kitOne K (.type "int") (.ref (He.ga K "Share")) = some false),
  fun K => OpX.mro2B K (He.ga K "Share"),
  fun K => OpX.opB K (He.ga K "Share") "add",
  fun K => OpX.opB K (He.ga K "Share") "sub",
  fun K => OpX.opB K (He.ga K "Share") "mul"]
abbrev AlX : Type := Bool × He.AlD × List SupX.SpW
def obsX (fa : List He.Fa) (fn : List He.DefD) (sp : List (Str × Str × Str × Stmt)) (ex : List (PySem.W.Frag → Bool)) (K : PySem.W.Frag) : AlX := (ex.all fun f => f K, He.obsD fa fn K, sp.map fun d => SupX.supW K (He.fAd K (d.1, some d.2.1)))
def valX (fn : List He.DefD) (sp : List (Str × Str × Str × Stmt)) : AlX := (true, He.valD fn, sp.map fun d => SupX.supV d.2.1 d.2.2.1 d.2.2.2)
def SaysX (fa : List He.Fa) (fn : List He.DefD) (sp : List (Str × Str × Str × Stmt)) (ex : List (PySem.W.Frag → Bool)) (K : PySem.W.Frag) : Prop := obsX fa fn sp ex K = valX fn sp
/-- what every def leans on: the facts, and where the module's names are read -/
structure Wd (K : PySem.W.Frag) (mg : Str → Option Value) : Prop where
  s : SaysX fa fn sups extra K
  X : ∃ h : Heap, K.In h ∧ h.Ns mainGlobals mg
section
variable {K : PySem.W.Frag} {mg : Str → Option Value}
theorem Wd.c (W : Wd K mg) : He.SaysD fa fn K := congrArg (fun z : AlX => z.2.1) W.s
theorem Wd.ex (W : Wd K mg) (i : Nat) {f : PySem.W.Frag → Bool} (h : extra[i]? = some f) : f K = true :=
  List.all_eq_true.mp (show (extra.all fun f => f K) = true from congrArg (fun z : AlX => z.1) W.s) f (List.mem_of_getElem? h)
theorem Wd.glo (W : Wd K mg) (i : Nat) {x : Str} (h : fa[i]? = some (.glo x)) : mg x = some (.ref (He.ga K x)) := by
  obtain ⟨h0, X, G⟩ := W.X
  exact He.glo_ok X G (W.c.fact i h)
theorem Wd.free (W : Wd K mg) (i : Nat) {x : Str} (h : fa[i]? = some (.free x)) : mg x = none := by
  obtain ⟨h0, X, G⟩ := W.X
  exact He.free_ok X G (W.c.fact i h)
theorem Wd.sup (W : Wd K mg) (i : Nat) {d : Str × Str × Str × Stmt} (h : sups[i]? = some d) : SupX.supW K (He.fAd K (d.1, some d.2.1)) = SupX.supV d.2.1 d.2.2.1 d.2.2.2 := by
  have e : sups.map (fun d => SupX.supW K (He.fAd K (d.1, some d.2.1))) = sups.map fun d => SupX.supV d.2.1 d.2.2.1 d.2.2.2 := congrArg (fun z : AlX => z.2.2) W.s
  have e2 : (sups.map (fun d => SupX.supW K (He.fAd K (d.1, some d.2.1))))[i]? = (sups.map fun d => SupX.supV d.2.1 d.2.2.1 d.2.2.2)[i]? := by rw [e]
  rw [List.getElem?_map, List.getElem?_map, h] at e2
  exact Option.some.inj e2
end

theorem Wd.g_divisor {K : PySem.W.Frag} {mg : Str → Option Value} (W : Wd K mg) : mg "divisor" = some (.ref (He.ga K "divisor")) := W.glo 0 rfl
theorem Wd.g_is_integer {K : PySem.W.Frag} {mg : Str → Option Value} (W : Wd K mg) : mg "is_integer" = some (.ref (He.ga K "is_integer")) := W.glo 1 rfl
theorem Wd.g_is_number {K : PySem.W.Frag} {mg : Str → Option Value} (W : Wd K mg) : mg "is_number" = some (.ref (He.ga K "is_number")) := W.glo 2 rfl
theorem Wd.g_share_of {K : PySem.W.Frag} {mg : Str → Option Value} (W : Wd K mg) : mg "share_of" = some (.ref (He.ga K "share_of")) := W.glo 3 rfl
theorem Wd.g_fraction {K : PySem.W.Frag} {mg : Str → Option Value} (W : Wd K mg) : mg "fraction" = some (.ref (He.ga K "fraction")) := W.glo 4 rfl
theorem Wd.g_excess {K : PySem.W.Frag} {mg : Str → Option Value} (W : Wd K mg) : mg "excess" = some (.ref (He.ga K "excess")) := W.glo 5 rfl
theorem Wd.g_law_source {K : PySem.W.Frag} {mg : Str → Option Value} (W : Wd K mg) : mg "_law_source" = some (.ref (He.ga K "_law_source")) := W.glo 6 rfl
theorem Wd.g_law_draw {K : PySem.W.Frag} {mg : Str → Option Value} (W : Wd K mg) : mg "_law_draw" = some (.ref (He.ga K "_law_draw")) := W.glo 7 rfl
theorem Wd.g_law_same {K : PySem.W.Frag} {mg : Str → Option Value} (W : Wd K mg) : mg "_law_same" = some (.ref (He.ga K "_law_same")) := W.glo 8 rfl
theorem Wd.g_law_lowest {K : PySem.W.Frag} {mg : Str → Option Value} (W : Wd K mg) : mg "_law_lowest" = some (.ref (He.ga K "_law_lowest")) := W.glo 9 rfl
theorem Wd.g_law_ratio {K : PySem.W.Frag} {mg : Str → Option Value} (W : Wd K mg) : mg "_law_ratio" = some (.ref (He.ga K "_law_ratio")) := W.glo 10 rfl
theorem Wd.g_law_sum {K : PySem.W.Frag} {mg : Str → Option Value} (W : Wd K mg) : mg "_law_sum" = some (.ref (He.ga K "_law_sum")) := W.glo 11 rfl
theorem Wd.g_law_product {K : PySem.W.Frag} {mg : Str → Option Value} (W : Wd K mg) : mg "_law_product" = some (.ref (He.ga K "_law_product")) := W.glo 12 rfl
theorem Wd.g_law_minus {K : PySem.W.Frag} {mg : Str → Option Value} (W : Wd K mg) : mg "_law_minus" = some (.ref (He.ga K "_law_minus")) := W.glo 13 rfl
theorem Wd.g_law_is_share {K : PySem.W.Frag} {mg : Str → Option Value} (W : Wd K mg) : mg "_law_is_share" = some (.ref (He.ga K "_law_is_share")) := W.glo 14 rfl
theorem Wd.g_law_integer {K : PySem.W.Frag} {mg : Str → Option Value} (W : Wd K mg) : mg "_law_integer" = some (.ref (He.ga K "_law_integer")) := W.glo 15 rfl
theorem Wd.g_law_divided {K : PySem.W.Frag} {mg : Str → Option Value} (W : Wd K mg) : mg "_law_divided" = some (.ref (He.ga K "_law_divided")) := W.glo 16 rfl
theorem Wd.g_law_totals {K : PySem.W.Frag} {mg : Str → Option Value} (W : Wd K mg) : mg "_law_totals" = some (.ref (He.ga K "_law_totals")) := W.glo 17 rfl
theorem Wd.g_law_right {K : PySem.W.Frag} {mg : Str → Option Value} (W : Wd K mg) : mg "_law_right" = some (.ref (He.ga K "_law_right")) := W.glo 18 rfl
theorem Wd.g_law {K : PySem.W.Frag} {mg : Str → Option Value} (W : Wd K mg) : mg "law" = some (.ref (He.ga K "law")) := W.glo 19 rfl
theorem Wd.g_Share {K : PySem.W.Frag} {mg : Str → Option Value} (W : Wd K mg) : mg "Share" = some (.ref (He.ga K "Share")) := W.glo 20 rfl
theorem Wd.g_NoShare {K : PySem.W.Frag} {mg : Str → Option Value} (W : Wd K mg) : mg "NoShare" = some (.ref (He.ga K "NoShare")) := W.glo 21 rfl
theorem Wd.f_isinstance {K : PySem.W.Frag} {mg : Str → Option Value} (W : Wd K mg) : mg "isinstance" = none := W.free 22 rfl
theorem Wd.f_int {K : PySem.W.Frag} {mg : Str → Option Value} (W : Wd K mg) : mg "int" = none := W.free 23 rfl
theorem Wd.f_bool {K : PySem.W.Frag} {mg : Str → Option Value} (W : Wd K mg) : mg "bool" = none := W.free 24 rfl
theorem Wd.f_abs {K : PySem.W.Frag} {mg : Str → Option Value} (W : Wd K mg) : mg "abs" = none := W.free 25 rfl
theorem Wd.f_len {K : PySem.W.Frag} {mg : Str → Option Value} (W : Wd K mg) : mg "len" = none := W.free 26 rfl
theorem Wd.f_range {K : PySem.W.Frag} {mg : Str → Option Value} (W : Wd K mg) : mg "range" = none := W.free 27 rfl
theorem Wd.f_str {K : PySem.W.Frag} {mg : Str → Option Value} (W : Wd K mg) : mg "str" = none := W.free 28 rfl
theorem Wd.f_list {K : PySem.W.Frag} {mg : Str → Option Value} (W : Wd K mg) : mg "list" = none := W.free 29 rfl
theorem Wd.f_tuple {K : PySem.W.Frag} {mg : Str → Option Value} (W : Wd K mg) : mg "tuple" = none := W.free 30 rfl
theorem Wd.f_all {K : PySem.W.Frag} {mg : Str → Option Value} (W : Wd K mg) : mg "all" = none := W.free 31 rfl
theorem Wd.f_zip {K : PySem.W.Frag} {mg : Str → Option Value} (W : Wd K mg) : mg "zip" = none := W.free 32 rfl
theorem Wd.f_super {K : PySem.W.Frag} {mg : Str → Option Value} (W : Wd K mg) : mg "super" = none := W.free 33 rfl
theorem Wd.f_NotImplemented {K : PySem.W.Frag} {mg : Str → Option Value} (W : Wd K mg) : mg "NotImplemented" = none := W.free 34 rfl
theorem Wd.cls_Share {K : PySem.W.Frag} {mg : Str → Option Value} (W : Wd K mg) : Cls K (He.ga K "Share") := He.cls_ok (W.c.fact 35 rfl)
theorem Wd.mkr_Share {K : PySem.W.Frag} {mg : Str → Option Value} (W : Wd K mg) : Mk K (He.ga K "Share") (He.ma K (He.ga K "Share") "__init__") := He.mkr_ok (W.c.fact 36 rfl)
theorem Wd.n_Share_top {K : PySem.W.Frag} {mg : Str → Option Value} (W : Wd K mg) : NoAttr K (He.ga K "Share") "top" := He.noat_ok (W.c.fact 37 rfl)
theorem Wd.n_Share_bottom {K : PySem.W.Frag} {mg : Str → Option Value} (W : Wd K mg) : NoAttr K (He.ga K "Share") "bottom" := He.noat_ok (W.c.fact 38 rfl)
theorem Wd.n_NoShare_top {K : PySem.W.Frag} {mg : Str → Option Value} (W : Wd K mg) : NoAttr K (He.ga K "NoShare") "top" := He.noat_ok (W.c.fact 39 rfl)
theorem Wd.m_Share_add {K : PySem.W.Frag} {mg : Str → Option Value} (W : Wd K mg) : Meth K (He.ga K "Share") "__add__" (He.ma K (He.ga K "Share") "__add__") := He.meth_ok (W.c.fact 40 rfl)
theorem Wd.m_Share_radd {K : PySem.W.Frag} {mg : Str → Option Value} (W : Wd K mg) : Meth K (He.ga K "Share") "__radd__" (He.ma K (He.ga K "Share") "__radd__") := He.meth_ok (W.c.fact 41 rfl)
theorem Wd.m_Share_sub {K : PySem.W.Frag} {mg : Str → Option Value} (W : Wd K mg) : Meth K (He.ga K "Share") "__sub__" (He.ma K (He.ga K "Share") "__sub__") := He.meth_ok (W.c.fact 42 rfl)
theorem Wd.m_Share_rsub {K : PySem.W.Frag} {mg : Str → Option Value} (W : Wd K mg) : Meth K (He.ga K "Share") "__rsub__" (He.ma K (He.ga K "Share") "__rsub__") := He.meth_ok (W.c.fact 43 rfl)
theorem Wd.m_Share_mul {K : PySem.W.Frag} {mg : Str → Option Value} (W : Wd K mg) : Meth K (He.ga K "Share") "__mul__" (He.ma K (He.ga K "Share") "__mul__") := He.meth_ok (W.c.fact 44 rfl)
theorem Wd.m_Share_rmul {K : PySem.W.Frag} {mg : Str → Option Value} (W : Wd K mg) : Meth K (He.ga K "Share") "__rmul__" (He.ma K (He.ga K "Share") "__rmul__") := He.meth_ok (W.c.fact 45 rfl)
theorem Wd.m_Share_neg {K : PySem.W.Frag} {mg : Str → Option Value} (W : Wd K mg) : Meth K (He.ga K "Share") "__neg__" (He.ma K (He.ga K "Share") "__neg__") := He.meth_ok (W.c.fact 46 rfl)
theorem Wd.m_Share_abs {K : PySem.W.Frag} {mg : Str → Option Value} (W : Wd K mg) : Meth K (He.ga K "Share") "__abs__" (He.ma K (He.ga K "Share") "__abs__") := He.meth_ok (W.c.fact 47 rfl)
theorem Wd.m_Share_over {K : PySem.W.Frag} {mg : Str → Option Value} (W : Wd K mg) : Meth K (He.ga K "Share") "over" (He.ma K (He.ga K "Share") "over") := He.meth_ok (W.c.fact 48 rfl)
theorem Wd.F_divisor {K : PySem.W.Frag} {mg : Str → Option Value} (W : Wd K mg) : ∃ fd, FunD K d_divisor.name d_divisor.qual d_divisor.params d_divisor.body d_divisor.scope (d_divisor.dvs K) (d_divisor.kws K) (He.fAd K d_divisor.at_) fd := W.c.def_ 0 rfl
theorem Wd.F_is_integer {K : PySem.W.Frag} {mg : Str → Option Value} (W : Wd K mg) : ∃ fd, FunD K d_is_integer.name d_is_integer.qual d_is_integer.params d_is_integer.body d_is_integer.scope (d_is_integer.dvs K) (d_is_integer.kws K) (He.fAd K d_is_integer.at_) fd := W.c.def_ 1 rfl
theorem Wd.F_is_number {K : PySem.W.Frag} {mg : Str → Option Value} (W : Wd K mg) : ∃ fd, FunD K d_is_number.name d_is_number.qual d_is_number.params d_is_number.body d_is_number.scope (d_is_number.dvs K) (d_is_number.kws K) (He.fAd K d_is_number.at_) fd := W.c.def_ 2 rfl
theorem Wd.F_share_of {K : PySem.W.Frag} {mg : Str → Option Value} (W : Wd K mg) : ∃ fd, FunD K d_share_of.name d_share_of.qual d_share_of.params d_share_of.body d_share_of.scope (d_share_of.dvs K) (d_share_of.kws K) (He.fAd K d_share_of.at_) fd := W.c.def_ 3 rfl
theorem Wd.F_fraction {K : PySem.W.Frag} {mg : Str → Option Value} (W : Wd K mg) : ∃ fd, FunD K d_fraction.name d_fraction.qual d_fraction.params d_fraction.body d_fraction.scope (d_fraction.dvs K) (d_fraction.kws K) (He.fAd K d_fraction.at_) fd := W.c.def_ 4 rfl
theorem Wd.F_excess {K : PySem.W.Frag} {mg : Str → Option Value} (W : Wd K mg) : ∃ fd, FunD K d_excess.name d_excess.qual d_excess.params d_excess.body d_excess.scope (d_excess.dvs K) (d_excess.kws K) (He.fAd K d_excess.at_) fd := W.c.def_ 5 rfl
theorem Wd.F_source {K : PySem.W.Frag} {mg : Str → Option Value} (W : Wd K mg) : ∃ fd, FunD K d_source.name d_source.qual d_source.params d_source.body d_source.scope (d_source.dvs K) (d_source.kws K) (He.fAd K d_source.at_) fd := W.c.def_ 6 rfl
theorem Wd.F_draw {K : PySem.W.Frag} {mg : Str → Option Value} (W : Wd K mg) : ∃ fd, FunD K d_draw.name d_draw.qual d_draw.params d_draw.body d_draw.scope (d_draw.dvs K) (d_draw.kws K) (He.fAd K d_draw.at_) fd := W.c.def_ 7 rfl
theorem Wd.F_same {K : PySem.W.Frag} {mg : Str → Option Value} (W : Wd K mg) : ∃ fd, FunD K d_same.name d_same.qual d_same.params d_same.body d_same.scope (d_same.dvs K) (d_same.kws K) (He.fAd K d_same.at_) fd := W.c.def_ 8 rfl
theorem Wd.F_lowest {K : PySem.W.Frag} {mg : Str → Option Value} (W : Wd K mg) : ∃ fd, FunD K d_lowest.name d_lowest.qual d_lowest.params d_lowest.body d_lowest.scope (d_lowest.dvs K) (d_lowest.kws K) (He.fAd K d_lowest.at_) fd := W.c.def_ 9 rfl
theorem Wd.F_ratio {K : PySem.W.Frag} {mg : Str → Option Value} (W : Wd K mg) : ∃ fd, FunD K d_ratio.name d_ratio.qual d_ratio.params d_ratio.body d_ratio.scope (d_ratio.dvs K) (d_ratio.kws K) (He.fAd K d_ratio.at_) fd := W.c.def_ 10 rfl
theorem Wd.F_sum {K : PySem.W.Frag} {mg : Str → Option Value} (W : Wd K mg) : ∃ fd, FunD K d_sum.name d_sum.qual d_sum.params d_sum.body d_sum.scope (d_sum.dvs K) (d_sum.kws K) (He.fAd K d_sum.at_) fd := W.c.def_ 11 rfl
theorem Wd.F_product {K : PySem.W.Frag} {mg : Str → Option Value} (W : Wd K mg) : ∃ fd, FunD K d_product.name d_product.qual d_product.params d_product.body d_product.scope (d_product.dvs K) (d_product.kws K) (He.fAd K d_product.at_) fd := W.c.def_ 12 rfl
theorem Wd.F_minus {K : PySem.W.Frag} {mg : Str → Option Value} (W : Wd K mg) : ∃ fd, FunD K d_minus.name d_minus.qual d_minus.params d_minus.body d_minus.scope (d_minus.dvs K) (d_minus.kws K) (He.fAd K d_minus.at_) fd := W.c.def_ 13 rfl
theorem Wd.F_is_share {K : PySem.W.Frag} {mg : Str → Option Value} (W : Wd K mg) : ∃ fd, FunD K d_is_share.name d_is_share.qual d_is_share.params d_is_share.body d_is_share.scope (d_is_share.dvs K) (d_is_share.kws K) (He.fAd K d_is_share.at_) fd := W.c.def_ 14 rfl
theorem Wd.F_integer {K : PySem.W.Frag} {mg : Str → Option Value} (W : Wd K mg) : ∃ fd, FunD K d_integer.name d_integer.qual d_integer.params d_integer.body d_integer.scope (d_integer.dvs K) (d_integer.kws K) (He.fAd K d_integer.at_) fd := W.c.def_ 15 rfl
theorem Wd.F_divided {K : PySem.W.Frag} {mg : Str → Option Value} (W : Wd K mg) : ∃ fd, FunD K d_divided.name d_divided.qual d_divided.params d_divided.body d_divided.scope (d_divided.dvs K) (d_divided.kws K) (He.fAd K d_divided.at_) fd := W.c.def_ 16 rfl
theorem Wd.F_totals {K : PySem.W.Frag} {mg : Str → Option Value} (W : Wd K mg) : ∃ fd, FunD K d_totals.name d_totals.qual d_totals.params d_totals.body d_totals.scope (d_totals.dvs K) (d_totals.kws K) (He.fAd K d_totals.at_) fd := W.c.def_ 17 rfl
theorem Wd.F_right {K : PySem.W.Frag} {mg : Str → Option Value} (W : Wd K mg) : ∃ fd, FunD K d_right.name d_right.qual d_right.params d_right.body d_right.scope (d_right.dvs K) (d_right.kws K) (He.fAd K d_right.at_) fd := W.c.def_ 18 rfl
theorem Wd.F_law {K : PySem.W.Frag} {mg : Str → Option Value} (W : Wd K mg) : ∃ fd, FunD K d_law.name d_law.qual d_law.params d_law.body d_law.scope (d_law.dvs K) (d_law.kws K) (He.fAd K d_law.at_) fd := W.c.def_ 19 rfl
theorem Wd.F_Share_init {K : PySem.W.Frag} {mg : Str → Option Value} (W : Wd K mg) : ∃ fd, FunD K d_Share_init.name d_Share_init.qual d_Share_init.params d_Share_init.body d_Share_init.scope (d_Share_init.dvs K) (d_Share_init.kws K) (He.fAd K d_Share_init.at_) fd := W.c.def_ 20 rfl
theorem Wd.F_Share_add {K : PySem.W.Frag} {mg : Str → Option Value} (W : Wd K mg) : ∃ fd, FunD K d_Share_add.name d_Share_add.qual d_Share_add.params d_Share_add.body d_Share_add.scope (d_Share_add.dvs K) (d_Share_add.kws K) (He.fAd K d_Share_add.at_) fd := W.c.def_ 21 rfl
theorem Wd.F_Share_radd {K : PySem.W.Frag} {mg : Str → Option Value} (W : Wd K mg) : ∃ fd, FunD K d_Share_radd.name d_Share_radd.qual d_Share_radd.params d_Share_radd.body d_Share_radd.scope (d_Share_radd.dvs K) (d_Share_radd.kws K) (He.fAd K d_Share_radd.at_) fd := W.c.def_ 22 rfl
theorem Wd.F_Share_sub {K : PySem.W.Frag} {mg : Str → Option Value} (W : Wd K mg) : ∃ fd, FunD K d_Share_sub.name d_Share_sub.qual d_Share_sub.params d_Share_sub.body d_Share_sub.scope (d_Share_sub.dvs K) (d_Share_sub.kws K) (He.fAd K d_Share_sub.at_) fd := W.c.def_ 23 rfl
theorem Wd.F_Share_rsub {K : PySem.W.Frag} {mg : Str → Option Value} (W : Wd K mg) : ∃ fd, FunD K d_Share_rsub.name d_Share_rsub.qual d_Share_rsub.params d_Share_rsub.body d_Share_rsub.scope (d_Share_rsub.dvs K) (d_Share_rsub.kws K) (He.fAd K d_Share_rsub.at_) fd := W.c.def_ 24 rfl
theorem Wd.F_Share_mul {K : PySem.W.Frag} {mg : Str → Option Value} (W : Wd K mg) : ∃ fd, FunD K d_Share_mul.name d_Share_mul.qual d_Share_mul.params d_Share_mul.body d_Share_mul.scope (d_Share_mul.dvs K) (d_Share_mul.kws K) (He.fAd K d_Share_mul.at_) fd := W.c.def_ 25 rfl
theorem Wd.F_Share_rmul {K : PySem.W.Frag} {mg : Str → Option Value} (W : Wd K mg) : ∃ fd, FunD K d_Share_rmul.name d_Share_rmul.qual d_Share_rmul.params d_Share_rmul.body d_Share_rmul.scope (d_Share_rmul.dvs K) (d_Share_rmul.kws K) (He.fAd K d_Share_rmul.at_) fd := W.c.def_ 26 rfl
theorem Wd.F_Share_neg {K : PySem.W.Frag} {mg : Str → Option Value} (W : Wd K mg) : ∃ fd, FunD K d_Share_neg.name d_Share_neg.qual d_Share_neg.params d_Share_neg.body d_Share_neg.scope (d_Share_neg.dvs K) (d_Share_neg.kws K) (He.fAd K d_Share_neg.at_) fd := W.c.def_ 27 rfl
theorem Wd.F_Share_abs {K : PySem.W.Frag} {mg : Str → Option Value} (W : Wd K mg) : ∃ fd, FunD K d_Share_abs.name d_Share_abs.qual d_Share_abs.params d_Share_abs.body d_Share_abs.scope (d_Share_abs.dvs K) (d_Share_abs.kws K) (He.fAd K d_Share_abs.at_) fd := W.c.def_ 28 rfl
theorem Wd.F_Share_over {K : PySem.W.Frag} {mg : Str → Option Value} (W : Wd K mg) : ∃ fd, FunD K d_Share_over.name d_Share_over.qual d_Share_over.params d_Share_over.body d_Share_over.scope (d_Share_over.dvs K) (d_Share_over.kws K) (He.fAd K d_Share_over.at_) fd := W.c.def_ 29 rfl
def loose1 : List PySem.Str := ["LessError", "NoShare", "Share", "_law_divided", "_law_draw", "_law_integer", "_law_is_share", "_law_lowest", "_law_minus", "_law_product", "_law_ratio", "_law_right", "_law_same", "_law_source", "_law_sum", "_law_totals", "digits", "divisor", "excess", "fraction", "is_integer", "is_number", "share_of"]
def loose2 : List PySem.Str := []
abbrev R : PySem.W.OpenRow := PySem.W.OpenLaw.row PySem.Challenge.rw_lessways_k32_shares_reckoned
def lawAt : Nat := 26
def big9 : Nat := 2 ^ 8999
def bigM : Nat := 2 ^ 400000
section
variable {X : Cx}
/-- // by a divisor that is not 0, below 2 ^ 9000 either way -/
theorem op_fdivX : OpR X (binaryOp .FloorDiv) (rI (fun _ j => j ≠ 0 ∧ j.natAbs < big9) fun i j => .int (i.fdiv j)) := opI fun i j _ _ _ _ _ hc q => by
  exact floordiv_int hc.1 q (.inl (PyProof.noPylong_of_log2 (Nat.lt_of_lt_of_le (PySem.Flt.log2_lt_of (by decide) hc.2) (by decide))))
theorem call_intI : CallR X (.type "int") (fun xs H Q => ∃ i, xs = [.int i] ∧ Q (.int i) H) := fun pins s σ H xs us Q I r h => by
  obtain ⟨i, e, q⟩ := h
  exact call_int1 pins s σ H xs us Q I r (.inl ⟨i, e, q⟩)
theorem op_mulX9 : OpR X (binaryOp .Mult) (rI (fun i j => i.natAbs < bigM ∧ j.natAbs < bigM) fun i j => .int (i * j)) := opI fun i j _ _ _ _ _ hc q => by
  refine mul_int q (CMulW.ok (wide_mul hc.1 hc.2 (by omega) (by omega) (by omega)))
end
def rIxLH : R2 := fun x y H Q => ∃ (p : Addr) (xs : List V) (i : Int) (v : V), x = .ref p ∧ y = .int i ∧ H p = some (.lst xs) ∧ atI xs i = some v ∧ Q v H
def rIxTH : R2 := fun x y H Q => ∃ (p : Addr) (xs : List V) (i : Int) (v : V), x = .ref p ∧ y = .int i ∧ H p = some (.tup xs) ∧ atI xs i = some v ∧ Q v H
section
variable {X : Cx}
theorem ix_lstH : IxR X rIxLH := by
  intro value slice pins s σ H x y v u Q I rx ry h hs
  obtain ⟨p, xs, i, z, e1, e2, hp, a, q⟩ := h
  exact ix_list value slice pins s σ H x y v u Q I rx ry ⟨p, xs, i, z, e1, e2, SqL.of hp, a, q⟩ hs
theorem ix_tupH : IxR X rIxTH := by
  intro value slice pins s σ H x y v u Q I rx ry h hs
  obtain ⟨p, xs, i, z, e1, e2, hp, a, q⟩ := h
  exact ix_tup value slice pins s σ H x y v u Q I rx ry ⟨p, xs, i, z, e1, e2, SqT.of hp, a, q⟩ hs
end
theorem cxK {CX : CXT} {P : Program} {w : World} {K : PySem.W.Frag} {mg : Str → Option Value} {base : Heap} {N : List Str} {qual : Str} {scope : Scope} {f : Addr} {cd : Value} {A : Around} {outer : List Env} {s : Shared} {H : Hp} {E : XK} :
    (cxOf CX P w K mg base N qual scope f cd A outer s H E).K = K := rfl
/-- the size of the int in slot i -/
def intAt (i : Nat) (σ : List (Option V)) : Nat := match σ[i]? with
  | some (some (V.int x)) => x.natAbs
  | _ => 0
theorem ex2 {α β : Type} {a : α} {b : β} {P : α → β → Prop} : (∃ x y, (a = x ∧ b = y) ∧ P x y) ↔ P a b := ⟨fun ⟨_, _, ⟨e1, e2⟩, h⟩ => by subst e1 e2; exact h, fun h => ⟨_, _, ⟨rfl, rfl⟩, h⟩⟩
theorem ex3 {α β γ : Type} {a : α} {b : β} {c : γ} {P : α → β → γ → Prop} : (∃ x y z, (a = x ∧ b = y ∧ c = z) ∧ P x y z) ↔ P a b c := ⟨fun ⟨_, _, _, ⟨e1, e2, e3⟩, h⟩ => by subst e1 e2 e3; exact h, fun h => ⟨_, _, _, ⟨rfl, rfl, rfl⟩, h⟩⟩
theorem ex3b {α β γ : Type} {a : α} {b : β} {c : γ} {P : α → β → γ → Prop} : (∃ x y z, (a = x ∧ b = y ∧ z = c) ∧ P x y z) ↔ P a b c := ⟨fun ⟨_, _, _, ⟨e1, e2, e3⟩, h⟩ => by subst e1 e2 e3; exact h, fun h => ⟨_, _, _, ⟨rfl, rfl, rfl⟩, h⟩⟩
universe u
/-- what a is locked with: behind it simp leaves a be -/
structure Lk {α : Sort u} (a : α) : Type
/-- a new object: what follows holds of it and of the heap with it -/
def Alloc (H : Hp) (o : HO) (Q : V → Hp → Prop) (_ : Lk Q := ⟨⟩) : Prop := ∀ p, H p = none → Q (.ref p) (upd H p o)
theorem same_upd {H : Hp} {p : Addr} {o : HO} (h : H p = none) : Same H (upd H p o) := fun b u e => by
  rw [upd_ne (ne_of_none e h)]
  exact e
theorem Alloc.of {H : Hp} {o : HO} {Q : V → Hp → Prop} (h : ∀ p H', H p = none → H' p = some o → Same H H' → Q (.ref p) H') : Alloc H o Q := fun p hp => h p _ hp upd_same (same_upd hp)
theorem tLst_A {t : TA} {σ : List (Option V)} {H : Hp} {Q : V → Hp → Prop} : tLst t σ H Q = t σ H fun xs H1 => xs.length ≤ sizeLine ∧ Alloc H1 (.lst xs) Q := rfl
theorem tTup_A {t : TA} {σ : List (Option V)} {H : Hp} {Q : V → Hp → Prop} : tTup t σ H Q = t σ H fun xs H1 => xs.length ≤ sizeLine ∧ Alloc H1 (.tup xs) Q := rfl
/-! ### the draws -/
section
variable {P : Program} {w : World} {K : PySem.W.Frag} {mg : Str → Option Value} {base : Heap}
def draws (d0 d1 d2 : Int) : HO := .lst [.int d0, .int d1, .int d2]
theorem scSource : FnScope ["_law_script", "_law_at", "_law_cell"] ["_law_script", "_law_at"] d_source.scope := ⟨rfl, rfl, rfl, by decide +kernel, rfl, by decide +kernel, by decide +kernel⟩
def spSource (K : PySem.W.Frag) : Sp := fun vs H Q _ => ∃ (a : Addr) (ns : List Int) (k : Nat), vs = [.ref a, .int k] ∧ SqL K H a (ns.map V.int) ∧ k < 100 ∧ ∀ (d0 d1 : Int) (p : Addr), H p = none → Q (.ref p) (upd H p (draws d0 d1 0))
theorem le3 : 3 ≤ sizeLine := by decide
theorem ok_source (W : Wd K mg) : ∃ fd, FnOk P w K mg base CX0 1 (He.ga K "_law_source") fd ["_law_script", "_law_at"] (spSource K) ∧ Binds K fd ["_law_script", "_law_at"] [] := by
  obtain ⟨fd, F⟩ := W.F_source
  refine ⟨fd, F.ok scSource (fun vs H Q E h => ?_) (fun cdv A outer s H vs Q E hr h => ?_), FunD.bindsN F fun _ _ _ _ _ _ us hl => match us, hl with | [_, _], _ => rfl⟩
  · obtain ⟨a, ns, k, rfl, _⟩ := h
    rfl
  · obtain ⟨a, ns, k, rfl, hS, hk, q⟩ := h
    refine ⟨_, PSs.nox (pss_cons (ps_set (i := 2) scSource.nd rfl (Or.inl rfl) (pe_ifExp (pt_cmpR op_lt (pv 1) (pe_callB call_len_seq (by rfl) W.f_len boot_len (pa_cons (pv 0) pa_nil)) (nomark _)) (pe_ix ix_list (pv 0) (pv 1) (fun _ _ => rfl)) (pe_op op_add (pe_op op_mul pe_int (pv 1)) pe_int)))
      (pss_one (ps_ret (pe_lst (pa_cons (pe_ifExp (pt_cmpR op_ge (pv 2) (pe_op op_pow pe_int pe_int) (nomark _)) (pv 2) pe_int) (pa_cons (pe_op op_mod (pe_callTy call_intI (by rfl) W.f_int (by decide +kernel) (pa_cons (pv 2) pa_nil)) pe_int) (pa_cons pe_int pa_nil))))))), ?_⟩
    simp -dsimp [tSeq, tAsg, tRet, tIfS, tIf, tTest, tVar, tCons, tNil, tC, tOp, tUn, rI, rI0, rU, tCB, tLst_A, tTup_A, gName, L2.start, CMul, CPow, CDiv, tDrop, tBM, tBM0, tNext, tPar, gSub, rSetL, rIxL, rIxT, tChain, tB, tNot, tNotV, tAnd, tOr, tAndV, tOrV, tFld, tCall, rIxLH, rIxTH, ixN, upd_same, cxK, ex2, ex3, ex3b]
    refine ⟨ns.map V.int, .inl hS, ?_⟩
    split
    · rename_i hk'
      obtain ⟨z, hz⟩ : ∃ z : Int, (ns.map V.int)[k]? = some (V.int z) := by
        rw [List.length_map] at hk'
        exact ⟨ns[k], by rw [List.getElem?_map, List.getElem?_eq_getElem hk']; rfl⟩
      refine ⟨_, hS, _, atI_nat hz, ?_⟩
      simp -dsimp [tSeq, tAsg, tRet, tIfS, tIf, tTest, tVar, tCons, tNil, tC, tOp, tUn, rI, rI0, rU, tCB, tLst_A, tTup_A, gName, L2.start, CMul, CPow, CDiv, tDrop, tBM, tBM0, tNext, tPar, gSub, rSetL, rIxL, rIxT, tChain, tB, tNot, tNotV, tAnd, tOr, tAndV, tOrV, tFld, tCall, rIxLH, rIxTH, atI, ixN, upd_same, cxK, ex2, ex3, ex3b]
      split <;> exact ⟨le3, fun p hp => q _ _ p hp⟩
    · split <;> exact ⟨le3, fun p hp => q _ _ p hp⟩
theorem scDraw : FnScope ["_law_draws", "_law_many", "_law_found"] ["_law_draws", "_law_many"] d_draw.scope := ⟨rfl, rfl, rfl, by decide +kernel, rfl, by decide +kernel, by decide +kernel⟩
def spDraw (K : PySem.W.Frag) : Sp := fun vs H Q _ => ∃ (l : Addr) (d0 d1 d2 m : Int), vs = [.ref l, .int m] ∧ H l = some (draws d0 d1 d2) ∧ 0 < m ∧ m.natAbs < 2 ^ 64 ∧ ∀ (r e0 e1 e2 : Int), 0 ≤ r → r < m → Q (.int r) (upd H l (draws e0 e1 e2))
theorem ok_draw (W : Wd K mg) : ∃ fd, FnOk P w K mg base CX0 1 (He.ga K "_law_draw") fd ["_law_draws", "_law_many"] (spDraw K) ∧ Binds K fd ["_law_draws", "_law_many"] [] := by
  obtain ⟨fd, F⟩ := W.F_draw
  refine ⟨fd, F.ok scDraw (fun vs H Q E h => ?_) (fun cdv A outer s H vs Q E hr h => ?_), FunD.bindsN F fun _ _ _ _ _ _ us hl => match us, hl with | [_, _], _ => rfl⟩
  · obtain ⟨a, d0, d1, d2, m, rfl, _⟩ := h
    rfl
  · obtain ⟨l, d0, d1, d2, m, rfl, hl, h0, hm, q⟩ := h
    refine ⟨_, PSs.nox (pss_cons (ps_if (pt_cmpR op_gt (pe_ix ix_lstH (pv 0) pe_int (fun _ _ => rfl)) pe_int (nomark _))
        (pss_cons (ps_set (i := 2) scDraw.nd rfl (Or.inl rfl) (pe_op op_mod (pe_callTy call_intI (by rfl) W.f_int (by decide +kernel) (pa_cons (pe_ix ix_lstH (pv 0) pe_int (fun _ _ => rfl)) pa_nil)) (pv 1)))
        (pss_cons (ps_asg (pe_op op_fdivW (pe_ix ix_lstH (pv 0) pe_int (fun _ _ => rfl)) (pv 1)) (pg_sub (pv 0) pe_int set_list))
        (pss_one (ps_ret (pv 2))))) pss_nil)
      (pss_cons (ps_asg (pe_op op_add (pe_ix ix_lstH (pv 0) pe_int (fun _ _ => rfl)) pe_int) (pg_sub (pv 0) pe_int set_list))
      (pss_cons (ps_asg (pe_op op_mod (pe_callTy call_intI (by rfl) W.f_int (by decide +kernel) (pa_cons (pe_op op_add (pe_op op_add (pe_op op_mul (pe_ix ix_lstH (pv 0) pe_int (fun _ _ => rfl)) pe_int) (pe_op op_mul (pe_ix ix_lstH (pv 0) pe_int (fun _ _ => rfl)) pe_int)) pe_int) pa_nil)) pe_int) (pg_sub (pv 0) pe_int set_list))
      (pss_one (ps_ret (pe_op op_mod (pe_callTy call_intI (by rfl) W.f_int (by decide +kernel) (pa_cons (pe_op op_add (pe_op op_fdiv (pe_ix ix_lstH (pv 0) pe_int (fun _ _ => rfl)) pe_int) (pe_ix ix_lstH (pv 0) pe_int (fun _ _ => rfl))) pa_nil)) (pv 1))))))), ?_⟩
    simp -dsimp [tSeq, tAsg, tRet, tIfS, tIf, tTest, tVar, tCons, tNil, tC, tOp, tUn, rI, rI0, rU, tCB, tLst_A, tTup_A, gName, L2.start, CMul, CPow, CDiv, tDrop, tBM, tBM0, tNext, tPar, gSub, rSetL, rIxL, rIxT, tChain, tB, tNot, tNotV, tAnd, tOr, tAndV, tOrV, tFld, tCall, rIxLH, rIxTH, atI, ixN, upd_same, cxK, ex2, ex3, ex3b, hl, draws]
    split
    · exact ⟨h0, ⟨h0, Nat.lt_of_lt_of_le (PySem.Flt.log2_lt_of (by decide) hm) (by decide)⟩, q _ _ _ _ (Int.emod_nonneg _ (by omega)) (Int.emod_lt_of_pos _ h0)⟩
    · rw [upd_upd]
      exact ⟨h0, q _ _ _ _ (Int.emod_nonneg _ (by omega)) (Int.emod_lt_of_pos _ h0)⟩
end
section
variable {P : Program} {w : World} {K : PySem.W.Frag} {mg : Str → Option Value} {base : Heap}
theorem scInteger : FnScope ["_law_draws", "_law_way", "_law_found"] ["_law_draws"] d_integer.scope := ⟨rfl, rfl, rfl, by decide +kernel, rfl, by decide +kernel, by decide +kernel⟩
def spInteger (K : PySem.W.Frag) : Sp := fun vs H Q _ => ∃ (l : Addr) (d0 d1 d2 : Int), vs = [.ref l] ∧ H l = some (draws d0 d1 d2) ∧ ∀ (r e0 e1 e2 : Int), r.natAbs < 1000000000000 → Q (.int r) (upd H l (draws e0 e1 e2))
theorem ok_integer (W : Wd K mg) : ∃ fd, FnOk P w K mg base CX0 2 (He.ga K "_law_integer") fd ["_law_draws"] (spInteger K) ∧ Binds K fd ["_law_draws"] [] := by
  obtain ⟨fd, F⟩ := W.F_integer
  obtain ⟨fdD, G, bG⟩ := ok_draw (P := P) (w := w) (base := base) W
  have kD : PySem.W.keepIn K (.ref (He.ga K "_law_draw")) = true := by
    obtain ⟨fd, F⟩ := W.F_draw
    exact F.kp
  refine ⟨fd, F.ok scInteger (fun vs H Q E h => ?_) (fun cdv A outer s H vs Q E hr h => ?_), FunD.bindsN F fun _ _ _ _ _ _ us hl => match us, hl with | [_], _ => rfl⟩
  · obtain ⟨a, d0, d1, d2, rfl, _⟩ := h
    rfl
  · obtain ⟨l, d0, d1, d2, rfl, hl, q⟩ := h
    refine ⟨_, PSs.nox (pss_cons (ps_set (i := 1) scInteger.nd rfl (Or.inl rfl) (pe_call G hr rfl W.g_law_draw kD bG .nil pass0 (pa_cons (pv 0) (pa_cons pe_int pa_nil))))
      (pss_cons (ps_if (pt_cmpR op_lt (pv 1) pe_int (nomark _)) (pss_one (ps_ret (pe_op op_sub (pe_call G hr rfl W.g_law_draw kD bG .nil pass0 (pa_cons (pv 0) (pa_cons pe_int pa_nil))) pe_int))) pss_nil)
      (pss_cons (ps_set (i := 2) scInteger.nd rfl (Or.inl rfl) (pe_op op_add (pe_op op_mul (pe_call G hr rfl W.g_law_draw kD bG .nil pass0 (pa_cons (pv 0) (pa_cons (pe_op op_pow pe_int pe_int) pa_nil))) (pe_op op_pow pe_int pe_int)) (pe_call G hr rfl W.g_law_draw kD bG .nil pass0 (pa_cons (pv 0) (pa_cons (pe_op op_pow pe_int pe_int) pa_nil)))))
      (pss_one (ps_ret (pe_ifExp (pt_cmpR op_lt (pv 1) pe_int (nomark _)) (pv 2) (pe_un un_neg (pv 2)))))))), ?_⟩
    simp -dsimp [tSeq, tAsg, tRet, tIfS, tIf, tTest, tVar, tCons, tNil, tC, tOp, tUn, rI, rI0, rU, tCB, tLst_A, tTup_A, gName, L2.start, CMul, CPow, CDiv, tDrop, tBM, tBM0, tNext, tPar, gSub, rSetL, rIxL, rIxT, tChain, tB, tNot, tNotV, tAnd, tOr, tAndV, tOrV, tFld, tCall, rIxLH, rIxTH, atI, ixN, upd_same, cxK, ex2, ex3, ex3b]
    refine ⟨l, d0, d1, d2, 6, rfl, hl, by decide, by decide, fun way e0 e1 e2 w0 w1 => ⟨_, rfl, ?_⟩⟩
    split
    · refine ⟨l, e0, e1, e2, 13, rfl, upd_same, by decide, by decide, fun r f0 f1 f2 r0 r1 => ⟨_, rfl, ?_⟩⟩
      rw [upd_upd]
      exact q _ _ _ _ (by omega)
    · refine ⟨l, e0, e1, e2, 1000000, rfl, upd_same, by decide, by decide, fun r f0 f1 f2 r0 r1 => ⟨_, rfl, ?_⟩⟩
      refine ⟨l, f0, f1, f2, 1000000, rfl, upd_same, by decide, by decide, fun r' g0 g1 g2 s0 s1 => ⟨_, rfl, _, rfl, ?_⟩⟩
      rw [upd_upd, upd_upd]
      split
      · exact q _ _ _ _ (by omega)
      · exact q _ _ _ _ (by omega)
theorem scMinus : FnScope ["_law_one"] ["_law_one"] d_minus.scope := ⟨rfl, rfl, rfl, by decide +kernel, rfl, by decide +kernel, by decide +kernel⟩
def spMinus (K : PySem.W.Frag) : Sp := fun vs H Q _ => ∃ (t : Addr) (a b : Int), vs = [.ref t] ∧ H t = some (.tup [.int a, .int b]) ∧ ∀ p, H p = none → Q (.ref p) (upd H p (.tup [.int (-a), .int b]))
theorem le2 : 2 ≤ sizeLine := by decide
theorem ok_minus (W : Wd K mg) : ∃ fd, FnOk P w K mg base CX0 1 (He.ga K "_law_minus") fd ["_law_one"] (spMinus K) ∧ Binds K fd ["_law_one"] [] := by
  obtain ⟨fd, F⟩ := W.F_minus
  refine ⟨fd, F.ok scMinus (fun vs H Q E h => ?_) (fun cdv A outer s H vs Q E hr h => ?_), FunD.bindsN F fun _ _ _ _ _ _ us hl => match us, hl with | [_], _ => rfl⟩
  · obtain ⟨t, a, b, rfl, _⟩ := h
    rfl
  · obtain ⟨t, a, b, rfl, ht, q⟩ := h
    refine ⟨_, PSs.nox (pss_one (ps_ret (pe_tup (pa_cons (pe_un un_neg (pe_ix ix_tupH (pv 0) pe_int (fun _ _ => rfl))) (pa_cons (pe_ix ix_tupH (pv 0) pe_int (fun _ _ => rfl)) pa_nil))))), ?_⟩
    simp -dsimp [tSeq, tAsg, tRet, tIfS, tIf, tTest, tVar, tCons, tNil, tC, tOp, tUn, rI, rI0, rU, tCB, tLst_A, tTup_A, gName, L2.start, CMul, CPow, CDiv, tDrop, tBM, tBM0, tNext, tPar, gSub, rSetL, rIxL, rIxT, tChain, tB, tNot, tNotV, tAnd, tOr, tAndV, tOrV, tFld, tCall, rIxLH, rIxTH, atI, ixN, upd_same, cxK, ex2, ex3, ex3b, ht]
    exact ⟨le2, q⟩
/-- the sign of the divisor times the greatest common divisor -/
def side (a b : Int) : Int := if b > 0 then (Int.gcd a b : Int) else -(Int.gcd a b : Int)
theorem scLowest : FnScope ["_law_up", "_law_down", "_law_low", "_law_part", "_law_side"] ["_law_up", "_law_down"] d_lowest.scope := ⟨rfl, rfl, rfl, by decide +kernel, rfl, by decide +kernel, by decide +kernel⟩
def spLowest (K : PySem.W.Frag) : Sp := fun vs H Q _ => ∃ (a b : Int), vs = [.int a, .int b] ∧ b ≠ 0 ∧ b.natAbs < big9 ∧ ∀ p, H p = none → Q (.ref p) (upd H p (.tup [.int (a.fdiv (side a b)), .int (b.fdiv (side a b))]))
theorem ok_lowest (W : Wd K mg) : ∃ fd, FnOk P w K mg base CX0 1 (He.ga K "_law_lowest") fd ["_law_up", "_law_down"] (spLowest K) ∧ Binds K fd ["_law_up", "_law_down"] [] := by
  obtain ⟨fd, F⟩ := W.F_lowest
  refine ⟨fd, F.ok scLowest (fun vs H Q E h => ?_) (fun cdv A outer s H vs Q E hr h => ?_), FunD.bindsN F fun _ _ _ _ _ _ us hl => match us, hl with | [_, _], _ => rfl⟩
  · obtain ⟨a, b, rfl, _⟩ := h
    rfl
  · obtain ⟨a, b, rfl, hb, hbb, q⟩ := h
    refine ⟨_, PSs.nox (pss_cons (ps_par (i := 2) (j := 3) rfl scLowest.nd rfl rfl (by decide) rfl rfl (pa_cons (pe_callB call_abs (by rfl) W.f_abs (by decide +kernel) (pa_cons (pe_callTy call_intI (by rfl) W.f_int (by decide +kernel) (pa_cons (pv 0) pa_nil)) pa_nil)) (pa_cons (pe_callB call_abs (by rfl) W.f_abs (by decide +kernel) (pa_cons (pe_callTy call_intI (by rfl) W.f_int (by decide +kernel) (pa_cons (pv 1) pa_nil)) pa_nil)) pa_nil)) rfl)
      (pss_cons (ps_while PassesOwn.never (pt_cmpR op_gt (pv 2) pe_int (nomark _))
        (pss_one (ps_par (i := 2) (j := 3) rfl scLowest.nd rfl rfl (by decide) rfl rfl (pa_cons (pe_op op_mod (pe_callTy call_intI (by rfl) W.f_int (by decide +kernel) (pa_cons (pv 3) pa_nil)) (pv 2)) (pa_cons (pv 2) pa_nil)) rfl)))
      (pss_cons (ps_set (i := 4) scLowest.nd rfl (Or.inl rfl) (pe_ifExp (pt_cmpR op_gt (pv 1) pe_int (nomark _)) (pv 3) (pe_un un_neg (pv 3))))
      (pss_one (ps_ret (pe_tup (pa_cons (pe_op op_fdivX (pv 0) (pv 4)) (pa_cons (pe_op op_fdivX (pv 1) (pv 4)) pa_nil)))))))), ?_⟩
    simp -dsimp [tSeq, tAsg, tRet, tIfS, tIf, tTest, tVar, tCons, tNil, tC, tOp, tUn, rI, rI0, rU, tCB, tLst_A, tTup_A, gName, L2.start, CMul, CPow, CDiv, tDrop, tBM, tBM0, tNext, tPar, gSub, rSetL, rIxL, rIxT, tChain, tB, tNot, tNotV, tAnd, tOr, tAndV, tOrV, tFld, tCall, rIxLH, rIxTH, atI, ixN, upd_same, cxK, ex2, ex3, ex3b]
    refine while_by (fun σ H' => H' = H ∧ ∃ x y : Int, σ = [some (.int a), some (.int b), some (.int x), some (.int y), none] ∧ 0 ≤ x ∧ 0 ≤ y ∧ Int.gcd x y = Int.gcd a b) (fun σ _ => intAt 2 σ) ⟨rfl, _, _, rfl, ?_, ?_, ?_⟩ ?_ ?_
    · split <;> omega
    · split <;> omega
    · split <;> split <;> simp -dsimp [tSeq, tAsg, tRet, tIfS, tIf, tTest, tVar, tCons, tNil, tC, tOp, tUn, rI, rI0, rU, tCB, tLst_A, tTup_A, gName, L2.start, CMul, CPow, CDiv, tDrop, tBM, tBM0, tNext, tPar, gSub, rSetL, rIxL, rIxT, tChain, tB, tNot, tNotV, tAnd, tOr, tAndV, tOrV, tFld, tCall, rIxLH, rIxTH, atI, ixN, upd_same, cxK, ex2, ex3, ex3b]
    · rintro σ H1 ⟨rfl, x, y, rfl, hx, hy, g⟩
      by_cases hp : 0 < x
      · simp -dsimp [tSeq, tAsg, tRet, tIfS, tIf, tTest, tVar, tCons, tNil, tC, tOp, tUn, rI, rI0, rU, tCB, tLst_A, tTup_A, gName, L2.start, CMul, CPow, CDiv, tDrop, tBM, tBM0, tNext, tPar, gSub, rSetL, rIxL, rIxT, tChain, tB, tNot, tNotV, tAnd, tOr, tAndV, tOrV, tFld, tCall, rIxLH, rIxTH, atI, ixN, upd_same, cxK, ex2, ex3, ex3b, hp]
        refine ⟨⟨Int.emod_nonneg _ (by omega), hx, ?_⟩, ?_⟩
        · rw [Int.emod_def, Int.gcd_sub_mul_left_left, Int.gcd_comm, g]
        · have := Int.emod_lt_of_pos y hp
          have := Int.emod_nonneg y (show x ≠ 0 by omega)
          simp -dsimp [tSeq, tAsg, tRet, tIfS, tIf, tTest, tVar, tCons, tNil, tC, tOp, tUn, rI, rI0, rU, tCB, tLst_A, tTup_A, gName, L2.start, CMul, CPow, CDiv, tDrop, tBM, tBM0, tNext, tPar, gSub, rSetL, rIxL, rIxT, tChain, tB, tNot, tNotV, tAnd, tOr, tAndV, tOrV, tFld, tCall, rIxLH, rIxTH, atI, ixN, upd_same, cxK, ex2, ex3, ex3b, intAt]
          omega
      · have x0 : x = 0 := by omega
        subst x0
        have gy : y = (Int.gcd a b : Int) := by
          rw [← g, Int.zero_gcd]
          omega
        have hg0 : 0 < Int.gcd a b := Int.gcd_pos_of_ne_zero_right a hb
        have hgb : (Int.gcd a b) < big9 := Nat.lt_of_le_of_lt (Int.gcd_le_natAbs_right a hb) hbb
        subst gy
        by_cases hb0 : 0 < b
        · have e2 : side a b = (Int.gcd a b : Int) := if_pos hb0
          rw [e2] at q
          simp -dsimp [tSeq, tAsg, tRet, tIfS, tIf, tTest, tVar, tCons, tNil, tC, tOp, tUn, rI, rI0, rU, tCB, tLst_A, tTup_A, gName, L2.start, CMul, CPow, CDiv, tDrop, tBM, tBM0, tNext, tPar, gSub, rSetL, rIxL, rIxT, tChain, tB, tNot, tNotV, tAnd, tOr, tAndV, tOrV, tFld, tCall, rIxLH, rIxTH, atI, ixN, upd_same, cxK, ex2, ex3, ex3b, hb0]
          exact ⟨⟨by omega, by omega⟩, le2, q⟩
        · have e2 : side a b = -(Int.gcd a b : Int) := if_neg hb0
          rw [e2] at q
          simp -dsimp [tSeq, tAsg, tRet, tIfS, tIf, tTest, tVar, tCons, tNil, tC, tOp, tUn, rI, rI0, rU, tCB, tLst_A, tTup_A, gName, L2.start, CMul, CPow, CDiv, tDrop, tBM, tBM0, tNext, tPar, gSub, rSetL, rIxL, rIxT, tChain, tB, tNot, tNotV, tAnd, tOr, tAndV, tOrV, tFld, tCall, rIxLH, rIxTH, atI, ixN, upd_same, cxK, ex2, ex3, ex3b, hb0]
          exact ⟨⟨by omega, by omega⟩, le2, q⟩
    · rintro σ H' Q Q' h ⟨v, e, i, j, e1, e2, k, e3, q⟩
      exact ⟨v, e, i, j, e1, e2, k, e3, h _ _ q⟩
end
section
variable {P : Program} {w : World} {K : PySem.W.Frag} {mg : Str → Option Value} {base : Heap}
theorem scDivisor : FnScope ["one", "other"] ["one", "other"] d_divisor.scope := ⟨rfl, rfl, rfl, by decide +kernel, rfl, by decide +kernel, by decide +kernel⟩
def spDivisor (K : PySem.W.Frag) : Sp := fun vs H Q _ => ∃ (a b : Int), vs = [.int a, .int b] ∧ Q (.int (Int.gcd a b : Int)) H
theorem fmod_lt (x y : Int) (h : y ≠ 0) : (x.fmod y).natAbs < y.natAbs := by
  rcases Int.lt_or_gt_of_ne h with h1 | h1
  · have e := (Int.fdiv_fmod_unique' (a := x) (b := y) (r := x.fmod y) (q := x.fdiv y) h1).mp ⟨rfl, rfl⟩
    omega
  · have e := (Int.fdiv_fmod_unique (a := x) (b := y) (r := x.fmod y) (q := x.fdiv y) h1).mp ⟨rfl, rfl⟩
    omega
theorem ok_divisor (W : Wd K mg) : ∃ fd, FnOk P w K mg base CX0 1 (He.ga K "divisor") fd ["one", "other"] (spDivisor K) ∧ Binds K fd ["one", "other"] [] := by
  obtain ⟨fd, F⟩ := W.F_divisor
  refine ⟨fd, F.ok scDivisor (fun vs H Q E h => ?_) (fun cdv A outer s H vs Q E hr h => ?_), FunD.bindsN F fun _ _ _ _ _ _ us hl => match us, hl with | [_, _], _ => rfl⟩
  · obtain ⟨a, b, rfl, _⟩ := h
    rfl
  · obtain ⟨a, b, rfl, q⟩ := h
    refine ⟨_, PSs.nox (pss_cons (ps_while PassesOwn.never (pt_cmpR op_ne (pv 1) pe_int (nomark _))
        (pss_one (ps_par (i := 0) (j := 1) rfl scDivisor.nd rfl rfl (by decide) rfl rfl (pa_cons (pv 1) (pa_cons (pe_op op_modN (pv 0) (pv 1)) pa_nil)) rfl)))
      (pss_one (ps_ret (pe_callB call_abs (by rfl) W.f_abs (by decide +kernel) (pa_cons (pv 0) pa_nil))))), ?_⟩
    simp -dsimp [tSeq, tAsg, tRet, tIfS, tIf, tTest, tVar, tCons, tNil, tC, tOp, tUn, rI, rI0, rU, tCB, tLst_A, tTup_A, gName, L2.start, CMul, CPow, CDiv, tDrop, tBM, tBM0, tNext, tPar, gSub, rSetL, rIxL, rIxT, tChain, tB, tNot, tNotV, tAnd, tOr, tAndV, tOrV, tFld, tCall, rIxLH, rIxTH, atI, ixN, upd_same, cxK, ex2, ex3, ex3b]
    refine while_by (fun σ H' => H' = H ∧ ∃ x y : Int, σ = [some (.int x), some (.int y)] ∧ Int.gcd x y = Int.gcd a b) (fun σ _ => intAt 1 σ) ⟨rfl, _, _, rfl, rfl⟩ ?_ ?_
    · rintro σ H1 ⟨rfl, x, y, rfl, g⟩
      by_cases hp : y = 0
      · subst hp
        simp -dsimp [tSeq, tAsg, tRet, tIfS, tIf, tTest, tVar, tCons, tNil, tC, tOp, tUn, rI, rI0, rU, tCB, tLst_A, tTup_A, gName, L2.start, CMul, CPow, CDiv, tDrop, tBM, tBM0, tNext, tPar, gSub, rSetL, rIxL, rIxT, tChain, tB, tNot, tNotV, tAnd, tOr, tAndV, tOrV, tFld, tCall, rIxLH, rIxTH, atI, ixN, upd_same, cxK, ex2, ex3, ex3b, rNe, scal]
        rw [Int.gcd_zero] at g
        have : (if x < 0 then -x else x) = (Int.gcd a b : Int) := by
          rw [← g]
          split <;> omega
        rw [this]
        exact q
      · simp -dsimp [tSeq, tAsg, tRet, tIfS, tIf, tTest, tVar, tCons, tNil, tC, tOp, tUn, rI, rI0, rU, tCB, tLst_A, tTup_A, gName, L2.start, CMul, CPow, CDiv, tDrop, tBM, tBM0, tNext, tPar, gSub, rSetL, rIxL, rIxT, tChain, tB, tNot, tNotV, tAnd, tOr, tAndV, tOrV, tFld, tCall, rIxLH, rIxTH, atI, ixN, upd_same, cxK, ex2, ex3, ex3b, rNe, scal, hp]
        refine ⟨?_, ?_⟩
        · rw [Int.fmod_def, Int.gcd_comm, Int.gcd_sub_mul_left_left, g]
        · simp -dsimp [tSeq, tAsg, tRet, tIfS, tIf, tTest, tVar, tCons, tNil, tC, tOp, tUn, rI, rI0, rU, tCB, tLst_A, tTup_A, gName, L2.start, CMul, CPow, CDiv, tDrop, tBM, tBM0, tNext, tPar, gSub, rSetL, rIxL, rIxT, tChain, tB, tNot, tNotV, tAnd, tOr, tAndV, tOrV, tFld, tCall, rIxLH, rIxTH, atI, ixN, upd_same, cxK, ex2, ex3, ex3b, intAt]
          exact fmod_lt x y hp
    · rintro σ H' Q Q' h ⟨v, e, e1, k, e3, q⟩
      exact ⟨v, e, e1, k, e3, h _ _ q⟩
/-- a share: its class, its own dict, its numbers -/
def shareO (C dx : Addr) (t b : Int) : HO := .ins C dx [("top", .int t), ("bottom", .int b)]
theorem scInit : FnScope ["self", "top", "bottom", "common"] ["self", "top", "bottom"] d_Share_init.scope := ⟨rfl, rfl, rfl, by decide +kernel, rfl, by decide +kernel, by decide +kernel⟩
def spInit (K : PySem.W.Frag) : Sp := fun vs H Q _ => ∃ (x dx : Addr) (a b : Int), vs = [.ref x, .int a, .int b] ∧ H x = some (.ins (He.ga K "Share") dx []) ∧ b ≠ 0 ∧ b.natAbs < big9 ∧ Q .non (upd H x (shareO (He.ga K "Share") dx (a.fdiv (side a b)) (b.fdiv (side a b))))
theorem ok_init (W : Wd K mg) : ∃ fd, FnOk P w K mg base CX0 2 (He.ma K (He.ga K "Share") "__init__") fd ["self", "top", "bottom"] (spInit K) ∧ FunD K d_Share_init.name d_Share_init.qual d_Share_init.params d_Share_init.body d_Share_init.scope (d_Share_init.dvs K) (d_Share_init.kws K) (He.fAd K d_Share_init.at_) fd := by
  obtain ⟨fd, F⟩ := W.F_Share_init
  obtain ⟨fdD, G, bG⟩ := ok_divisor (P := P) (w := w) (base := base) W
  have kD : PySem.W.keepIn K (.ref (He.ga K "divisor")) = true := by
    obtain ⟨fd, F⟩ := W.F_divisor
    exact F.kp
  refine ⟨fd, F.ok scInit (fun vs H Q E h => ?_) (fun cdv A outer s H vs Q E hr h => ?_), F⟩
  · obtain ⟨x, dx, a, b, rfl, _⟩ := h
    rfl
  · obtain ⟨x, dx, a, b, rfl, hx, hb, hbb, q⟩ := h
    refine ⟨_, PSs.nox (pss_cons (ps_if (pt_cmpR op_eq (pv 2) pe_int (nomark _)) pss_never pss_nil)
      (pss_cons (ps_set (i := 3) scInit.nd rfl (Or.inl rfl) pe_int)
      (pss_cons (ps_if (pt_cmpR op_ne (pv 2) pe_int (nomark _)) (pss_one (ps_set (i := 3) scInit.nd rfl (Or.inl rfl) (pe_ifExp (pt_cmpR op_gt (pv 2) pe_int (nomark _)) (pe_call G hr rfl W.g_divisor kD bG .nil pass0 (pa_cons (pv 1) (pa_cons (pv 2) pa_nil))) (pe_un un_neg (pe_call G hr rfl W.g_divisor kD bG .nil pass0 (pa_cons (pv 1) (pa_cons (pv 2) pa_nil))))))) pss_nil)
      (pss_cons (ps_fld (pv 0) (pe_op op_fdivX (pv 1) (pv 3)) rfl)
      (pss_one (ps_fld (pv 0) (pe_op op_fdivX (pv 2) (pv 3)) rfl)))))), ?_⟩
    have hg0 : 0 < Int.gcd a b := Int.gcd_pos_of_ne_zero_right a hb
    have hgb : (Int.gcd a b) < big9 := Nat.lt_of_le_of_lt (Int.gcd_le_natAbs_right a hb) hbb
    have n1 : ¬ (Int.gcd a b : Int) = 0 := by omega
    have n3 : ¬ Int.gcd a b = 0 := by omega
    have pf : ∀ (u v : V), putF "bottom" v (putF "top" u []) = [(("top" : Str), u), (("bottom" : Str), v)] := fun u v => by
      show (if ("top" : Str) = "bottom" then [(("top" : Str), v)] else (("top" : Str), u) :: putF "bottom" v []) = _
      rw [if_neg (by decide +kernel)]
      rfl
    have pl : ∀ u : V, (putF "top" u []).length < 1000 := fun u => by
      show 1 < 1000
      decide
    by_cases hb1 : b = 1
    · subst hb1
      have e2 : side a 1 = 1 := by
        show (if (1 : Int) > 0 then (Int.gcd a 1 : Int) else -(Int.gcd a 1 : Int)) = 1
        rw [if_pos (by decide), Int.gcd_one]
        rfl
      rw [e2] at q
      simp -dsimp [tSeq, tAsg, tRet, tIfS, tIf, tTest, tVar, tCons, tNil, tC, tOp, tUn, rI, rI0, rU, tCB, tLst_A, tTup_A, gName, L2.start, CMul, CPow, CDiv, tDrop, tBM, tBM0, tNext, tPar, gSub, rSetL, rIxL, rIxT, tChain, tB, tNot, tNotV, tAnd, tOr, tAndV, tOrV, tFld, tCall, rIxLH, rIxTH, atI, ixN, upd_same, cxK, ex2, ex3, ex3b, rEq, rNe, scal, hx, sFld, W.cls_Share, W.n_Share_top, W.n_Share_bottom, upd_upd, pf, pl]
      rw [Int.fdiv_one, Int.fdiv_one] at q
      exact ⟨hbb, q⟩
    · by_cases hb0 : b < 0
      · have e2 : side a b = -(Int.gcd a b : Int) := if_neg (by omega)
        have hb2 : ¬ 0 < b := by omega
        rw [e2] at q
        simp -dsimp [tSeq, tAsg, tRet, tIfS, tIf, tTest, tVar, tCons, tNil, tC, tOp, tUn, rI, rI0, rU, tCB, tLst_A, tTup_A, gName, L2.start, CMul, CPow, CDiv, tDrop, tBM, tBM0, tNext, tPar, gSub, rSetL, rIxL, rIxT, tChain, tB, tNot, tNotV, tAnd, tOr, tAndV, tOrV, tFld, tCall, rIxLH, rIxTH, atI, ixN, upd_same, cxK, ex2, ex3, ex3b, rEq, rNe, scal, hb, hb1, hb2, hx]
        refine ⟨a, b, rfl, ?_⟩
        simp -dsimp [tSeq, tAsg, tRet, tIfS, tIf, tTest, tVar, tCons, tNil, tC, tOp, tUn, rI, rI0, rU, tCB, tLst_A, tTup_A, gName, L2.start, CMul, CPow, CDiv, tDrop, tBM, tBM0, tNext, tPar, gSub, rSetL, rIxL, rIxT, tChain, tB, tNot, tNotV, tAnd, tOr, tAndV, tOrV, tFld, tCall, rIxLH, rIxTH, atI, ixN, upd_same, cxK, ex2, ex3, ex3b, sFld, hx, W.cls_Share, W.n_Share_top, W.n_Share_bottom, upd_upd, n1, n3, hgb, pf, pl]
        exact q
      · have e2 : side a b = (Int.gcd a b : Int) := if_pos (by omega)
        have hb2 : 0 < b := by omega
        rw [e2] at q
        simp -dsimp [tSeq, tAsg, tRet, tIfS, tIf, tTest, tVar, tCons, tNil, tC, tOp, tUn, rI, rI0, rU, tCB, tLst_A, tTup_A, gName, L2.start, CMul, CPow, CDiv, tDrop, tBM, tBM0, tNext, tPar, gSub, rSetL, rIxL, rIxT, tChain, tB, tNot, tNotV, tAnd, tOr, tAndV, tOrV, tFld, tCall, rIxLH, rIxTH, atI, ixN, upd_same, cxK, ex2, ex3, ex3b, rEq, rNe, scal, hb, hb1, hb2, hx]
        refine ⟨a, b, rfl, ?_⟩
        simp -dsimp [tSeq, tAsg, tRet, tIfS, tIf, tTest, tVar, tCons, tNil, tC, tOp, tUn, rI, rI0, rU, tCB, tLst_A, tTup_A, gName, L2.start, CMul, CPow, CDiv, tDrop, tBM, tBM0, tNext, tPar, gSub, rSetL, rIxL, rIxT, tChain, tB, tNot, tNotV, tAnd, tOr, tAndV, tOrV, tFld, tCall, rIxLH, rIxTH, atI, ixN, upd_same, cxK, ex2, ex3, ex3b, sFld, hx, W.cls_Share, W.n_Share_top, W.n_Share_bottom, upd_upd, n1, n3, hgb, pf, pl]
        exact q
end
/-! ### isinstance by kinds -/
def tyN (H : Hp) : V → Option String
  | .non => some "NoneType"
  | .bl _ => some "bool"
  | .int _ => some "int"
  | .str _ => some "str"
  | .ref a => (match H a with
    | some (.lst _) => some "list"
    | some (.tup _) => some "tuple"
    | some (.dK _) => some "dict"
    | _ => none)
  | _ => none
theorem tyN_ok {K : PySem.W.Frag} {H : Hp} {x : V} {t : String} (h : tyN H x = some t) : TyOf K H x (.type t) := by
  unfold tyN at h
  split at h
  · cases h; exact .non
  · cases h; exact .bl _
  · cases h; exact .int _
  · cases h; exact .str _
  · split at h
    · rename_i e
      cases h; exact .lst e
    · rename_i e
      cases h; exact .tup e
    · rename_i e
      cases h; exact .dK e
    · cases h
  · cases h
def rIs1 : List V → Hp → VK → Prop := fun xs H Q => ∃ (x : V) (T t : String) (b : Bool), xs = [x, .ty T] ∧ tyN H x = some t ∧ kitB t T = some b ∧ Q (.bl b) H
def rIs2 : List V → Hp → VK → Prop := fun xs H Q => ∃ (x : V) (tp : Addr) (T1 T2 t : String) (b1 b2 : Bool), xs = [x, .ref tp] ∧ H tp = some (.tup [.ty T1, .ty T2]) ∧ tyN H x = some t ∧ kitB t T1 = some b1 ∧ kitB t T2 = some b2 ∧ Q (.bl (b1 || b2)) H
section
variable {X : Cx}
theorem isi_1 : CallR X (.builtin "isinstance") rIs1 := by
  intro pins s σ H xs us Q I r h
  obtain ⟨x, T, t, b, e, ty, k, q⟩ := h
  exact call_isi pins s σ H xs us Q I r ⟨x, .ty T, .type t, .type T, b, e, .ty T, .base (tyN_ok ty), kit_ty k, q⟩
theorem isi_2 : CallR X (.builtin "isinstance") rIs2 := by
  intro pins s σ H xs us Q I r h
  obtain ⟨x, tp, T1, T2, t, b1, b2, e, hT, ty, k1, k2, q⟩ := h
  refine call_isiT pins s σ H xs us Q I r ⟨x, tp, _, .type t, [.type T1, .type T2], b1 || b2, e, hT, .cons (.ty T1) (.cons (.ty T2) .nil), .base (tyN_ok ty), ?_, q⟩
  refine kitAny_cons (kit_ty k1) (fun f => ?_) (fun f => by rw [f]; rfl)
  rw [f]
  refine kitAny_cons (kit_ty k2) (fun f => ?_) (fun f => by rw [f]; rfl)
  rw [f]
  exact kitAny_nil
/-- two lists of two truths -/
def rNe2 : R2 := fun x y H Q => ∃ (p q : Addr) (a b c d : Bool), x = .ref p ∧ y = .ref q ∧ H p = some (.lst [.bl a, .bl b]) ∧ H q = some (.lst [.bl c, .bl d]) ∧ Q (.bl (!(a == c && b == d))) H
theorem op_ne2 (hu : X.A.units + 64 < cLine) : OpR X (compareOp .NotEq) rNe2 := by
  intro pins s σ H x y v u Q I rx ry h
  obtain ⟨p, q, a, b, c, d, e1, e2, hp, hq, k⟩ := h
  refine op_neD hu pins s σ H x y v u Q I rx ry ⟨.list [.bool a, .bool b], .list [.bool c, .bool d], ?_, ?_, ?_, ?_, ?_⟩
  · rw [e1]
    exact .lst (SqL.of hp) (.cons (.bl _) (.cons (.bl _) .nil))
  · rw [e2]
    exact .lst (SqL.of hq) (.cons (.bl _) (.cons (.bl _) .nil))
  · cases a <;> cases b <;> decide +kernel
  · cases c <;> cases d <;> decide +kernel
  · have e : PyData.eqv (.list [.bool a, .bool b]) (.list [.bool c, .bool d]) = (a == c && b == d) := by
      show ((a == c) && ((b == d) && true)) = _
      rw [Bool.and_true]
    rw [e]
    exact k
theorem len_tupH : CallR X (.builtin "len") (fun xs H Q => ∃ p ys, xs = [.ref p] ∧ H p = some (.tup ys) ∧ Q (.int ys.length) H) := by
  intro pins s σ H xs us Q I r h
  obtain ⟨p, ys, e, hp, q⟩ := h
  exact call_len_seq pins s σ H xs us Q I r ⟨p, ys, e, .inr (SqT.of hp), q⟩
theorem len_lstH : CallR X (.builtin "len") (fun xs H Q => ∃ p ys, xs = [.ref p] ∧ H p = some (.lst ys) ∧ Q (.int ys.length) H) := by
  intro pins s σ H xs us Q I r h
  obtain ⟨p, ys, e, hp, q⟩ := h
  exact call_len_seq pins s σ H xs us Q I r ⟨p, ys, e, .inl (SqL.of hp), q⟩
end
theorem kb1 : kitB "int" "list" = some false := by decide +kernel
theorem kb2 : kitB "int" "tuple" = some false := by decide +kernel
theorem kb3 : kitB "int" "bool" = some false := by decide +kernel
theorem kb4 : kitB "int" "int" = some true := by decide +kernel
theorem kb5 : kitB "tuple" "list" = some false := by decide +kernel
theorem kb6 : kitB "tuple" "tuple" = some true := by decide +kernel
theorem walk_zipT {K : PySem.W.Frag} {a b : Addr} {xs ys : List V} {n : Nat} (hx : xs.length = n) (hy : ys.length = n) : Walk (RZ.ItzT K a b) n (fun H => SqT K H a xs ∧ SqT K H b ys) (YPair (fun i => xs[i]?) (fun i => ys[i]?)) where
  goes := fun i H hi h => ⟨xs, ys, xs[i], ys[i], h.1, h.2, List.getElem?_eq_getElem (by omega), List.getElem?_eq_getElem (by omega)⟩
  stops := fun H h => ⟨xs, ys, h.1, h.2, .inl (by omega)⟩
  yields := fun i H x H' hi h y => by
    obtain ⟨T, x', y', e1, e2, e3, f1, f2⟩ := y
    exact ⟨T, x', y', e1, e2, e3, f1 xs h.1, f2 ys h.2⟩
section
variable {P : Program} {w : World} {K : PySem.W.Frag} {mg : Str → Option Value} {base : Heap}
theorem scSame : FnScope ["_law_found", "_law_due", "_law_kinds", "_law_left", "_law_right_here"] ["_law_found", "_law_due"] d_same.scope := ⟨rfl, rfl, rfl, by decide +kernel, rfl, by decide +kernel, by decide +kernel⟩
def spSameI (K : PySem.W.Frag) : Sp := fun vs H Q _ => ∃ (i : Int), vs = [.int i, .int i] ∧ ∀ H', Same H H' → Q (.bl true) H'
theorem ok_sameI (W : Wd K mg) : ∃ fd, FnOk P w K mg base CX0 1 (He.ga K "_law_same") fd ["_law_found", "_law_due"] (spSameI K) ∧ Binds K fd ["_law_found", "_law_due"] [] := by
  obtain ⟨fd, F⟩ := W.F_same
  refine ⟨fd, F.ok scSame (fun vs H Q E h => ?_) (fun cdv A outer s H vs Q E hr h => ?_), FunD.bindsN F fun _ _ _ _ _ _ us hl => match us, hl with | [_, _], _ => rfl⟩
  · obtain ⟨i, rfl, _⟩ := h
    rfl
  · obtain ⟨i, rfl, q⟩ := h
    refine ⟨_, PSs.nox (pss_cons (ps_set (i := 2) scSame.nd rfl (Or.inl rfl) (pe_lst (pa_cons (pe_callB isi_1 (by rfl) W.f_isinstance boot_isinstance (pa_cons (pv 0) (pa_cons (pe_bltn (v := .ty "list") (by rfl) W.f_list (by decide +kernel) rfl) pa_nil))) (pa_cons (pe_callB isi_1 (by rfl) W.f_isinstance boot_isinstance (pa_cons (pv 0) (pa_cons (pe_bltn (v := .ty "tuple") (by rfl) W.f_tuple (by decide +kernel) rfl) pa_nil))) pa_nil))))
      (pss_cons (ps_if (pt_val (pe_callB isi_2 (by rfl) W.f_isinstance boot_isinstance (pa_cons (pv 1) (pa_cons (pe_tup (pa_cons (pe_bltn (v := .ty "list") (by rfl) W.f_list (by decide +kernel) rfl) (pa_cons (pe_bltn (v := .ty "tuple") (by rfl) W.f_tuple (by decide +kernel) rfl) pa_nil))) pa_nil)))) pss_never pss_nil)
      (pss_cons (ps_if (pt_val (pe_callB isi_2 (by rfl) W.f_isinstance boot_isinstance (pa_cons (pv 1) (pa_cons (pe_tup (pa_cons (pe_bltn (v := .ty "bool") (by rfl) W.f_bool (by decide +kernel) rfl) (pa_cons (pe_bltn (v := .ty "int") (by rfl) W.f_int (by decide +kernel) rfl) pa_nil))) pa_nil))))
        (pss_one (ps_ret (pe_and (pe_callB isi_1 (by rfl) W.f_isinstance boot_isinstance (pa_cons (pv 0) (pa_cons (pe_bltn (v := .ty "int") (by rfl) W.f_int (by decide +kernel) rfl) pa_nil)))
          (pe_and (pe_cmpR op_eq (pe_callB isi_1 (by rfl) W.f_isinstance boot_isinstance (pa_cons (pv 0) (pa_cons (pe_bltn (v := .ty "bool") (by rfl) W.f_bool (by decide +kernel) rfl) pa_nil))) (pe_callB isi_1 (by rfl) W.f_isinstance boot_isinstance (pa_cons (pv 1) (pa_cons (pe_bltn (v := .ty "bool") (by rfl) W.f_bool (by decide +kernel) rfl) pa_nil))) (nomark _))
          (pe_one (pe_cmpR op_eq (pv 0) (pv 1) (nomark _))))))) pss_nil)
      pss_never))), ?_⟩
    simp -dsimp [tSeq, tAsg, tRet, tIfS, tIf, tTest, tVar, tCons, tNil, tC, tOp, tUn, rI, rI0, rU, tCB, tLst_A, tTup_A, gName, L2.start, CMul, CPow, CDiv, tDrop, tBM, tBM0, tNext, tPar, gSub, rSetL, rIxL, rIxT, tChain, tB, tNot, tNotV, tAnd, tOr, tAndV, tOrV, tFld, tCall, rIxLH, rIxTH, atI, ixN, upd_same, cxK, ex2, ex3, ex3b, rIs1, rIs2, rNe2, tyN, kb1, kb2, kb3, kb4, kb5, kb6, rEq, rNe, scal]
    refine ⟨le2, Alloc.of fun p1 H1 n1 e1 s1 => ?_⟩
    try simp -dsimp [tSeq, tAsg, tRet, tIfS, tIf, tTest, tVar, tCons, tNil, tC, tOp, tUn, rI, rI0, rU, tCB, tLst_A, tTup_A, gName, L2.start, CMul, CPow, CDiv, tDrop, tBM, tBM0, tNext, tPar, gSub, rSetL, rIxL, rIxT, tChain, tB, tNot, tNotV, tAnd, tOr, tAndV, tOrV, tFld, tCall, rIxLH, rIxTH, atI, ixN, upd_same, cxK, ex2, ex3, ex3b, rIs1, rIs2, rNe2, tyN, kb1, kb2, kb3, kb4, kb5, kb6, rEq, rNe, scal]
    refine ⟨le2, Alloc.of fun p2 H2 n2 e2 s2 => ?_⟩
    simp -dsimp [tSeq, tAsg, tRet, tIfS, tIf, tTest, tVar, tCons, tNil, tC, tOp, tUn, rI, rI0, rU, tCB, tLst_A, tTup_A, gName, L2.start, CMul, CPow, CDiv, tDrop, tBM, tBM0, tNext, tPar, gSub, rSetL, rIxL, rIxT, tChain, tB, tNot, tNotV, tAnd, tOr, tAndV, tOrV, tFld, tCall, rIxLH, rIxTH, atI, ixN, upd_same, cxK, ex2, ex3, ex3b, rIs1, rIs2, rNe2, tyN, kb1, kb2, kb3, kb4, kb5, kb6, rEq, rNe, scal, e2]
    refine ⟨le2, Alloc.of fun p3 H3 n3 e3 s3 => ?_⟩
    simp -dsimp [tSeq, tAsg, tRet, tIfS, tIf, tTest, tVar, tCons, tNil, tC, tOp, tUn, rI, rI0, rU, tCB, tLst_A, tTup_A, gName, L2.start, CMul, CPow, CDiv, tDrop, tBM, tBM0, tNext, tPar, gSub, rSetL, rIxL, rIxT, tChain, tB, tNot, tNotV, tAnd, tOr, tAndV, tOrV, tFld, tCall, rIxLH, rIxTH, atI, ixN, upd_same, cxK, ex2, ex3, ex3b, rIs1, rIs2, rNe2, tyN, kb1, kb2, kb3, kb4, kb5, kb6, rEq, rNe, scal, e3]
    exact q _ ((s1.trans s2).trans s3)
end
section
variable {P : Program} {w : World} {K : PySem.W.Frag} {mg : Str → Option Value} {base : Heap}
def spSameT (K : PySem.W.Frag) : Sp := fun vs H Q _ => ∃ (p q : Addr) (a b : Int), vs = [.ref p, .ref q] ∧ H p = some (.tup [.int a, .int b]) ∧ H q = some (.tup [.int a, .int b]) ∧ ∀ H', Same H H' → Q (.bl true) H'
theorem ok_sameT (W : Wd K mg) : ∃ fd, FnOk P w K mg base CX0 2 (He.ga K "_law_same") fd ["_law_found", "_law_due"] (spSameT K) ∧ Binds K fd ["_law_found", "_law_due"] [] := by
  obtain ⟨fdI, GI, bI⟩ := ok_sameI (P := P) (w := w) (base := base) W
  obtain ⟨fd, F⟩ := W.F_same
  refine ⟨fd, F.ok scSame (fun vs H Q E h => ?_) (fun cdv A outer s H vs Q E hr h => ?_), FunD.bindsN F fun _ _ _ _ _ _ us hl => match us, hl with | [_, _], _ => rfl⟩
  · obtain ⟨p, q, a, b, rfl, _⟩ := h
    rfl
  · obtain ⟨p, q, a, b, rfl, hp, hq, k⟩ := h
    refine ⟨_, PSs.nox (pss_cons (ps_set (i := 2) scSame.nd rfl (Or.inl rfl) (pe_lst (pa_cons (pe_callB isi_1 (by rfl) W.f_isinstance boot_isinstance (pa_cons (pv 0) (pa_cons (pe_bltn (v := .ty "list") (by rfl) W.f_list (by decide +kernel) rfl) pa_nil))) (pa_cons (pe_callB isi_1 (by rfl) W.f_isinstance boot_isinstance (pa_cons (pv 0) (pa_cons (pe_bltn (v := .ty "tuple") (by rfl) W.f_tuple (by decide +kernel) rfl) pa_nil))) pa_nil))))
      (pss_cons (ps_if (pt_val (pe_callB isi_2 (by rfl) W.f_isinstance boot_isinstance (pa_cons (pv 1) (pa_cons (pe_tup (pa_cons (pe_bltn (v := .ty "list") (by rfl) W.f_list (by decide +kernel) rfl) (pa_cons (pe_bltn (v := .ty "tuple") (by rfl) W.f_tuple (by decide +kernel) rfl) pa_nil))) pa_nil))))
        (pss_cons (ps_if (PW.pt (pw_or (pt_cmpR (op_ne2 hr.units) (pv 2) (pe_lst (pa_cons (pe_callB isi_1 (by rfl) W.f_isinstance boot_isinstance (pa_cons (pv 1) (pa_cons (pe_bltn (v := .ty "list") (by rfl) W.f_list (by decide +kernel) rfl) pa_nil))) (pa_cons (pe_callB isi_1 (by rfl) W.f_isinstance boot_isinstance (pa_cons (pv 1) (pa_cons (pe_bltn (v := .ty "tuple") (by rfl) W.f_tuple (by decide +kernel) rfl) pa_nil))) pa_nil))) (nomark _))
            (pw_or1 (pt_cmpR op_ne (pe_callB len_tupH (by rfl) W.f_len boot_len (pa_cons (pv 0) pa_nil)) (pe_callB len_tupH (by rfl) W.f_len boot_len (pa_cons (pv 1) pa_nil)) (nomark _))))) (pss_one (ps_ret pe_bl)) pss_nil)
        (pss_one (ps_ret (pe_callB (cr_all rfl) (by rfl) W.f_all boot_all (pa_cons
          (pe_lc (own := [("_law_left", 3), ("_law_right_here", 4)]) (g := gTup K 2 (gCons (gName 3) (gCons (gName 4) gNil))) (tt := tYes) rfl scSame.nd (RZ.pi_zipA (by rfl) W.f_zip (pa_cons (pv 0) (pa_cons (pv 1) pa_nil))) (blkOk_by (N := ["_law_found", "_law_due", "_law_kinds", "_law_left", "_law_right_here"]) (sc := defScope s_same) (by decide +kernel))
            (fun _ _ _ _ _ => pg_tup rfl (pgs_cons (pg_name (i := 3) scSame.nd rfl (Or.inl rfl)) (pgs_cons (pg_name (i := 4) scSame.nd rfl (Or.inl rfl)) pgs_nil))) (fun _ _ _ _ _ => pts_nil)
            (fun _ _ _ _ _ => pe_call GI hr rfl W.g_law_same F.kp bI .nil pass0 (pa_cons (pv 3) (pa_cons (pv 4) pa_nil)))) pa_nil))))) pss_nil)
      pss_never)), ?_⟩
    simp -dsimp [tSeq, tAsg, tRet, tIfS, tIf, tTest, tVar, tCons, tNil, tC, tOp, tUn, rI, rI0, rU, tCB, tLst_A, tTup_A, gName, L2.start, CMul, CPow, CDiv, tDrop, tBM, tBM0, tNext, tPar, gSub, rSetL, rIxL, rIxT, tChain, tB, tNot, tNotV, tAnd, tOr, tAndV, tOrV, tFld, tCall, rIxLH, rIxTH, atI, ixN, upd_same, cxK, ex2, ex3, ex3b, rIs1, rIs2, rNe2, tyN, kb1, kb2, kb3, kb4, kb5, kb6, rEq, rNe, scal, hp, hq]
    refine ⟨le2, Alloc.of fun p1 H1 n1 e1 s1 => ?_⟩
    have hp1 := s1 _ _ hp
    have hq1 := s1 _ _ hq
    try simp -dsimp [tSeq, tAsg, tRet, tIfS, tIf, tTest, tVar, tCons, tNil, tC, tOp, tUn, rI, rI0, rU, tCB, tLst_A, tTup_A, gName, L2.start, CMul, CPow, CDiv, tDrop, tBM, tBM0, tNext, tPar, gSub, rSetL, rIxL, rIxT, tChain, tB, tNot, tNotV, tAnd, tOr, tAndV, tOrV, tFld, tCall, rIxLH, rIxTH, atI, ixN, upd_same, cxK, ex2, ex3, ex3b, rIs1, rIs2, rNe2, tyN, kb1, kb2, kb3, kb4, kb5, kb6, rEq, rNe, scal]
    refine ⟨le2, Alloc.of fun p2 H2 n2 e2 s2 => ?_⟩
    have hp2 := s2 _ _ hp1
    have hq2 := s2 _ _ hq1
    have e12 := s2 _ _ e1
    simp -dsimp [tSeq, tAsg, tRet, tIfS, tIf, tTest, tVar, tCons, tNil, tC, tOp, tUn, rI, rI0, rU, tCB, tLst_A, tTup_A, gName, L2.start, CMul, CPow, CDiv, tDrop, tBM, tBM0, tNext, tPar, gSub, rSetL, rIxL, rIxT, tChain, tB, tNot, tNotV, tAnd, tOr, tAndV, tOrV, tFld, tCall, rIxLH, rIxTH, atI, ixN, upd_same, cxK, ex2, ex3, ex3b, rIs1, rIs2, rNe2, tyN, kb1, kb2, kb3, kb4, kb5, kb6, rEq, rNe, scal, e2, hp2, hq2]
    refine ⟨le2, Alloc.of fun p3 H3 n3 e3 s3 => ?_⟩
    have hp3 := s3 _ _ hp2
    have hq3 := s3 _ _ hq2
    have e13 := s3 _ _ e12
    simp -dsimp [tSeq, tAsg, tRet, tIfS, tIf, tTest, tVar, tCons, tNil, tC, tOp, tUn, rI, rI0, rU, tCB, tLst_A, tTup_A, gName, L2.start, CMul, CPow, CDiv, tDrop, tBM, tBM0, tNext, tPar, gSub, rSetL, rIxL, rIxT, tChain, tB, tNot, tNotV, tAnd, tOr, tAndV, tOrV, tFld, tCall, rIxLH, rIxTH, atI, ixN, upd_same, cxK, ex2, ex3, ex3b, rIs1, rIs2, rNe2, tyN, kb1, kb2, kb3, kb4, kb5, kb6, rEq, rNe, scal, e3, hp3, hq3, e13]
    refine ⟨_, rfl, _, rfl, p, q, _, _, rfl, .inr ⟨SqT.of hp3, SqT.of hq3, fun D hD => ?_⟩⟩
    have nD : ∀ {b : Addr} {o : HO}, H3 b = some o → b ≠ D := fun e => ne_of_none e hD
    refine lc_it (walk_zipT (n := 2) rfl rfl) (fun i H' => Same H3 H' ∧ H' D = some (.lst (List.replicate i (.bl true)))) ⟨same_upd hD, upd_same⟩ (fun i H' _ h => ⟨SqT.of (h.1 _ _ hp3), SqT.of (h.1 _ _ hq3)⟩) ?_ ?_
    · rintro i x H' H'' hi ⟨sm, hD'⟩ ⟨T, x', y', rfl, hT, rfl, fx, fy⟩
      have hz : ∃ z : Int, x' = .int z ∧ y' = .int z := by
        match i, hi with
        | 0, _ =>
          cases fx
          cases fy
          exact ⟨a, rfl, rfl⟩
        | 1, _ =>
          cases fx
          cases fy
          exact ⟨b, rfl, rfl⟩
      obtain ⟨z, rfl, rfl⟩ := hz
      refine ⟨T, _, rfl, SqT.of upd_same, rfl, _, _, rfl, _, _, rfl, rfl, rfl, ?_⟩
      simp only [tYes, if_true]
      refine ⟨_, rfl, _, rfl, z, rfl, fun H4 s4 => ⟨List.replicate i (.bl true), ?_, ?_, ?_, ?_⟩⟩
      · exact s4 _ _ (by rw [upd_ne (ne_of_none hD' hT)]; exact hD')
      · rw [List.length_replicate]
        exact small1000 (by omega)
      · intro b' o e
        rw [upd_ne (nD e)]
        exact s4 _ _ (same_upd hT _ _ (sm _ _ e))
      · rw [upd_same, ← List.replicate_succ']
    · rintro H' ⟨sm, hD'⟩
      exact ⟨D, [true, true], rfl, SqL.of hD', k _ (((s1.trans s2).trans s3).trans sm)⟩
end
/-! ### shares made and told -/
def IsSh (K : PySem.W.Frag) (H : Hp) (x : Addr) (a b : Int) : Prop := ∃ dx, H x = some (shareO (He.ga K "Share") dx a b)
/-- a new share -/
def AllocS (K : PySem.W.Frag) (H : Hp) (a b : Int) (Q : V → Hp → Prop) (_ : Lk Q := ⟨⟩) : Prop := ∀ x H', H x = none → IsSh K H' x a b → Same H H' → Q (.ref x) H'
theorem IsSh.same {K : PySem.W.Frag} {H H' : Hp} {x : Addr} {a b : Int} (h : IsSh K H x a b) (s : Same H H') : IsSh K H' x a b := by
  obtain ⟨dx, e⟩ := h
  exact ⟨dx, s _ _ e⟩
theorem mk_ok {K : PySem.W.Frag} {H : Hp} {vs : List V} {a b : Int} {Q : V → Hp → Prop} {E : XK} (e : vs = [.int a, .int b]) (hb : b ≠ 0) (hbb : b.natAbs < big9) (h : AllocS K H (a.fdiv (side a b)) (b.fdiv (side a b)) Q) :
    ∀ x dx, H x = none → H dx = none → dx ≠ x → spInit K (.ref x :: vs) (upd (upd H dx (.own x)) x (.ins (He.ga K "Share") dx [])) (fun v H2 => v = .non ∧ Q (.ref x) H2) E := by
  intro x dx nx nd ne
  refine ⟨x, dx, a, b, by rw [e], upd_same, hb, hbb, rfl, h x _ nx ⟨dx, upd_same⟩ ?_⟩
  intro c o ec
  rw [upd_ne (ne_of_none ec nx), upd_ne (ne_of_none ec nx), upd_ne (ne_of_none ec nd)]
  exact ec
def rStrOwn (C : Addr) (sp : Sp) (E : XK) : List V → Hp → VK → Prop := fun xs H Q => ∃ (a dx : Addr) (fs : List (Str × V)), xs = [.ref a] ∧ H a = some (.ins C dx fs) ∧ sp [.ref a] H (fun z H' => ∃ y, z = .str y ∧ Q z H') E
section
variable {X : Cx} {CX : CXT} {n : Nat} {sp : Sp} {E : XK} {C g : Addr}
theorem call_strOwn (hs : PySem.W.findIn X.K (.ref C) "__str__" = some (some (.ref g))) (hf : PySem.W.isFn X.K (.ref g) = true) (F : FnR X.prog X.w X.K X.mg X.base CX n g sp) (hr : Room (n + 2) X.A) (hx : Passes CX X E) : CallR X (.type "str") (rStrOwn C sp E) := by
  intro pins s σ H xs us Q I r h
  obtain ⟨a, dx, fs, rfl, ha, q⟩ := h
  obtain ⟨u, rfl, ru⟩ := r.one
  cases (show u = Value.ref a from ru)
  obtain ⟨mA, O, _⟩ := ins_get I.hok ha
  obtain ⟨od, J, _⟩ := O.look
  have hr2 : Room n X.A.in1.in1 := (show Room (n + 1) X.A.in1 from Room.in1 hr).in1
  refine PySem.W.kso_call hr2.units0 I.kIn J hs hf (wpAny_mono (wpAny_call (SlX.run_at (us := [.ref a]) (ws := [.ref a]) F hr2 I.env0.in1.in1 hx I (.cons rfl .nil) q)) (fun w s' z => ?_) fun _ _ x => x)
  obtain ⟨z', H', I', rz, y, ey, qz⟩ := z
  subst ey
  obtain ⟨t, e⟩ := (show ∃ t, w = Value.str y t from rz)
  cases e
  exact ⟨.str y, H', I', ⟨t, rfl⟩, qz⟩
end
section
variable {K : PySem.W.Frag} {mg : Str → Option Value}
theorem Wd.isSh (W : Wd K mg) {H : Hp} {x : Addr} {a b : Int} (h : IsSh K H x a b) : TyOf K H (.ref x) (.ref (He.ga K "Share")) := by
  obtain ⟨dx, e⟩ := h
  exact .ins e W.cls_Share (He.eqO_ok (W.ex 0 rfl)) (He.eqO_ok (W.ex 1 rfl)) (of_decide_eq_true (W.ex 2 rfl)) (of_decide_eq_true (W.ex 3 rfl))
theorem Wd.kitS (W : Wd K mg) : PySem.W.kitOne K (.ref (He.ga K "Share")) (.ref (He.ga K "Share")) = some true := of_decide_eq_true (W.ex 4 rfl)
/-- isinstance(x, Share) of a share -/
def rIsS (K : PySem.W.Frag) : List V → Hp → VK → Prop := fun xs H Q => ∃ (x : Addr) (a b : Int), xs = [.ref x, .ref (He.ga K "Share")] ∧ IsSh K H x a b ∧ Q (.bl true) H
theorem isi_S {X : Cx} (W : Wd X.K X.mg) : CallR X (.builtin "isinstance") (rIsS X.K) := by
  intro pins s σ H xs us Q I r h
  obtain ⟨x, a, b, e, hx, q⟩ := h
  exact call_isi pins s σ H xs us Q I r ⟨.ref x, .ref (He.ga X.K "Share"), _, _, true, e, .own _, .base (W.isSh hx), W.kitS, q⟩
end
theorem vals_rev : ∀ {vs : List V} {us : List Value}, Vals vs us → Vals vs.reverse us.reverse
  | _, _, .nil => .nil
  | _, _, .cons r t => by
    rw [List.reverse_cons, List.reverse_cons]
    exact (vals_rev t).append (.cons r .nil)
section
variable {P : Program} {w : World} {K : PySem.W.Frag} {mg : Str → Option Value} {base : Heap} {fd : FuncData}
abbrev FInit (K : PySem.W.Frag) (fd : FuncData) : Prop := FunD K d_Share_init.name d_Share_init.qual d_Share_init.params d_Share_init.body d_Share_init.scope (d_Share_init.dvs K) (d_Share_init.kws K) (He.fAd K d_Share_init.at_) fd
abbrev psI : List Str := ["self", "top", "bottom"]
theorem bind3 (F : FInit K fd) : Binds K fd psI [] := by
  obtain ⟨ds, v, b⟩ := FunD.binds1 (ps := psI) F 3 1 (List.cons_ne_nil _ _) rfl fun T kV doc pm an cdv ct us its hu hi => match us, its, hu, hi with | [_, _, _], [_], _, _ => ⟨_, rfl, rfl⟩
  cases v
  exact b
theorem bind2 (F : FInit K fd) : ∃ ds, Vals [V.int 1] ds ∧ Binds K fd psI ds := by
  obtain ⟨ds, v, b⟩ := FunD.binds1 (ps := psI) F 2 0 (List.cons_ne_nil _ _) rfl fun T kV doc pm an cdv ct us its hu hi => match us, its, hu, hi with | [_, _], [_], _, _ => ⟨_, rfl, rfl⟩
  exact ⟨ds, v, b⟩
/-- Share(bottom = b, top = a) -/
theorem bindBT (F : FInit K fd) : KBn K fd psI 1 ["bottom", "top"] (fun us ws => us ++ ws.reverse) (fun vs zs => vs ++ zs.reverse) := by
  obtain ⟨oc, od, dV, kV, doc, pm, an, cdv, ct, osl, rfl, lk, hcd, hD, hK⟩ := F.ex
  rcases hD with ⟨e, _⟩ | ⟨_, T, o, its, m, rfl, lT, oT, rT⟩
  · exact absurd e (List.cons_ne_nil _ _)
  · refine ⟨fun s us ws X l1 l2 => ?_, fun {vs us zs ws} r1 r2 => ?_⟩
    · match us, ws, l1, l2 with
      | [u], [b, t], _, _ =>
        refine BindsTo.of_looks fun M => ?_
        obtain ⟨k, e1, e2⟩ : ∃ k, bindArgs (PySem.W.fnOf d_Share_init.name d_Share_init.qual d_Share_init.params d_Share_init.body d_Share_init.scope (.ref T) kV doc pm an cdv ct) ⟨[u], (["bottom", "top"] : List Str).zip [b, t]⟩ = seqItems? (.ref T) >>= k ∧ k (some its.toArray) = pure (psI.zip [u, t, b]) := by
          match its, rT with
          | [d], _ => exact ⟨_, rfl, rfl⟩
        rw [e1]
        exact looks_items X lT oT (.of_pure e2)
    · exact r1.append (vals_rev r2)
/-- Share(a, bottom = b) -/
theorem bindB (F : FInit K fd) : KBn K fd psI 2 ["bottom"] (fun us ws => us ++ ws) (fun vs zs => vs ++ zs) := by
  obtain ⟨oc, od, dV, kV, doc, pm, an, cdv, ct, osl, rfl, lk, hcd, hD, hK⟩ := F.ex
  rcases hD with ⟨e, _⟩ | ⟨_, T, o, its, m, rfl, lT, oT, rT⟩
  · exact absurd e (List.cons_ne_nil _ _)
  · refine ⟨fun s us ws X l1 l2 => ?_, fun {vs us zs ws} r1 r2 => r1.append r2⟩
    match us, ws, l1, l2 with
    | [u, t], [b], _, _ =>
      refine BindsTo.of_looks fun M => ?_
      obtain ⟨k, e1, e2⟩ : ∃ k, bindArgs (PySem.W.fnOf d_Share_init.name d_Share_init.qual d_Share_init.params d_Share_init.body d_Share_init.scope (.ref T) kV doc pm an cdv ct) ⟨[u, t], (["bottom"] : List Str).zip [b]⟩ = seqItems? (.ref T) >>= k ∧ k (some its.toArray) = pure (psI.zip [u, t, b]) := by
        match its, rT with
        | [d], _ => exact ⟨_, rfl, rfl⟩
      rw [e1]
      exact looks_items X lT oT (.of_pure e2)
theorem scIsShare : FnScope ["_law_found", "_law_due"] ["_law_found", "_law_due"] d_is_share.scope := ⟨rfl, rfl, rfl, by decide +kernel, rfl, by decide +kernel, by decide +kernel⟩
def spIsShare (K : PySem.W.Frag) : Sp := fun vs H Q _ => ∃ (x q : Addr) (a b : Int), vs = [.ref x, .ref q] ∧ IsSh K H x a b ∧ H q = some (.tup [.int a, .int b]) ∧ ∀ H', Same H H' → Q (.bl true) H'
theorem look_top (t b : V) : List.lookup ("top" : Str) [(("top" : Str), t), (("bottom" : Str), b)] = some t := rfl
theorem look_bot (t b : V) : List.lookup ("bottom" : Str) [(("top" : Str), t), (("bottom" : Str), b)] = some b := rfl
theorem ok_isShare (W : Wd K mg) : ∃ fd, FnOk P w K mg base CX0 3 (He.ga K "_law_is_share") fd ["_law_found", "_law_due"] (spIsShare K) ∧ Binds K fd ["_law_found", "_law_due"] [] := by
  obtain ⟨fdT, GT, bT⟩ := ok_sameT (P := P) (w := w) (base := base) W
  have kS : PySem.W.keepIn K (.ref (He.ga K "_law_same")) = true := by
    obtain ⟨fd, F⟩ := W.F_same
    exact F.kp
  obtain ⟨fd, F⟩ := W.F_is_share
  refine ⟨fd, F.ok scIsShare (fun vs H Q E h => ?_) (fun cdv A outer s H vs Q E hr h => ?_), FunD.bindsN F fun _ _ _ _ _ _ us hl => match us, hl with | [_, _], _ => rfl⟩
  · obtain ⟨x, q, a, b, rfl, _⟩ := h
    rfl
  · obtain ⟨x, q, a, b, rfl, hx, hq, k⟩ := h
    refine ⟨_, PSs.nox (pss_one (ps_ret (pe_and (pe_callB (isi_S W) (by rfl) W.f_isinstance boot_isinstance (pa_cons (pv 0) (pa_cons (pe_glob (v := .ref (He.ga K "Share")) rfl W.g_Share rfl) pa_nil)))
      (pe_one (pe_call GT hr rfl W.g_law_same kS bT .nil pass0 (pa_cons (pe_tup (pa_cons (pe_fld (pv 0) rfl) (pa_cons (pe_fld (pv 0) rfl) pa_nil))) (pa_cons (pv 1) pa_nil))))))), ?_⟩
    obtain ⟨dx, hd⟩ := id hx
    refine ⟨_, rfl, x, a, b, rfl, hx, true, rfl, ?_⟩
    simp -dsimp [tSeq, tAsg, tRet, tIfS, tIf, tTest, tVar, tCons, tNil, tC, tOp, tUn, rI, rI0, rU, tCB, tLst_A, tTup_A, gName, L2.start, CMul, CPow, CDiv, tDrop, tBM, tBM0, tNext, tPar, gSub, rSetL, rIxL, rIxT, tChain, tB, tNot, tNotV, tAnd, tOr, tAndV, tOrV, tFld, tCall, rIxLH, rIxTH, atI, ixN, upd_same, cxK, ex2, ex3, ex3b, rIs1, rIs2, rNe2, tyN, kb1, kb2, kb3, kb4, kb5, kb6, rEq, rNe, scal, hd, shareO, W.cls_Share, W.n_Share_top, W.n_Share_bottom, look_top, look_bot]
    refine ⟨le2, Alloc.of fun p1 H1 n1 e1 s1 => ?_⟩
    exact ⟨p1, q, a, b, rfl, e1, s1 _ _ hq, fun H' s2 => k H' (s1.trans s2)⟩
end
/-! ### NoShare is raised, and taken -/
section
variable {P : Program} {w : World} {K : PySem.W.Frag} {mg : Str → Option Value} {base : Heap} {fd : FuncData}
theorem ok_noshare (W : Wd K mg) (hP : SupX.PrgOk P) : ∃ fd, FnOk P w K mg base CX0 1 (He.ma K (He.ga K "NoShare") "__init__") fd ["self", "top"] (SupX.spExc (He.ga K "NoShare") "top") ∧ Binds K fd ["self", "top"] [] := by
  obtain ⟨cc, cda, T⟩ := SupX.supC_of hP (W.sup 0 rfl) (W.ex 5 rfl) (W.ex 6 rfl)
  exact SupX.exc_init T (NdefX.nscope_by (by decide +kernel)) W.n_NoShare_top (by decide +kernel) (fun _ _ _ _ us hl => match us, hl with | [_, _], _ => rfl) rfl rfl (fun env h => rfl) (fun env h => rfl) (fun env h => by unfold interactive; rw [h]; rfl) (fun env h => rfl) rfl rfl
/-- as Passes, of what is wished whatever the slots -/
theorem passAll {X : Cx} {W : WX} (tk : Takes X W) : Passes (L2.CX X.prog X.w) X (fun c d H => ∀ σ, W c d σ H) := fun pins σ H s e s' I c => by
  obtain ⟨a, B, H', cls, d, e1, e2, e3, e4, e5, e6, e7, z⟩ := c
  exact passAt tk σ pins H s e s' I ⟨a, B, H', cls, d, e1, e2, e3, e4, e5, e6, e7, z σ⟩
def spInitX (K : PySem.W.Frag) : Sp := fun vs H _ E => ∃ (x : Addr) (a : Int), vs = [.ref x, .int a, .int 0] ∧ ∀ d, H d = none → E (.ref (He.ga K "NoShare")) (some d) (upd H d (.xd [("top", .int a)]))
theorem ok_initX (W : Wd K mg) (hP : SupX.PrgOk P) : ∃ fd, FnOk P w K mg base (L2.CX P w) 3 (He.ma K (He.ga K "Share") "__init__") fd psI (spInitX K) ∧ FInit K fd := by
  obtain ⟨fdN, GN, bN⟩ := ok_noshare (P := P) (w := w) (base := base) W hP
  have f8 := He.ba (W.ex 8 rfl)
  obtain ⟨fd, F⟩ := W.F_Share_init
  refine ⟨fd, F.ok scInit (fun vs H Q E h => ?_) (fun cdv A outer s H vs Q E hr h => ?_), F⟩
  · obtain ⟨x, a, rfl, _⟩ := h
    rfl
  · obtain ⟨x, a, rfl, q⟩ := h
    refine ⟨_, pss_cons (ps_if (pt_cmpR op_eq (pv 2) pe_int (nomark _)) (pss_one (ps_raise rfl (takes_of rfl rfl rfl rfl) (pmk_oex (SupX.oexB_ok (W.ex 5 rfl)) (He.eqO_ok f8.1) (of_decide_eq_true f8.2) GN hr bN .nil pass0 rfl W.g_NoShare (pa_cons (pv 1) pa_nil)))) pss_nil) pss_never, ?_⟩
    simp -dsimp [tSeq, tAsg, tRet, tIfS, tIf, tTest, tVar, tCons, tNil, tC, tOp, tUn, rI, rI0, rU, tCB, tLst_A, tTup_A, gName, L2.start, CMul, CPow, CDiv, tDrop, tBM, tBM0, tNext, tPar, gSub, rSetL, rIxL, rIxT, tChain, tB, tNot, tNotV, tAnd, tOr, tAndV, tOrV, tFld, tCall, rIxLH, rIxTH, atI, ixN, upd_same, cxK, ex2, ex3, ex3b, rIs1, rIs2, rNe2, tyN, kb1, kb2, kb3, kb4, kb5, kb6, rEq, rNe, scal, tMkO]
    intro a1 n1
    refine ⟨a1, .int a, rfl, upd_same, fun dx nd ne => ?_⟩
    have nd' : H dx = none := by
      rw [upd_ne ne] at nd
      exact nd
    refine ⟨rfl, dx, upd_same, [("top", .int a)], by rw [upd_ne ne, upd_same], nd', ?_⟩
    have e : upd (del (upd (upd (upd H a1 (exo a1 (He.ga K "NoShare") none)) dx (exd dx [("top", V.int a)])) a1 (exo a1 (He.ga K "NoShare") (some dx))) a1) dx (.xd [("top", V.int a)]) = upd H dx (.xd [("top", V.int a)]) := by
      funext b
      by_cases hb : b = dx
      · subst hb
        rw [upd_same, upd_same]
      · rw [upd_ne hb, upd_ne hb]
        by_cases hc : b = a1
        · subst hc
          rw [del_same, n1]
        · rw [del_ne hc, upd_ne hc, upd_ne hb, upd_ne hc]
    rw [e]
    exact q dx nd'
end
/-! ### the numbers -/
theorem side_facts (a b : Int) (hb : b ≠ 0) : side a b ∣ a ∧ side a b ∣ b ∧ side a b ≠ 0 := by
  have hg : 0 < Int.gcd a b := Int.gcd_pos_of_ne_zero_right a hb
  have h1 := Int.gcd_dvd_left a b
  have h2 := Int.gcd_dvd_right a b
  unfold side
  split
  · exact ⟨h1, h2, by omega⟩
  · exact ⟨Int.neg_dvd.mpr h1, Int.neg_dvd.mpr h2, by omega⟩
theorem side_neg (a b : Int) (hb : b ≠ 0) : side a (-b) = -side a b := by
  unfold side
  rw [Int.gcd_neg]
  by_cases h : b > 0
  · rw [if_pos h, if_neg (by omega)]
  · rw [if_neg h, if_pos (by omega), Int.neg_neg]
theorem side_one (a : Int) : side a 1 = 1 := by
  unfold side
  rw [if_pos (by decide), Int.gcd_one]
  rfl
theorem fdiv_le {a s : Int} (h : s ∣ a) (hs : s ≠ 0) : (a.fdiv s).natAbs ≤ a.natAbs := by
  obtain ⟨c, rfl⟩ := h
  rw [Int.fdiv_eq_ediv_of_dvd ⟨c, rfl⟩, Int.mul_ediv_cancel_left _ hs, Int.natAbs_mul]
  exact Nat.le_mul_of_pos_left _ (by omega)
theorem fdiv_flip {a b : Int} (hb : b ≠ 0) : a.fdiv (side a (-b)) = -(a.fdiv (side a b)) ∧ (-b).fdiv (side a (-b)) = b.fdiv (side a b) := by
  obtain ⟨h1, h2, h3⟩ := side_facts a b hb
  rw [side_neg a b hb]
  refine ⟨by rw [Int.fdiv_neg h3, if_pos h1], ?_⟩
  rw [Int.fdiv_neg h3, if_pos (Int.dvd_neg.mpr h2), Int.fdiv_eq_ediv_of_dvd (Int.dvd_neg.mpr h2), Int.fdiv_eq_ediv_of_dvd h2, Int.neg_ediv_of_dvd h2, Int.neg_neg]
theorem scaled {a p : Int} (h : a.natAbs < 1000000000000) (h0 : 0 ≤ p) (h1 : p < 12) : (a / 100 * (1 + p)).natAbs < 2000000000000 := by
  have e : (a / 100).natAbs ≤ 10000000001 := by omega
  rw [Int.natAbs_mul]
  have e2 : (1 + p).natAbs ≤ 12 := by omega
  have := Nat.mul_le_mul e e2
  omega
theorem big_of {n : Nat} (h : n < 10 ^ 60) : n < big9 := Nat.lt_of_lt_of_le h (by unfold big9; exact Nat.le_trans (by decide : (10 : Nat) ^ 60 ≤ 2 ^ 200) (Nat.pow_le_pow_right (by decide) (by decide)))
/-- a share is made of the ints vs -/
def MkS (K : PySem.W.Frag) (H : Hp) (vs : List V) (Q : V → Hp → Prop) (E : XK) (_ : Lk (Q, E) := ⟨⟩) : Prop :=
  ∀ x dx, H x = none → H dx = none → dx ≠ x → spInit K (.ref x :: vs) (upd (upd H dx (.own x)) x (.ins (He.ga K "Share") dx [])) (fun v H2 => v = .non ∧ Q (.ref x) H2) E
theorem MkS.of {K : PySem.W.Frag} {H : Hp} {vs : List V} {a b : Int} {Q : V → Hp → Prop} {E : XK} (e : vs = [.int a, .int b]) (hb : b ≠ 0) (hbb : b.natAbs < big9) (h : AllocS K H (a.fdiv (side a b)) (b.fdiv (side a b)) Q) : MkS K H vs Q E := mk_ok e hb hbb h
theorem tMake_S {K : PySem.W.Frag} {dvs : List V} {E : XK} {t : TA} {σ : List (Option V)} {H : Hp} {Q : V → Hp → Prop} : tMake (He.ga K "Share") (spInit K) dvs E t σ H Q = t σ H fun vs H1 => MkS K H1 (vs ++ dvs) Q E := rfl
theorem tMakeK_S {K : PySem.W.Frag} {n m : Nat} {E : XK} {t tk : TA} {σ : List (Option V)} {H : Hp} {Q : V → Hp → Prop} : tMakeK (He.ga K "Share") n m (spInit K) (fun vs zs => vs ++ zs.reverse) E t tk σ H Q = t σ H fun vs H1 => tk σ H1 fun zs H2 => vs.length = n ∧ zs.length = m ∧ MkS K H2 (vs ++ zs.reverse) Q E := rfl
theorem tMakeN_S {K : PySem.W.Frag} {n m : Nat} {E : XK} {t tk : TA} {σ : List (Option V)} {H : Hp} {Q : V → Hp → Prop} : tMakeN (He.ga K "Share") n m (spInit K) (fun vs zs => vs ++ zs) E t tk σ H Q = t σ H fun vs H1 => tk σ H1 fun zs H2 => vs.length = n ∧ zs.length = m ∧ MkS K H2 (vs ++ zs) Q E := rfl
/-- a loop over the list at a, from here -/
def ForW (K : PySem.W.Frag) (a : Addr) (g : TG) (tb : TS) (D : Ends) (σ : List (Option V)) (H : Hp) (_ : Lk (g, tb, D) := ⟨⟩) : Prop :=
  ∃ W : Nat → Nat → List (Option V) → Hp → Prop, (∃ m, W 0 m σ H) ∧ ∀ i m σ H, W i m σ H → ((Itl K a).stop i H ∧ D.nx σ H) ∨ ((Itl K a).go i H ∧ ∃ N : List (Option V) → Hp → Prop, (∀ σ' H', N σ' H' → ∃ m', m' < m ∧ W (i + 1) m' σ' H') ∧ ∀ x H', (Itl K a).yld i H x H' → g x σ H' fun σ2 H2 => tb { D with nx := N, ct := N, bk := D.nx } σ2 H2)
theorem tFor_iL {K : PySem.W.Frag} {tl : TE} {g : TG} {tb : TS} {D : Ends} {σ : List (Option V)} {H : Hp} : tFor (iList K tl) g tb D σ H = tl σ H fun x H1 => ∃ a, x = .ref a ∧ (∃ xs, SqL K H1 a xs) ∧ ForW K a g tb D σ H1 := rfl
/-! ### numbers: shares and ints -/
def bigH : Nat := 2 ^ 4499
theorem mul_h {a b : Int} (ha : a.natAbs < bigH) (hb : b.natAbs < bigH) : 2 * (a * b).natAbs < big9 := by
  rw [Int.natAbs_mul]
  have h := Nat.mul_lt_mul'' ha hb
  have e : 2 * (bigH * bigH) = big9 := by
    unfold bigH big9
    rw [← Nat.pow_add, Nat.mul_comm, ← Nat.pow_succ]
  omega
theorem h_lt_M {n : Nat} (h : n < bigH) : n < bigM := Nat.lt_of_lt_of_le h (by unfold bigH bigM; exact Nat.pow_le_pow_right (by decide) (by decide))
/-- v is c over d: a share, or an int -/
def Nu (K : PySem.W.Frag) (H : Hp) (v : V) (c d : Int) : Prop := (∃ y, v = .ref y ∧ IsSh K H y c d) ∨ (v = .int c ∧ d = 1)
theorem Nu.same {K : PySem.W.Frag} {H H' : Hp} {v : V} {c d : Int} (h : Nu K H v c d) (s : Same H H') : Nu K H' v c d := by
  rcases h with ⟨y, e, h⟩ | h
  · exact .inl ⟨y, e, h.same s⟩
  · exact .inr h
/-- isinstance of a number -/
def rIsN (K : PySem.W.Frag) : List V → Hp → VK → Prop := fun xs H Q => ∃ (x c : V), xs = [x, c] ∧
  ((∃ (y : Addr) (a b : Int), x = .ref y ∧ IsSh K H y a b ∧ ((c = .ref (He.ga K "Share") ∧ Q (.bl true) H) ∨ (c = .ty "int" ∧ Q (.bl false) H))) ∨
   (∃ i : Int, x = .int i ∧ ((c = .ref (He.ga K "Share") ∧ Q (.bl false) H) ∨ (c = .ty "int" ∧ Q (.bl true) H) ∨ (c = .ty "bool" ∧ Q (.bl false) H))))
section
variable {X : Cx}
theorem isi_N (W : Wd X.K X.mg) : CallR X (.builtin "isinstance") (rIsN X.K) := by
  intro pins s σ H xs us Q I r h
  obtain ⟨x, c, rfl, ⟨y, a, b, rfl, hy, ⟨rfl, q⟩ | ⟨rfl, q⟩⟩ | ⟨i, rfl, ⟨rfl, q⟩ | ⟨rfl, q⟩ | ⟨rfl, q⟩⟩⟩ := h
  · exact call_isi pins s σ H _ us Q I r ⟨_, _, _, _, true, rfl, .own _, .base (W.isSh hy), W.kitS, q⟩
  · exact call_isi pins s σ H _ us Q I r ⟨_, _, _, _, false, rfl, .ty _, .base (W.isSh hy), of_decide_eq_true (W.ex 13 rfl), q⟩
  · exact call_isi pins s σ H _ us Q I r ⟨_, _, _, _, false, rfl, .own _, .base (.int i), of_decide_eq_true (W.ex 14 rfl), q⟩
  · exact call_isi pins s σ H _ us Q I r ⟨_, _, _, _, true, rfl, .ty _, .base (.int i), kit_ty kb4, q⟩
  · exact call_isi pins s σ H _ us Q I r ⟨_, _, _, _, false, rfl, .ty _, .base (.int i), kit_ty kb3, q⟩
end
theorem tup2 {K : PySem.W.Frag} {p : Addr} {u v : V} {f g : TG} {σ : List (Option V)} {H : Hp} {Q : List (Option V) → Hp → Prop} (h : H p = some (.tup [u, v])) (k : f u σ H fun σ1 H1 => g v σ1 H1 Q) : gTup K 2 (gCons f (gCons g gNil)) (.ref p) σ H Q := by
  refine ⟨p, [u, v], rfl, SqT.of h, rfl, u, [v], rfl, ?_⟩
  refine Eq.mp ?_ k
  congr 1
  funext σ1 H1
  refine propext ⟨fun z => ⟨v, [], rfl, ?_⟩, fun ⟨v', r, e, z⟩ => ?_⟩
  · refine Eq.mp ?_ z
    congr 1
    funext σ2 H2
    exact propext ⟨fun z => ⟨rfl, z⟩, fun z => z.2⟩
  · cases e
    refine Eq.mp ?_ z
    congr 1
    funext σ2 H2
    exact propext ⟨fun z => z.2, fun z => ⟨rfl, z⟩⟩
section
variable {P : Program} {w : World} {K : PySem.W.Frag} {mg : Str → Option Value} {base : Heap}
theorem scIsInt : FnScope ["thing"] ["thing"] d_is_integer.scope := ⟨rfl, rfl, rfl, by decide +kernel, rfl, by decide +kernel, by decide +kernel⟩
def spIsInt (K : PySem.W.Frag) : Sp := fun vs H Q _ => ∃ (v : V), vs = [v] ∧ ((∃ (y : Addr) (a b : Int), v = .ref y ∧ IsSh K H y a b ∧ Q (.bl false) H) ∨ ∃ i : Int, v = .int i ∧ Q (.bl true) H)
theorem ok_isInt (W : Wd K mg) : ∃ fd, FnOk P w K mg base CX0 1 (He.ga K "is_integer") fd ["thing"] (spIsInt K) ∧ Binds K fd ["thing"] [] := by
  obtain ⟨fd, F⟩ := W.F_is_integer
  refine ⟨fd, F.ok scIsInt (fun vs H Q E h => ?_) (fun cdv A outer s H vs Q E hr h => ?_), FunD.bindsN F fun _ _ _ _ _ _ us hl => match us, hl with | [_], _ => rfl⟩
  · obtain ⟨v, rfl, _⟩ := h
    rfl
  · obtain ⟨v, rfl, h⟩ := h
    refine ⟨_, PSs.nox (pss_one (ps_ret (pe_and (pe_callB (isi_N W) (by rfl) W.f_isinstance boot_isinstance (pa_cons (pv 0) (pa_cons (pe_bltn (v := .ty "int") (by rfl) W.f_int (by decide +kernel) rfl) pa_nil)))
      (pe_one (pe_not (pe_callB (isi_N W) (by rfl) W.f_isinstance boot_isinstance (pa_cons (pv 0) (pa_cons (pe_bltn (v := .ty "bool") (by rfl) W.f_bool (by decide +kernel) rfl) pa_nil)))))))), ?_⟩
    rcases h with ⟨y, a, b, rfl, hy, q⟩ | ⟨i, rfl, q⟩
    · simp -dsimp [tSeq, tAsg, tRet, tIfS, tIf, tTest, tVar, tCons, tNil, tC, tOp, tUn, rI, rI0, rU, tCB, tLst_A, tTup_A, gName, L2.start, CMul, CPow, CDiv, tDrop, tBM, tBM0, tNext, tPar, gSub, rSetL, rIxL, rIxT, tChain, tB, tNot, tNotV, tAnd, tOr, tAndV, tOrV, tFld, tCall, rIxLH, rIxTH, atI, ixN, upd_same, cxK, ex2, ex3, ex3b, rIs1, rIs2, rNe2, tyN, kb1, kb2, kb3, kb4, kb5, kb6, rEq, rNe, scal, tMake_S, tMakeK_S, tMakeN_S, rIsN]
      exact ⟨⟨a, b, hy⟩, q⟩
    · simp -dsimp [tSeq, tAsg, tRet, tIfS, tIf, tTest, tVar, tCons, tNil, tC, tOp, tUn, rI, rI0, rU, tCB, tLst_A, tTup_A, gName, L2.start, CMul, CPow, CDiv, tDrop, tBM, tBM0, tNext, tPar, gSub, rSetL, rIxL, rIxT, tChain, tB, tNot, tNotV, tAnd, tOr, tAndV, tOrV, tFld, tCall, rIxLH, rIxTH, atI, ixN, upd_same, cxK, ex2, ex3, ex3b, rIs1, rIs2, rNe2, tyN, kb1, kb2, kb3, kb4, kb5, kb6, rEq, rNe, scal, tMake_S, tMakeK_S, tMakeN_S, rIsN]
      exact q
theorem scIsNum : FnScope ["thing"] ["thing"] d_is_number.scope := ⟨rfl, rfl, rfl, by decide +kernel, rfl, by decide +kernel, by decide +kernel⟩
def spIsNum (K : PySem.W.Frag) : Sp := fun vs H Q _ => ∃ (v : V) (c d : Int), vs = [v] ∧ Nu K H v c d ∧ Q (.bl true) H
theorem ok_isNum (W : Wd K mg) : ∃ fd, FnOk P w K mg base CX0 2 (He.ga K "is_number") fd ["thing"] (spIsNum K) ∧ Binds K fd ["thing"] [] := by
  obtain ⟨fdI, GI, bI⟩ := ok_isInt (P := P) (w := w) (base := base) W
  have kI : PySem.W.keepIn K (.ref (He.ga K "is_integer")) = true := by obtain ⟨fd, F⟩ := W.F_is_integer; exact F.kp
  obtain ⟨fd, F⟩ := W.F_is_number
  refine ⟨fd, F.ok scIsNum (fun vs H Q E h => ?_) (fun cdv A outer s H vs Q E hr h => ?_), FunD.bindsN F fun _ _ _ _ _ _ us hl => match us, hl with | [_], _ => rfl⟩
  · obtain ⟨v, c, d, rfl, _⟩ := h
    rfl
  · obtain ⟨v, c, d, rfl, h, q⟩ := h
    refine ⟨_, PSs.nox (pss_one (ps_ret (pe_or (pe_callB (isi_N W) (by rfl) W.f_isinstance boot_isinstance (pa_cons (pv 0) (pa_cons (pe_glob (v := .ref (He.ga K "Share")) rfl W.g_Share rfl) pa_nil)))
      (pe_one (pe_call GI hr rfl W.g_is_integer kI bI .nil pass0 (pa_cons (pv 0) pa_nil)))))), ?_⟩
    rcases h with ⟨y, rfl, hy⟩ | ⟨rfl, rfl⟩
    · simp -dsimp [tSeq, tAsg, tRet, tIfS, tIf, tTest, tVar, tCons, tNil, tC, tOp, tUn, rI, rI0, rU, tCB, tLst_A, tTup_A, gName, L2.start, CMul, CPow, CDiv, tDrop, tBM, tBM0, tNext, tPar, gSub, rSetL, rIxL, rIxT, tChain, tB, tNot, tNotV, tAnd, tOr, tAndV, tOrV, tFld, tCall, rIxLH, rIxTH, atI, ixN, upd_same, cxK, ex2, ex3, ex3b, rIs1, rIs2, rNe2, tyN, kb1, kb2, kb3, kb4, kb5, kb6, rEq, rNe, scal, tMake_S, tMakeK_S, tMakeN_S, rIsN]
      exact ⟨⟨c, d, hy⟩, q⟩
    · simp -dsimp [tSeq, tAsg, tRet, tIfS, tIf, tTest, tVar, tCons, tNil, tC, tOp, tUn, rI, rI0, rU, tCB, tLst_A, tTup_A, gName, L2.start, CMul, CPow, CDiv, tDrop, tBM, tBM0, tNext, tPar, gSub, rSetL, rIxL, rIxT, tChain, tB, tNot, tNotV, tAnd, tOr, tAndV, tOrV, tFld, tCall, rIxLH, rIxTH, atI, ixN, upd_same, cxK, ex2, ex3, ex3b, rIs1, rIs2, rNe2, tyN, kb1, kb2, kb3, kb4, kb5, kb6, rEq, rNe, scal, tMake_S, tMakeK_S, tMakeN_S, rIsN, spIsInt]
      exact q
theorem scFrac : FnScope ["number"] ["number"] d_fraction.scope := ⟨rfl, rfl, rfl, by decide +kernel, rfl, by decide +kernel, by decide +kernel⟩
def spFrac (K : PySem.W.Frag) : Sp := fun vs H Q _ => ∃ (v : V) (c d : Int), vs = [v] ∧ Nu K H v c d ∧ ∀ p H', H p = none → H' p = some (.tup [.int c, .int d]) → Same H H' → Q (.ref p) H'
theorem ok_frac (W : Wd K mg) : ∃ fd, FnOk P w K mg base CX0 1 (He.ga K "fraction") fd ["number"] (spFrac K) ∧ Binds K fd ["number"] [] := by
  obtain ⟨fd, F⟩ := W.F_fraction
  refine ⟨fd, F.ok scFrac (fun vs H Q E h => ?_) (fun cdv A outer s H vs Q E hr h => ?_), FunD.bindsN F fun _ _ _ _ _ _ us hl => match us, hl with | [_], _ => rfl⟩
  · obtain ⟨v, c, d, rfl, _⟩ := h
    rfl
  · obtain ⟨v, c, d, rfl, h, q⟩ := h
    refine ⟨_, PSs.nox (pss_cons (ps_if (pt_val (pe_callB (isi_N W) (by rfl) W.f_isinstance boot_isinstance (pa_cons (pv 0) (pa_cons (pe_glob (v := .ref (He.ga K "Share")) rfl W.g_Share rfl) pa_nil))))
        (pss_one (ps_ret (pe_tup (pa_cons (pe_fld (pv 0) rfl) (pa_cons (pe_fld (pv 0) rfl) pa_nil))))) pss_nil)
      (pss_one (ps_ret (pe_tup (pa_cons (pv 0) (pa_cons pe_int pa_nil)))))), ?_⟩
    rcases h with ⟨y, rfl, hy⟩ | ⟨rfl, rfl⟩
    · obtain ⟨dx, hd⟩ := id hy
      simp -dsimp [tSeq, tAsg, tRet, tIfS, tIf, tTest, tVar, tCons, tNil, tC, tOp, tUn, rI, rI0, rU, tCB, tLst_A, tTup_A, gName, L2.start, CMul, CPow, CDiv, tDrop, tBM, tBM0, tNext, tPar, gSub, rSetL, rIxL, rIxT, tChain, tB, tNot, tNotV, tAnd, tOr, tAndV, tOrV, tFld, tCall, rIxLH, rIxTH, atI, ixN, upd_same, cxK, ex2, ex3, ex3b, rIs1, rIs2, rNe2, tyN, kb1, kb2, kb3, kb4, kb5, kb6, rEq, rNe, scal, tMake_S, tMakeK_S, tMakeN_S, rIsN, hd, shareO, W.cls_Share, W.n_Share_top, W.n_Share_bottom, look_top, look_bot]
      exact ⟨⟨c, d, hy⟩, le2, Alloc.of q⟩
    · simp -dsimp [tSeq, tAsg, tRet, tIfS, tIf, tTest, tVar, tCons, tNil, tC, tOp, tUn, rI, rI0, rU, tCB, tLst_A, tTup_A, gName, L2.start, CMul, CPow, CDiv, tDrop, tBM, tBM0, tNext, tPar, gSub, rSetL, rIxL, rIxT, tChain, tB, tNot, tNotV, tAnd, tOr, tAndV, tOrV, tFld, tCall, rIxLH, rIxTH, atI, ixN, upd_same, cxK, ex2, ex3, ex3b, rIs1, rIs2, rNe2, tyN, kb1, kb2, kb3, kb4, kb5, kb6, rEq, rNe, scal, tMake_S, tMakeK_S, tMakeN_S, rIsN]
      exact ⟨le2, Alloc.of q⟩
end
/-! ### shares by the program's own defs -/
section
variable {P : Program} {w : World} {K : PySem.W.Frag} {mg : Str → Option Value} {base : Heap}
/-- what follows for a new share in lowest terms -/
def Res (K : PySem.W.Frag) (H : Hp) (p q : Int) (Q : V → Hp → Prop) (_ : Lk Q := ⟨⟩) : Prop := ∀ z H', Same H H' → IsSh K H' z (p.fdiv (side p q)) (q.fdiv (side p q)) → Q (.ref z) H'
theorem MkS.res {K : PySem.W.Frag} {H0 H : Hp} {vs : List V} {a b : Int} {Q : V → Hp → Prop} {E : XK} (s : Same H0 H) (e : vs = [.int a, .int b]) (hb : b ≠ 0) (hbb : b.natAbs < big9) (h : Res K H0 a b Q) : MkS K H vs Q E :=
  MkS.of e hb hbb fun z H' _ i s' => h z H' (s.trans s') i
theorem one_fd (c : Int) : c.fdiv (side c 1) = c ∧ (1 : Int).fdiv (side c 1) = 1 := by
  rw [side_one, Int.fdiv_one, Int.fdiv_one]
  exact ⟨rfl, rfl⟩
theorem scShareOf : FnScope ["number"] ["number"] d_share_of.scope := ⟨rfl, rfl, rfl, by decide +kernel, rfl, by decide +kernel, by decide +kernel⟩
def spShareOf (K : PySem.W.Frag) : Sp := fun vs H Q _ => ∃ (v : V) (c d : Int), vs = [v] ∧ Nu K H v c d ∧ ∀ z H', Same H H' → IsSh K H' z c d → Q (.ref z) H'
theorem ok_shareOf (W : Wd K mg) : ∃ fd, FnOk P w K mg base CX0 4 (He.ga K "share_of") fd ["number"] (spShareOf K) ∧ Binds K fd ["number"] [] := by
  obtain ⟨fdH, GH, FH⟩ := ok_init (P := P) (w := w) (base := base) W
  obtain ⟨ds1, v1, b1⟩ := bind2 FH
  obtain ⟨fd, F⟩ := W.F_share_of
  refine ⟨fd, F.ok scShareOf (fun vs H Q E h => ?_) (fun cdv A outer s H vs Q E hr h => ?_), FunD.bindsN F fun _ _ _ _ _ _ us hl => match us, hl with | [_], _ => rfl⟩
  · obtain ⟨v, c, d, rfl, _⟩ := h
    rfl
  · obtain ⟨v, c, d, rfl, h, q⟩ := h
    refine ⟨_, PSs.nox (pss_cons (ps_if (pt_val (pe_callB (isi_N W) (by rfl) W.f_isinstance boot_isinstance (pa_cons (pv 0) (pa_cons (pe_glob (v := .ref (He.ga K "Share")) rfl W.g_Share rfl) pa_nil))))
        (pss_one (ps_ret (pv 0))) pss_nil)
      (pss_one (ps_ret (pe_make W.mkr_Share GH hr rfl W.g_Share b1 v1 pass0 (pa_cons (pv 0) pa_nil))))), ?_⟩
    rcases h with ⟨y, rfl, hy⟩ | ⟨rfl, rfl⟩
    · simp -dsimp [tSeq, tAsg, tRet, tIfS, tIf, tTest, tVar, tCons, tNil, tC, tOp, tUn, rI, rI0, rU, tCB, tLst_A, tTup_A, gName, L2.start, CMul, CPow, CDiv, tDrop, tBM, tBM0, tNext, tPar, gSub, rSetL, rIxL, rIxT, tChain, tB, tNot, tNotV, tAnd, tOr, tAndV, tOrV, tFld, tCall, rIxLH, rIxTH, atI, ixN, upd_same, cxK, ex2, ex3, ex3b, rIs1, rIs2, rNe2, tyN, kb1, kb2, kb3, kb4, kb5, kb6, rEq, rNe, scal, tMake_S, tMakeK_S, tMakeN_S, rIsN]
      exact ⟨⟨c, d, hy⟩, q y H (Same.refl _) hy⟩
    · simp -dsimp [tSeq, tAsg, tRet, tIfS, tIf, tTest, tVar, tCons, tNil, tC, tOp, tUn, rI, rI0, rU, tCB, tLst_A, tTup_A, gName, L2.start, CMul, CPow, CDiv, tDrop, tBM, tBM0, tNext, tPar, gSub, rSetL, rIxL, rIxT, tChain, tB, tNot, tNotV, tAnd, tOr, tAndV, tOrV, tFld, tCall, rIxLH, rIxTH, atI, ixN, upd_same, cxK, ex2, ex3, ex3b, rIs1, rIs2, rNe2, tyN, kb1, kb2, kb3, kb4, kb5, kb6, rEq, rNe, scal, tMake_S, tMakeK_S, tMakeN_S, rIsN]
      refine MkS.of rfl (by decide) (by decide +kernel) fun z H' _ i s' => ?_
      rw [(one_fd c).1, (one_fd c).2] at i
      exact q z H' s' i
def Sm (a b c d : Int) : Prop := a.natAbs < bigH ∧ b.natAbs < bigH ∧ c.natAbs < bigH ∧ d.natAbs < bigH
theorem scExcess : FnScope ["share", "number", "top", "bottom"] ["share", "number"] d_excess.scope := ⟨rfl, rfl, rfl, by decide +kernel, rfl, by decide +kernel, by decide +kernel⟩
def spExcess (K : PySem.W.Frag) : Sp := fun vs H Q _ => ∃ (x : Addr) (v : V) (a b c d : Int), vs = [.ref x, v] ∧ IsSh K H x a b ∧ Nu K H v c d ∧ Sm a b c d ∧ ∀ H', Same H H' → Q (.int (a * d - c * b)) H'
theorem ok_excess (W : Wd K mg) : ∃ fd, FnOk P w K mg base CX0 2 (He.ga K "excess") fd ["share", "number"] (spExcess K) ∧ Binds K fd ["share", "number"] [] := by
  obtain ⟨fdF, GF, bF⟩ := ok_frac (P := P) (w := w) (base := base) W
  have kF : PySem.W.keepIn K (.ref (He.ga K "fraction")) = true := by obtain ⟨fd, F⟩ := W.F_fraction; exact F.kp
  obtain ⟨fd, F⟩ := W.F_excess
  refine ⟨fd, F.ok scExcess (fun vs H Q E h => ?_) (fun cdv A outer s H vs Q E hr h => ?_), FunD.bindsN F fun _ _ _ _ _ _ us hl => match us, hl with | [_, _], _ => rfl⟩
  · obtain ⟨x, v, a, b, c, d, rfl, _⟩ := h
    rfl
  · obtain ⟨x, v, a, b, c, d, rfl, hx, hv, ⟨ha, hb, hc, hd⟩, q⟩ := h
    refine ⟨_, PSs.nox (pss_cons (ps_asg (pe_call GF hr rfl W.g_fraction kF bF .nil pass0 (pa_cons (pv 1) pa_nil)) (pg_tup rfl (pgs_cons (pg_name (i := 2) scExcess.nd rfl (Or.inl rfl)) (pgs_cons (pg_name (i := 3) scExcess.nd rfl (Or.inl rfl)) pgs_nil))))
      (pss_one (ps_ret (pe_op op_sub (pe_op op_mulX9 (pe_fld (pv 0) rfl) (pv 3)) (pe_op op_mulX9 (pv 2) (pe_fld (pv 0) rfl)))))), ?_⟩
    simp -dsimp [tSeq, tAsg, tRet, tIfS, tIf, tTest, tVar, tCons, tNil, tC, tOp, tUn, rI, rI0, rU, tCB, tLst_A, tTup_A, gName, L2.start, CMul, CPow, CDiv, tDrop, tBM, tBM0, tNext, tPar, gSub, rSetL, rIxL, rIxT, tChain, tB, tNot, tNotV, tAnd, tOr, tAndV, tOrV, tFld, tCall, rIxLH, rIxTH, atI, ixN, upd_same, cxK, ex2, ex3, ex3b, rIs1, rIs2, rNe2, tyN, kb1, kb2, kb3, kb4, kb5, kb6, rEq, rNe, scal, tMake_S, tMakeK_S, tMakeN_S]
    refine ⟨v, c, d, rfl, hv, fun p H1 np hp s1 => tup2 hp ?_⟩
    obtain ⟨dx, hx1⟩ := hx.same s1
    simp -dsimp [tSeq, tAsg, tRet, tIfS, tIf, tTest, tVar, tCons, tNil, tC, tOp, tUn, rI, rI0, rU, tCB, tLst_A, tTup_A, gName, L2.start, CMul, CPow, CDiv, tDrop, tBM, tBM0, tNext, tPar, gSub, rSetL, rIxL, rIxT, tChain, tB, tNot, tNotV, tAnd, tOr, tAndV, tOrV, tFld, tCall, rIxLH, rIxTH, atI, ixN, upd_same, cxK, ex2, ex3, ex3b, rIs1, rIs2, rNe2, tyN, kb1, kb2, kb3, kb4, kb5, kb6, rEq, rNe, scal, tMake_S, tMakeK_S, tMakeN_S, hx1, shareO, W.cls_Share, W.n_Share_top, W.n_Share_bottom, look_top, look_bot, h_lt_M ha, h_lt_M hb, h_lt_M hc, h_lt_M hd]
    exact q H1 s1
/-- what an own def for an operator promises: f over g of the two numbers' parts -/
def spBin (K : PySem.W.Frag) (f g : Int → Int → Int → Int → Int) : Sp := fun vs H Q _ => ∃ (x : Addr) (v : V) (a b c d : Int), vs = [.ref x, v] ∧ IsSh K H x a b ∧ Nu K H v c d ∧ Sm a b c d ∧ g a b c d ≠ 0 ∧ Res K H (f a b c d) (g a b c d) Q
theorem spBin_len {K : PySem.W.Frag} {f g : Int → Int → Int → Int → Int} {vs : List V} {H : Hp} {Q : VK} {E : XK} (h : spBin K f g vs H Q E) : vs.length = 2 := by
  obtain ⟨x, v, a, b, c, d, rfl, _⟩ := h
  rfl
def fAdd (a b c d : Int) : Int := a * d + c * b
def fSub (a b c d : Int) : Int := a * d - c * b
def fMul (a _b c _d : Int) : Int := a * c
def gMul (_a b _c d : Int) : Int := b * d
theorem gMul9 {a b c d : Int} (h : Sm a b c d) : (b * d).natAbs < big9 := by
  have := mul_h h.2.1 h.2.2.2
  omega
theorem scAdd : FnScope ["self", "other", "top", "bottom"] ["self", "other"] d_Share_add.scope := ⟨rfl, rfl, rfl, by decide +kernel, rfl, by decide +kernel, by decide +kernel⟩
theorem ok_add (W : Wd K mg) : ∃ fd, FnOk P w K mg base CX0 4 (He.ma K (He.ga K "Share") "__add__") fd ["self", "other"] (spBin K fAdd gMul) ∧ Binds K fd ["self", "other"] [] := by
  obtain ⟨fdH, GH, FH⟩ := ok_init (P := P) (w := w) (base := base) W
  obtain ⟨fdN, GN, bN⟩ := ok_isNum (P := P) (w := w) (base := base) W
  obtain ⟨fdF, GF, bF⟩ := ok_frac (P := P) (w := w) (base := base) W
  have kN : PySem.W.keepIn K (.ref (He.ga K "is_number")) = true := by obtain ⟨fd, F⟩ := W.F_is_number; exact F.kp
  have kF : PySem.W.keepIn K (.ref (He.ga K "fraction")) = true := by obtain ⟨fd, F⟩ := W.F_fraction; exact F.kp
  obtain ⟨fd, F⟩ := W.F_Share_add
  refine ⟨fd, F.ok scAdd (fun vs H Q E h => spBin_len h) (fun cdv A outer s H vs Q E hr h => ?_), FunD.bindsN F fun _ _ _ _ _ _ us hl => match us, hl with | [_, _], _ => rfl⟩
  obtain ⟨x, v, a, b, c, d, rfl, hx, hv, hs, hz, q⟩ := h
  have hs' := hs
  obtain ⟨ha, hb, hc, hd⟩ := hs'
  have r1 : Room 1 _ := hr.mono (by decide)
  have r2 : Room 2 _ := hr.mono (by decide)
  refine ⟨_, PSs.nox (pss_cons (ps_if (pt_not (pt_val (pe_call GN r2 rfl W.g_is_number kN bN .nil pass0 (pa_cons (pv 1) pa_nil)))) pss_never pss_nil)
    (pss_cons (ps_asg (pe_call GF r1 rfl W.g_fraction kF bF .nil pass0 (pa_cons (pv 1) pa_nil)) (pg_tup rfl (pgs_cons (pg_name (i := 2) scAdd.nd rfl (Or.inl rfl)) (pgs_cons (pg_name (i := 3) scAdd.nd rfl (Or.inl rfl)) pgs_nil))))
    (pss_one (ps_ret (pe_make W.mkr_Share GH hr rfl W.g_Share (bind3 FH) .nil pass0 (pa_cons (pe_op op_add (pe_op op_mulX9 (pe_fld (pv 0) rfl) (pv 3)) (pe_op op_mulX9 (pv 2) (pe_fld (pv 0) rfl))) (pa_cons (pe_op op_mulX9 (pe_fld (pv 0) rfl) (pv 3)) pa_nil))))))), ?_⟩
  simp -dsimp [tSeq, tAsg, tRet, tIfS, tIf, tTest, tVar, tCons, tNil, tC, tOp, tUn, rI, rI0, rU, tCB, tLst_A, tTup_A, gName, L2.start, CMul, CPow, CDiv, tDrop, tBM, tBM0, tNext, tPar, gSub, rSetL, rIxL, rIxT, tChain, tB, tNot, tNotV, tAnd, tOr, tAndV, tOrV, tFld, tCall, rIxLH, rIxTH, atI, ixN, upd_same, cxK, ex2, ex3, ex3b, rIs1, rIs2, rNe2, tyN, kb1, kb2, kb3, kb4, kb5, kb6, rEq, rNe, scal, tMake_S, tMakeK_S, tMakeN_S]
  refine ⟨v, c, d, rfl, hv, .inr ⟨rfl, v, c, d, rfl, hv, fun p H1 np hp s1 => tup2 hp ?_⟩⟩
  obtain ⟨dx, hx1⟩ := hx.same s1
  simp -dsimp [tSeq, tAsg, tRet, tIfS, tIf, tTest, tVar, tCons, tNil, tC, tOp, tUn, rI, rI0, rU, tCB, tLst_A, tTup_A, gName, L2.start, CMul, CPow, CDiv, tDrop, tBM, tBM0, tNext, tPar, gSub, rSetL, rIxL, rIxT, tChain, tB, tNot, tNotV, tAnd, tOr, tAndV, tOrV, tFld, tCall, rIxLH, rIxTH, atI, ixN, upd_same, cxK, ex2, ex3, ex3b, rIs1, rIs2, rNe2, tyN, kb1, kb2, kb3, kb4, kb5, kb6, rEq, rNe, scal, tMake_S, tMakeK_S, tMakeN_S, hx1, shareO, W.cls_Share, W.n_Share_top, W.n_Share_bottom, look_top, look_bot, h_lt_M ha, h_lt_M hb, h_lt_M hc, h_lt_M hd]
  exact MkS.res s1 rfl hz (gMul9 hs) q
end
section
variable {P : Program} {w : World} {K : PySem.W.Frag} {mg : Str → Option Value} {base : Heap}
abbrev aS (K : PySem.W.Frag) (m : Str) : Addr := He.ma K (He.ga K "Share") m
theorem Wd.opAdd (W : Wd K mg) : OpAt K (He.ga K "Share") "add" (aS K "__add__") (aS K "__radd__") :=
  ⟨W.ex 10 rfl, W.m_Share_add.at_, W.m_Share_add.fn, W.m_Share_radd.at_, W.m_Share_radd.fn, of_decide_eq_true (W.ex 11 rfl), of_decide_eq_true (W.ex 12 rfl), W.ex 15 rfl, W.ex 16 rfl, PySem.F.fills_int_add, OpX.dec_add⟩
theorem Wd.opSub (W : Wd K mg) : OpAt K (He.ga K "Share") "sub" (aS K "__sub__") (aS K "__rsub__") :=
  ⟨W.ex 10 rfl, W.m_Share_sub.at_, W.m_Share_sub.fn, W.m_Share_rsub.at_, W.m_Share_rsub.fn, of_decide_eq_true (W.ex 11 rfl), of_decide_eq_true (W.ex 12 rfl), W.ex 15 rfl, W.ex 17 rfl, PySem.F.fills_int_sub, OpX.dec_sub⟩
theorem Wd.opMul (W : Wd K mg) : OpAt K (He.ga K "Share") "mul" (aS K "__mul__") (aS K "__rmul__") :=
  ⟨W.ex 10 rfl, W.m_Share_mul.at_, W.m_Share_mul.fn, W.m_Share_rmul.at_, W.m_Share_rmul.fn, of_decide_eq_true (W.ex 11 rfl), of_decide_eq_true (W.ex 12 rfl), W.ex 15 rfl, W.ex 18 rfl, PySem.F.fills_int_mul, OpX.dec_mul⟩
theorem Nu.ins {H : Hp} {v : V} {c d : Int} (h : Nu K H v c d) : (∃ (b dy : Addr) (gs : List (Str × V)), v = .ref b ∧ H b = some (.ins (He.ga K "Share") dy gs)) ∨ ∃ i : Int, v = .int i := by
  rcases h with ⟨y, e, dx, h⟩ | ⟨e, _⟩
  · exact .inl ⟨y, dx, _, e, h⟩
  · exact .inr ⟨c, e⟩
theorem scTwo {sc : Scope} {vs ps : List Str} (h : FnScope vs ps sc) : FnScope vs ps sc := h
theorem scRadd : FnScope ["self", "other"] ["self", "other"] d_Share_radd.scope := ⟨rfl, rfl, rfl, by decide +kernel, rfl, by decide +kernel, by decide +kernel⟩
theorem ok_radd (W : Wd K mg) : ∃ fd, FnOk P w K mg base CX0 5 (aS K "__radd__") fd ["self", "other"] (spBin K fAdd gMul) ∧ Binds K fd ["self", "other"] [] := by
  obtain ⟨fdA, GA, bA⟩ := ok_add (P := P) (w := w) (base := base) W
  obtain ⟨fdN, GN, bN⟩ := ok_isNum (P := P) (w := w) (base := base) W
  have kN : PySem.W.keepIn K (.ref (He.ga K "is_number")) = true := by obtain ⟨fd, F⟩ := W.F_is_number; exact F.kp
  obtain ⟨fd, F⟩ := W.F_Share_radd
  refine ⟨fd, F.ok scRadd (fun vs H Q E h => spBin_len h) (fun cdv A outer s H vs Q E hr h => ?_), FunD.bindsN F fun _ _ _ _ _ _ us hl => match us, hl with | [_, _], _ => rfl⟩
  obtain ⟨x, v, a, b, c, d, rfl, hx, hv, hs, hz, q⟩ := h
  have r2 : Room 2 _ := hr.mono (by decide)
  refine ⟨_, PSs.nox (pss_cons (ps_if (pt_not (pt_val (pe_call GN r2 rfl W.g_is_number kN bN .nil pass0 (pa_cons (pv 1) pa_nil)))) pss_never pss_nil)
    (pss_one (ps_ret (pe_op (op_L W.opAdd (FnOk.raw GA bA .nil) hr pass0) (pv 0) (pv 1))))), ?_⟩
  simp -dsimp [tSeq, tAsg, tRet, tIfS, tIf, tTest, tVar, tCons, tNil, tC, tOp, tUn, rI, rI0, rU, tCB, tLst_A, tTup_A, gName, L2.start, CMul, CPow, CDiv, tDrop, tBM, tBM0, tNext, tPar, gSub, rSetL, rIxL, rIxT, tChain, tB, tNot, tNotV, tAnd, tOr, tAndV, tOrV, tFld, tCall, rIxLH, rIxTH, atI, ixN, upd_same, cxK, ex2, ex3, ex3b, rIs1, rIs2, rNe2, tyN, kb1, kb2, kb3, kb4, kb5, kb6, rEq, rNe, scal, tMake_S, tMakeK_S, tMakeN_S]
  obtain ⟨dx, hd⟩ := id hx
  exact ⟨v, c, d, rfl, hv, .inr ⟨rfl, x, dx, _, rfl, hd, hv.ins, x, v, a, b, c, d, rfl, hx, hv, hs, hz, q⟩⟩
theorem scSub : FnScope ["self", "other"] ["self", "other"] d_Share_sub.scope := ⟨rfl, rfl, rfl, by decide +kernel, rfl, by decide +kernel, by decide +kernel⟩
theorem ok_sub (W : Wd K mg) : ∃ fd, FnOk P w K mg base CX0 4 (aS K "__sub__") fd ["self", "other"] (spBin K fSub gMul) ∧ Binds K fd ["self", "other"] [] := by
  obtain ⟨fdH, GH, FH⟩ := ok_init (P := P) (w := w) (base := base) W
  obtain ⟨fdN, GN, bN⟩ := ok_isNum (P := P) (w := w) (base := base) W
  obtain ⟨fdF, GF, bF⟩ := ok_frac (P := P) (w := w) (base := base) W
  obtain ⟨fdX, GX, bX⟩ := ok_excess (P := P) (w := w) (base := base) W
  have kN : PySem.W.keepIn K (.ref (He.ga K "is_number")) = true := by obtain ⟨fd, F⟩ := W.F_is_number; exact F.kp
  have kF : PySem.W.keepIn K (.ref (He.ga K "fraction")) = true := by obtain ⟨fd, F⟩ := W.F_fraction; exact F.kp
  have kX : PySem.W.keepIn K (.ref (He.ga K "excess")) = true := by obtain ⟨fd, F⟩ := W.F_excess; exact F.kp
  obtain ⟨fd, F⟩ := W.F_Share_sub
  refine ⟨fd, F.ok scSub (fun vs H Q E h => spBin_len h) (fun cdv A outer s H vs Q E hr h => ?_), FunD.bindsN F fun _ _ _ _ _ _ us hl => match us, hl with | [_, _], _ => rfl⟩
  obtain ⟨x, v, a, b, c, d, rfl, hx, hv, hs, hz, q⟩ := h
  have hs' := hs
  obtain ⟨ha, hb, hc, hd⟩ := hs'
  have r1 : Room 1 _ := hr.mono (by decide)
  have r2 : Room 2 _ := hr.mono (by decide)
  refine ⟨_, PSs.nox (pss_cons (ps_if (pt_not (pt_val (pe_call GN r2 rfl W.g_is_number kN bN .nil pass0 (pa_cons (pv 1) pa_nil)))) pss_never pss_nil)
    (pss_one (ps_ret (pe_make W.mkr_Share GH hr rfl W.g_Share (bind3 FH) .nil pass0 (pa_cons (pe_call GX r2 rfl W.g_excess kX bX .nil pass0 (pa_cons (pv 0) (pa_cons (pv 1) pa_nil)))
      (pa_cons (pe_op op_mulX9 (pe_fld (pv 0) rfl) (pe_ix ix_tupH (pe_call GF r1 rfl W.g_fraction kF bF .nil pass0 (pa_cons (pv 1) pa_nil)) pe_int (fun _ _ => rfl))) pa_nil)))))), ?_⟩
  simp -dsimp [tSeq, tAsg, tRet, tIfS, tIf, tTest, tVar, tCons, tNil, tC, tOp, tUn, rI, rI0, rU, tCB, tLst_A, tTup_A, gName, L2.start, CMul, CPow, CDiv, tDrop, tBM, tBM0, tNext, tPar, gSub, rSetL, rIxL, rIxT, tChain, tB, tNot, tNotV, tAnd, tOr, tAndV, tOrV, tFld, tCall, rIxLH, rIxTH, atI, ixN, upd_same, cxK, ex2, ex3, ex3b, rIs1, rIs2, rNe2, tyN, kb1, kb2, kb3, kb4, kb5, kb6, rEq, rNe, scal, tMake_S, tMakeK_S, tMakeN_S]
  refine ⟨v, c, d, rfl, hv, .inr ⟨rfl, x, v, a, b, c, d, rfl, hx, hv, hs, fun H1 s1 => ?_⟩⟩
  obtain ⟨dx, hx1⟩ := hx.same s1
  simp -dsimp [tSeq, tAsg, tRet, tIfS, tIf, tTest, tVar, tCons, tNil, tC, tOp, tUn, rI, rI0, rU, tCB, tLst_A, tTup_A, gName, L2.start, CMul, CPow, CDiv, tDrop, tBM, tBM0, tNext, tPar, gSub, rSetL, rIxL, rIxT, tChain, tB, tNot, tNotV, tAnd, tOr, tAndV, tOrV, tFld, tCall, rIxLH, rIxTH, atI, ixN, upd_same, cxK, ex2, ex3, ex3b, rIs1, rIs2, rNe2, tyN, kb1, kb2, kb3, kb4, kb5, kb6, rEq, rNe, scal, tMake_S, tMakeK_S, tMakeN_S, hx1, shareO, W.cls_Share, W.n_Share_top, W.n_Share_bottom, look_top, look_bot]
  refine ⟨v, c, d, rfl, hv.same s1, fun p H2 np hp s2 => ?_⟩
  simp -dsimp [tSeq, tAsg, tRet, tIfS, tIf, tTest, tVar, tCons, tNil, tC, tOp, tUn, rI, rI0, rU, tCB, tLst_A, tTup_A, gName, L2.start, CMul, CPow, CDiv, tDrop, tBM, tBM0, tNext, tPar, gSub, rSetL, rIxL, rIxT, tChain, tB, tNot, tNotV, tAnd, tOr, tAndV, tOrV, tFld, tCall, rIxLH, rIxTH, atI, ixN, upd_same, cxK, ex2, ex3, ex3b, rIs1, rIs2, rNe2, tyN, kb1, kb2, kb3, kb4, kb5, kb6, rEq, rNe, scal, tMake_S, tMakeK_S, tMakeN_S, hp, h_lt_M hb, h_lt_M hd]
  exact MkS.res (s1.trans s2) rfl hz (gMul9 hs) q
def fRsub (a b c d : Int) : Int := c * b - a * d
def gRev (_a b _c d : Int) : Int := d * b
theorem scRsub : FnScope ["self", "other"] ["self", "other"] d_Share_rsub.scope := ⟨rfl, rfl, rfl, by decide +kernel, rfl, by decide +kernel, by decide +kernel⟩
theorem Res.same {H H' : Hp} {p q : Int} {Q : V → Hp → Prop} (s : Same H H') (h : Res K H p q Q) : Res K H' p q Q := fun z H2 s2 i => h z H2 (s.trans s2) i
theorem ok_rsub (W : Wd K mg) : ∃ fd, FnOk P w K mg base CX0 5 (aS K "__rsub__") fd ["self", "other"] (spBin K fRsub gRev) ∧ Binds K fd ["self", "other"] [] := by
  obtain ⟨fdA, GA, bA⟩ := ok_sub (P := P) (w := w) (base := base) W
  obtain ⟨fdN, GN, bN⟩ := ok_isNum (P := P) (w := w) (base := base) W
  obtain ⟨fdS, GS, bS⟩ := ok_shareOf (P := P) (w := w) (base := base) W
  have kN : PySem.W.keepIn K (.ref (He.ga K "is_number")) = true := by obtain ⟨fd, F⟩ := W.F_is_number; exact F.kp
  have kS : PySem.W.keepIn K (.ref (He.ga K "share_of")) = true := by obtain ⟨fd, F⟩ := W.F_share_of; exact F.kp
  obtain ⟨fd, F⟩ := W.F_Share_rsub
  refine ⟨fd, F.ok scRsub (fun vs H Q E h => spBin_len h) (fun cdv A outer s H vs Q E hr h => ?_), FunD.bindsN F fun _ _ _ _ _ _ us hl => match us, hl with | [_, _], _ => rfl⟩
  obtain ⟨x, v, a, b, c, d, rfl, hx, hv, hs, hz, q⟩ := h
  obtain ⟨ha, hb, hc, hd⟩ := hs
  have r2 : Room 2 _ := hr.mono (by decide)
  refine ⟨_, PSs.nox (pss_cons (ps_if (pt_not (pt_val (pe_call GN r2 rfl W.g_is_number kN bN .nil pass0 (pa_cons (pv 1) pa_nil)))) pss_never pss_nil)
    (pss_one (ps_ret (pe_op (op_L W.opSub (FnOk.raw GA bA .nil) hr pass0) (pe_call GS hr rfl W.g_share_of kS bS .nil pass0 (pa_cons (pv 1) pa_nil)) (pv 0))))), ?_⟩
  simp -dsimp [tSeq, tAsg, tRet, tIfS, tIf, tTest, tVar, tCons, tNil, tC, tOp, tUn, rI, rI0, rU, tCB, tLst_A, tTup_A, gName, L2.start, CMul, CPow, CDiv, tDrop, tBM, tBM0, tNext, tPar, gSub, rSetL, rIxL, rIxT, tChain, tB, tNot, tNotV, tAnd, tOr, tAndV, tOrV, tFld, tCall, rIxLH, rIxTH, atI, ixN, upd_same, cxK, ex2, ex3, ex3b, rIs1, rIs2, rNe2, tyN, kb1, kb2, kb3, kb4, kb5, kb6, rEq, rNe, scal, tMake_S, tMakeK_S, tMakeN_S]
  refine ⟨v, c, d, rfl, hv, .inr ⟨rfl, v, c, d, rfl, hv, fun z H1 s1 hz1 => ?_⟩⟩
  have hx1 := hx.same s1
  obtain ⟨dz, hzd⟩ := id hz1
  simp -dsimp [tSeq, tAsg, tRet, tIfS, tIf, tTest, tVar, tCons, tNil, tC, tOp, tUn, rI, rI0, rU, tCB, tLst_A, tTup_A, gName, L2.start, CMul, CPow, CDiv, tDrop, tBM, tBM0, tNext, tPar, gSub, rSetL, rIxL, rIxT, tChain, tB, tNot, tNotV, tAnd, tOr, tAndV, tOrV, tFld, tCall, rIxLH, rIxTH, atI, ixN, upd_same, cxK, ex2, ex3, ex3b, rIs1, rIs2, rNe2, tyN, kb1, kb2, kb3, kb4, kb5, kb6, rEq, rNe, scal, tMake_S, tMakeK_S, tMakeN_S]
  exact ⟨z, dz, _, rfl, hzd, (Nu.ins (.inl ⟨x, rfl, hx1⟩)), z, .ref x, c, d, a, b, rfl, hz1, .inl ⟨x, rfl, hx1⟩, ⟨hc, hd, ha, hb⟩, hz, q.same s1⟩
theorem scMul : FnScope ["self", "other", "top", "bottom"] ["self", "other"] d_Share_mul.scope := ⟨rfl, rfl, rfl, by decide +kernel, rfl, by decide +kernel, by decide +kernel⟩
theorem ok_mul (W : Wd K mg) : ∃ fd, FnOk P w K mg base CX0 4 (aS K "__mul__") fd ["self", "other"] (spBin K fMul gMul) ∧ Binds K fd ["self", "other"] [] := by
  obtain ⟨fdH, GH, FH⟩ := ok_init (P := P) (w := w) (base := base) W
  obtain ⟨fdN, GN, bN⟩ := ok_isNum (P := P) (w := w) (base := base) W
  obtain ⟨fdF, GF, bF⟩ := ok_frac (P := P) (w := w) (base := base) W
  have kN : PySem.W.keepIn K (.ref (He.ga K "is_number")) = true := by obtain ⟨fd, F⟩ := W.F_is_number; exact F.kp
  have kF : PySem.W.keepIn K (.ref (He.ga K "fraction")) = true := by obtain ⟨fd, F⟩ := W.F_fraction; exact F.kp
  obtain ⟨fd, F⟩ := W.F_Share_mul
  refine ⟨fd, F.ok scMul (fun vs H Q E h => spBin_len h) (fun cdv A outer s H vs Q E hr h => ?_), FunD.bindsN F fun _ _ _ _ _ _ us hl => match us, hl with | [_, _], _ => rfl⟩
  obtain ⟨x, v, a, b, c, d, rfl, hx, hv, hs, hz, q⟩ := h
  have hs' := hs
  obtain ⟨ha, hb, hc, hd⟩ := hs'
  have r1 : Room 1 _ := hr.mono (by decide)
  have r2 : Room 2 _ := hr.mono (by decide)
  refine ⟨_, PSs.nox (pss_cons (ps_if (pt_not (pt_val (pe_call GN r2 rfl W.g_is_number kN bN .nil pass0 (pa_cons (pv 1) pa_nil)))) pss_never pss_nil)
    (pss_cons (ps_asg (pe_call GF r1 rfl W.g_fraction kF bF .nil pass0 (pa_cons (pv 1) pa_nil)) (pg_tup rfl (pgs_cons (pg_name (i := 2) scMul.nd rfl (Or.inl rfl)) (pgs_cons (pg_name (i := 3) scMul.nd rfl (Or.inl rfl)) pgs_nil))))
    (pss_one (ps_ret (pe_make W.mkr_Share GH hr rfl W.g_Share (bind3 FH) .nil pass0 (pa_cons (pe_op op_mulX9 (pe_fld (pv 0) rfl) (pv 2)) (pa_cons (pe_op op_mulX9 (pe_fld (pv 0) rfl) (pv 3)) pa_nil))))))), ?_⟩
  simp -dsimp [tSeq, tAsg, tRet, tIfS, tIf, tTest, tVar, tCons, tNil, tC, tOp, tUn, rI, rI0, rU, tCB, tLst_A, tTup_A, gName, L2.start, CMul, CPow, CDiv, tDrop, tBM, tBM0, tNext, tPar, gSub, rSetL, rIxL, rIxT, tChain, tB, tNot, tNotV, tAnd, tOr, tAndV, tOrV, tFld, tCall, rIxLH, rIxTH, atI, ixN, upd_same, cxK, ex2, ex3, ex3b, rIs1, rIs2, rNe2, tyN, kb1, kb2, kb3, kb4, kb5, kb6, rEq, rNe, scal, tMake_S, tMakeK_S, tMakeN_S]
  refine ⟨v, c, d, rfl, hv, .inr ⟨rfl, v, c, d, rfl, hv, fun p H1 np hp s1 => tup2 hp ?_⟩⟩
  obtain ⟨dx, hx1⟩ := hx.same s1
  simp -dsimp [tSeq, tAsg, tRet, tIfS, tIf, tTest, tVar, tCons, tNil, tC, tOp, tUn, rI, rI0, rU, tCB, tLst_A, tTup_A, gName, L2.start, CMul, CPow, CDiv, tDrop, tBM, tBM0, tNext, tPar, gSub, rSetL, rIxL, rIxT, tChain, tB, tNot, tNotV, tAnd, tOr, tAndV, tOrV, tFld, tCall, rIxLH, rIxTH, atI, ixN, upd_same, cxK, ex2, ex3, ex3b, rIs1, rIs2, rNe2, tyN, kb1, kb2, kb3, kb4, kb5, kb6, rEq, rNe, scal, tMake_S, tMakeK_S, tMakeN_S, hx1, shareO, W.cls_Share, W.n_Share_top, W.n_Share_bottom, look_top, look_bot, h_lt_M ha, h_lt_M hb, h_lt_M hc, h_lt_M hd]
  exact MkS.res s1 rfl hz (gMul9 hs) q
theorem scRmul : FnScope ["self", "other"] ["self", "other"] d_Share_rmul.scope := ⟨rfl, rfl, rfl, by decide +kernel, rfl, by decide +kernel, by decide +kernel⟩
theorem ok_rmul (W : Wd K mg) : ∃ fd, FnOk P w K mg base CX0 5 (aS K "__rmul__") fd ["self", "other"] (spBin K fMul gMul) ∧ Binds K fd ["self", "other"] [] := by
  obtain ⟨fdA, GA, bA⟩ := ok_mul (P := P) (w := w) (base := base) W
  obtain ⟨fdN, GN, bN⟩ := ok_isNum (P := P) (w := w) (base := base) W
  have kN : PySem.W.keepIn K (.ref (He.ga K "is_number")) = true := by obtain ⟨fd, F⟩ := W.F_is_number; exact F.kp
  obtain ⟨fd, F⟩ := W.F_Share_rmul
  refine ⟨fd, F.ok scRmul (fun vs H Q E h => spBin_len h) (fun cdv A outer s H vs Q E hr h => ?_), FunD.bindsN F fun _ _ _ _ _ _ us hl => match us, hl with | [_, _], _ => rfl⟩
  obtain ⟨x, v, a, b, c, d, rfl, hx, hv, hs, hz, q⟩ := h
  have r2 : Room 2 _ := hr.mono (by decide)
  refine ⟨_, PSs.nox (pss_cons (ps_if (pt_not (pt_val (pe_call GN r2 rfl W.g_is_number kN bN .nil pass0 (pa_cons (pv 1) pa_nil)))) pss_never pss_nil)
    (pss_one (ps_ret (pe_op (op_L W.opMul (FnOk.raw GA bA .nil) hr pass0) (pv 0) (pv 1))))), ?_⟩
  simp -dsimp [tSeq, tAsg, tRet, tIfS, tIf, tTest, tVar, tCons, tNil, tC, tOp, tUn, rI, rI0, rU, tCB, tLst_A, tTup_A, gName, L2.start, CMul, CPow, CDiv, tDrop, tBM, tBM0, tNext, tPar, gSub, rSetL, rIxL, rIxT, tChain, tB, tNot, tNotV, tAnd, tOr, tAndV, tOrV, tFld, tCall, rIxLH, rIxTH, atI, ixN, upd_same, cxK, ex2, ex3, ex3b, rIs1, rIs2, rNe2, tyN, kb1, kb2, kb3, kb4, kb5, kb6, rEq, rNe, scal, tMake_S, tMakeK_S, tMakeN_S]
  obtain ⟨dx, hd⟩ := id hx
  exact ⟨v, c, d, rfl, hv, .inr ⟨rfl, x, dx, _, rfl, hd, hv.ins, x, v, a, b, c, d, rfl, hx, hv, hs, hz, q⟩⟩
end
section
variable {P : Program} {w : World} {K : PySem.W.Frag} {mg : Str → Option Value} {base : Heap}
theorem scNeg : FnScope ["self"] ["self"] d_Share_neg.scope := ⟨rfl, rfl, rfl, by decide +kernel, rfl, by decide +kernel, by decide +kernel⟩
/-- what -x and abs(x) promise -/
def spUn (K : PySem.W.Frag) (f : Int → Int) : Sp := fun vs H Q _ => ∃ (x : Addr) (a b : Int), vs = [.ref x] ∧ IsSh K H x a b ∧ b ≠ 0 ∧ b.natAbs < big9 ∧ Res K H (f a) b Q
def fNeg (a : Int) : Int := -a
def fAbs (a : Int) : Int := if a < 0 then -a else a
theorem ok_neg (W : Wd K mg) : ∃ fd, FnOk P w K mg base CX0 4 (aS K "__neg__") fd ["self"] (spUn K fNeg) ∧ Binds K fd ["self"] [] := by
  obtain ⟨fdH, GH, FH⟩ := ok_init (P := P) (w := w) (base := base) W
  obtain ⟨fd, F⟩ := W.F_Share_neg
  refine ⟨fd, F.ok scNeg (fun vs H Q E h => ?_) (fun cdv A outer s H vs Q E hr h => ?_), FunD.bindsN F fun _ _ _ _ _ _ us hl => match us, hl with | [_], _ => rfl⟩
  · obtain ⟨x, a, b, rfl, _⟩ := h
    rfl
  · obtain ⟨x, a, b, rfl, hx, hb, hbb, q⟩ := h
    refine ⟨_, PSs.nox (pss_one (ps_ret (pe_make W.mkr_Share GH hr rfl W.g_Share (bind3 FH) .nil pass0 (pa_cons (pe_un un_neg (pe_fld (pv 0) rfl)) (pa_cons (pe_fld (pv 0) rfl) pa_nil))))), ?_⟩
    obtain ⟨dx, hd⟩ := id hx
    simp -dsimp [tSeq, tAsg, tRet, tIfS, tIf, tTest, tVar, tCons, tNil, tC, tOp, tUn, rI, rI0, rU, tCB, tLst_A, tTup_A, gName, L2.start, CMul, CPow, CDiv, tDrop, tBM, tBM0, tNext, tPar, gSub, rSetL, rIxL, rIxT, tChain, tB, tNot, tNotV, tAnd, tOr, tAndV, tOrV, tFld, tCall, rIxLH, rIxTH, atI, ixN, upd_same, cxK, ex2, ex3, ex3b, rIs1, rIs2, rNe2, tyN, kb1, kb2, kb3, kb4, kb5, kb6, rEq, rNe, scal, tMake_S, tMakeK_S, tMakeN_S, hd, shareO, W.cls_Share, W.n_Share_top, W.n_Share_bottom, look_top, look_bot]
    exact MkS.res (Same.refl _) rfl hb hbb q
theorem scAbs : FnScope ["self"] ["self"] d_Share_abs.scope := ⟨rfl, rfl, rfl, by decide +kernel, rfl, by decide +kernel, by decide +kernel⟩
theorem ok_abs (W : Wd K mg) : ∃ fd, FnOk P w K mg base CX0 4 (aS K "__abs__") fd ["self"] (spUn K fAbs) ∧ Binds K fd ["self"] [] := by
  obtain ⟨fdH, GH, FH⟩ := ok_init (P := P) (w := w) (base := base) W
  obtain ⟨fd, F⟩ := W.F_Share_abs
  refine ⟨fd, F.ok scAbs (fun vs H Q E h => ?_) (fun cdv A outer s H vs Q E hr h => ?_), FunD.bindsN F fun _ _ _ _ _ _ us hl => match us, hl with | [_], _ => rfl⟩
  · obtain ⟨x, a, b, rfl, _⟩ := h
    rfl
  · obtain ⟨x, a, b, rfl, hx, hb, hbb, q⟩ := h
    refine ⟨_, PSs.nox (pss_one (ps_ret (pe_make W.mkr_Share GH hr rfl W.g_Share (bind3 FH) .nil pass0 (pa_cons (pe_callB call_abs (by rfl) W.f_abs (by decide +kernel) (pa_cons (pe_fld (pv 0) rfl) pa_nil)) (pa_cons (pe_fld (pv 0) rfl) pa_nil))))), ?_⟩
    obtain ⟨dx, hd⟩ := id hx
    simp -dsimp [tSeq, tAsg, tRet, tIfS, tIf, tTest, tVar, tCons, tNil, tC, tOp, tUn, rI, rI0, rU, tCB, tLst_A, tTup_A, gName, L2.start, CMul, CPow, CDiv, tDrop, tBM, tBM0, tNext, tPar, gSub, rSetL, rIxL, rIxT, tChain, tB, tNot, tNotV, tAnd, tOr, tAndV, tOrV, tFld, tCall, rIxLH, rIxTH, atI, ixN, upd_same, cxK, ex2, ex3, ex3b, rIs1, rIs2, rNe2, tyN, kb1, kb2, kb3, kb4, kb5, kb6, rEq, rNe, scal, tMake_S, tMakeK_S, tMakeN_S, hd, shareO, W.cls_Share, W.n_Share_top, W.n_Share_bottom, look_top, look_bot]
    exact MkS.res (Same.refl _) rfl hb hbb q
def gDiv (_a b c _d : Int) : Int := b * c
def fDiv (a _b _c d : Int) : Int := a * d
theorem gDiv9 {a b c d : Int} (h : Sm a b c d) : (b * c).natAbs < big9 := by
  have := mul_h h.2.1 h.2.2.1
  omega
theorem scOver : FnScope ["self", "number", "top", "bottom"] ["self", "number"] d_Share_over.scope := ⟨rfl, rfl, rfl, by decide +kernel, rfl, by decide +kernel, by decide +kernel⟩
theorem ok_over (W : Wd K mg) : ∃ fd, FnOk P w K mg base CX0 4 (aS K "over") fd ["self", "number"] (spBin K fDiv gDiv) ∧ Binds K fd ["self", "number"] [] := by
  obtain ⟨fdH, GH, FH⟩ := ok_init (P := P) (w := w) (base := base) W
  obtain ⟨fdF, GF, bF⟩ := ok_frac (P := P) (w := w) (base := base) W
  have kF : PySem.W.keepIn K (.ref (He.ga K "fraction")) = true := by obtain ⟨fd, F⟩ := W.F_fraction; exact F.kp
  obtain ⟨fd, F⟩ := W.F_Share_over
  refine ⟨fd, F.ok scOver (fun vs H Q E h => spBin_len h) (fun cdv A outer s H vs Q E hr h => ?_), FunD.bindsN F fun _ _ _ _ _ _ us hl => match us, hl with | [_, _], _ => rfl⟩
  obtain ⟨x, v, a, b, c, d, rfl, hx, hv, hs, hz, q⟩ := h
  have hs' := hs
  obtain ⟨ha, hb, hc, hd⟩ := hs'
  have hc0 : ¬ c = 0 := fun e => hz (by unfold gDiv; rw [e, Int.mul_zero])
  have r1 : Room 1 _ := hr.mono (by decide)
  refine ⟨_, PSs.nox (pss_cons (ps_asg (pe_call GF r1 rfl W.g_fraction kF bF .nil pass0 (pa_cons (pv 1) pa_nil)) (pg_tup rfl (pgs_cons (pg_name (i := 2) scOver.nd rfl (Or.inl rfl)) (pgs_cons (pg_name (i := 3) scOver.nd rfl (Or.inl rfl)) pgs_nil))))
    (pss_cons (ps_if (pt_cmpR op_eq (pv 2) pe_int (nomark _)) pss_never pss_nil)
    (pss_one (ps_ret (pe_make W.mkr_Share GH hr rfl W.g_Share (bind3 FH) .nil pass0 (pa_cons (pe_op op_mulX9 (pe_fld (pv 0) rfl) (pv 3)) (pa_cons (pe_op op_mulX9 (pe_fld (pv 0) rfl) (pv 2)) pa_nil))))))), ?_⟩
  simp -dsimp [tSeq, tAsg, tRet, tIfS, tIf, tTest, tVar, tCons, tNil, tC, tOp, tUn, rI, rI0, rU, tCB, tLst_A, tTup_A, gName, L2.start, CMul, CPow, CDiv, tDrop, tBM, tBM0, tNext, tPar, gSub, rSetL, rIxL, rIxT, tChain, tB, tNot, tNotV, tAnd, tOr, tAndV, tOrV, tFld, tCall, rIxLH, rIxTH, atI, ixN, upd_same, cxK, ex2, ex3, ex3b, rIs1, rIs2, rNe2, tyN, kb1, kb2, kb3, kb4, kb5, kb6, rEq, rNe, scal, tMake_S, tMakeK_S, tMakeN_S]
  refine ⟨v, c, d, rfl, hv, fun p H1 np hp s1 => tup2 hp ?_⟩
  obtain ⟨dx, hx1⟩ := hx.same s1
  simp -dsimp [tSeq, tAsg, tRet, tIfS, tIf, tTest, tVar, tCons, tNil, tC, tOp, tUn, rI, rI0, rU, tCB, tLst_A, tTup_A, gName, L2.start, CMul, CPow, CDiv, tDrop, tBM, tBM0, tNext, tPar, gSub, rSetL, rIxL, rIxT, tChain, tB, tNot, tNotV, tAnd, tOr, tAndV, tOrV, tFld, tCall, rIxLH, rIxTH, atI, ixN, upd_same, cxK, ex2, ex3, ex3b, rIs1, rIs2, rNe2, tyN, kb1, kb2, kb3, kb4, kb5, kb6, rEq, rNe, scal, tMake_S, tMakeK_S, tMakeN_S, hc0, hx1, shareO, W.cls_Share, W.n_Share_top, W.n_Share_bottom, look_top, look_bot, h_lt_M ha, h_lt_M hb, h_lt_M hc, h_lt_M hd]
  exact MkS.res s1 rfl hz (gDiv9 hs) q
def spOverX (K : PySem.W.Frag) : Sp := fun vs H _ E => ∃ (x : Addr) (v : V) (a b d : Int), vs = [.ref x, v] ∧ IsSh K H x a b ∧ Nu K H v 0 d ∧ ∀ e H' , Same H H' → H' e = none → E (.ref (He.ga K "NoShare")) (some e) (upd H' e (.xd [("top", .int a)]))
theorem ok_overX (W : Wd K mg) (hP : SupX.PrgOk P) : ∃ fd, FnOk P w K mg base (L2.CX P w) 3 (aS K "over") fd ["self", "number"] (spOverX K) ∧ Binds K fd ["self", "number"] [] := by
  obtain ⟨fdN, GN, bN⟩ := ok_noshare (P := P) (w := w) (base := base) W hP
  have f8 := He.ba (W.ex 8 rfl)
  obtain ⟨fdF, GF, bF⟩ := ok_frac (P := P) (w := w) (base := base) W
  have kF : PySem.W.keepIn K (.ref (He.ga K "fraction")) = true := by obtain ⟨fd, F⟩ := W.F_fraction; exact F.kp
  obtain ⟨fd, F⟩ := W.F_Share_over
  refine ⟨fd, F.ok scOver (fun vs H Q E h => ?_) (fun cdv A outer s H vs Q E hr h => ?_), FunD.bindsN F fun _ _ _ _ _ _ us hl => match us, hl with | [_, _], _ => rfl⟩
  · obtain ⟨x, v, a, b, d, rfl, _⟩ := h
    rfl
  · obtain ⟨x, v, a, b, d, rfl, hx, hv, q⟩ := h
    have r1 : Room 1 _ := hr.mono (by decide)
    refine ⟨_, pss_cons (ps_asg (pe_call GF r1 rfl W.g_fraction kF bF .nil pass0 (pa_cons (pv 1) pa_nil)) (pg_tup rfl (pgs_cons (pg_name (i := 2) scOver.nd rfl (Or.inl rfl)) (pgs_cons (pg_name (i := 3) scOver.nd rfl (Or.inl rfl)) pgs_nil))))
      (pss_cons (ps_if (pt_cmpR op_eq (pv 2) pe_int (nomark _)) (pss_one (ps_raise rfl (takes_of rfl rfl rfl rfl) (pmk_oex (SupX.oexB_ok (W.ex 5 rfl)) (He.eqO_ok f8.1) (of_decide_eq_true f8.2) GN hr bN .nil pass0 rfl W.g_NoShare (pa_cons (pe_fld (pv 0) rfl) pa_nil)))) pss_nil) pss_never), ?_⟩
    simp -dsimp [tSeq, tAsg, tRet, tIfS, tIf, tTest, tVar, tCons, tNil, tC, tOp, tUn, rI, rI0, rU, tCB, tLst_A, tTup_A, gName, L2.start, CMul, CPow, CDiv, tDrop, tBM, tBM0, tNext, tPar, gSub, rSetL, rIxL, rIxT, tChain, tB, tNot, tNotV, tAnd, tOr, tAndV, tOrV, tFld, tCall, rIxLH, rIxTH, atI, ixN, upd_same, cxK, ex2, ex3, ex3b, rIs1, rIs2, rNe2, tyN, kb1, kb2, kb3, kb4, kb5, kb6, rEq, rNe, scal, tMake_S, tMakeK_S, tMakeN_S]
    refine ⟨v, 0, d, rfl, hv, fun p H1 np hp s1 => tup2 hp ?_⟩
    obtain ⟨dx, hx1⟩ := hx.same s1
    simp -dsimp [tSeq, tAsg, tRet, tIfS, tIf, tTest, tVar, tCons, tNil, tC, tOp, tUn, rI, rI0, rU, tCB, tLst_A, tTup_A, gName, L2.start, CMul, CPow, CDiv, tDrop, tBM, tBM0, tNext, tPar, gSub, rSetL, rIxL, rIxT, tChain, tB, tNot, tNotV, tAnd, tOr, tAndV, tOrV, tFld, tCall, rIxLH, rIxTH, atI, ixN, upd_same, cxK, ex2, ex3, ex3b, rIs1, rIs2, rNe2, tyN, kb1, kb2, kb3, kb4, kb5, kb6, rEq, rNe, scal, tMake_S, tMakeK_S, tMakeN_S, tMkO, hx1, shareO, W.cls_Share, W.n_Share_top, W.n_Share_bottom, look_top, look_bot]
    intro a1 n1
    refine ⟨a1, .int a, rfl, upd_same, fun dx nd ne => ?_⟩
    have nd' : H1 dx = none := by
      rw [upd_ne ne] at nd
      exact nd
    refine ⟨rfl, dx, upd_same, [("top", .int a)], by rw [upd_ne ne, upd_same], nd', ?_⟩
    have e : upd (del (upd (upd (upd H1 a1 (exo a1 (He.ga K "NoShare") none)) dx (exd dx [("top", V.int a)])) a1 (exo a1 (He.ga K "NoShare") (some dx))) a1) dx (.xd [("top", V.int a)]) = upd H1 dx (.xd [("top", V.int a)]) := by
      funext b
      by_cases hb : b = dx
      · subst hb
        rw [upd_same, upd_same]
      · rw [upd_ne hb, upd_ne hb]
        by_cases hc : b = a1
        · subst hc
          rw [del_same, n1]
        · rw [del_ne hc, upd_ne hc, upd_ne hb, upd_ne hc]
    rw [e]
    exact q dx H1 s1 nd'
end
/-! ### lowest terms -/
def Low (c d : Int) : Prop := 0 < d ∧ Int.gcd c d = 1
theorem side_low {c d : Int} (h : Low c d) : side c d = 1 := by
  unfold side
  rw [if_pos h.1, h.2]
  rfl
theorem lo_low {c d : Int} (h : Low c d) : c.fdiv (side c d) = c ∧ d.fdiv (side c d) = d := by
  rw [side_low h, Int.fdiv_one, Int.fdiv_one]
  exact ⟨rfl, rfl⟩
theorem lo_cross {x y : Int} (hy : y ≠ 0) : x.fdiv (side x y) * y = x * y.fdiv (side x y) := by
  obtain ⟨⟨k, hk⟩, ⟨m, hm⟩, h3⟩ := side_facts x y hy
  have e1 : x.fdiv (side x y) = k := by
    rw [Int.fdiv_eq_ediv_of_dvd ⟨k, hk⟩]
    exact Int.ediv_eq_of_eq_mul_right h3 hk
  have e2 : y.fdiv (side x y) = m := by
    rw [Int.fdiv_eq_ediv_of_dvd ⟨m, hm⟩]
    exact Int.ediv_eq_of_eq_mul_right h3 hm
  rw [e1, e2]
  calc k * y = k * (side x y * m) := by rw [← hm]
    _ = side x y * k * m := by rw [Int.mul_comm (side x y) k, Int.mul_assoc]
    _ = x * m := by rw [← hk]
theorem low_lo {x y : Int} (hy : y ≠ 0) : Low (x.fdiv (side x y)) (y.fdiv (side x y)) := by
  have hg : 0 < Int.gcd x y := Int.gcd_pos_of_ne_zero_right x hy
  have d1 := Int.gcd_dvd_left x y
  have d2 := Int.gcd_dvd_right x y
  have h3 : ((Int.gcd x y : Nat) : Int) ≠ 0 := by omega
  have key : Int.gcd (x / (Int.gcd x y : Int)) (y / (Int.gcd x y : Int)) = 1 := by
    rw [Int.gcd_ediv d1 d2]
    rw [Int.natAbs_natCast]
    exact Nat.div_self hg
  by_cases hp : y > 0
  · have e : side x y = (Int.gcd x y : Int) := if_pos hp
    rw [e, Int.fdiv_eq_ediv_of_dvd d1, Int.fdiv_eq_ediv_of_dvd d2]
    exact ⟨Int.ediv_pos_of_pos_of_dvd hp (by omega) d2, key⟩
  · have e : side x y = -(Int.gcd x y : Int) := if_neg hp
    have n1 : -((Int.gcd x y : Nat) : Int) ∣ x := Int.neg_dvd.mpr d1
    have n2 : -((Int.gcd x y : Nat) : Int) ∣ y := Int.neg_dvd.mpr d2
    rw [e, Int.fdiv_eq_ediv_of_dvd n1, Int.fdiv_eq_ediv_of_dvd n2, Int.ediv_neg, Int.ediv_neg]
    refine ⟨?_, by rw [Int.neg_gcd, Int.gcd_neg]; exact key⟩
    have : 0 < (-y) / (Int.gcd x y : Int) := Int.ediv_pos_of_pos_of_dvd (by omega) (by omega) (Int.dvd_neg.mpr d2)
    rw [Int.neg_ediv_of_dvd d2] at this
    exact this
/-- two pairs in lowest terms with one worth are one pair -/
theorem low_eq {a b c d : Int} (h1 : Low a b) (h2 : Low c d) (h : a * d = c * b) : a = c ∧ b = d := by
  have db : b ∣ d := by
    have z : b ∣ a * d := ⟨c, by rw [h, Int.mul_comm]⟩
    have g := Int.dvd_gcd_mul_iff_dvd_mul.mpr z
    rw [Int.gcd_comm, h1.2] at g
    simpa using g
  have dd : d ∣ b := by
    have z : d ∣ c * b := ⟨a, by rw [← h, Int.mul_comm]⟩
    have g := Int.dvd_gcd_mul_iff_dvd_mul.mpr z
    rw [Int.gcd_comm, h2.2] at g
    simpa using g
  have e : b = d := Int.dvd_antisymm (Int.le_of_lt h1.1) (Int.le_of_lt h2.1) db dd
  subst e
  exact ⟨Int.eq_of_mul_eq_mul_right (Int.ne_of_gt h1.1) h, rfl⟩
/-- lowest terms of x over y are c over d, where these are -/
theorem lo_eq {x y c d : Int} (hy : y ≠ 0) (h : Low c d) (e : x * d = c * y) : x.fdiv (side x y) = c ∧ y.fdiv (side x y) = d := by
  have l := low_lo (x := x) hy
  have cr := lo_cross (x := x) hy
  refine low_eq l h (Int.eq_of_mul_eq_mul_right hy ?_)
  calc x.fdiv (side x y) * d * y = x.fdiv (side x y) * y * d := by rw [Int.mul_right_comm]
    _ = x * y.fdiv (side x y) * d := by rw [cr]
    _ = x * d * y.fdiv (side x y) := by rw [Int.mul_right_comm]
    _ = c * y * y.fdiv (side x y) := by rw [e]
    _ = c * y.fdiv (side x y) * y := by rw [Int.mul_right_comm]
/-! ### o.m(e, ..) where what is raised is wished for at the caller's slots -/
def tMethX (C : Addr) (m : Str) (sp : Sp) (E : List (Option V) → XK) (ta : TE) (t : TA) : TE := fun σ H Q => ta σ H fun x H1 => ∃ (a dx : Addr) (fs : List (Str × V)), x = .ref a ∧ H1 a = some (.ins C dx fs) ∧ fs.lookup m = none ∧ t σ H1 fun vs H2 => sp (x :: vs) H2 Q (E σ)
section
variable {X : Cx} {CX : CXT} {k : Nat} {f C : Addr} {fd : FuncData} {ps : List Str} {sp : Sp} {E : List (Option V) → XK} {m : Str} {pos apos : Pos} {o e : Expr} {es : List Expr} {ta : TE} {t : TA} {pl : Sem Bool}
theorem pe_methX (he : PE X o ta) (c : Cls X.K C) (hm : Meth X.K C m f) (F : FnOk X.prog X.w X.K X.mg X.base CX k f fd ps sp) (hr : Room k X.A) (hb : Binds X.K fd ps []) (hx : ∀ σ, PassesAt CX X σ (E σ)) (ha : PA X (e :: es) t)
    (hst : starEach (e :: es) X.env = (false, eval e X.env) :: starEach es X.env := by rfl) (hpl : (backTo pos (starEach es X.env)).any (·.1) = false := by rfl)
    (ht : eval (.Call (.Attribute o m apos) (e :: es) [] pos) X.env = (eval o X.env >>= fun ov => standAt apos.atName >>= fun _ => holding [ov] (getMethod ov m pl) >>= fun p => callWith pos p.1 p.2 (backTo pos (starEach (e :: es) X.env)) (backToKw pos (keywordEach [] X.env))) := by rfl) :
    PE X (.Call (.Attribute o m apos) (e :: es) [] pos) (tMethX C m sp E ta t) := by
  refine ⟨fun pins s σ H Q I h => ?_⟩
  refine PySem.W.methodCall_KW (pl := pl) (thn (he.run pins s σ H _ I h) fun u s1 hz => ?_) ht
  obtain ⟨x, H1, I1, rx, a, dx, fs, ex, ea, l, q⟩ := hz
  subst ex
  obtain rfl : u = Value.ref a := rx
  refine getmeth_ok I1 ea c hm l (PySem.W.callWith_K (first := [.ref a]) (h₀ := X.base) I.ok.mod.kin hm.kp (thn (ha.run pos pins s1 σ H1 _ I1 q) fun us s2 hz2 => ?_) hst hpl)
  obtain ⟨vs, H2, I2, r, q2⟩ := hz2
  exact ⟨I2.kIn, run_fnS (us := .ref a :: us) (vs := .ref a :: vs) F hr hb (hx σ) I2 (.cons rfl r) q2⟩
end
section
variable {P : Program} {w : World} {K : PySem.W.Frag} {mg : Str → Option Value} {base : Heap}
/-- what follows for a new pair in lowest terms -/
def TRes (H : Hp) (p q : Int) (Q : V → Hp → Prop) (_ : Lk Q := ⟨⟩) : Prop := ∀ t H', Same H H' → H' t = some (.tup [.int (p.fdiv (side p q)), .int (q.fdiv (side p q))]) → Q (.ref t) H'
def spPair (f g : Int → Int → Int → Int → Int) : Sp := fun vs H Q _ => ∃ (o t : Addr) (a b c d : Int), vs = [.ref o, .ref t] ∧ H o = some (.tup [.int a, .int b]) ∧ H t = some (.tup [.int c, .int d]) ∧ Sm a b c d ∧ g a b c d ≠ 0 ∧ TRes H (f a b c d) (g a b c d) Q
theorem spPair_len {f g : Int → Int → Int → Int → Int} {vs : List V} {H : Hp} {Q : VK} {E : XK} (h : spPair f g vs H Q E) : vs.length = 2 := by
  obtain ⟨o, t, a, b, c, d, rfl, _⟩ := h
  rfl
theorem scLsum : FnScope ["_law_one", "_law_two"] ["_law_one", "_law_two"] d_sum.scope := ⟨rfl, rfl, rfl, by decide +kernel, rfl, by decide +kernel, by decide +kernel⟩
theorem ok_sum (W : Wd K mg) : ∃ fd, FnOk P w K mg base CX0 2 (He.ga K "_law_sum") fd ["_law_one", "_law_two"] (spPair fAdd gMul) ∧ Binds K fd ["_law_one", "_law_two"] [] := by
  obtain ⟨fdL, GL, bL⟩ := ok_lowest (P := P) (w := w) (base := base) W
  have kL : PySem.W.keepIn K (.ref (He.ga K "_law_lowest")) = true := by obtain ⟨fd, F⟩ := W.F_lowest; exact F.kp
  obtain ⟨fd, F⟩ := W.F_sum
  refine ⟨fd, F.ok scLsum (fun vs H Q E h => spPair_len h) (fun cdv A outer s H vs Q E hr h => ?_), FunD.bindsN F fun _ _ _ _ _ _ us hl => match us, hl with | [_, _], _ => rfl⟩
  obtain ⟨o, t, a, b, c, d, rfl, ho, ht, hs, hz, q⟩ := h
  have hs' := hs
  obtain ⟨ha, hb, hc, hd⟩ := hs'
  refine ⟨_, PSs.nox (pss_one (ps_ret (pe_call GL hr rfl W.g_law_lowest kL bL .nil pass0 (pa_cons
    (pe_op op_add (pe_op op_mulX9 (pe_ix ix_tupH (pv 0) pe_int (fun _ _ => rfl)) (pe_ix ix_tupH (pv 1) pe_int (fun _ _ => rfl))) (pe_op op_mulX9 (pe_ix ix_tupH (pv 1) pe_int (fun _ _ => rfl)) (pe_ix ix_tupH (pv 0) pe_int (fun _ _ => rfl))))
    (pa_cons (pe_op op_mulX9 (pe_ix ix_tupH (pv 0) pe_int (fun _ _ => rfl)) (pe_ix ix_tupH (pv 1) pe_int (fun _ _ => rfl))) pa_nil))))), ?_⟩
  simp -dsimp [tSeq, tAsg, tRet, tIfS, tIf, tTest, tVar, tCons, tNil, tC, tOp, tUn, rI, rI0, rU, tCB, tLst_A, tTup_A, gName, L2.start, CMul, CPow, CDiv, tDrop, tBM, tBM0, tNext, tPar, gSub, rSetL, rIxL, rIxT, tChain, tB, tNot, tNotV, tAnd, tOr, tAndV, tOrV, tFld, tCall, rIxLH, rIxTH, atI, ixN, upd_same, cxK, ex2, ex3, ex3b, rIs1, rIs2, rNe2, tyN, kb1, kb2, kb3, kb4, kb5, kb6, rEq, rNe, scal, tMake_S, tMakeK_S, tMakeN_S, ho, ht, h_lt_M ha, h_lt_M hb, h_lt_M hc, h_lt_M hd]
  exact ⟨_, _, rfl, hz, gMul9 hs, fun p np => q p _ (same_upd np) upd_same⟩
theorem scLpro : FnScope ["_law_one", "_law_two"] ["_law_one", "_law_two"] d_product.scope := ⟨rfl, rfl, rfl, by decide +kernel, rfl, by decide +kernel, by decide +kernel⟩
theorem ok_product (W : Wd K mg) : ∃ fd, FnOk P w K mg base CX0 2 (He.ga K "_law_product") fd ["_law_one", "_law_two"] (spPair fMul gMul) ∧ Binds K fd ["_law_one", "_law_two"] [] := by
  obtain ⟨fdL, GL, bL⟩ := ok_lowest (P := P) (w := w) (base := base) W
  have kL : PySem.W.keepIn K (.ref (He.ga K "_law_lowest")) = true := by obtain ⟨fd, F⟩ := W.F_lowest; exact F.kp
  obtain ⟨fd, F⟩ := W.F_product
  refine ⟨fd, F.ok scLpro (fun vs H Q E h => spPair_len h) (fun cdv A outer s H vs Q E hr h => ?_), FunD.bindsN F fun _ _ _ _ _ _ us hl => match us, hl with | [_, _], _ => rfl⟩
  obtain ⟨o, t, a, b, c, d, rfl, ho, ht, hs, hz, q⟩ := h
  have hs' := hs
  obtain ⟨ha, hb, hc, hd⟩ := hs'
  refine ⟨_, PSs.nox (pss_one (ps_ret (pe_call GL hr rfl W.g_law_lowest kL bL .nil pass0 (pa_cons
    (pe_op op_mulX9 (pe_ix ix_tupH (pv 0) pe_int (fun _ _ => rfl)) (pe_ix ix_tupH (pv 1) pe_int (fun _ _ => rfl)))
    (pa_cons (pe_op op_mulX9 (pe_ix ix_tupH (pv 0) pe_int (fun _ _ => rfl)) (pe_ix ix_tupH (pv 1) pe_int (fun _ _ => rfl))) pa_nil))))), ?_⟩
  simp -dsimp [tSeq, tAsg, tRet, tIfS, tIf, tTest, tVar, tCons, tNil, tC, tOp, tUn, rI, rI0, rU, tCB, tLst_A, tTup_A, gName, L2.start, CMul, CPow, CDiv, tDrop, tBM, tBM0, tNext, tPar, gSub, rSetL, rIxL, rIxT, tChain, tB, tNot, tNotV, tAnd, tOr, tAndV, tOrV, tFld, tCall, rIxLH, rIxTH, atI, ixN, upd_same, cxK, ex2, ex3, ex3b, rIs1, rIs2, rNe2, tyN, kb1, kb2, kb3, kb4, kb5, kb6, rEq, rNe, scal, tMake_S, tMakeK_S, tMakeN_S, ho, ht, h_lt_M ha, h_lt_M hb, h_lt_M hc, h_lt_M hd]
  exact ⟨_, _, rfl, hz, gMul9 hs, fun p np => q p _ (same_upd np) upd_same⟩
theorem scDivided : FnScope ["_law_share", "_law_number", "_law_found", "e"] ["_law_share", "_law_number"] d_divided.scope := ⟨rfl, rfl, rfl, by decide +kernel, rfl, by decide +kernel, by decide +kernel⟩
theorem ok_divided (W : Wd K mg) : ∃ fd, FnOk P w K mg base CX0 5 (He.ga K "_law_divided") fd ["_law_share", "_law_number"] (spBin K fDiv gDiv) ∧ Binds K fd ["_law_share", "_law_number"] [] := by
  obtain ⟨fdO, GO, bO⟩ := ok_over (P := P) (w := w) (base := base) W
  obtain ⟨fd, F⟩ := W.F_divided
  refine ⟨fd, F.ok scDivided (fun vs H Q E h => spBin_len h) (fun cdv A outer s H vs Q E hr h => ?_), FunD.bindsN F fun _ _ _ _ _ _ us hl => match us, hl with | [_, _], _ => rfl⟩
  obtain ⟨x, v, a, b, c, d, rfl, hx, hv, hs, hz, q⟩ := h
  refine ⟨_, pss_cons (ps_try_as (i := 3) rfl rfl scDivided.nd rfl rfl ⟨rfl, by decide, .inl W.g_NoShare⟩ takes0
      (fun W' pn xe tk _ => pss_one (ps_set (i := 2) scDivided.nd rfl (Or.inl rfl) (pe_meth (pv 0) W.cls_Share W.m_Share_over GO hr bO .nil pass0 (pa_cons (pv 1) pa_nil))))
      (fun a' oe cls d pn hz hf => pss_one (ps_set (i := 2) scDivided.nd rfl (Or.inl rfl) (pe_xf (xfB_ok (W.ex 9 rfl)) W.n_NoShare_top hz hf (pv 3)))))
    (pss_one (ps_ret (pv 2))), ?_⟩
  obtain ⟨dx, hd⟩ := id hx
  refine ⟨_, rfl, x, dx, _, rfl, hd, rfl, _, rfl, x, v, a, b, c, d, rfl, hx, hv, hs, hz, fun z H' s' i => ?_⟩
  exact ⟨_, rfl, q z H' s' i⟩
def spDivX (K : PySem.W.Frag) : Sp := fun vs H Q _ => ∃ (x : Addr) (v : V) (a b d : Int), vs = [.ref x, v] ∧ IsSh K H x a b ∧ Nu K H v 0 d ∧ ∀ H', Same H H' → Q (.int a) H'
theorem ok_dividedX (W : Wd K mg) (hP : SupX.PrgOk P) : ∃ fd, FnOk P w K mg base CX0 5 (He.ga K "_law_divided") fd ["_law_share", "_law_number"] (spDivX K) ∧ Binds K fd ["_law_share", "_law_number"] [] := by
  obtain ⟨fdO, GO, bO⟩ := ok_overX (P := P) (w := w) (base := base) W hP
  obtain ⟨fd, F⟩ := W.F_divided
  refine ⟨fd, F.ok scDivided (fun vs H Q E h => ?_) (fun cdv A outer s H vs Q E hr h => ?_), FunD.bindsN F fun _ _ _ _ _ _ us hl => match us, hl with | [_, _], _ => rfl⟩
  · obtain ⟨x, v, a, b, d, rfl, _⟩ := h
    rfl
  · obtain ⟨x, v, a, b, d, rfl, hx, hv, q⟩ := h
    have r3 : Room 3 _ := hr.mono (by decide)
    refine ⟨_, pss_cons (ps_try_as (i := 3) rfl rfl scDivided.nd rfl rfl ⟨rfl, by decide, .inl W.g_NoShare⟩ takes0
        (fun W' pn xe tk _ => pss_one (ps_set (i := 2) scDivided.nd rfl (Or.inl rfl) (pe_methX (pv 0) W.cls_Share W.m_Share_over GO r3 bO (fun σ => passAt tk σ) (pa_cons (pv 1) pa_nil))))
        (fun a' oe cls d pn hz hf => pss_one (ps_set (i := 2) scDivided.nd rfl (Or.inl rfl) (pe_xf (xfB_ok (W.ex 9 rfl)) W.n_NoShare_top hz hf (pv 3)))))
      (pss_one (ps_ret (pv 2))), ?_⟩
    obtain ⟨dx, hd⟩ := id hx
    refine ⟨_, rfl, x, dx, _, rfl, hd, rfl, _, rfl, x, v, a, b, d, rfl, hx, hv, fun e1 H' s' n1 => ⟨true, of_decide_eq_true (W.ex 7 rfl), fun _ ae he => ?_, fun z => nomatch z⟩⟩
    refine ⟨_, rfl, rfl, rfl, e1, [("top", .int a)], .int a, rfl, upd_same, rfl, ?_⟩
    exact ⟨_, rfl, q _ (s'.trans (same_upd n1))⟩
end
section
variable {P : Program} {w : World} {K : PySem.W.Frag} {mg : Str → Option Value} {base : Heap}
theorem scRatio : FnScope ["_law_draws", "_law_up", "_law_way", "_law_down"] ["_law_draws"] d_ratio.scope := ⟨rfl, rfl, rfl, by decide +kernel, rfl, by decide +kernel, by decide +kernel⟩
def spRatio (K : PySem.W.Frag) : Sp := fun vs H Q _ => ∃ (l : Addr) (d0 d1 d2 : Int), vs = [.ref l] ∧ H l = some (draws d0 d1 d2) ∧ ∀ (e0 e1 e2 : Int) (p : Addr) (H' : Hp) (v : V) (t : Addr) (c d : Int), Same (upd H l (draws e0 e1 e2)) H' →
  H' p = some (.tup [v, .ref t]) → H' t = some (.tup [.int c, .int d]) → Nu K H' v c d → Low c d → c.natAbs < 1000000000000 → d.natAbs < 1000000000000 → Q (.ref p) H'
theorem low_one (c : Int) : Low c 1 := ⟨by decide, Int.gcd_one⟩
theorem ok_ratio (W : Wd K mg) : ∃ fd, FnOk P w K mg base CX0 4 (He.ga K "_law_ratio") fd ["_law_draws"] (spRatio K) ∧ Binds K fd ["_law_draws"] [] := by
  obtain ⟨fdI, GI, bI⟩ := ok_integer (P := P) (w := w) (base := base) W
  obtain ⟨fdD, GD, bD⟩ := ok_draw (P := P) (w := w) (base := base) W
  obtain ⟨fdL, GL, bL⟩ := ok_lowest (P := P) (w := w) (base := base) W
  obtain ⟨fdH, GH, FH⟩ := ok_init (P := P) (w := w) (base := base) W
  have kI : PySem.W.keepIn K (.ref (He.ga K "_law_integer")) = true := by obtain ⟨fd, F⟩ := W.F_integer; exact F.kp
  have kD : PySem.W.keepIn K (.ref (He.ga K "_law_draw")) = true := by obtain ⟨fd, F⟩ := W.F_draw; exact F.kp
  have kL : PySem.W.keepIn K (.ref (He.ga K "_law_lowest")) = true := by obtain ⟨fd, F⟩ := W.F_lowest; exact F.kp
  obtain ⟨fd, F⟩ := W.F_ratio
  refine ⟨fd, F.ok scRatio (fun vs H Q E h => ?_) (fun cdv A outer s H vs Q E hr h => ?_), FunD.bindsN F fun _ _ _ _ _ _ us hl => match us, hl with | [_], _ => rfl⟩
  · obtain ⟨l, d0, d1, d2, rfl, _⟩ := h
    rfl
  · obtain ⟨l, d0, d1, d2, rfl, hl, q⟩ := h
    have r1 : Room 1 _ := hr.mono (by decide)
    have r2 : Room 2 _ := hr.mono (by decide)
    refine ⟨_, PSs.nox (pss_cons (ps_par (i := 1) (j := 2) rfl scRatio.nd rfl rfl (by decide) rfl rfl (pa_cons (pe_call GI r2 rfl W.g_law_integer kI bI .nil pass0 (pa_cons (pv 0) pa_nil)) (pa_cons (pe_call GD r1 rfl W.g_law_draw kD bD .nil pass0 (pa_cons (pv 0) (pa_cons pe_int pa_nil))) pa_nil)) rfl)
      (pss_cons (ps_if (pt_cmpR op_lt (pv 2) pe_int (nomark _)) (pss_one (ps_ret (pe_tup (pa_cons (pv 1) (pa_cons (pe_tup (pa_cons (pv 1) (pa_cons pe_int pa_nil))) pa_nil))))) pss_nil)
      (pss_cons (ps_set (i := 3) scRatio.nd rfl (Or.inl rfl) (pe_ifExp (pt_cmpR op_eq (pv 2) pe_int (nomark _)) (pe_op op_add pe_int (pe_call GD r1 rfl W.g_law_draw kD bD .nil pass0 (pa_cons (pv 0) (pa_cons pe_int pa_nil))))
        (pe_op op_sub (pe_un un_neg pe_int) (pe_call GD r1 rfl W.g_law_draw kD bD .nil pass0 (pa_cons (pv 0) (pa_cons (pe_op op_sub (pe_op op_pow pe_int pe_int) pe_int) pa_nil))))))
      (pss_one (ps_ret (pe_tup (pa_cons (pe_make W.mkr_Share GH hr rfl W.g_Share (bind3 FH) .nil pass0 (pa_cons (pv 1) (pa_cons (pv 3) pa_nil))) (pa_cons (pe_call GL r1 rfl W.g_law_lowest kL bL .nil pass0 (pa_cons (pv 1) (pa_cons (pv 3) pa_nil))) pa_nil)))))))), ?_⟩
    simp -dsimp [tSeq, tAsg, tRet, tIfS, tIf, tTest, tVar, tCons, tNil, tC, tOp, tUn, rI, rI0, rU, tCB, tLst_A, tTup_A, gName, L2.start, CMul, CPow, CDiv, tDrop, tBM, tBM0, tNext, tPar, gSub, rSetL, rIxL, rIxT, tChain, tB, tNot, tNotV, tAnd, tOr, tAndV, tOrV, tFld, tCall, rIxLH, rIxTH, atI, ixN, upd_same, cxK, ex2, ex3, ex3b, rIs1, rIs2, rNe2, tyN, kb1, kb2, kb3, kb4, kb5, kb6, rEq, rNe, scal, tMake_S, tMakeK_S, tMakeN_S]
    refine ⟨l, d0, d1, d2, rfl, hl, fun up f0 f1 f2 hup => ?_⟩
    refine ⟨l, f0, f1, f2, 4, rfl, upd_same, by decide, by decide, fun way g0 g1 g2 w0 w1 => ?_⟩
    rw [upd_upd]
    have fin : ∀ (dn k0 k1 k2 : Int), dn ≠ 0 → dn.natAbs < 1000000000000 → MkS K (upd H l (draws k0 k1 k2)) [.int up, .int dn] (fun x H1 => spLowest K [.int up, .int dn] H1 (fun y H2 => 2 ≤ sizeLine ∧ Alloc H2 (.tup [x, y]) Q) E0) E0 := by
      intro dn k0 k1 k2 n0 nb
      have bd : dn.natAbs < big9 := big_of (Nat.lt_trans nb (by decide))
      refine MkS.of rfl n0 bd fun x H1 n1 i1 s1 => ?_
      refine ⟨up, dn, rfl, n0, bd, fun t nt => ⟨le2, Alloc.of fun p H3 np hp s3 => ?_⟩⟩
      obtain ⟨sd1, sd2, sd3⟩ := side_facts up dn n0
      exact q k0 k1 k2 p H3 (.ref x) t _ _ ((s1.trans (same_upd nt)).trans s3) hp (s3 _ _ upd_same) (.inl ⟨x, rfl, (i1.same (same_upd nt)).same s3⟩) (low_lo n0)
        (Nat.lt_of_le_of_lt (fdiv_le sd1 sd3) hup) (Nat.lt_of_le_of_lt (fdiv_le sd2 sd3) nb)
    simp -dsimp [tSeq, tAsg, tRet, tIfS, tIf, tTest, tVar, tCons, tNil, tC, tOp, tUn, rI, rI0, rU, tCB, tLst_A, tTup_A, gName, L2.start, CMul, CPow, CDiv, tDrop, tBM, tBM0, tNext, tPar, gSub, rSetL, rIxL, rIxT, tChain, tB, tNot, tNotV, tAnd, tOr, tAndV, tOrV, tFld, tCall, rIxLH, rIxTH, atI, ixN, upd_same, cxK, ex2, ex3, ex3b, rIs1, rIs2, rNe2, tyN, kb1, kb2, kb3, kb4, kb5, kb6, rEq, rNe, scal, tMake_S, tMakeK_S, tMakeN_S]
    split
    · refine ⟨le2, Alloc.of fun t H1 n1 h1 s1 => ⟨le2, Alloc.of fun p H2 n2 h2 s2 => ?_⟩⟩
      exact q g0 g1 g2 p H2 (.int up) t up 1 (s1.trans s2) h2 (s2 _ _ h1) (.inr ⟨rfl, rfl⟩) (low_one up) hup (by decide)
    · split
      · refine ⟨l, g0, g1, g2, 12, rfl, upd_same, by decide, by decide, fun r k0 k1 k2 r0 r1' => ⟨_, rfl, ?_⟩⟩
        rw [upd_upd]
        exact fin _ _ _ _ (by omega) (by omega)
      · refine ⟨l, g0, g1, g2, 999999999999, rfl, upd_same, by decide, by decide, fun r k0 k1 k2 r0 r1' => ⟨_, rfl, ?_⟩⟩
        rw [upd_upd]
        exact fin _ _ _ _ (by omega) (by omega)
end
/-! ### == of two pairs of ints -/
def rEqT : R2 := fun x y H Q => ∃ (p q : Addr) (a b c d : Int), x = .ref p ∧ y = .ref q ∧ H p = some (.tup [.int a, .int b]) ∧ H q = some (.tup [.int c, .int d]) ∧ Q (.bl (a == c && b == d)) H
theorem op_eqT {X : Cx} (hu : X.A.units + 64 < cLine) : OpR X (compareOp .Eq) rEqT := by
  intro pins s σ H x y v u Q I rx ry h
  obtain ⟨p, q, a, b, c, d, e1, e2, hp, hq, k⟩ := h
  refine op_eqD hu pins s σ H x y v u Q I rx ry ⟨.tuple [.int a, .int b], .tuple [.int c, .int d], ?_, ?_, ?_, ?_, ?_⟩
  · rw [e1]
    exact .tup (SqT.of hp) (.cons (.int _) (.cons (.int _) .nil))
  · rw [e2]
    exact .tup (SqT.of hq) (.cons (.int _) (.cons (.int _) .nil))
  · rfl
  · rfl
  · have e : PyData.eqv (.tuple [.int a, .int b]) (.tuple [.int c, .int d]) = (a == c && b == d) := by
      show ((a == c) && ((b == d) && true)) = _
      rw [Bool.and_true]
    rw [e]
    exact k
def S12 (a b c d : Int) : Prop := a.natAbs < 1000000000000 ∧ b.natAbs < 1000000000000 ∧ c.natAbs < 1000000000000 ∧ d.natAbs < 1000000000000
theorem h_of {n : Nat} (h : n < 10 ^ 60) : n < bigH := Nat.lt_of_lt_of_le h (by unfold bigH; exact Nat.le_trans (by decide : (10 : Nat) ^ 60 ≤ 2 ^ 200) (Nat.pow_le_pow_right (by decide) (by decide)))
theorem S12.sm {a b c d : Int} (h : S12 a b c d) : Sm a b c d := ⟨h_of (Nat.lt_trans h.1 (by decide)), h_of (Nat.lt_trans h.2.1 (by decide)), h_of (Nat.lt_trans h.2.2.1 (by decide)), h_of (Nat.lt_trans h.2.2.2 (by decide))⟩
theorem m12 {a b : Int} (ha : a.natAbs < 1000000000000) (hb : b.natAbs < 1000000000000) : (a * b).natAbs < 1000000000000000000000000 := by
  rw [Int.natAbs_mul]
  exact Nat.mul_lt_mul'' ha hb
theorem nz2 {a b c d : Int} (h1 : Low a b) (h2 : Low c d) : gMul a b c d ≠ 0 := Int.mul_ne_zero (Int.ne_of_gt h1.1) (Int.ne_of_gt h2.1)
theorem p60d : (10 : Nat) ^ 60 = 1000000000000000000000000000000000000000000000000000000000000 := by decide
theorem low_le {x y : Int} (hy : y ≠ 0) {n : Nat} (hx : x.natAbs < n) (hy' : y.natAbs < n) : (x.fdiv (side x y)).natAbs < n ∧ (y.fdiv (side x y)).natAbs < n := by
  obtain ⟨d1, d2, d3⟩ := side_facts x y hy
  exact ⟨Nat.lt_of_le_of_lt (fdiv_le d1 d3) hx, Nat.lt_of_le_of_lt (fdiv_le d2 d3) hy'⟩
section
variable {P : Program} {w : World} {K : PySem.W.Frag} {mg : Str → Option Value} {base : Heap}
theorem scTotals : FnScope ["_law_total", "_law_share", "_law_due", "_law_part", "_law_kept", "_law_older"] ["_law_total", "_law_share", "_law_due", "_law_part"] d_totals.scope := ⟨rfl, rfl, rfl, by decide +kernel, rfl, by decide +kernel, by decide +kernel⟩
def spFour (K : PySem.W.Frag) : Sp := fun vs H Q _ => ∃ (x : Addr) (v : V) (t1 t2 : Addr) (a b c d : Int), vs = [.ref x, v, .ref t1, .ref t2] ∧ IsSh K H x a b ∧ Nu K H v c d ∧ H t1 = some (.tup [.int a, .int b]) ∧ H t2 = some (.tup [.int c, .int d]) ∧ Low a b ∧ Low c d ∧ S12 a b c d ∧ ∀ H', Same H H' → Q (.bl true) H'
theorem ok_totals (W : Wd K mg) : ∃ fd, FnOk P w K mg base CX0 5 (He.ga K "_law_totals") fd ["_law_total", "_law_share", "_law_due", "_law_part"] (spFour K) ∧ Binds K fd ["_law_total", "_law_share", "_law_due", "_law_part"] [] := by
  obtain ⟨fdA, GA, bA⟩ := ok_add (P := P) (w := w) (base := base) W
  obtain ⟨fdB, GB, bB⟩ := ok_sub (P := P) (w := w) (base := base) W
  obtain ⟨fdM, GM, bM⟩ := ok_mul (P := P) (w := w) (base := base) W
  obtain ⟨fdS, GS, bS⟩ := ok_isShare (P := P) (w := w) (base := base) W
  obtain ⟨fdU, GU, bU⟩ := ok_sum (P := P) (w := w) (base := base) W
  obtain ⟨fdP, GP, bP⟩ := ok_product (P := P) (w := w) (base := base) W
  have kS : PySem.W.keepIn K (.ref (He.ga K "_law_is_share")) = true := by obtain ⟨fd, F⟩ := W.F_is_share; exact F.kp
  have kU : PySem.W.keepIn K (.ref (He.ga K "_law_sum")) = true := by obtain ⟨fd, F⟩ := W.F_sum; exact F.kp
  have kP : PySem.W.keepIn K (.ref (He.ga K "_law_product")) = true := by obtain ⟨fd, F⟩ := W.F_product; exact F.kp
  obtain ⟨fd, F⟩ := W.F_totals
  refine ⟨fd, F.ok scTotals (fun vs H Q E h => ?_) (fun cdv A outer s H vs Q E hr h => ?_), FunD.bindsN F fun _ _ _ _ _ _ us hl => match us, hl with | [_, _, _, _], _ => rfl⟩
  · obtain ⟨x, v, t1, t2, a, b, c, d, rfl, _⟩ := h
    rfl
  · obtain ⟨x, v, t1, t2, a, b, c, d, rfl, hx, hv, h1, h2, l1, l2, hs, q⟩ := h
    have r2 : Room 2 _ := hr.mono (by decide)
    have r3 : Room 3 _ := hr.mono (by decide)
    refine ⟨_, PSs.nox (pss_cons (ps_par (i := 4) (j := 5) rfl scTotals.nd rfl rfl (by decide) rfl rfl (pa_cons (pv 0) (pa_cons (pe_tup (pa_cons (pe_fld (pv 0) rfl) (pa_cons (pe_fld (pv 0) rfl) pa_nil))) pa_nil)) rfl)
      (pss_cons (ps_aug (i := 0) scTotals.nd rfl (Or.inl rfl) (pv 1) (ip_L W.opAdd (FnOk.raw GA bA .nil) hr pass0))
      (pss_cons (ps_if (pt_not (pt_val (pe_call GS r3 rfl W.g_law_is_share kS bS .nil pass0 (pa_cons (pv 0) (pa_cons (pe_call GU r2 rfl W.g_law_sum kU bU .nil pass0 (pa_cons (pv 2) (pa_cons (pv 3) pa_nil))) pa_nil))))) (pss_one (ps_ret pe_bl)) pss_nil)
      (pss_cons (ps_aug (i := 0) scTotals.nd rfl (Or.inl rfl) (pv 1) (ip_L W.opSub (FnOk.raw GB bB .nil) hr pass0))
      (pss_cons (ps_if (pt_not (pt_val (pe_call GS r3 rfl W.g_law_is_share kS bS .nil pass0 (pa_cons (pv 0) (pa_cons (pv 2) pa_nil))))) (pss_one (ps_ret pe_bl)) pss_nil)
      (pss_cons (ps_aug (i := 0) scTotals.nd rfl (Or.inl rfl) (pv 1) (ip_L W.opMul (FnOk.raw GM bM .nil) hr pass0))
      (pss_one (ps_ret (pe_and (pe_call GS r3 rfl W.g_law_is_share kS bS .nil pass0 (pa_cons (pv 0) (pa_cons (pe_call GP r2 rfl W.g_law_product kP bP .nil pass0 (pa_cons (pv 2) (pa_cons (pv 3) pa_nil))) pa_nil)))
        (pe_one (pe_cmpR (op_eqT hr.units) (pe_tup (pa_cons (pe_fld (pv 4) rfl) (pa_cons (pe_fld (pv 4) rfl) pa_nil))) (pv 5) (nomark _)))))))))))), ?_⟩
    obtain ⟨dx, hd⟩ := id hx
    simp -dsimp [tSeq, tAsg, tRet, tIfS, tIf, tTest, tVar, tCons, tNil, tC, tOp, tUn, rI, rI0, rU, tCB, tLst_A, tTup_A, gName, L2.start, CMul, CPow, CDiv, tDrop, tBM, tBM0, tNext, tPar, gSub, rSetL, rIxL, rIxT, tChain, tB, tNot, tNotV, tAnd, tOr, tAndV, tOrV, tFld, tCall, rIxLH, rIxTH, atI, ixN, upd_same, cxK, ex2, ex3, ex3b, rIs1, rIs2, rNe2, tyN, kb1, kb2, kb3, kb4, kb5, kb6, rEq, rNe, scal, tMake_S, tMakeK_S, tMakeN_S, hd, shareO, W.cls_Share, W.n_Share_top, W.n_Share_bottom, look_top, look_bot, tAug]
    refine ⟨le2, Alloc.of fun p0 H1 n1 e1 s1 => ?_⟩
    have hx1 := hx.same s1
    have hv1 := hv.same s1
    obtain ⟨dx1, hd1⟩ := id hx1
    have sm := hs.sm
    have nz := nz2 l1 l2
    refine ⟨x, dx1, _, rfl, hd1, hv1.ins, x, v, a, b, c, d, rfl, hx1, hv1, sm, nz, fun z1 H2 s2 i2 => ?_⟩
    have s12 := s1.trans s2
    refine ⟨t1, t2, a, b, c, d, rfl, s12 _ _ h1, s12 _ _ h2, sm, nz, fun t3 H3 s3 h3 => ?_⟩
    refine ⟨z1, t3, _, _, rfl, i2.same s3, h3, fun H4 s4 => .inr ⟨rfl, ?_⟩⟩
    have s14 := (s12.trans s3).trans s4
    have i4 := (i2.same s3).same s4
    obtain ⟨dz1, hz1⟩ := id i4
    have bA : (fAdd a b c d).natAbs < 10 ^ 60 := by
      have u1 := m12 hs.1 hs.2.2.2
      have u2 := m12 hs.2.2.1 hs.2.1
      have := p60d
      unfold fAdd
      omega
    have bG : (gMul a b c d).natAbs < 10 ^ 60 := by
      have u1 := m12 hs.2.1 hs.2.2.2
      have := p60d
      unfold gMul
      omega
    have lA := low_lo (x := fAdd a b c d) nz
    have bE := low_le nz bA bG
    have cr := lo_cross (x := fAdd a b c d) nz
    generalize (fAdd a b c d).fdiv (side (fAdd a b c d) (gMul a b c d)) = e at *
    generalize (gMul a b c d).fdiv (side (fAdd a b c d) (gMul a b c d)) = f at *
    have nz2' := nz2 lA l2
    refine ⟨z1, dz1, _, rfl, hz1, (hv.same s14).ins, z1, v, e, f, c, d, rfl, i4, hv.same s14, ⟨h_of bE.1, h_of bE.2, sm.2.2⟩, nz2', fun z2 H5 s5 i5 => ?_⟩
    have s15 := s14.trans s5
    have back := lo_eq (x := fSub e f c d) nz2' l1 (by unfold fSub gMul; unfold fAdd gMul at cr; grind)
    rw [back.1, back.2] at i5
    refine ⟨z2, t1, a, b, rfl, i5, s15 _ _ h1, fun H6 s6 => .inr ⟨rfl, ?_⟩⟩
    have s16 := s15.trans s6
    have i6 := i5.same s6
    obtain ⟨dz2, hz2⟩ := id i6
    refine ⟨z2, dz2, _, rfl, hz2, (hv.same s16).ins, z2, v, a, b, c, d, rfl, i6, hv.same s16, sm, nz, fun z3 H7 s7 i7 => ?_⟩
    have s17 := s16.trans s7
    refine ⟨t1, t2, a, b, c, d, rfl, s17 _ _ h1, s17 _ _ h2, sm, nz, fun t4 H8 s8 h8 => ?_⟩
    refine ⟨z3, t4, _, _, rfl, i7.same s8, h8, fun H9 s9 => .inr ⟨rfl, ?_⟩⟩
    have s19 := (s17.trans s8).trans s9
    obtain ⟨dx9, hd9⟩ := hx.same s19
    refine ⟨x, rfl, _, _, _, hd9, W.cls_Share, W.n_Share_top, _, rfl, x, rfl, _, _, _, hd9, W.cls_Share, W.n_Share_bottom, _, rfl, le2, Alloc.of fun p9 H10 n10 e10 s10 => ?_⟩
    have e0 : H10 p0 = some (.tup [.int a, .int b]) := (s2.trans (s3.trans (s4.trans (s5.trans (s6.trans (s7.trans (s8.trans (s9.trans s10)))))))) _ _ e1
    refine ⟨p9, p0, a, b, a, b, rfl, rfl, e10, e0, ?_⟩
    rw [beq_self_eq_true, beq_self_eq_true]
    exact q H10 (s19.trans s10)
end
/-! ### a def with two promises -/
theorem FnR.or {P : Program} {w : World} {K : PySem.W.Frag} {mg : Str → Option Value} {base : Heap} {CX : CXT} {k : Nat} {f : Addr} {s1 s2 : Sp} (h1 : FnR P w K mg base CX k f s1) (h2 : FnR P w K mg base CX k f s2) : FnR P w K mg base CX k f (fun vs H Q E => s1 vs H Q E ∨ s2 vs H Q E) :=
  fun A outer s H us vs Q E hr e0 r hs => hs.elim (h1 A outer s H us vs Q E hr e0 r) (h2 A outer s H us vs Q E hr e0 r)
def tCallR (sp : Sp) (E : XK) (t : TA) : TE := fun σ H Q => t σ H fun vs H1 => sp vs H1 Q E
theorem pe_callR {X : Cx} {CX : CXT} {k : Nat} {f : Addr} {sp : Sp} {E : XK} {x : Str} {p pos : Pos} {e : Expr} {es : List Expr} {t : TA} (F : FnR X.prog X.w X.K X.mg X.base CX k f sp) (hr : Room k X.A) (hg : Gl X x) (hm : X.mg x = some (.ref f)) (hk : PySem.W.keepIn X.K (.ref f) = true) (hx : Passes CX X E)
    (ha : PA X (e :: es) t) (hdb : (x == ("__debug__" : Str)) = false := by decide) (he : starEach (e :: es) X.env = (false, eval e X.env) :: starEach es X.env := by rfl) (hpl : (backTo pos (starEach es X.env)).any (·.1) = false := by rfl) :
    PE X (.Call (.Name x p) (e :: es) [] pos) (tCallR sp E t) := by
  refine ⟨fun pins s σ H Q I h => wpAny_Call_Name_kw (ld_glob I hg hm ?_ hdb)⟩
  refine PySem.W.callWith_K (h₀ := X.base) I.ok.mod.kin hk (thn (ha.run pos pins s σ H _ I h) fun us s1 hz => ?_) he hpl
  obtain ⟨vs, H1, I1, r, q⟩ := hz
  exact ⟨I1.kIn, wpAny_call (run_fnR F hr hx I1 r q)⟩
section
variable {P : Program} {w : World} {K : PySem.W.Frag} {mg : Str → Option Value} {base : Heap}
/-- number op share, either way -/
theorem flipO {f fr g gr : Int → Int → Int → Int → Int} {H : Hp} {x : Addr} {v : V} {a b c d p q : Int} {Q : VK} (hx : IsSh K H x a b) (hv : Nu K H v c d) (hs : Sm a b c d) (hz : q ≠ 0) (e1 : f c d a b = p) (e2 : g c d a b = q) (e3 : fr a b c d = p) (e4 : gr a b c d = q) (h : Res K H p q Q) :
    rBinL (He.ga K "Share") (fun vs H Q E => spBin K f g vs H Q E) E0 v (.ref x) H Q ∨ rBinR (He.ga K "Share") (fun vs H Q E => spBin K fr gr vs H Q E) E0 v (.ref x) H Q := by
  obtain ⟨dx, hd⟩ := id hx
  rcases hv with ⟨y, rfl, hy⟩ | ⟨rfl, rfl⟩
  · obtain ⟨dy, hyd⟩ := id hy
    exact .inl ⟨y, dy, _, rfl, hyd, .inl ⟨x, dx, _, rfl, hd⟩, y, .ref x, c, d, a, b, rfl, hy, .inl ⟨x, rfl, hx⟩, ⟨hs.2.2.1, hs.2.2.2, hs.1, hs.2.1⟩, by rw [e2]; exact hz, by rw [e1, e2]; exact h⟩
  · exact .inr ⟨c, x, dx, _, rfl, rfl, hd, x, .int c, a, b, c, 1, rfl, hx, .inr ⟨rfl, rfl⟩, hs, by rw [e4]; exact hz, by rw [e3, e4]; exact h⟩
theorem scRight : FnScope ["_law_share", "_law_due", "_law_number", "_law_part", "_law_found"] ["_law_share", "_law_due", "_law_number", "_law_part"] d_right.scope := ⟨rfl, rfl, rfl, by decide +kernel, rfl, by decide +kernel, by decide +kernel⟩
def spRight (K : PySem.W.Frag) : Sp := fun vs H Q _ => ∃ (x : Addr) (v : V) (t1 t2 : Addr) (a b c d : Int), vs = [.ref x, .ref t1, v, .ref t2] ∧ IsSh K H x a b ∧ Nu K H v c d ∧ H t1 = some (.tup [.int a, .int b]) ∧ H t2 = some (.tup [.int c, .int d]) ∧ Low a b ∧ Low c d ∧ S12 a b c d ∧ ∀ H', Same H H' → Q (.bl true) H'
theorem ok_right (W : Wd K mg) (hP : SupX.PrgOk P) : ∃ fd, FnOk P w K mg base CX0 6 (He.ga K "_law_right") fd ["_law_share", "_law_due", "_law_number", "_law_part"] (spRight K) ∧ Binds K fd ["_law_share", "_law_due", "_law_number", "_law_part"] [] := by
  obtain ⟨fdA, GA, bA⟩ := ok_add (P := P) (w := w) (base := base) W
  obtain ⟨fdB, GB, bB⟩ := ok_sub (P := P) (w := w) (base := base) W
  obtain ⟨fdM, GM, bM⟩ := ok_mul (P := P) (w := w) (base := base) W
  obtain ⟨fdA', GA', bA'⟩ := ok_radd (P := P) (w := w) (base := base) W
  obtain ⟨fdB', GB', bB'⟩ := ok_rsub (P := P) (w := w) (base := base) W
  obtain ⟨fdM', GM', bM'⟩ := ok_rmul (P := P) (w := w) (base := base) W
  obtain ⟨fdN, GN, bN⟩ := ok_neg (P := P) (w := w) (base := base) W
  obtain ⟨fdQ, GQ, bQ⟩ := ok_abs (P := P) (w := w) (base := base) W
  obtain ⟨fdS, GS, bS⟩ := ok_isShare (P := P) (w := w) (base := base) W
  obtain ⟨fdU, GU, bU⟩ := ok_sum (P := P) (w := w) (base := base) W
  obtain ⟨fdP, GP, bP⟩ := ok_product (P := P) (w := w) (base := base) W
  obtain ⟨fdI, GI, bI⟩ := ok_minus (P := P) (w := w) (base := base) W
  obtain ⟨fdL, GL, bL⟩ := ok_lowest (P := P) (w := w) (base := base) W
  obtain ⟨fdE, GE, bE⟩ := ok_sameI (P := P) (w := w) (base := base) W
  obtain ⟨fdD, GD, bD⟩ := ok_divided (P := P) (w := w) (base := base) W
  obtain ⟨fdX, GX, bX⟩ := ok_dividedX (P := P) (w := w) (base := base) W hP
  have kS : PySem.W.keepIn K (.ref (He.ga K "_law_is_share")) = true := by obtain ⟨fd, F⟩ := W.F_is_share; exact F.kp
  have kU : PySem.W.keepIn K (.ref (He.ga K "_law_sum")) = true := by obtain ⟨fd, F⟩ := W.F_sum; exact F.kp
  have kP : PySem.W.keepIn K (.ref (He.ga K "_law_product")) = true := by obtain ⟨fd, F⟩ := W.F_product; exact F.kp
  have kI : PySem.W.keepIn K (.ref (He.ga K "_law_minus")) = true := by obtain ⟨fd, F⟩ := W.F_minus; exact F.kp
  have kL : PySem.W.keepIn K (.ref (He.ga K "_law_lowest")) = true := by obtain ⟨fd, F⟩ := W.F_lowest; exact F.kp
  have kE : PySem.W.keepIn K (.ref (He.ga K "_law_same")) = true := by obtain ⟨fd, F⟩ := W.F_same; exact F.kp
  have kD : PySem.W.keepIn K (.ref (He.ga K "_law_divided")) = true := by obtain ⟨fd, F⟩ := W.F_divided; exact F.kp
  obtain ⟨fd, F⟩ := W.F_right
  refine ⟨fd, F.ok scRight (fun vs H Q E h => ?_) (fun cdv A outer s H vs Q E hr h => ?_), FunD.bindsN F fun _ _ _ _ _ _ us hl => match us, hl with | [_, _, _, _], _ => rfl⟩
  · obtain ⟨x, v, t1, t2, a, b, c, d, rfl, _⟩ := h
    rfl
  · obtain ⟨x, v, t1, t2, a, b, c, d, rfl, hx, hv, h1, h2, l1, l2, hs, q⟩ := h
    have r1 : Room 1 _ := hr.mono (by decide)
    have r2 : Room 2 _ := hr.mono (by decide)
    have r3 : Room 3 _ := hr.mono (by decide)
    have r4 : Room 4 _ := hr.mono (by decide)
    refine ⟨_, PSs.nox (pss_cons (ps_if (PW.pt (pw_or (pt_not (pt_val (pe_call GS r3 rfl W.g_law_is_share kS bS .nil pass0 (pa_cons (pe_op (op_L W.opAdd (FnOk.raw GA bA .nil) r4 pass0) (pv 0) (pv 2)) (pa_cons (pe_call GU r2 rfl W.g_law_sum kU bU .nil pass0 (pa_cons (pv 1) (pa_cons (pv 3) pa_nil))) pa_nil)))))
          (pw_or1 (pt_not (pt_val (pe_call GS r3 rfl W.g_law_is_share kS bS .nil pass0 (pa_cons (pe_op (op_or (op_L W.opAdd (FnOk.raw GA bA .nil) r4 pass0) (op_Rt W.opAdd (FnOk.raw GA' bA' .nil) hr pass0)) (pv 2) (pv 0)) (pa_cons (pe_call GU r2 rfl W.g_law_sum kU bU .nil pass0 (pa_cons (pv 1) (pa_cons (pv 3) pa_nil))) pa_nil)))))))) (pss_one (ps_ret pe_bl)) pss_nil)
      (pss_cons (ps_if (pt_not (pt_val (pe_call GS r3 rfl W.g_law_is_share kS bS .nil pass0 (pa_cons (pe_op (op_L W.opSub (FnOk.raw GB bB .nil) r4 pass0) (pv 0) (pv 2)) (pa_cons (pe_call GU r2 rfl W.g_law_sum kU bU .nil pass0 (pa_cons (pv 1) (pa_cons (pe_call GI r1 rfl W.g_law_minus kI bI .nil pass0 (pa_cons (pv 3) pa_nil)) pa_nil))) pa_nil))))) (pss_one (ps_ret pe_bl)) pss_nil)
      (pss_cons (ps_if (pt_not (pt_val (pe_call GS r3 rfl W.g_law_is_share kS bS .nil pass0 (pa_cons (pe_op (op_or (op_L W.opSub (FnOk.raw GB bB .nil) r4 pass0) (op_Rt W.opSub (FnOk.raw GB' bB' .nil) hr pass0)) (pv 2) (pv 0)) (pa_cons (pe_call GU r2 rfl W.g_law_sum kU bU .nil pass0 (pa_cons (pv 3) (pa_cons (pe_call GI r1 rfl W.g_law_minus kI bI .nil pass0 (pa_cons (pv 1) pa_nil)) pa_nil))) pa_nil))))) (pss_one (ps_ret pe_bl)) pss_nil)
      (pss_cons (ps_if (pt_not (pt_val (pe_call GS r3 rfl W.g_law_is_share kS bS .nil pass0 (pa_cons (pe_op (op_L W.opMul (FnOk.raw GM bM .nil) r4 pass0) (pv 0) (pv 2)) (pa_cons (pe_call GP r2 rfl W.g_law_product kP bP .nil pass0 (pa_cons (pv 1) (pa_cons (pv 3) pa_nil))) pa_nil))))) (pss_one (ps_ret pe_bl)) pss_nil)
      (pss_cons (ps_if (pt_not (pt_val (pe_call GS r3 rfl W.g_law_is_share kS bS .nil pass0 (pa_cons (pe_op (op_or (op_L W.opMul (FnOk.raw GM bM .nil) r4 pass0) (op_Rt W.opMul (FnOk.raw GM' bM' .nil) hr pass0)) (pv 2) (pv 0)) (pa_cons (pe_call GP r2 rfl W.g_law_product kP bP .nil pass0 (pa_cons (pv 1) (pa_cons (pv 3) pa_nil))) pa_nil))))) (pss_one (ps_ret pe_bl)) pss_nil)
      (pss_cons (ps_if (PW.pt (pw_or (pt_not (pt_val (pe_call GS r3 rfl W.g_law_is_share kS bS .nil pass0 (pa_cons (pe_un (un_own W.m_Share_neg.at_ W.m_Share_neg.fn (FnOk.raw GN bN .nil) r4 pass0) (pv 0)) (pa_cons (pe_call GI r1 rfl W.g_law_minus kI bI .nil pass0 (pa_cons (pv 1) pa_nil)) pa_nil)))))
          (pw_or1 (pt_not (pt_val (pe_call GS r3 rfl W.g_law_is_share kS bS .nil pass0 (pa_cons (pe_callB (call_absO W.m_Share_abs.at_ W.m_Share_abs.fn (FnOk.raw GQ bQ .nil) hr pass0) (by rfl) W.f_abs (by decide +kernel) (pa_cons (pv 0) pa_nil))
            (pa_cons (pe_tup (pa_cons (pe_callB call_abs (by rfl) W.f_abs (by decide +kernel) (pa_cons (pe_ix ix_tupH (pv 1) pe_int (fun _ _ => rfl)) pa_nil)) (pa_cons (pe_ix ix_tupH (pv 1) pe_int (fun _ _ => rfl)) pa_nil))) pa_nil)))))))) (pss_one (ps_ret pe_bl)) pss_nil)
      (pss_cons (ps_set (i := 4) scRight.nd rfl (Or.inl rfl) (pe_callR (FnR.or (FnOk.raw GD bD .nil) (FnOk.raw GX bX .nil)) hr rfl W.g_law_divided kD pass0 (pa_cons (pv 0) (pa_cons (pv 2) pa_nil))))
      (pss_cons (ps_if (pt_cmpR op_eq (pe_ix ix_tupH (pv 3) pe_int (fun _ _ => rfl)) pe_int (nomark _)) (pss_one (ps_ret (pe_call GE r1 rfl W.g_law_same kE bE .nil pass0 (pa_cons (pv 4) (pa_cons (pe_ix ix_tupH (pv 1) pe_int (fun _ _ => rfl)) pa_nil))))) pss_nil)
      (pss_one (ps_ret (pe_call GS r3 rfl W.g_law_is_share kS bS .nil pass0 (pa_cons (pv 4) (pa_cons (pe_call GL r1 rfl W.g_law_lowest kL bL .nil pass0 (pa_cons (pe_op op_mulX9 (pe_ix ix_tupH (pv 1) pe_int (fun _ _ => rfl)) (pe_ix ix_tupH (pv 3) pe_int (fun _ _ => rfl)))
        (pa_cons (pe_op op_mulX9 (pe_ix ix_tupH (pv 1) pe_int (fun _ _ => rfl)) (pe_ix ix_tupH (pv 3) pe_int (fun _ _ => rfl))) pa_nil))) pa_nil))))))))))))), ?_⟩
    simp -dsimp [tSeq, tAsg, tRet, tIfS, tIf, tTest, tVar, tCons, tNil, tC, tOp, tUn, rI, rI0, rU, tCB, tLst_A, tTup_A, gName, L2.start, CMul, CPow, CDiv, tDrop, tBM, tBM0, tNext, tPar, gSub, rSetL, rIxL, rIxT, tChain, tB, tNot, tNotV, tAnd, tOr, tAndV, tOrV, tFld, tCall, rIxLH, rIxTH, atI, ixN, upd_same, cxK, ex2, ex3, ex3b, rIs1, rIs2, rNe2, tyN, kb1, kb2, kb3, kb4, kb5, kb6, rEq, rNe, scal, tMake_S, tMakeK_S, tMakeN_S, tCallR]
    have sm := hs.sm
    have nz := nz2 l1 l2
    have bb : b.natAbs < big9 := big_of (Nat.lt_trans hs.2.1 (by decide))
    have bn : b ≠ 0 := Int.ne_of_gt l1.1
    have smc : Sm a b (-c) d := ⟨sm.1, sm.2.1, by rw [Int.natAbs_neg]; exact sm.2.2.1, sm.2.2.2⟩
    have sma : Sm c d (-a) b := ⟨sm.2.2.1, sm.2.2.2, by rw [Int.natAbs_neg]; exact sm.1, sm.2.1⟩
    have qa : fAdd c d a b = fAdd a b c d := Int.add_comm _ _
    have qg : gMul c d a b = gMul a b c d := Int.mul_comm _ _
    have qm : fMul c d a b = fMul a b c d := Int.mul_comm _ _
    have qs : fAdd a b (-c) d = fSub a b c d := by
      unfold fAdd fSub
      rw [Int.neg_mul, Int.sub_eq_add_neg]
    have qr : fAdd c d (-a) b = fRsub a b c d := by
      unfold fAdd fRsub
      rw [Int.neg_mul, Int.sub_eq_add_neg]
    have nr : gRev a b c d ≠ 0 := by rw [show gRev a b c d = gMul c d a b from rfl, qg]; exact nz
    obtain ⟨dx, hd⟩ := id hx
    refine ⟨x, dx, _, rfl, hd, hv.ins, x, v, a, b, c, d, rfl, hx, hv, sm, nz, fun z1 H1 s1 i1 => ⟨t1, t2, a, b, c, d, rfl, s1 _ _ h1, s1 _ _ h2, sm, nz, fun t3 H2 s2 g2 => ⟨z1, t3, _, _, rfl, i1.same s2, g2, fun H3 s3 => .inr ⟨rfl, ?_⟩⟩⟩⟩
    have S3 := (s1.trans s2).trans s3
    refine flipO (hx.same S3) (hv.same S3) sm nz qa qg rfl rfl fun z4 H4 s4 i4 => ?_
    have S4 := S3.trans s4
    refine ⟨t1, t2, a, b, c, d, rfl, S4 _ _ h1, S4 _ _ h2, sm, nz, fun t5 H5 s5 g5 => ⟨z4, t5, _, _, rfl, i4.same s5, g5, fun H6 s6 => .inr ⟨rfl, ?_⟩⟩⟩
    have S6 := (S4.trans s5).trans s6
    obtain ⟨dx6, hd6⟩ := hx.same S6
    refine ⟨x, dx6, _, rfl, hd6, (hv.same S6).ins, x, v, a, b, c, d, rfl, hx.same S6, hv.same S6, sm, nz, fun z7 H7 s7 i7 => ?_⟩
    have S7 := S6.trans s7
    refine ⟨t2, c, d, rfl, S7 _ _ h2, fun p8 n8 => ?_⟩
    have S8 := S7.trans (same_upd (o := .tup [.int (-c), .int d]) n8)
    refine ⟨t1, p8, a, b, -c, d, rfl, S8 _ _ h1, upd_same, smc, nz, fun t9 H9 s9 g9 => ?_⟩
    rw [qs] at g9
    refine ⟨z7, t9, _, _, rfl, (i7.same (same_upd n8)).same s9, g9, fun H10 s10 => .inr ⟨rfl, ?_⟩⟩
    have S10 := (S8.trans s9).trans s10
    refine flipO (hx.same S10) (hv.same S10) sm nr rfl rfl rfl rfl fun z11 H11 s11 i11 => ?_
    have S11 := S10.trans s11
    refine ⟨t1, a, b, rfl, S11 _ _ h1, fun p12 n12 => ?_⟩
    have S12' := S11.trans (same_upd (o := .tup [.int (-a), .int b]) n12)
    refine ⟨t2, p12, c, d, -a, b, rfl, S12' _ _ h2, upd_same, sma, nr, fun t13 H13 s13 g13 => ?_⟩
    rw [qr] at g13
    refine ⟨z11, t13, _, _, rfl, (i11.same (same_upd n12)).same s13, g13, fun H14 s14 => .inr ⟨rfl, ?_⟩⟩
    have S14 := (S12'.trans s13).trans s14
    obtain ⟨dx14, hd14⟩ := hx.same S14
    refine ⟨x, dx14, _, rfl, hd14, (hv.same S14).ins, x, v, a, b, c, d, rfl, hx.same S14, hv.same S14, sm, nz, fun z15 H15 s15 i15 => ?_⟩
    have S15 := S14.trans s15
    refine ⟨t1, t2, a, b, c, d, rfl, S15 _ _ h1, S15 _ _ h2, sm, nz, fun t16 H16 s16 g16 => ⟨z15, t16, _, _, rfl, i15.same s16, g16, fun H17 s17 => .inr ⟨rfl, ?_⟩⟩⟩
    have S17 := (S15.trans s16).trans s17
    refine flipO (hx.same S17) (hv.same S17) sm nz qm qg rfl rfl fun z18 H18 s18 i18 => ?_
    have S18 := S17.trans s18
    refine ⟨t1, t2, a, b, c, d, rfl, S18 _ _ h1, S18 _ _ h2, sm, nz, fun t19 H19 s19 g19 => ⟨z18, t19, _, _, rfl, i18.same s19, g19, fun H20 s20 => .inr ⟨rfl, ?_⟩⟩⟩
    have S20 := (S18.trans s19).trans s20
    obtain ⟨dx20, hd20⟩ := hx.same S20
    refine ⟨x, dx20, _, rfl, hd20, x, a, b, rfl, hx.same S20, bn, bb, fun z21 H21 s21 i21 => ?_⟩
    have S21 := S20.trans s21
    have ln : Low (fNeg a) b := ⟨l1.1, by unfold fNeg; rw [Int.neg_gcd]; exact l1.2⟩
    rw [(lo_low ln).1, (lo_low ln).2] at i21
    refine ⟨t1, a, b, rfl, S21 _ _ h1, fun p22 n22 => ?_⟩
    have S22 := S21.trans (same_upd (o := .tup [.int (-a), .int b]) n22)
    refine ⟨z21, p22, _, _, rfl, i21.same (same_upd n22), upd_same, fun H23 s23 => .inr ⟨rfl, ?_⟩⟩
    have S23 := S22.trans s23
    obtain ⟨dx23, hd23⟩ := hx.same S23
    refine ⟨x, dx23, _, rfl, hd23, x, a, b, rfl, hx.same S23, bn, bb, fun z24 H24 s24 i24 => ?_⟩
    have S24 := S23.trans s24
    have la : Low (fAbs a) b := ⟨l1.1, by unfold fAbs; split; (rw [Int.neg_gcd]; exact l1.2); exact l1.2⟩
    rw [(lo_low la).1, (lo_low la).2] at i24
    simp -dsimp [tSeq, tAsg, tRet, tIfS, tIf, tTest, tVar, tCons, tNil, tC, tOp, tUn, rI, rI0, rU, tCB, tLst_A, tTup_A, gName, L2.start, CMul, CPow, CDiv, tDrop, tBM, tBM0, tNext, tPar, gSub, rSetL, rIxL, rIxT, tChain, tB, tNot, tNotV, tAnd, tOr, tAndV, tOrV, tFld, tCall, rIxLH, rIxTH, atI, ixN, upd_same, cxK, ex2, ex3, ex3b, rIs1, rIs2, rNe2, tyN, kb1, kb2, kb3, kb4, kb5, kb6, rEq, rNe, scal, tMake_S, tMakeK_S, tMakeN_S, S24 _ _ h1]
    refine ⟨le2, Alloc.of fun p25 H25 n25 e25 s25 => ?_⟩
    have S25 := S24.trans s25
    refine ⟨z24, p25, _, _, rfl, i24.same s25, e25, fun H26 s26 => .inr ⟨rfl, ?_⟩⟩
    have S26 := S25.trans s26
    by_cases hc : c = 0
    · subst hc
      refine .inr ⟨x, v, a, b, d, rfl, hx.same S26, hv.same S26, fun H27 s27 => ?_⟩
      have S27 := S26.trans s27
      simp -dsimp [tSeq, tAsg, tRet, tIfS, tIf, tTest, tVar, tCons, tNil, tC, tOp, tUn, rI, rI0, rU, tCB, tLst_A, tTup_A, gName, L2.start, CMul, CPow, CDiv, tDrop, tBM, tBM0, tNext, tPar, gSub, rSetL, rIxL, rIxT, tChain, tB, tNot, tNotV, tAnd, tOr, tAndV, tOrV, tFld, tCall, rIxLH, rIxTH, atI, ixN, upd_same, cxK, ex2, ex3, ex3b, rIs1, rIs2, rNe2, tyN, kb1, kb2, kb3, kb4, kb5, kb6, rEq, rNe, scal, tMake_S, tMakeK_S, tMakeN_S, S27 _ _ h1, S27 _ _ h2]
      exact ⟨a, rfl, fun H28 s28 => q H28 (S27.trans s28)⟩
    · have nd : gDiv a b c d ≠ 0 := Int.mul_ne_zero bn hc
      refine .inl ⟨x, v, a, b, c, d, rfl, hx.same S26, hv.same S26, sm, nd, fun z27 H27 s27 i27 => ?_⟩
      have S27 := S26.trans s27
      simp -dsimp [tSeq, tAsg, tRet, tIfS, tIf, tTest, tVar, tCons, tNil, tC, tOp, tUn, rI, rI0, rU, tCB, tLst_A, tTup_A, gName, L2.start, CMul, CPow, CDiv, tDrop, tBM, tBM0, tNext, tPar, gSub, rSetL, rIxL, rIxT, tChain, tB, tNot, tNotV, tAnd, tOr, tAndV, tOrV, tFld, tCall, rIxLH, rIxTH, atI, ixN, upd_same, cxK, ex2, ex3, ex3b, rIs1, rIs2, rNe2, tyN, kb1, kb2, kb3, kb4, kb5, kb6, rEq, rNe, scal, tMake_S, tMakeK_S, tMakeN_S, S27 _ _ h1, S27 _ _ h2, hc, h_lt_M sm.1, h_lt_M sm.2.1, h_lt_M sm.2.2.1, h_lt_M sm.2.2.2]
      exact ⟨_, _, rfl, nd, gDiv9 sm, fun p28 n28 => ⟨z27, p28, _, _, rfl, i27.same (same_upd n28), upd_same, fun H29 s29 => q H29 ((S27.trans (same_upd n28)).trans s29)⟩⟩
end
/-! ### the law -/
/-- all but what stands at l is kept -/
def SameN (l : Addr) (H H' : Hp) : Prop := ∀ b o, b ≠ l → H b = some o → H' b = some o
theorem SameN.of {l : Addr} {H H' : Hp} (h : Same H H') : SameN l H H' := fun b o _ e => h b o e
theorem SameN.trans {l : Addr} {H1 H2 H3 : Hp} (h : SameN l H1 H2) (k : SameN l H2 H3) : SameN l H1 H3 := fun b o n e => k b o n (h b o n e)
theorem SameN.upd {l : Addr} {H : Hp} {o : HO} : SameN l H (upd H l o) := fun b u n e => by rw [upd_ne n]; exact e
theorem SameN.tup {l t : Addr} {H H' : Hp} {d0 d1 d2 : Int} {xs : List V} (s : SameN l H H') (hl : H l = some (draws d0 d1 d2)) (ht : H t = some (.tup xs)) : H' t = some (.tup xs) := s _ _ (fun e => by rw [e, hl] at ht; cases ht) ht
theorem SameN.sh {K : PySem.W.Frag} {l y : Addr} {H H' : Hp} {d0 d1 d2 c d : Int} (s : SameN l H H') (hl : H l = some (draws d0 d1 d2)) (h : IsSh K H y c d) : IsSh K H' y c d := by
  obtain ⟨dy, h⟩ := h
  exact ⟨dy, s _ _ (fun e => by rw [e, hl] at h; cases h) h⟩
theorem SameN.nu {K : PySem.W.Frag} {l : Addr} {v : V} {H H' : Hp} {d0 d1 d2 c d : Int} (s : SameN l H H') (hl : H l = some (draws d0 d1 d2)) (h : Nu K H v c d) : Nu K H' v c d := by
  rcases h with ⟨y, e, h⟩ | h
  · exact .inl ⟨y, e, s.sh hl h⟩
  · exact .inr h
section
variable {P : Program} {w : World} {K : PySem.W.Frag} {mg : Str → Option Value} {base : Heap}
abbrev CXL (_ : Program) (_ : World) : CXT := CX0
def lawK : Nat := 7
def spLaw (K : PySem.W.Frag) : Sp := fun vs H Q _ => ∃ (a : Addr) (ns : List Int), vs = [.ref a] ∧ SqL K H a (ns.map V.int) ∧ ns.length ≤ 63 ∧ ∀ H', Q (.bl true) H'
theorem hCX {P : Program} {w : World} : ∀ (H : Hp) (s : Shared) (e : Value) (s' : Shared), CXL P w [] H s (fun _ _ _ => False) e s' → False := fun _ _ _ _ z => z
theorem scLaw : FnScope ["_law_script", "_law_total", "_law_sum_due", "_law_turn", "_law_draws", "_law_number", "_law_part", "_law_other", "_law_due", "_law_share"] ["_law_script"] d_law.scope := ⟨rfl, rfl, rfl, by decide +kernel, rfl, by decide +kernel, by decide +kernel⟩
/-- the running total ahead of turn i -/
def Tot (K : PySem.W.Frag) (i : Nat) (H : Hp) (tt ts : Addr) : Prop := ∃ p q : Int, IsSh K H tt p q ∧ H ts = some (.tup [.int p, .int q]) ∧ Low p q ∧ p.natAbs < 2 ^ (41 * i + 1) ∧ q.natAbs < 2 ^ (41 * i + 1)
theorem le4 : 4 ≤ sizeLine := by decide
theorem tot_add {H0 G : Hp} {tt ts uN : Addr} {vN : V} {p q c d : Int} {i : Nat} (hi : i < 9) (h0 : Same H0 G) (it : IsSh K G tt p q) (et : G ts = some (.tup [.int p, .int q])) (lt : Low p q) (bp : p.natAbs < 2 ^ (41 * i + 1)) (bq : q.natAbs < 2 ^ (41 * i + 1))
    (jN : Nu K G vN c d) (gN : G uN = some (.tup [.int c, .int d])) (lN : Low c d) (bc : c.natAbs < 1000000000000) (bd : d.natAbs < 1000000000000) :
    rBinL (He.ga K "Share") (fun vs H Q E => spBin K fAdd gMul vs H Q E) E0 (.ref tt) vN G fun x H1 => spPair fAdd gMul [.ref ts, .ref uN] H1 (fun x3 H1 => ∃ (tt ts : Addr), (x = .ref tt ∧ x3 = .ref ts) ∧ Same H0 H1 ∧ Tot K (i + 1) H1 tt ts) E0 := by
  have hB : 2 ^ (41 * i + 1) ≤ bigH := by
    unfold bigH
    exact Nat.pow_le_pow_right (by decide) (by omega)
  have sm : Sm p q c d := ⟨Nat.lt_of_lt_of_le bp hB, Nat.lt_of_lt_of_le bq hB, h_of (Nat.lt_trans bc (by decide)), h_of (Nat.lt_trans bd (by decide))⟩
  have nz := nz2 lt lN
  have e2 : 2 ^ (41 * (i + 1) + 1) = 2 ^ (41 * i + 1) * 2199023255552 := by
    rw [show 41 * (i + 1) + 1 = (41 * i + 1) + 41 by omega, Nat.pow_add]
  have bA : (fAdd p q c d).natAbs < 2 ^ (41 * (i + 1) + 1) ∧ (gMul p q c d).natAbs < 2 ^ (41 * (i + 1) + 1) := by
    rw [e2]
    generalize 2 ^ (41 * i + 1) = B at *
    have u1 : (p * d).natAbs < B * 1000000000000 := by
      rw [Int.natAbs_mul]
      exact Nat.mul_lt_mul'' bp bd
    have u2 : (c * q).natAbs < B * 1000000000000 := by
      rw [Int.natAbs_mul, Nat.mul_comm]
      exact Nat.mul_lt_mul'' bq bc
    have u3 : (q * d).natAbs < B * 1000000000000 := by
      rw [Int.natAbs_mul]
      exact Nat.mul_lt_mul'' bq bd
    unfold fAdd gMul
    omega
  obtain ⟨dt, hdt⟩ := id it
  refine ⟨tt, dt, _, rfl, hdt, jN.ins, tt, vN, p, q, c, d, rfl, it, jN, sm, nz, fun z4 K5 u5 i5 => ⟨ts, uN, p, q, c, d, rfl, u5 _ _ et, u5 _ _ gN, sm, nz, fun t6 K6 u6 g6 => ⟨z4, t6, ⟨rfl, rfl⟩, (h0.trans u5).trans u6, _, _, i5.same u6, g6, low_lo nz, low_le nz bA.1 bA.2⟩⟩⟩
theorem ok_law (W : Wd K mg) (hP : SupX.PrgOk P) {fd : FuncData} (F : FunD K d_law.name d_law.qual d_law.params d_law.body d_law.scope (d_law.dvs K) (d_law.kws K) (He.fAd K d_law.at_) fd) : FnOk P w K mg base (CXL P w) lawK (He.ga K "law") fd ["_law_script"] (spLaw K) := by
  obtain ⟨fdSo, GSo, bSo⟩ := ok_source (P := P) (w := w) (base := base) W
  obtain ⟨fdD, GD, bD⟩ := ok_draw (P := P) (w := w) (base := base) W
  obtain ⟨fdR, GR, bR⟩ := ok_ratio (P := P) (w := w) (base := base) W
  obtain ⟨fdI, GI, bI⟩ := ok_minus (P := P) (w := w) (base := base) W
  obtain ⟨fdT, GT, bT⟩ := ok_totals (P := P) (w := w) (base := base) W
  obtain ⟨fdG, GG, bG⟩ := ok_right (P := P) (w := w) (base := base) W hP
  obtain ⟨fdS, GS, bS⟩ := ok_isShare (P := P) (w := w) (base := base) W
  obtain ⟨fdU, GU, bU⟩ := ok_sum (P := P) (w := w) (base := base) W
  obtain ⟨fdA, GA, bA⟩ := ok_add (P := P) (w := w) (base := base) W
  obtain ⟨fdN, GN, bN⟩ := ok_neg (P := P) (w := w) (base := base) W
  obtain ⟨fdH, GH, FH⟩ := ok_init (P := P) (w := w) (base := base) W
  have kSo : PySem.W.keepIn K (.ref (He.ga K "_law_source")) = true := by obtain ⟨fd, F⟩ := W.F_source; exact F.kp
  have kD : PySem.W.keepIn K (.ref (He.ga K "_law_draw")) = true := by obtain ⟨fd, F⟩ := W.F_draw; exact F.kp
  have kR : PySem.W.keepIn K (.ref (He.ga K "_law_ratio")) = true := by obtain ⟨fd, F⟩ := W.F_ratio; exact F.kp
  have kI : PySem.W.keepIn K (.ref (He.ga K "_law_minus")) = true := by obtain ⟨fd, F⟩ := W.F_minus; exact F.kp
  have kT : PySem.W.keepIn K (.ref (He.ga K "_law_totals")) = true := by obtain ⟨fd, F⟩ := W.F_totals; exact F.kp
  have kG : PySem.W.keepIn K (.ref (He.ga K "_law_right")) = true := by obtain ⟨fd, F⟩ := W.F_right; exact F.kp
  have kS : PySem.W.keepIn K (.ref (He.ga K "_law_is_share")) = true := by obtain ⟨fd, F⟩ := W.F_is_share; exact F.kp
  have kU : PySem.W.keepIn K (.ref (He.ga K "_law_sum")) = true := by obtain ⟨fd, F⟩ := W.F_sum; exact F.kp
  obtain ⟨ds1, v1, b1⟩ := bind2 FH
  refine F.ok scLaw (fun vs H Q E h => ?_) (fun cdv A outer s H vs Q E hr h => ?_)
  · obtain ⟨a, ns, rfl, _⟩ := h
    rfl
  · obtain ⟨a, ns, rfl, hS, hlen, q⟩ := h
    have r1 : Room 1 _ := hr.mono (by decide)
    have r2 : Room 2 _ := hr.mono (by decide)
    have r3 : Room 3 _ := hr.mono (by decide)
    have r4 : Room 4 _ := hr.mono (by decide)
    have r5 : Room 5 _ := hr.mono (by decide)
    refine ⟨_, PSs.nox (pss_cons (ps_par (i := 1) (j := 2) rfl scLaw.nd rfl rfl (by decide) rfl rfl (pa_cons (pe_make W.mkr_Share GH r3 rfl W.g_Share b1 v1 pass0 (pa_cons pe_int pa_nil)) (pa_cons (pe_tup (pa_cons pe_int (pa_cons pe_int pa_nil))) pa_nil)) rfl)
      (pss_cons (ps_for PassesOwn.never rfl (pi_range1 rfl W.f_range (pa_cons pe_int pa_nil)) (pg_name (i := 3) scLaw.nd rfl (Or.inl rfl))
        (pss_cons (ps_set (i := 4) scLaw.nd rfl (Or.inl rfl) (pe_call GSo r1 rfl W.g_law_source kSo bSo .nil pass0 (pa_cons (pv 0) (pa_cons (pv 3) pa_nil))))
        (pss_cons (ps_asg (pe_call GR r4 rfl W.g_law_ratio kR bR .nil pass0 (pa_cons (pv 4) pa_nil)) (pg_tup rfl (pgs_cons (pg_name (i := 5) scLaw.nd rfl (Or.inl rfl)) (pgs_cons (pg_name (i := 6) scLaw.nd rfl (Or.inl rfl)) pgs_nil))))
        (pss_cons (ps_asg (pe_call GR r4 rfl W.g_law_ratio kR bR .nil pass0 (pa_cons (pv 4) pa_nil)) (pg_tup rfl (pgs_cons (pg_name (i := 7) scLaw.nd rfl (Or.inl rfl)) (pgs_cons (pg_name (i := 8) scLaw.nd rfl (Or.inl rfl)) pgs_nil))))
        (pss_cons (ps_set (i := 9) scLaw.nd rfl (Or.inl rfl) (pe_make W.mkr_Share GH r3 rfl W.g_Share (bind3 FH) .nil pass0 (pa_cons (pe_ix ix_tupH (pv 8) pe_int (fun _ _ => rfl)) (pa_cons (pe_ix ix_tupH (pv 8) pe_int (fun _ _ => rfl)) pa_nil))))
        (C8.pss_cut (ps_if (pt_cmpR op_eq (pe_call GD r1 rfl W.g_law_draw kD bD .nil pass0 (pa_cons (pv 4) (pa_cons pe_int pa_nil))) pe_int (nomark _))
          (pss_one (ps_asg (pe_ix ix_lstH (pe_lst (pa_cons (pe_tup (pa_cons pe_int (pa_cons (pe_tup (pa_cons pe_int (pa_cons pe_int pa_nil))) pa_nil)))
              (pa_cons (pe_tup (pa_cons (pe_make W.mkr_Share GH r3 rfl W.g_Share (bind3 FH) .nil pass0 (pa_cons pe_int (pa_cons pe_int pa_nil))) (pa_cons (pe_tup (pa_cons pe_int (pa_cons pe_int pa_nil))) pa_nil)))
              (pa_cons (pe_tup (pa_cons (pv 9) (pa_cons (pv 8) pa_nil)))
              (pa_cons (pe_tup (pa_cons (pe_un (un_own W.m_Share_neg.at_ W.m_Share_neg.fn (FnOk.raw GN bN .nil) r4 pass0) (pv 9)) (pa_cons (pe_call GI r1 rfl W.g_law_minus kI bI .nil pass0 (pa_cons (pv 8) pa_nil)) pa_nil))) pa_nil))))) (pe_op op_mod (pv 3) pe_int) (fun _ _ => rfl))
            (pg_tup rfl (pgs_cons (pg_name (i := 5) scLaw.nd rfl (Or.inl rfl)) (pgs_cons (pg_name (i := 6) scLaw.nd rfl (Or.inl rfl)) pgs_nil))))) pss_nil)
        (pss_cons (ps_if (PW.pt (pw_or (pt_not (pt_val (pe_call GG hr rfl W.g_law_right kG bG .nil pass0 (pa_cons (pv 9) (pa_cons (pv 8) (pa_cons (pv 5) (pa_cons (pv 6) pa_nil)))))))
            (pw_or1 (pt_not (pt_val (pe_call GT r5 rfl W.g_law_totals kT bT .nil pass0 (pa_cons (pv 9) (pa_cons (pv 5) (pa_cons (pv 8) (pa_cons (pv 6) pa_nil)))))))))) (pss_one (ps_ret pe_bl)) pss_nil)
        (pss_cons (ps_if (PW.pt (pw_or (pt_not (pt_val (pe_call GS r3 rfl W.g_law_is_share kS bS .nil pass0 (pa_cons (pv 9) (pa_cons (pv 8) pa_nil)))))
            (pw_or1 (PW.pt (pw_and (pt_val (pe_callB (isi_N W) (by rfl) W.f_isinstance boot_isinstance (pa_cons (pv 5) (pa_cons (pe_glob (v := .ref (He.ga K "Share")) rfl W.g_Share rfl) pa_nil))))
              (pw_and1 (pt_not (pt_val (pe_call GS r3 rfl W.g_law_is_share kS bS .nil pass0 (pa_cons (pv 5) (pa_cons (pv 6) pa_nil))))))))))) (pss_one (ps_ret pe_bl)) pss_nil)
        (pss_one (ps_par (i := 1) (j := 2) rfl scLaw.nd rfl rfl (by decide) rfl rfl (pa_cons (pe_op (op_L W.opAdd (FnOk.raw GA bA .nil) r4 pass0) (pv 1) (pv 5)) (pa_cons (pe_call GU r2 rfl W.g_law_sum kU bU .nil pass0 (pa_cons (pv 2) (pa_cons (pv 6) pa_nil))) pa_nil)) rfl))))))))))
      (pss_one (ps_ret (pe_call GS r3 rfl W.g_law_is_share kS bS .nil pass0 (pa_cons (pv 1) (pa_cons (pv 2) pa_nil))))))), ?_⟩
    simp -dsimp [tSeq, tAsg, tRet, tIfS, tIf, tTest, tVar, tCons, tNil, tC, tOp, tUn, rI, rI0, rU, tCB, tLst_A, tTup_A, gName, L2.start, CMul, CPow, CDiv, tDrop, tBM, tBM0, tNext, tPar, gSub, rSetL, rIxL, rIxT, tChain, tB, tNot, tNotV, tAnd, tOr, tAndV, tOrV, tFld, tCall, rIxLH, rIxTH, atI, ixN, upd_same, cxK, ex2, ex3, ex3b, rIs1, rIs2, rNe2, tyN, kb1, kb2, kb3, kb4, kb5, kb6, rEq, rNe, scal, tMake_S, tMakeK_S, tMakeN_S]
    refine MkS.of rfl (by decide) (by decide +kernel) fun z0 H1 n0 i0 s0 => ?_
    refine ⟨le2, Alloc.of fun ts0 H2 n2 e2 s2 => ?_⟩
    rw [(one_fd 0).1, (one_fd 0).2] at i0
    refine ⟨9, rfl, by decide, by decide, for_range (n := 9) (fun i σ H' => ∃ (tt ts : Addr) (v3 v4 v5 v6 v7 v8 v9 : Option V), σ = [some (.ref a), some (.ref tt), some (.ref ts), v3, v4, v5, v6, v7, v8, v9] ∧ Same H H' ∧ Tot K i H' tt ts) ⟨z0, ts0, none, none, none, none, none, none, none, rfl, s0.trans s2, 0, 1, i0.same s2, e2, low_one 0, by decide, by decide⟩ ?_ ?_⟩
    · rintro i σ H1 hi ⟨tt, ts, v3, v4, v5, v6, v7, v8, v9, rfl, sA, p, q', it, et, lt, bp, bq⟩
      simp -dsimp [tSeq, tAsg, tRet, tIfS, tIf, tTest, tVar, tCons, tNil, tC, tOp, tUn, rI, rI0, rU, tCB, tLst_A, tTup_A, gName, L2.start, CMul, CPow, CDiv, tDrop, tBM, tBM0, tNext, tPar, gSub, rSetL, rIxL, rIxT, tChain, tB, tNot, tNotV, tAnd, tOr, tAndV, tOrV, tFld, tCall, rIxLH, rIxTH, atI, ixN, upd_same, cxK, ex2, ex3, ex3b, rIs1, rIs2, rNe2, tyN, kb1, kb2, kb3, kb4, kb5, kb6, rEq, rNe, scal, tMake_S, tMakeK_S, tMakeN_S]
      refine ⟨a, ns, i, rfl, sA.seq hS, by omega, fun d0 d1 l nl => ?_⟩
      have N1 : SameN l H1 (upd H1 l (draws d0 d1 0)) := .upd
      refine ⟨l, d0, d1, 0, rfl, upd_same, fun e0 e1 e2 pA HA vA uA cA dA sB hpA htA nA lA bcA bdA => tup2 hpA ?_⟩
      have hlA : HA l = some (draws e0 e1 e2) := sB _ _ upd_same
      have N2 : SameN l H1 HA := (N1.trans .upd).trans (.of sB)
      try simp -dsimp [tSeq, tAsg, tRet, tIfS, tIf, tTest, tVar, tCons, tNil, tC, tOp, tUn, rI, rI0, rU, tCB, tLst_A, tTup_A, gName, L2.start, CMul, CPow, CDiv, tDrop, tBM, tBM0, tNext, tPar, gSub, rSetL, rIxL, rIxT, tChain, tB, tNot, tNotV, tAnd, tOr, tAndV, tOrV, tFld, tCall, rIxLH, rIxTH, atI, ixN, upd_same, cxK, ex2, ex3, ex3b, rIs1, rIs2, rNe2, tyN, kb1, kb2, kb3, kb4, kb5, kb6, rEq, rNe, scal, tMake_S, tMakeK_S, tMakeN_S]
      refine ⟨l, e0, e1, e2, rfl, hlA, fun f0 f1 f2 pB HB vB uB cB dB sC hpB htB nB lB bcB bdB => tup2 hpB ?_⟩
      have hlB : HB l = some (draws f0 f1 f2) := sC _ _ upd_same
      have N3' : SameN l HA HB := SameN.upd.trans (.of sC)
      have N3 : SameN l H1 HB := N2.trans N3'
      simp -dsimp [tSeq, tAsg, tRet, tIfS, tIf, tTest, tVar, tCons, tNil, tC, tOp, tUn, rI, rI0, rU, tCB, tLst_A, tTup_A, gName, L2.start, CMul, CPow, CDiv, tDrop, tBM, tBM0, tNext, tPar, gSub, rSetL, rIxL, rIxT, tChain, tB, tNot, tNotV, tAnd, tOr, tAndV, tOrV, tFld, tCall, rIxLH, rIxTH, atI, ixN, upd_same, cxK, ex2, ex3, ex3b, rIs1, rIs2, rNe2, tyN, kb1, kb2, kb3, kb4, kb5, kb6, rEq, rNe, scal, tMake_S, tMakeK_S, tMakeN_S, htB]
      refine MkS.of rfl (Int.ne_of_gt lB.1) (big_of (Nat.lt_trans bdB (by decide))) fun x HC nC iC sD => ?_
      rw [(lo_low lB).1, (lo_low lB).2] at iC
      have hlC : HC l = some (draws f0 f1 f2) := sD _ _ hlB
      have SE : ∀ {G : Hp}, SameN l H1 G → Same H G := fun z b o e => z b o (ne_of_none (sA _ _ e) nl) (sA _ _ e)
      have shE : ∀ {G : Hp}, SameN l H1 G → IsSh K G tt p q' ∧ G ts = some (.tup [.int p, .int q']) := fun z => by
        obtain ⟨dt, hdt⟩ := it
        exact ⟨⟨dt, z _ _ (ne_of_none hdt nl) hdt⟩, z _ _ (ne_of_none et nl) et⟩
      refine ⟨fun σ' G => ∃ (vN : V) (uN : Addr) (cN dN : Int), σ' = [some (.ref a), some (.ref tt), some (.ref ts), some (.int i), some (.ref l), some vN, some (.ref uN), some vB, some (.ref uB), some (.ref x)] ∧ SameN l H1 G ∧ Nu K G vN cN dN ∧ G uN = some (.tup [.int cN, .int dN]) ∧ Low cN dN ∧ cN.natAbs < 1000000000000 ∧ dN.natAbs < 1000000000000 ∧ IsSh K G x cB dB ∧ G uB = some (.tup [.int cB, .int dB]), ?_, ?_⟩
      · simp -dsimp [tSeq, tAsg, tRet, tIfS, tIf, tTest, tVar, tCons, tNil, tC, tOp, tUn, rI, rI0, rU, tCB, tLst_A, tTup_A, gName, L2.start, CMul, CPow, CDiv, tDrop, tBM, tBM0, tNext, tPar, gSub, rSetL, rIxL, rIxT, tChain, tB, tNot, tNotV, tAnd, tOr, tAndV, tOrV, tFld, tCall, rIxLH, rIxTH, atI, ixN, upd_same, cxK, ex2, ex3, ex3b, rIs1, rIs2, rNe2, tyN, kb1, kb2, kb3, kb4, kb5, kb6, rEq, rNe, scal, tMake_S, tMakeK_S, tMakeN_S]
        refine ⟨l, f0, f1, f2, 8, rfl, hlC, by decide, by decide, fun r k0 k1 k2 _ _ => ?_⟩
        have N4 : SameN l H1 (upd HC l (draws k0 k1 k2)) := (N3.trans (.of sD)).trans .upd
        have NA : SameN l HA (upd HC l (draws k0 k1 k2)) := (N3'.trans (.of sD)).trans .upd
        have NB : SameN l HB (upd HC l (draws k0 k1 k2)) := SameN.trans (.of sD) .upd
        have NC : SameN l HC (upd HC l (draws k0 k1 k2)) := .upd
        have gA := NA.tup hlA htA
        have gB := NB.tup hlB htB
        have jA := NA.nu hlA nA
        have jC := NC.sh hlC iC
        generalize upd HC l (draws k0 k1 k2) = G0 at *
        simp -dsimp [tSeq, tAsg, tRet, tIfS, tIf, tTest, tVar, tCons, tNil, tC, tOp, tUn, rI, rI0, rU, tCB, tLst_A, tTup_A, gName, L2.start, CMul, CPow, CDiv, tDrop, tBM, tBM0, tNext, tPar, gSub, rSetL, rIxL, rIxT, tChain, tB, tNot, tNotV, tAnd, tOr, tAndV, tOrV, tFld, tCall, rIxLH, rIxTH, atI, ixN, upd_same, cxK, ex2, ex3, ex3b, rIs1, rIs2, rNe2, tyN, kb1, kb2, kb3, kb4, kb5, kb6, rEq, rNe, scal, tMake_S, tMakeK_S, tMakeN_S]
        split
        · refine ⟨le2, Alloc.of fun q1 G1 m1 w1 y1 => ⟨le2, Alloc.of fun q2 G2 m2 w2 y2 => ?_⟩⟩
          refine MkS.of rfl (by decide) (by decide +kernel) fun z3 G3 m3 w3 y3 => ⟨le2, Alloc.of fun q4 G4 m4 w4 y4 => ⟨le2, Alloc.of fun q5 G5 m5 w5 y5 => ⟨le2, Alloc.of fun q6 G6 m6 w6 y6 => ?_⟩⟩⟩
          have o7 : (0 : Int).fdiv (side 0 7) = 0 ∧ (7 : Int).fdiv (side 0 7) = 1 := by decide
          rw [o7.1, o7.2] at w3
          have Y6 : Same G0 G6 := ((((y1.trans y2).trans y3).trans y4).trans y5).trans y6
          obtain ⟨dxx, hxx⟩ := jC.same Y6
          have ln : Low (fNeg cB) dB := ⟨lB.1, by unfold fNeg; rw [Int.neg_gcd]; exact lB.2⟩
          refine ⟨x, dxx, _, rfl, hxx, x, cB, dB, rfl, jC.same Y6, Int.ne_of_gt lB.1, big_of (Nat.lt_trans bdB (by decide)), fun z7 G7 y7 w7 => ⟨uB, cB, dB, rfl, (Y6.trans y7) _ _ gB, fun q8 m8 => ⟨le2, Alloc.of fun q9 G9 m9 w9 y9 => ⟨le4, Alloc.of fun q10 G10 m10 w10 y10 => ?_⟩⟩⟩⟩
          rw [(lo_low ln).1, (lo_low ln).2] at w7
          have y8 : Same G7 (upd G7 q8 (.tup [.int (-cB), .int dB])) := same_upd m8
          have w8 : upd G7 q8 (.tup [.int (-cB), .int dB]) q8 = some (.tup [.int (-cB), .int dB]) := upd_same
          have Z9 := y10
          have Z8 := y9.trans Z9
          have Z7 := y8.trans Z8
          have Z6 := y7.trans Z7
          have Z5 := y6.trans Z6
          have Z4 := y5.trans Z5
          have Z3 := y4.trans Z4
          have Z2 := y3.trans Z3
          have Z1 := y2.trans Z2
          have N10 : SameN l H1 G10 := N4.trans (.of (Y6.trans Z6))
          have Y10 := Y6.trans Z6
          suffices h : ∃ (vv : V) (pp uu : Addr) (c d : Int), ([.ref q2, .ref q5, .ref q6, .ref q9] : List V)[i % 4]? = some (.ref pp) ∧ G10 pp = some (.tup [vv, .ref uu]) ∧ Nu K G10 vv c d ∧ G10 uu = some (.tup [.int c, .int d]) ∧ Low c d ∧ c.natAbs < 1000000000000 ∧ d.natAbs < 1000000000000 by
            obtain ⟨vv, pp, uu, c, d, hk, hpp, hn, hu, hl, hc, hd⟩ := h
            refine ⟨q10, rfl, _, w10, .ref pp, ?_, tup2 hpp ?_⟩
            · rw [if_pos (by omega), if_pos (by show (i : Int) % 4 < 4; omega)]
              show ([.ref q2, .ref q5, .ref q6, .ref q9] : List V)[((i : Int) % 4).toNat]? = _
              rw [show ((i : Int) % 4).toNat = i % 4 by omega]
              exact hk
            · simp -dsimp [tSeq, tAsg, tRet, tIfS, tIf, tTest, tVar, tCons, tNil, tC, tOp, tUn, rI, rI0, rU, tCB, tLst_A, tTup_A, gName, L2.start, CMul, CPow, CDiv, tDrop, tBM, tBM0, tNext, tPar, gSub, rSetL, rIxL, rIxT, tChain, tB, tNot, tNotV, tAnd, tOr, tAndV, tOrV, tFld, tCall, rIxLH, rIxTH, atI, ixN, upd_same, cxK, ex2, ex3, ex3b, rIs1, rIs2, rNe2, tyN, kb1, kb2, kb3, kb4, kb5, kb6, rEq, rNe, scal, tMake_S, tMakeK_S, tMakeN_S]
              exact ⟨N10, c, d, hn, hu, hl, hc, hd, jC.same Y10, Y10 _ _ gB⟩
          have cs : i % 4 = 0 ∨ i % 4 = 1 ∨ i % 4 = 2 ∨ i % 4 = 3 := by omega
          rcases cs with e | e | e | e <;> rw [e]
          · exact ⟨.int 0, q2, q1, 0, 1, rfl, Z2 _ _ w2, .inr ⟨rfl, rfl⟩, Z1 _ _ w1, low_one 0, by decide, by decide⟩
          · exact ⟨.ref z3, q5, q4, 0, 1, rfl, Z5 _ _ w5, .inl ⟨z3, rfl, w3.same Z3⟩, Z4 _ _ w4, low_one 0, by decide, by decide⟩
          · exact ⟨.ref x, q6, uB, cB, dB, rfl, Z6 _ _ w6, .inl ⟨x, rfl, jC.same Y10⟩, Y10 _ _ gB, lB, bcB, bdB⟩
          · exact ⟨.ref z7, q9, q8, -cB, dB, rfl, Z9 _ _ w9, .inl ⟨z7, rfl, w7.same Z7⟩, Z8 _ _ w8, ln, by rw [Int.natAbs_neg]; exact bcB, bdB⟩
        · exact ⟨N4, cA, dA, jA, gA, lA, bcA, bdA, jC, gB⟩
      · rintro σ' G ⟨vN, uN, cN, dN, rfl, NG, jN, gN, lN, bcN, bdN, jX, gX⟩
        simp -dsimp [tSeq, tAsg, tRet, tIfS, tIf, tTest, tVar, tCons, tNil, tC, tOp, tUn, rI, rI0, rU, tCB, tLst_A, tTup_A, gName, L2.start, CMul, CPow, CDiv, tDrop, tBM, tBM0, tNext, tPar, gSub, rSetL, rIxL, rIxT, tChain, tB, tNot, tNotV, tAnd, tOr, tAndV, tOrV, tFld, tCall, rIxLH, rIxTH, atI, ixN, upd_same, cxK, ex2, ex3, ex3b, rIs1, rIs2, rNe2, tyN, kb1, kb2, kb3, kb4, kb5, kb6, rEq, rNe, scal, tMake_S, tMakeK_S, tMakeN_S]
        obtain ⟨itG, etG⟩ := shE NG
        have s12 : S12 cB dB cN dN := ⟨bcB, bdB, bcN, bdN⟩
        refine ⟨x, vN, uB, uN, cB, dB, cN, dN, rfl, jX, jN, gX, gN, lB, lN, s12, fun K1 u1 => .inr ⟨rfl, ?_⟩⟩
        refine ⟨x, vN, uB, uN, cB, dB, cN, dN, rfl, jX.same u1, jN.same u1, u1 _ _ gX, u1 _ _ gN, lB, lN, s12, fun K2 u2 => .inr ⟨rfl, ?_⟩⟩
        have U2 := u1.trans u2
        refine ⟨x, uB, cB, dB, rfl, jX.same U2, U2 _ _ gX, fun K3 u3 => .inr ⟨rfl, ?_⟩⟩
        have U3 := U2.trans u3
        have jN' := jN
        rcases jN' with ⟨yN, rfl, hyN⟩ | ⟨rfl, rfl⟩
        · refine ⟨_, _, rfl, .inl ⟨yN, cN, dN, rfl, hyN.same U3, .inl ⟨rfl, .inr ⟨rfl, yN, uN, cN, dN, rfl, hyN.same U3, U3 _ _ gN, fun K4 u4 => .inr ⟨rfl, ?_⟩⟩⟩⟩⟩
          have U4 := U3.trans u4
          exact tot_add hi ((SE NG).trans U4) (itG.same U4) (U4 _ _ etG) lt bp bq (jN.same U4) (U4 _ _ gN) lN bcN bdN
        · refine ⟨_, _, rfl, .inr ⟨cN, rfl, .inl ⟨rfl, .inl ⟨rfl, ?_⟩⟩⟩⟩
          exact tot_add hi ((SE NG).trans U3) (itG.same U3) (U3 _ _ etG) lt bp bq (jN.same U3) (U3 _ _ gN) lN bcN bdN
    · rintro σ H' ⟨tt, ts, v3, v4, v5, v6, v7, v8, v9, rfl, sA, p, q', it, et, lt, bp, bq⟩
      simp -dsimp [tSeq, tAsg, tRet, tIfS, tIf, tTest, tVar, tCons, tNil, tC, tOp, tUn, rI, rI0, rU, tCB, tLst_A, tTup_A, gName, L2.start, CMul, CPow, CDiv, tDrop, tBM, tBM0, tNext, tPar, gSub, rSetL, rIxL, rIxT, tChain, tB, tNot, tNotV, tAnd, tOr, tAndV, tOrV, tFld, tCall, rIxLH, rIxTH, atI, ixN, upd_same, cxK, ex2, ex3, ex3b, rIs1, rIs2, rNe2, tyN, kb1, kb2, kb3, kb4, kb5, kb6, rEq, rNe, scal, tMake_S, tMakeK_S, tMakeN_S]
      exact ⟨tt, ts, p, q', rfl, it, et, fun H2 s2 => q H2⟩
end
theorem facts {P : Program} {w : World} {K : PySem.W.Frag} {h : Heap} {mg : Str → Option Value} {f : Addr} (X : K.In h) (G : h.Ns mainGlobals mg) (hfa : mg ("law" : Str) = some (.ref f)) (c : SaysX fa fn sups extra K) (hP : SupX.PrgOk P) :
    ∃ fd : FuncData, (∀ (s : Shared) (v : Value), BindsTo s fd ⟨[v], []⟩ [("_law_script", v)]) ∧ ∀ base : Heap, K.In base → base.Ns mainGlobals mg → FnOk P w K mg base (CXL P w) lawK f fd ["_law_script"] (spLaw K) := by
  have Wq : Wd K mg := ⟨c, h, X, G⟩
  have e := hfa.symm.trans (Wq.g_law)
  cases e
  obtain ⟨fd, F⟩ := Wq.F_law
  have b := FunD.bindsA (ps := ["_law_script"]) F fun _ _ _ _ _ _ us hl => match us, hl with | [_], _ => rfl
  exact ⟨fd, fun s v => b s [v] rfl, fun base _ _ => ok_law Wq hP F⟩
theorem walk {l : PySem.W.OpenLaw} {q : Program} {loose : List Str} {XP : (Str → Option Value) → Heap → Prop} {YP : World → Heap → Prop} {d : DefRec} {K : Params → PySem.W.Frag} (hn : l.most = some 63) (hdf : d.params.defaults = []) (hdn : d.name = "law")
    (hY : ∀ (w : World) (h : Heap), YP w h → (K w.params).In h) (hS : ∀ w : World, SaysX fa fn sups extra (K w.params)) (hP : SupX.PrgOk l.prog) :
    PySem.W.WalkO q loose XP YP l.row.toRowW d [] (fun f vs => PySem.call f vs) :=
  L2.walk_of (n := 63) (k := lawK) (x := "_law_script") (CX := fun w => CXL l.prog w) (sp := fun w => spLaw (K w.params)) hn (by decide) hdf ⟨rfl, by decide, by decide⟩ hY
    (fun w mg fa h KX G hmg => facts KX G (by rw [hdn] at hmg; exact hmg) (hS w) hP) (fun _ _ a ns hl _ hS => ⟨a, ns, rfl, hS, hl, fun _ => rfl⟩) fun _ H s e s' z => hCX H s e s' z
end LW
open PySem PySem.W PyProof.Rows
set_option maxRecDepth 100000 in
set_option maxHeartbeats 0 in
theorem PySem.Challenge.cw_lessways_k32_shares_reckoned_holds : PySem.Challenge.rw_lessways_k32_shares_reckoned.Holds := by
  w_on; o_law; k_head; (case hw => w_witness2)
  k_fill
  exact LW.walk (l := PySem.Challenge.rw_lessways_k32_shares_reckoned) rfl rfl rfl (fun w h Y => PySem.W.kIn_of Y) (fun w => by unfold LW.SaysX; kernel_rfl) ⟨by kernel_rfl, by kernel_rfl⟩
#print axioms PySem.Challenge.cw_lessways_k32_shares_reckoned_holds
