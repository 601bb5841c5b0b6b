import PyProof.Rows.All
import Wide.All
import OpenK.AllK
import Wide.FinOn
import KE.KStateDown
import Lean
import HandS.ForMost
import HandS.ForExc
import HandS.Defaults
import HandS.IsInst
import HandS.Wide
import HandS.Zip
import HandS.Walk
import HandS.Codes
import HandS.FStr
import HandS.StrMore
import HandS.Style
import HandS.MakeKw
import HandS.MakeKwOnly
import HandS.CallSlots
import HandS.ExcInit
import HandS.ExcField
import HandS.SlotsOwn
import KE.KExcSuper
import HandS.HeadHook1
import HandS.HeadHook2
import KE.KCallOwn
import HandS.NestedK
import PySem.Challenge.RW_lessways_k31_shares_made
set_option Elab.async false
set_option linter.all false
set_option maxRecDepth 100000
set_option maxHeartbeats 4000000
namespace LW
open PySem PySem.Spec PyProof.Rows L2
/-! ### super().__init__(text); self.f = p : an own exception's __init__ -/
namespace SupX
open PySem.W
/-- what the written part says of the class at C whose __init__ stands at f -/
structure SupC (P : Program) (K : PySem.W.Frag) (C f cc cda : Addr) (name qual : Str) (st : Stmt) : Prop where
  oex : OexC K C
  lk : ∃ (oc : Value) (od : Option Addr) (doc pm : Value) (an : Option Addr) (ct : Value) (osl : Array (Option Value)), K.lookup f = some ⟨oc, od, .func (PySem.W.ksFn name qual (defArgs st) (defBody st) (defScope st) .none .none doc pm an (.ref cda) ct cc), osl⟩
  code : PySem.W.codeIn K (.ref cda) qual = true
  file : ∃ (ccl : Value) (cdd : Option Addr) (vs : Array Value) (ccs : Array (Option Value)) (file : Str) (tf : Tok), K.lookup cda = some ⟨ccl, cdd, .fields vs, ccs⟩ ∧ vs[2]? = some (.str file tf) ∧ ((P.main.file : Str) == file) = true
  cell : ∃ (cl : Value) (cld : Option Addr) (csl : Array (Option Value)), K.lookup cc = some ⟨cl, cld, .cell (some (.ref C)), csl⟩
  isc : ∃ cd, PySem.W.clsIn K C = some cd
  sub : PySem.W.mroIn K C (.ref C) = some true
  sup : PySem.W.nsIn K mainGlobals "super" = some none
  opq : PySem.W.nsIn K PySem.cStatics "thirdparty.any" = some none
  ini : PySem.W.ks_superIn K C C "__init__" = some (some (.builtin "ValueError.__init__"))
  veb : PySem.W.subIn K (.ref C) (.type "ValueError") = some true
  top : (P.main.scope.names.lookup ("super" : Str)).isSome = false
section
variable {X : Cx} {C f cc cda a : Addr} {name qual : Str} {st : Stmt} {body : List Stmt} {scope : Scope} {H : Hp} {s : Shared} {v : V} {par : Str} {p0 p1 p2 p3 p4 p5 : Pos} {msg : Str} {j : Nat}
theorem super_stmt (T : SupC X.prog X.K C f cc cda name qual st) (henv : X.env = PySem.W.ksEnv qual scope X.env.locals f (.ref cda) cc) (hN0 : X.N[0]? = some ("self" : Str))
    (hks : scope.names.lookup ("super" : Str) = some .globalImplicit) (hkc : scope.names.lookup ("__class__" : Str) = some .free) (hka : scope.names.lookup ("self" : Str) = some .local) (hk : scope.kind = .function)
    (hp : ((defArgs st).posonlyargs ++ (defArgs st).args).head?.map (·.arg) = some ("self" : Str)) {pl : Sem Bool}
    (he : eval (.Call (.Attribute (.Call (.Name "super" p0) [] [] p1) "__init__" p2) [.Constant (.str msg) j p3] [] p4) X.env = (do
      let ov ← attributeBase (.Call (.Name "super" p0) [] [] p1) "__init__" X.env (eval (.Call (.Name "super" p0) [] [] p1) X.env)
      standAt p2.atName
      let (f, first) ← holding [ov] (getMethod ov "__init__" pl)
      callWith p4 f first (backTo p4 (starEach [.Constant (.str msg) j p3] X.env)) []))
    (hsw : swapsWith (.Call (.Attribute (.Call (.Name "super" p0) [] [] p1) "__init__" p2) [.Constant (.str msg) j p3] [] p4) none p5.line X.env = pure false) (hi : interactive X.env = false)
    {σ : List (Option V)} (hσ : σ[0]? = some (some (.ref a))) (I : Inv X [] σ H s) (ha : H a = some (exo a C none)) {Q : Flow → Shared → Prop} (h : ∀ s', Inv X [] σ H s' → Q .next s') :
    _root_.PySem.wpAt (model X.prog X.w) X.A (.func body X.env) (exec (.Expr (.Call (.Attribute (.Call (.Name "super" p0) [] [] p1) "__init__" p2) [.Constant (.str msg) j p3] [] p4) p5) X.env) Q X.xe s := by
  obtain ⟨oc, od, doc, pm, an, ct, osl, lk⟩ := T.lk
  obtain ⟨ccl, cdd, vs, ccs, file, tf, lcd, hvs, hfile⟩ := T.file
  obtain ⟨cl, cld, csl, lcc⟩ := T.cell
  obtain ⟨cd, hcd⟩ := T.isc
  obtain ⟨ar, har, hara⟩ : ∃ ar, ((defArgs st).posonlyargs ++ (defArgs st).args).head? = some ar ∧ ar.arg = "self" := by
    cases e : ((defArgs st).posonlyargs ++ (defArgs st).args).head? with
    | none =>
      rw [e] at hp
      cases hp
    | some ar =>
      rw [e] at hp
      exact ⟨ar, rfl, Option.some.inj hp⟩
  have kX : X.K.In s.heap := I.kIn
  have k4 : X.env.scope.kind = .function := I.ok.kind
  obtain ⟨mb, hb1, hb2⟩ := I.mod.blt
  obtain ⟨m, hns, hl⟩ := I.loc
  have hself : m ("self" : Str) = some (.ref a) := by
    obtain ⟨u, r, l⟩ := hl 0 "self" (.ref a) hN0 hσ (.inl (by rw [henv]; exact hka))
    obtain rfl : u = Value.ref a := r
    rcases l with ⟨_, e⟩ | ⟨e, _⟩
    · exact e
    · rw [henv] at e
      have e2 : scope.names.lookup ("self" : Str) = some .cell ∨ scope.names.lookup ("self" : Str) = some .free := e
      rw [hka] at e2
      rcases e2 with e2 | e2 <;> cases e2
  generalize hL : X.env.locals = L at *
  rw [henv] at he hsw hi ⊢
  obtain ⟨t1, ho⟩ := exo_at I.hok ha
  obtain ⟨oD, hD1, hD2⟩ : ∃ oD, s.heap.get? C = some oD ∧ oD.data = .cls cd := by
    unfold PySem.W.clsIn at hcd
    split at hcd
    · rename_i c d cd' sl hoo
      cases hcd
      exact ⟨_, kX _ _ hoo, rfl⟩
    · cases hcd
  have J0 : PySem.W.InstAt s.heap a { cls := .ref C, dict := none, data := .fields #[.ref t1, .none, .none, .none, .bool false, .none] } C none := ⟨ho, rfl, rfl, trivial⟩
  refine PySem.ks_wpAt_Expr_any (PySem.ks_wpAt_MethodCall (PySem.ks_wpAt_super_base hks hkc rfl rfl (kX _ _ lk) rfl har rfl (kX _ _ lcd) rfl hvs hfile T.top ?_) he) hi hsw
  refine PySem.W.ks_loadName_global hk hks (Calls.loadGlobal_builtin (I.mod.glob.keeps I.bk) (PySem.W.mg_none_of I.mod.kin I.mod.glob T.sup) (hb1.keeps I.bk) ((hb2 _ (by decide)).trans (by decide +kernel : bootBuiltins "super" = some (.type "super"))) ⟨rfl, ?_⟩)
  refine wpAny_loadName_free hk hkc rfl ⟨_, kX _ _ lcc, rfl⟩ ?_
  refine wpAny_loadName_local hk (by rw [hara]; exact hka) hns (by rw [hara]; exact hself) ?_
  refine PySem.ks_wpAny_isType_cls hD1 hD2 ⟨rfl, ?_⟩
  obtain ⟨hh, g, dr, tk, os⟩ := s
  refine PySem.ks_wpAny_call_super hD1 hD2 ho rfl (fun c e => by cases e) (PySem.W.looks_mroIn kX T.sub) (fun h1 e1 kk1 => ?_)
  have I1 : Inv X [] σ H ⟨h1, g, dr, tk, os⟩ := I.kept (t' := tk) kk1
  have ho1 := kk1 _ _ ho
  have kX1 : X.K.In h1 := I1.kIn
  have hI1 : PySem.W.Looks (model X.prog X.w) h1 (isInstance (.ref a) (.type "ValueError")) true := (PySem.W.InstAt.type (M := model X.prog X.w) (show PySem.W.InstAt h1 a { cls := .ref C, dict := none, data := .fields #[.ref t1, .none, .none, .none, .bool false, .none] } C none from ⟨ho1, rfl, rfl, trivial⟩)).andThen (PySem.W.looks_subIn kX1 T.veb)
  have hini := T.ini
  unfold PySem.W.ks_superIn at hini
  rw [hcd] at hini
  refine PySem.W.kxs_getMethod PySem.W.kxs_ValueError e1 (PySem.W.looks_opaque kX1 T.opq) (l₀ := cd.mro) (fun A Q E s k q => wpAny_bind ((PySem.W.looks_clsIn kX1 hcd) A _ E s k (wpAny_pure q))) rfl kX1 hini hI1 (PySem.W.ks_ne kX J0 hcd) rfl ?_
  have kk2 : ∀ b o, h1.get? b = some o → (h1.push (PySem.W.kxs_mw "ValueError.__init__" a)).get? b = some o := fun b o e => Heap.get?_push_of_some _ e
  have hu : (h1.push (PySem.W.kxs_mw "ValueError.__init__" a)).get? h1.objs.size = some (PySem.W.kxs_mw "ValueError.__init__" a) := Heap.get?_push_at rfl rfl
  have I2 : Inv X [] σ H ⟨h1.push (PySem.W.kxs_mw "ValueError.__init__" a), g, dr, tk + 1, os⟩ := I1.kept (t' := tk + 1) kk2
  have hu0 : H h1.objs.size = none := I1.hok.fresh (Nat.le_refl _)
  have I3 : Inv X [(h1.objs.size, PySem.W.kxs_mw "ValueError.__init__" a)] σ H ⟨h1.push (PySem.W.kxs_mw "ValueError.__init__" a), g, dr, tk + 1, os⟩ := ⟨I2.ok, I2.os, I2.bare, I2.base, I2.loc, I2.cell, I2.free, I2.freeC, fun p hp => by
    rcases List.mem_append.mp hp with hp | hp
    · exact I2.pin p (List.mem_append_left _ hp)
    · cases List.mem_singleton.mp hp
      exact ⟨hu, hu0, Nat.ne_of_gt I1.lt, I1.nofs (Nat.le_refl _), fun v e => by cases e⟩, I2.hok, I2.len⟩
  refine PySem.W.kxs_callWith (i := "ValueError.__init__") (x := a) rfl ?_
  rw [show ([.Constant (.str msg) j p3] : List Expr) = .Constant (.str msg) j p3 :: [] from rfl]
  refine Calls.evalArgs_plain ?_
  rw [← henv]
  refine thn ((pa_cons (X := X) (pe_str (x := msg) (j := j) (pos := p3)) pa_nil).run p4 _ _ σ H (fun vs H' => vs = [.str msg] ∧ H' = H) I3 ⟨rfl, rfl⟩) fun us s1 ⟨vs, H', I4, r4, ev, eH⟩ => ?_
  subst ev eH
  have hu4 := (I4.pin (h1.objs.size, PySem.W.kxs_mw "ValueError.__init__" a) (List.mem_append_right _ (List.mem_singleton.mpr rfl))).1
  refine ⟨hu4, ?_⟩
  have I5 : Inv X [] σ H' s1 := Inv.unpinned (pl := [(h1.objs.size, PySem.W.kxs_mw "ValueError.__init__" a)]) I4
  obtain ⟨nm, qn, Nn, bs, bm, sn, sub, ab, col, dd, k0, k1, k2, k3, k5, hC, hbm⟩ := T.oex.cls
  have hC4 := I5.kIn _ _ hC
  obtain ⟨t4, ho4⟩ := exo_at I5.hok ha
  have hlen : us.length ≤ sizeLine := by
    rw [← r4.length]
    show 1 ≤ sizeLine
    decide
  obtain ⟨hh4, g4, d4, tk4, os4⟩ := s1
  refine wpAny_call (codeAny_of_tree ?_)
  show wpAny _ X.A.in1 (callAny (.ref h1.objs.size) ⟨[] ++ us, []⟩) _ _ _
  rw [List.nil_append]
  simp only [callAny]
  refine wpAny_bind (wpAny_load hu4 ?_)
  simp only [PySem.W.kxs_mw, show (Value.type "method-wrapper" == Value.type "method" || Value.type "method-wrapper" == Value.type "builtin_function_or_method" || Value.type "method-wrapper" == Value.type "method-wrapper") = true by decide, if_true]
  refine PySem.W.KFB.if_so (by decide) ?_
  refine wpAny_bind (PySem.W.check_bound_init F.excBase_ValueError.toExcCallFacts hC4 ho4 rfl ?_)
  refine wpAny_bind (wpAny_pure (wpAny_pure ?_))
  refine ⟨plainId_quiet F.excBase_ValueError.init.plain _, codeAny_builtin F.excBase_ValueError.initEntry ?_⟩
  refine PySem.W.exc_init_tree (cls := .ref C) (t0 := t4) (dv := none) (c2 := .none) (c3 := .none) (b4 := .bool false) ho4 hlen fun h' k hx _ => ?_
  have J := I5.write (t' := tk4) (x := a) (e := a) (o := exo a C none) (by rw [ha]; exact True.intro) (.inl rfl) k ⟨_, hx⟩ (exo_ok hx)
  have eu : upd H' a (exo a C none) = H' := by
    funext b
    by_cases hb : b = a
    · rw [hb, upd_same, ha]
    · rw [upd_ne hb]
  rw [eu] at J
  exact h _ J
end
section
variable {P : Program} {w : World} {K : PySem.W.Frag} {mg : Str → Option Value} {base : Heap} {CX : CXT} {k : Nat} {C f cc cda : Addr} {name qual : Str} {st : Stmt} {par fld : Str}
/-- the promise of such an __init__ of one parameter -/
def spExc (C : Addr) (fld : Str) : Sp := fun vs H Q _ => ∃ (a : Addr) (v : V), vs = [.ref a, v] ∧ H a = some (exo a C none) ∧ ∀ dx, H dx = none → dx ≠ a → Q .non (upd (upd H dx (exd dx [(fld, v)])) a (exo a C (some dx)))
abbrev nfOf (name qual : Str) (st : Stmt) (cc cda : Addr) : NdefX.NF := ⟨name, qual, defArgs st, defBody st, defScope st, [("__class__", cc)], cda⟩
theorem exc_init (T : SupC P K C f cc cda name qual st) (S : NdefX.NScope ["self", par, "__class__"] ["self", par] ["__class__"] (defScope st)) (hno : PySem.W.findIn K (.ref C) fld = some none)
    (hks : (defScope st).names.lookup ("super" : Str) = some .globalImplicit)
    (hb : ∀ (doc pm ct : Value) (an : Option Addr) (us : List Value), us.length = 2 → bindArgs (PySem.W.ksFn name qual (defArgs st) (defBody st) (defScope st) .none .none doc pm an (.ref cda) ct cc) ⟨us, []⟩ = pure ((["self", par] : List Str).zip us))
    (hp : ((defArgs st).posonlyargs ++ (defArgs st).args).head?.map (·.arg) = some ("self" : Str))
    {p0 p1 p2 p3 p4 p5 p6 p7 p8 p9 : Pos} {msg : Str} {j : Nat}
    (hbody : defBody st = [.Expr (.Call (.Attribute (.Call (.Name "super" p0) [] [] p1) "__init__" p2) [.Constant (.str msg) j p3] [] p4) p5, .Assign [.Attribute (.Name "self" p6) fld p7] (.Name par p8) p9])
    {pl : Env → Sem Bool}
    (he : ∀ env : Env, env.scope = defScope st → eval (.Call (.Attribute (.Call (.Name "super" p0) [] [] p1) "__init__" p2) [.Constant (.str msg) j p3] [] p4) env = (do
      let ov ← attributeBase (.Call (.Name "super" p0) [] [] p1) "__init__" env (eval (.Call (.Name "super" p0) [] [] p1) env)
      standAt p2.atName
      let (f, first) ← holding [ov] (getMethod ov "__init__" (pl env))
      callWith p4 f first (backTo p4 (starEach [.Constant (.str msg) j p3] env)) []))
    (hsw : ∀ env : Env, env.scope = defScope st → swapsWith (.Call (.Attribute (.Call (.Name "super" p0) [] [] p1) "__init__" p2) [.Constant (.str msg) j p3] [] p4) none p5.line env = pure false) (hi : ∀ env : Env, env.scope = defScope st → interactive env = false)
    (hsw2 : ∀ env : Env, env.scope = defScope st → swapsWith (.Name par p8) (some (.Attribute (.Name "self" p6) fld p7)) p9.line env = pure false) (hd1 : (par == ("__debug__" : Str)) = false) (hd2 : (par == ("__classdict__" : Str)) = false) :
    ∃ fd, FnOk P w K mg base CX (k + 1) f fd ["self", par] (spExc C fld) ∧ Binds K fd ["self", par] [] := by
  obtain ⟨oc, od, doc, pm, an, ct, osl, lk⟩ := id T.lk
  obtain ⟨cl, cld, csl, lcc⟩ := id T.cell
  refine ⟨_, ⟨fun vs H Q E h => ?_, fun A outer s H args us vs Q E hr e0 hbd r hsp => ?_⟩, .all (hb doc pm ct an)⟩
  · obtain ⟨a, v, rfl, _⟩ := h
    rfl
  · have KX : K.In s.heap := e0.mod.kin.keeps fun b o e => (e0.bs b o e).1
    have lim : s.heap.NoLimit := e0.mod.nolimit.keeps fun b o e => (e0.bs b o e).1
    obtain ⟨a, v, rfl, ha, q⟩ := hsp
    refine PySem.ks_codeAny_call_defAt (fd := PySem.W.ksFn name qual (defArgs st) (defBody st) (defScope st) .none .none doc pm an (.ref cda) ct cc) (body := defBody st) (binds := (["self", par] : List Str).zip us) hr.depth (KX _ _ lk) rfl lim (PySem.W.codeRec_of KX T.code) rfl hbd S.nocell (fun ⟨n, _⟩ hy => S.par n (List.of_mem_zip hy).1) (fun h₁ hns hk₁ => ?_) S.co S.gen S.kind
    have hl : us.length = 2 := r.length.symm
    have CA : NdefX.CellsAt [("__class__", cc)] ["__class__"] [none] s.heap H := by
      have one : ∀ (y : Str) (c : Addr), ([(("__class__" : Str), cc)] : List (Str × Addr)).lookup y = some c → y = "__class__" ∧ c = cc := fun y c e => by
        by_cases hy : y = "__class__"
        · subst hy
          exact ⟨rfl, (Option.some.inj (show some cc = some c from e)).symm⟩
        · have hy2 : (y == ("__class__" : Str)) = false := by simpa using hy
          rw [List.lookup_cons, hy2] at e
          cases e
      refine ⟨rfl, fun y c e => ?_, fun x y c e1 e2 => (one x c e1).1.trans (one y c e2).1.symm, fun i y hi => ?_⟩
      · obtain ⟨_, rfl⟩ := one y c e
        exact ⟨(e0.bs c _ (e0.mod.kin _ _ lcc)).2, _, _, KX _ _ lcc, rfl⟩
      · match i, hi with
        | 0, hi =>
          cases hi
          exact ⟨cc, rfl, fun v e => by cases e⟩
    have I := NdefX.inv_startN (CX := CX) (mg := mg) (E := E) (F := nfOf name qual st cc cda) (f := f) (tk := s.toks + ((["self", par] : List Str).zip us).length) S hr.hd e0 rfl r CA hns hk₁
    have hself : (defScope st).names.lookup ("self" : Str) = some .local := S.par _ (List.mem_cons_self ..)
    have hpar : (defScope st).names.lookup par = some .local := S.par _ (List.mem_cons_of_mem _ (List.mem_cons_self ..))
    have hcls : (defScope st).names.lookup ("__class__" : Str) = some .free := S.frk _ (List.mem_cons_self ..)
    have hstep : _root_.PySem.wpAt (model P w) (NdefX.ncx CX P w K mg base ["self", par, "__class__"] (nfOf name qual st cc cda) f A outer s H E).A (.func (defBody st) (NdefX.envF (nfOf name qual st cc cda) f s.heap.objs.size)) (execs (defBody st) (NdefX.envF (nfOf name qual st cc cda) f s.heap.objs.size))
        (fun fl s' => CR CX outer P w H s Q E (.ok (.ret (match fl with | .ret v => v | _ => .none))) s') (NdefX.ncx CX P w K mg base ["self", par, "__class__"] (nfOf name qual st cc cda) f A outer s H E).xe
        { s with heap := h₁, toks := s.toks + ((["self", par] : List Str).zip us).length } := by
      have eb : execs (defBody st) (NdefX.envF (nfOf name qual st cc cda) f s.heap.objs.size) = execs [.Expr (.Call (.Attribute (.Call (.Name "super" p0) [] [] p1) "__init__" p2) [.Constant (.str msg) j p3] [] p4) p5, .Assign [.Attribute (.Name "self" p6) fld p7] (.Name par p8) p9] (NdefX.envF (nfOf name qual st cc cda) f s.heap.objs.size) := by rw [hbody]
      rw [eb]
      refine PySem.ks_wpAt_execs_cons (super_stmt (X := NdefX.ncx CX P w K mg base ["self", par, "__class__"] (nfOf name qual st cc cda) f A outer s H E) T rfl rfl hks hcls hself S.kind hp (he _ rfl) (hsw _ rfl) (hi _ rfl) (σ := NdefX.startF ["self", par, "__class__"] [.ref a, v] [none]) rfl I ha (fun s' I' => ?_))
      have d2 : PSs (NdefX.ncx CX P w K mg base ["self", par, "__class__"] (nfOf name qual st cc cda) f A outer s H E) [.Assign [.Attribute (.Name "self" p6) fld p7] (.Name par p8) p9] _ := pss_one (ps_ost (pe_var (i := 0) rfl (.inl hself)) (pe_var (i := 1) rfl (.inl hpar) hd1 hd2) (hsw2 _ rfl))
      refine wpAt_of_wpAny (wpAny_mono (d2.run [] s' _ H { nx := fun _ H' => Q .non H', rt := Q } I' ⟨v, rfl, .ref a, rfl, a, C, rfl, T.oex, hno, .inl ⟨ha, fun dx n ne => q dx n ne⟩⟩) (fun fl s'' hs => ?_) fun e s'' hs => hs)
      cases fl with
      | ret u =>
        obtain ⟨v', σ', H', J, rv, q'⟩ := hs
        exact ⟨v', H', J.os, J.bare, J.base, J.hok, rv, q'⟩
      | next =>
        obtain ⟨σ', H', J, q'⟩ := hs
        exact ⟨.non, H', J.os, J.bare, J.base, J.hok, rfl, q'⟩
      | brk =>
        obtain ⟨_, _, _, q'⟩ := hs
        exact False.elim q'
      | cont =>
        obtain ⟨_, _, _, q'⟩ := hs
        exact False.elim q'
    exact hstep
end
end SupX
/-! ### the facts of such a class as Bools -/
namespace SupX
open PySem.W
def oexB (K : PySem.W.Frag) (C : Addr) : Bool := (match K.lookup C with
  | some ⟨.type "type", _, .cls cd, sl⟩ => (match cd.mro, sl.toList with
    | .ref C' :: bm, [_, _, _, _, some (.builtin n), _] => C' == C && (n == "ValueError.__new__" && (!cd.hasDel && (cd.hasDict && PySem.HandSPX.refsVE bm)))
    | _, _ => false)
  | _ => false) && (He.eqO (PySem.W.findIn K (.ref C) "__setattr__") (some (some (.builtin "object.__setattr__"))) && (decide (PySem.W.subIn K (.ref C) (.type "BaseException") = some true) && (decide (PySem.W.typeIn K (.ref C) = some (.type "type")) && PySem.W.keepIn K (.ref C))))
theorem oexB_ok {K : PySem.W.Frag} {C : Addr} (h : oexB K C = true) : OexC K C := by
  obtain ⟨h1, h⟩ := He.ba h
  obtain ⟨h2, h⟩ := He.ba h
  obtain ⟨h3, h⟩ := He.ba h
  obtain ⟨h4, h5⟩ := He.ba h
  refine ⟨?_, He.eqO_ok h2, of_decide_eq_true h3, of_decide_eq_true h4, h5⟩
  split at h1
  · rename_i dd cd sl ho
    split at h1
    · rename_i C' bm k0 k1 k2 k3 n k5 hm hs
      obtain ⟨g1, h1⟩ := He.ba h1
      obtain ⟨g2, h1⟩ := He.ba h1
      obtain ⟨g3, h1⟩ := He.ba h1
      obtain ⟨g4, g5⟩ := He.ba h1
      have e1 : C' = C := beq_iff_eq.mp g1
      have e2 : n = "ValueError.__new__" := beq_iff_eq.mp g2
      have e3 : cd.hasDel = false := by simpa using g3
      subst e1 e2
      obtain ⟨nm, bs, mro, ns, qn, hd, sn, sub, ab, col, del⟩ := cd
      dsimp only at hm e3 g4
      subst hm e3 g4
      have hsl : sl = #[k0, k1, k2, k3, some (.builtin "ValueError.__new__"), k5] := by
        obtain ⟨l⟩ := sl
        simp only at hs
        rw [hs]
      subst hsl
      exact ⟨nm, qn, ns, bs, bm, sn, sub, ab, col, dd, k0, k1, k2, k3, k5, ho, g5⟩
    · cases h1
  · cases h1
abbrev SpW : Type := Option (Str × Str × Arguments × FuncBody × Scope × Addr × List Str × Addr)
def supW (K : PySem.W.Frag) (f : Addr) : SpW := match K.lookup f with
  | some ⟨_, _, .func fd, _⟩ => some (fd.name, fd.qualname, fd.params, fd.body, fd.scope, fd.globals, fd.closure.map (·.1), fd.builtins)
  | _ => none
def supV (name qual : Str) (st : Stmt) : SpW := some (name, qual, defArgs st, .stmts (defBody st), defScope st, mainGlobals, ["__class__"], builtinsNs)
def supB (K : PySem.W.Frag) (C f : Addr) (qual : Str) : Bool := (match K.lookup f with
  | some ⟨_, _, .func fd, _⟩ => (match fd.code, fd.defaults, fd.kwdefaults, fd.closure with
    | .ref cda, .none, .none, [(_, cc)] => PySem.W.codeIn K (.ref cda) qual && ((match K.lookup cda with
      | some ⟨_, _, .fields vs, _⟩ => (match (vs[2]? : Option Value) with
        | some (Value.str file _) => decide (file = "/claim/cut.py")
        | _ => false)
      | _ => false) && (match K.lookup cc with
      | some ⟨_, _, .cell (some (.ref D)), _⟩ => decide (D = C)
      | _ => false))
    | _, _, _, _ => false)
  | _ => false) && ((PySem.W.clsIn K C).isSome && (decide (PySem.W.mroIn K C (.ref C) = some true) && (He.eqO (PySem.W.nsIn K mainGlobals "super") (some none) && (He.eqO (PySem.W.nsIn K PySem.cStatics "thirdparty.any") (some none) && (He.eqO (PySem.W.ks_superIn K C C "__init__") (some (some (.builtin "ValueError.__init__"))) &&
    decide (PySem.W.subIn K (.ref C) (.type "ValueError") = some true))))))
structure PrgOk (P : Program) : Prop where
  file : P.main.file = "/claim/cut.py"
  top : (P.main.scope.names.lookup ("super" : Str)).isSome = false
theorem supC_of {P : Program} {K : PySem.W.Frag} {C f : Addr} {name qual : Str} {st : Stmt} (hP : PrgOk P) (e : supW K f = supV name qual st) (o : oexB K C = true) (c : supB K C f qual = true) : ∃ cc cda, SupC P K C f cc cda name qual st := by
  obtain ⟨c1, c⟩ := He.ba c
  obtain ⟨c2, c⟩ := He.ba c
  obtain ⟨c3, c⟩ := He.ba c
  obtain ⟨c4, c⟩ := He.ba c
  obtain ⟨c5, c⟩ := He.ba c
  obtain ⟨c6, c7⟩ := He.ba c
  unfold supW at e
  split at c1
  · rename_i oc od fd osl ho
    rw [ho] at e
    split at c1
    · rename_i cda x cc q1 q2 q3 q4
      obtain ⟨d1, c1⟩ := He.ba c1
      obtain ⟨d2, d3⟩ := He.ba c1
      obtain ⟨n1, n2, n3, n4, n5, n6, n7, n8, n9, n10, n11, n12, n13, n14, n15⟩ := fd
      dsimp only at q1 q2 q3 q4
      subst q1 q2 q3 q4
      have e2 : (some (n1, n2, n3, n4, n5, n6, [x], n15) : SpW) = supV name qual st := e
      unfold supV at e2
      simp only [Option.some.injEq, Prod.mk.injEq, List.cons.injEq, and_true] at e2
      obtain ⟨e1, e2, e3, e4, e5, e6, e7, e8⟩ := e2
      subst e1 e2 e3 e4 e5 e6 e7 e8
      refine ⟨cc, cda, ⟨oexB_ok o, ⟨oc, od, _, _, _, _, osl, ho⟩, d1, ?_, ?_, Option.isSome_iff_exists.mp c2, of_decide_eq_true c3, He.eqO_ok c4, He.eqO_ok c5, He.eqO_ok c6, of_decide_eq_true c7, hP.top⟩⟩
      · split at d2
        · rename_i ccl cdd vs ccs h1
          split at d2
          · rename_i file tf h2
            refine ⟨ccl, cdd, vs, ccs, file, tf, h1, h2, ?_⟩
            rw [hP.file, of_decide_eq_true d2]
            exact beq_self_eq_true _
          · cases d2
        · cases d2
      · split at d3
        · rename_i a1 a2 D a3 h1
          have eD : D = C := of_decide_eq_true d3
          subst eD
          exact ⟨a1, a2, a3, h1⟩
        · cases d3
    · cases c1
  · cases c1
end SupX
/-! ### the text by places -/
def top (i : Nat) : Stmt := PySem.Challenge.pw_lessways_k31_shares_made.main.body.getD i (.Pass ⟨0, 0, 0, 0⟩)
abbrev s_divisor : Stmt := top 9
abbrev s_digits : Stmt := top 11
abbrev s_source : Stmt := top 14
abbrev s_draw : Stmt := top 15
abbrev s_same : Stmt := top 16
abbrev s_lowest : Stmt := top 17
abbrev s_minus : Stmt := top 18
abbrev s_is_share : Stmt := top 19
abbrev s_integer : Stmt := top 20
abbrev s_told : Stmt := top 21
abbrev s_refused : Stmt := top 22
abbrev s_law : Stmt := top 23
abbrev s_Share_init : Stmt := inClass (top 12) 0
abbrev s_Share_str : Stmt := inClass (top 12) 15
abbrev s_NoShare_init : Stmt := inClass (top 3) 0
def sups : List (Str × Str × Str × Stmt) := [("NoShare", "__init__", "NoShare.__init__", s_NoShare_init)]
/-! ### the facts by names -/
def d_divisor : He.DefD := ⟨("divisor", none), "divisor", "divisor", defArgs s_divisor, defBody s_divisor, defScope s_divisor, [], []⟩
def d_digits : He.DefD := ⟨("digits", none), "digits", "digits", defArgs s_digits, defBody s_digits, defScope s_digits, [], []⟩
def d_source : He.DefD := ⟨("_law_source", none), "_law_source", "_law_source", defArgs s_source, defBody s_source, defScope s_source, [], []⟩
def d_draw : He.DefD := ⟨("_law_draw", none), "_law_draw", "_law_draw", defArgs s_draw, defBody s_draw, defScope s_draw, [], []⟩
def d_same : He.DefD := ⟨("_law_same", none), "_law_same", "_law_same", defArgs s_same, defBody s_same, defScope s_same, [], []⟩
def d_lowest : He.DefD := ⟨("_law_lowest", none), "_law_lowest", "_law_lowest", defArgs s_lowest, defBody s_lowest, defScope s_lowest, [], []⟩
def d_minus : He.DefD := ⟨("_law_minus", none), "_law_minus", "_law_minus", defArgs s_minus, defBody s_minus, defScope s_minus, [], []⟩
def d_is_share : He.DefD := ⟨("_law_is_share", none), "_law_is_share", "_law_is_share", defArgs s_is_share, defBody s_is_share, defScope s_is_share, [], []⟩
def d_integer : He.DefD := ⟨("_law_integer", none), "_law_integer", "_law_integer", defArgs s_integer, defBody s_integer, defScope s_integer, [], []⟩
def d_told : He.DefD := ⟨("_law_told", none), "_law_told", "_law_told", defArgs s_told, defBody s_told, defScope s_told, [], []⟩
def d_refused : He.DefD := ⟨("_law_refused", none), "_law_refused", "_law_refused", defArgs s_refused, defBody s_refused, defScope s_refused, [], []⟩
def d_law : He.DefD := ⟨("law", none), "law", "law", defArgs s_law, defBody s_law, defScope s_law, [], []⟩
def d_Share_init : He.DefD := ⟨("Share", some "__init__"), "__init__", "Share.__init__", defArgs s_Share_init, defBody s_Share_init, defScope s_Share_init, [.int 1], []⟩
def d_Share_str : He.DefD := ⟨("Share", some "__str__"), "__str__", "Share.__str__", defArgs s_Share_str, defBody s_Share_str, defScope s_Share_str, [], []⟩
def fn : List He.DefD := [d_divisor, d_digits, d_source, d_draw, d_same, d_lowest, d_minus, d_is_share, d_integer, d_told, d_refused, d_law, d_Share_init, d_Share_str]
def fa : List He.Fa := [.glo "divisor", .glo "digits", .glo "_law_source", .glo "_law_draw", .glo "_law_same", .glo "_law_lowest", .glo "_law_minus", .glo "_law_is_share", .glo "_law_integer", .glo "_law_told", .glo "_law_refused", .glo "law", .glo "Share", .glo "NoShare", .free "isinstance", .free "int", .free "bool", .free "abs", .free "len", .free "range", .free "str", .free "list", .free "tuple", .free "all", .free "zip", .free "divmod", .free "super", .cls "Share", .mkr "Share", .noat "Share" "top", .noat "Share" "bottom", .noat "NoShare" "top", .meth "Share" "__str__"]
/-- further facts, as Bools of the written part -/
def extra : List (PySem.W.Frag → Bool) := [fun K => He.eqO (PySem.W.findIn K (.ref (He.ga K "Share")) "__class__") (some (some (.builtin "object.__class__"))),
  fun K => He.eqO (PySem.W.specialIn K (.builtin "object.__class__") "__get__") (some (some (.builtin "getset_descriptor.__get__"))),
  fun K => decide (PySem.W.takesIn K (.builtin "object.__class__") = some true),
  fun K => decide (PySem.W.mroIn K (He.ga K "Share") (.type "object") = some true),
  fun K => decide (PySem.W.kitOne K (.ref (He.ga K "Share")) (.ref (He.ga K "Share")) = some true),
  fun K => SupX.oexB K (He.ga K "NoShare"),
  fun K => SupX.supB K (He.ga K "NoShare") (He.ma K (He.ga K "NoShare") "__init__") "NoShare.__init__",
  fun K => decide (PySem.W.exmOne K (.ref (He.ga K "NoShare")) (.ref (He.ga K "NoShare")) = some true),
  fun K => He.eqO (PySem.W.findIn K (.ref (He.ga K "NoShare")) "__init__") (some (some (.ref (He.ma K (He.ga K "NoShare") "__init__")))) && decide (PySem.W.typeIn K (.ref (He.ma K (He.ga K "NoShare") "__init__")) = some (.type "function")),
  fun K => xfB K (He.ga K "NoShare")]
abbrev AlX : Type := Bool × He.AlD × List SupX.SpW
def obsX (fa : List He.Fa) (fn : List He.DefD) (sp : List (Str × Str × Str × Stmt)) (ex : List (PySem.W.Frag → Bool)) (K : PySem.W.Frag) : AlX := (ex.all fun f => f K, He.obsD fa fn K, sp.map fun d => SupX.supW K (He.fAd K (d.1, some d.2.1)))
def valX (fn : List He.DefD) (sp : List (Str × Str × Str × Stmt)) : AlX := (true, He.valD fn, sp.map fun d => SupX.supV d.2.1 d.2.2.1 d.2.2.2)
def SaysX (fa : List He.Fa) (fn : List He.DefD) (sp : List (Str × Str × Str × Stmt)) (ex : List (PySem.W.Frag → Bool)) (K : PySem.W.Frag) : Prop := obsX fa fn sp ex K = valX fn sp
/-- what every def leans on: the facts, and where the module's names are read -/
structure Wd (K : PySem.W.Frag) (mg : Str → Option Value) : Prop where
  s : SaysX fa fn sups extra K
  X : ∃ h : Heap, K.In h ∧ h.Ns mainGlobals mg
section
variable {K : PySem.W.Frag} {mg : Str → Option Value}
theorem Wd.c (W : Wd K mg) : He.SaysD fa fn K := congrArg (fun z : AlX => z.2.1) W.s
theorem Wd.ex (W : Wd K mg) (i : Nat) {f : PySem.W.Frag → Bool} (h : extra[i]? = some f) : f K = true :=
  List.all_eq_true.mp (show (extra.all fun f => f K) = true from congrArg (fun z : AlX => z.1) W.s) f (List.mem_of_getElem? h)
theorem Wd.glo (W : Wd K mg) (i : Nat) {x : Str} (h : fa[i]? = some (.glo x)) : mg x = some (.ref (He.ga K x)) := by
  obtain ⟨h0, X, G⟩ := W.X
  exact He.glo_ok X G (W.c.fact i h)
theorem Wd.free (W : Wd K mg) (i : Nat) {x : Str} (h : fa[i]? = some (.free x)) : mg x = none := by
  obtain ⟨h0, X, G⟩ := W.X
  exact He.free_ok X G (W.c.fact i h)
theorem Wd.sup (W : Wd K mg) (i : Nat) {d : Str × Str × Str × Stmt} (h : sups[i]? = some d) : SupX.supW K (He.fAd K (d.1, some d.2.1)) = SupX.supV d.2.1 d.2.2.1 d.2.2.2 := by
  have e : sups.map (fun d => SupX.supW K (He.fAd K (d.1, some d.2.1))) = sups.map fun d => SupX.supV d.2.1 d.2.2.1 d.2.2.2 := congrArg (fun z : AlX => z.2.2) W.s
  have e2 : (sups.map (fun d => SupX.supW K (He.fAd K (d.1, some d.2.1))))[i]? = (sups.map fun d => SupX.supV d.2.1 d.2.2.1 d.2.2.2)[i]? := by rw [e]
  rw [List.getElem?_map, List.getElem?_map, h] at e2
  exact Option.some.inj e2
end

theorem Wd.g_divisor {K : PySem.W.Frag} {mg : Str → Option Value} (W : Wd K mg) : mg "divisor" = some (.ref (He.ga K "divisor")) := W.glo 0 rfl
theorem Wd.g_digits {K : PySem.W.Frag} {mg : Str → Option Value} (W : Wd K mg) : mg "digits" = some (.ref (He.ga K "digits")) := W.glo 1 rfl
theorem Wd.g_law_source {K : PySem.W.Frag} {mg : Str → Option Value} (W : Wd K mg) : mg "_law_source" = some (.ref (He.ga K "_law_source")) := W.glo 2 rfl
theorem Wd.g_law_draw {K : PySem.W.Frag} {mg : Str → Option Value} (W : Wd K mg) : mg "_law_draw" = some (.ref (He.ga K "_law_draw")) := W.glo 3 rfl
theorem Wd.g_law_same {K : PySem.W.Frag} {mg : Str → Option Value} (W : Wd K mg) : mg "_law_same" = some (.ref (He.ga K "_law_same")) := W.glo 4 rfl
theorem Wd.g_law_lowest {K : PySem.W.Frag} {mg : Str → Option Value} (W : Wd K mg) : mg "_law_lowest" = some (.ref (He.ga K "_law_lowest")) := W.glo 5 rfl
theorem Wd.g_law_minus {K : PySem.W.Frag} {mg : Str → Option Value} (W : Wd K mg) : mg "_law_minus" = some (.ref (He.ga K "_law_minus")) := W.glo 6 rfl
theorem Wd.g_law_is_share {K : PySem.W.Frag} {mg : Str → Option Value} (W : Wd K mg) : mg "_law_is_share" = some (.ref (He.ga K "_law_is_share")) := W.glo 7 rfl
theorem Wd.g_law_integer {K : PySem.W.Frag} {mg : Str → Option Value} (W : Wd K mg) : mg "_law_integer" = some (.ref (He.ga K "_law_integer")) := W.glo 8 rfl
theorem Wd.g_law_told {K : PySem.W.Frag} {mg : Str → Option Value} (W : Wd K mg) : mg "_law_told" = some (.ref (He.ga K "_law_told")) := W.glo 9 rfl
theorem Wd.g_law_refused {K : PySem.W.Frag} {mg : Str → Option Value} (W : Wd K mg) : mg "_law_refused" = some (.ref (He.ga K "_law_refused")) := W.glo 10 rfl
theorem Wd.g_law {K : PySem.W.Frag} {mg : Str → Option Value} (W : Wd K mg) : mg "law" = some (.ref (He.ga K "law")) := W.glo 11 rfl
theorem Wd.g_Share {K : PySem.W.Frag} {mg : Str → Option Value} (W : Wd K mg) : mg "Share" = some (.ref (He.ga K "Share")) := W.glo 12 rfl
theorem Wd.g_NoShare {K : PySem.W.Frag} {mg : Str → Option Value} (W : Wd K mg) : mg "NoShare" = some (.ref (He.ga K "NoShare")) := W.glo 13 rfl
theorem Wd.f_isinstance {K : PySem.W.Frag} {mg : Str → Option Value} (W : Wd K mg) : mg "isinstance" = none := W.free 14 rfl
theorem Wd.f_int {K : PySem.W.Frag} {mg : Str → Option Value} (W : Wd K mg) : mg "int" = none := W.free 15 rfl
theorem Wd.f_bool {K : PySem.W.Frag} {mg : Str → Option Value} (W : Wd K mg) : mg "bool" = none := W.free 16 rfl
theorem Wd.f_abs {K : PySem.W.Frag} {mg : Str → Option Value} (W : Wd K mg) : mg "abs" = none := W.free 17 rfl
theorem Wd.f_len {K : PySem.W.Frag} {mg : Str → Option Value} (W : Wd K mg) : mg "len" = none := W.free 18 rfl
theorem Wd.f_range {K : PySem.W.Frag} {mg : Str → Option Value} (W : Wd K mg) : mg "range" = none := W.free 19 rfl
theorem Wd.f_str {K : PySem.W.Frag} {mg : Str → Option Value} (W : Wd K mg) : mg "str" = none := W.free 20 rfl
theorem Wd.f_list {K : PySem.W.Frag} {mg : Str → Option Value} (W : Wd K mg) : mg "list" = none := W.free 21 rfl
theorem Wd.f_tuple {K : PySem.W.Frag} {mg : Str → Option Value} (W : Wd K mg) : mg "tuple" = none := W.free 22 rfl
theorem Wd.f_all {K : PySem.W.Frag} {mg : Str → Option Value} (W : Wd K mg) : mg "all" = none := W.free 23 rfl
theorem Wd.f_zip {K : PySem.W.Frag} {mg : Str → Option Value} (W : Wd K mg) : mg "zip" = none := W.free 24 rfl
theorem Wd.f_divmod {K : PySem.W.Frag} {mg : Str → Option Value} (W : Wd K mg) : mg "divmod" = none := W.free 25 rfl
theorem Wd.f_super {K : PySem.W.Frag} {mg : Str → Option Value} (W : Wd K mg) : mg "super" = none := W.free 26 rfl
theorem Wd.cls_Share {K : PySem.W.Frag} {mg : Str → Option Value} (W : Wd K mg) : Cls K (He.ga K "Share") := He.cls_ok (W.c.fact 27 rfl)
theorem Wd.mkr_Share {K : PySem.W.Frag} {mg : Str → Option Value} (W : Wd K mg) : Mk K (He.ga K "Share") (He.ma K (He.ga K "Share") "__init__") := He.mkr_ok (W.c.fact 28 rfl)
theorem Wd.n_Share_top {K : PySem.W.Frag} {mg : Str → Option Value} (W : Wd K mg) : NoAttr K (He.ga K "Share") "top" := He.noat_ok (W.c.fact 29 rfl)
theorem Wd.n_Share_bottom {K : PySem.W.Frag} {mg : Str → Option Value} (W : Wd K mg) : NoAttr K (He.ga K "Share") "bottom" := He.noat_ok (W.c.fact 30 rfl)
theorem Wd.n_NoShare_top {K : PySem.W.Frag} {mg : Str → Option Value} (W : Wd K mg) : NoAttr K (He.ga K "NoShare") "top" := He.noat_ok (W.c.fact 31 rfl)
theorem Wd.m_Share_str {K : PySem.W.Frag} {mg : Str → Option Value} (W : Wd K mg) : Meth K (He.ga K "Share") "__str__" (He.ma K (He.ga K "Share") "__str__") := He.meth_ok (W.c.fact 32 rfl)
theorem Wd.F_divisor {K : PySem.W.Frag} {mg : Str → Option Value} (W : Wd K mg) : ∃ fd, FunD K d_divisor.name d_divisor.qual d_divisor.params d_divisor.body d_divisor.scope (d_divisor.dvs K) (d_divisor.kws K) (He.fAd K d_divisor.at_) fd := W.c.def_ 0 rfl
theorem Wd.F_digits {K : PySem.W.Frag} {mg : Str → Option Value} (W : Wd K mg) : ∃ fd, FunD K d_digits.name d_digits.qual d_digits.params d_digits.body d_digits.scope (d_digits.dvs K) (d_digits.kws K) (He.fAd K d_digits.at_) fd := W.c.def_ 1 rfl
theorem Wd.F_source {K : PySem.W.Frag} {mg : Str → Option Value} (W : Wd K mg) : ∃ fd, FunD K d_source.name d_source.qual d_source.params d_source.body d_source.scope (d_source.dvs K) (d_source.kws K) (He.fAd K d_source.at_) fd := W.c.def_ 2 rfl
theorem Wd.F_draw {K : PySem.W.Frag} {mg : Str → Option Value} (W : Wd K mg) : ∃ fd, FunD K d_draw.name d_draw.qual d_draw.params d_draw.body d_draw.scope (d_draw.dvs K) (d_draw.kws K) (He.fAd K d_draw.at_) fd := W.c.def_ 3 rfl
theorem Wd.F_same {K : PySem.W.Frag} {mg : Str → Option Value} (W : Wd K mg) : ∃ fd, FunD K d_same.name d_same.qual d_same.params d_same.body d_same.scope (d_same.dvs K) (d_same.kws K) (He.fAd K d_same.at_) fd := W.c.def_ 4 rfl
theorem Wd.F_lowest {K : PySem.W.Frag} {mg : Str → Option Value} (W : Wd K mg) : ∃ fd, FunD K d_lowest.name d_lowest.qual d_lowest.params d_lowest.body d_lowest.scope (d_lowest.dvs K) (d_lowest.kws K) (He.fAd K d_lowest.at_) fd := W.c.def_ 5 rfl
theorem Wd.F_minus {K : PySem.W.Frag} {mg : Str → Option Value} (W : Wd K mg) : ∃ fd, FunD K d_minus.name d_minus.qual d_minus.params d_minus.body d_minus.scope (d_minus.dvs K) (d_minus.kws K) (He.fAd K d_minus.at_) fd := W.c.def_ 6 rfl
theorem Wd.F_is_share {K : PySem.W.Frag} {mg : Str → Option Value} (W : Wd K mg) : ∃ fd, FunD K d_is_share.name d_is_share.qual d_is_share.params d_is_share.body d_is_share.scope (d_is_share.dvs K) (d_is_share.kws K) (He.fAd K d_is_share.at_) fd := W.c.def_ 7 rfl
theorem Wd.F_integer {K : PySem.W.Frag} {mg : Str → Option Value} (W : Wd K mg) : ∃ fd, FunD K d_integer.name d_integer.qual d_integer.params d_integer.body d_integer.scope (d_integer.dvs K) (d_integer.kws K) (He.fAd K d_integer.at_) fd := W.c.def_ 8 rfl
theorem Wd.F_told {K : PySem.W.Frag} {mg : Str → Option Value} (W : Wd K mg) : ∃ fd, FunD K d_told.name d_told.qual d_told.params d_told.body d_told.scope (d_told.dvs K) (d_told.kws K) (He.fAd K d_told.at_) fd := W.c.def_ 9 rfl
theorem Wd.F_refused {K : PySem.W.Frag} {mg : Str → Option Value} (W : Wd K mg) : ∃ fd, FunD K d_refused.name d_refused.qual d_refused.params d_refused.body d_refused.scope (d_refused.dvs K) (d_refused.kws K) (He.fAd K d_refused.at_) fd := W.c.def_ 10 rfl
theorem Wd.F_law {K : PySem.W.Frag} {mg : Str → Option Value} (W : Wd K mg) : ∃ fd, FunD K d_law.name d_law.qual d_law.params d_law.body d_law.scope (d_law.dvs K) (d_law.kws K) (He.fAd K d_law.at_) fd := W.c.def_ 11 rfl
theorem Wd.F_Share_init {K : PySem.W.Frag} {mg : Str → Option Value} (W : Wd K mg) : ∃ fd, FunD K d_Share_init.name d_Share_init.qual d_Share_init.params d_Share_init.body d_Share_init.scope (d_Share_init.dvs K) (d_Share_init.kws K) (He.fAd K d_Share_init.at_) fd := W.c.def_ 12 rfl
theorem Wd.F_Share_str {K : PySem.W.Frag} {mg : Str → Option Value} (W : Wd K mg) : ∃ fd, FunD K d_Share_str.name d_Share_str.qual d_Share_str.params d_Share_str.body d_Share_str.scope (d_Share_str.dvs K) (d_Share_str.kws K) (He.fAd K d_Share_str.at_) fd := W.c.def_ 13 rfl
def loose1 : List PySem.Str := ["LessError", "NoShare", "Share", "_law_draw", "_law_integer", "_law_is_share", "_law_lowest", "_law_minus", "_law_refused", "_law_same", "_law_source", "_law_told", "_wall", "digits", "divisor", "excess", "fraction", "is_integer", "is_number", "share_of"]
def loose2 : List PySem.Str := []
abbrev R : PySem.W.OpenRow := PySem.W.OpenLaw.row PySem.Challenge.rw_lessways_k31_shares_made
def lawAt : Nat := 23
def big9 : Nat := 2 ^ 8999
def bigM : Nat := 2 ^ 400000
section
variable {X : Cx}
/-- // by a divisor that is not 0, below 2 ^ 9000 either way -/
theorem op_fdivX : OpR X (binaryOp .FloorDiv) (rI (fun _ j => j ≠ 0 ∧ j.natAbs < big9) fun i j => .int (i.fdiv j)) := opI fun i j _ _ _ _ _ hc q => by
  exact floordiv_int hc.1 q (.inl (PyProof.noPylong_of_log2 (Nat.lt_of_lt_of_le (PySem.Flt.log2_lt_of (by decide) hc.2) (by decide))))
theorem call_intI : CallR X (.type "int") (fun xs H Q => ∃ i, xs = [.int i] ∧ Q (.int i) H) := fun pins s σ H xs us Q I r h => by
  obtain ⟨i, e, q⟩ := h
  exact call_int1 pins s σ H xs us Q I r (.inl ⟨i, e, q⟩)
theorem op_mulX9 : OpR X (binaryOp .Mult) (rI (fun i j => i.natAbs < bigM ∧ j.natAbs < bigM) fun i j => .int (i * j)) := opI fun i j _ _ _ _ _ hc q => by
  refine mul_int q (CMulW.ok (wide_mul hc.1 hc.2 (by omega) (by omega) (by omega)))
end
def rIxLH : R2 := fun x y H Q => ∃ (p : Addr) (xs : List V) (i : Int) (v : V), x = .ref p ∧ y = .int i ∧ H p = some (.lst xs) ∧ atI xs i = some v ∧ Q v H
def rIxTH : R2 := fun x y H Q => ∃ (p : Addr) (xs : List V) (i : Int) (v : V), x = .ref p ∧ y = .int i ∧ H p = some (.tup xs) ∧ atI xs i = some v ∧ Q v H
section
variable {X : Cx}
theorem ix_lstH : IxR X rIxLH := by
  intro value slice pins s σ H x y v u Q I rx ry h hs
  obtain ⟨p, xs, i, z, e1, e2, hp, a, q⟩ := h
  exact ix_list value slice pins s σ H x y v u Q I rx ry ⟨p, xs, i, z, e1, e2, SqL.of hp, a, q⟩ hs
theorem ix_tupH : IxR X rIxTH := by
  intro value slice pins s σ H x y v u Q I rx ry h hs
  obtain ⟨p, xs, i, z, e1, e2, hp, a, q⟩ := h
  exact ix_tup value slice pins s σ H x y v u Q I rx ry ⟨p, xs, i, z, e1, e2, SqT.of hp, a, q⟩ hs
end
theorem cxK {CX : CXT} {P : Program} {w : World} {K : PySem.W.Frag} {mg : Str → Option Value} {base : Heap} {N : List Str} {qual : Str} {scope : Scope} {f : Addr} {cd : Value} {A : Around} {outer : List Env} {s : Shared} {H : Hp} {E : XK} :
    (cxOf CX P w K mg base N qual scope f cd A outer s H E).K = K := rfl
/-- the size of the int in slot i -/
def intAt (i : Nat) (σ : List (Option V)) : Nat := match σ[i]? with
  | some (some (V.int x)) => x.natAbs
  | _ => 0
theorem ex2 {α β : Type} {a : α} {b : β} {P : α → β → Prop} : (∃ x y, (a = x ∧ b = y) ∧ P x y) ↔ P a b := ⟨fun ⟨_, _, ⟨e1, e2⟩, h⟩ => by subst e1 e2; exact h, fun h => ⟨_, _, ⟨rfl, rfl⟩, h⟩⟩
theorem ex3 {α β γ : Type} {a : α} {b : β} {c : γ} {P : α → β → γ → Prop} : (∃ x y z, (a = x ∧ b = y ∧ c = z) ∧ P x y z) ↔ P a b c := ⟨fun ⟨_, _, _, ⟨e1, e2, e3⟩, h⟩ => by subst e1 e2 e3; exact h, fun h => ⟨_, _, _, ⟨rfl, rfl, rfl⟩, h⟩⟩
theorem ex3b {α β γ : Type} {a : α} {b : β} {c : γ} {P : α → β → γ → Prop} : (∃ x y z, (a = x ∧ b = y ∧ z = c) ∧ P x y z) ↔ P a b c := ⟨fun ⟨_, _, _, ⟨e1, e2, e3⟩, h⟩ => by subst e1 e2 e3; exact h, fun h => ⟨_, _, _, ⟨rfl, rfl, rfl⟩, h⟩⟩
universe u
/-- what a is locked with: behind it simp leaves a be -/
structure Lk {α : Sort u} (a : α) : Type
/-- a new object: what follows holds of it and of the heap with it -/
def Alloc (H : Hp) (o : HO) (Q : V → Hp → Prop) (_ : Lk Q := ⟨⟩) : Prop := ∀ p, H p = none → Q (.ref p) (upd H p o)
theorem same_upd {H : Hp} {p : Addr} {o : HO} (h : H p = none) : Same H (upd H p o) := fun b u e => by
  rw [upd_ne (ne_of_none e h)]
  exact e
theorem Alloc.of {H : Hp} {o : HO} {Q : V → Hp → Prop} (h : ∀ p H', H p = none → H' p = some o → Same H H' → Q (.ref p) H') : Alloc H o Q := fun p hp => h p _ hp upd_same (same_upd hp)
theorem tLst_A {t : TA} {σ : List (Option V)} {H : Hp} {Q : V → Hp → Prop} : tLst t σ H Q = t σ H fun xs H1 => xs.length ≤ sizeLine ∧ Alloc H1 (.lst xs) Q := rfl
theorem tTup_A {t : TA} {σ : List (Option V)} {H : Hp} {Q : V → Hp → Prop} : tTup t σ H Q = t σ H fun xs H1 => xs.length ≤ sizeLine ∧ Alloc H1 (.tup xs) Q := rfl
/-! ### the draws -/
section
variable {P : Program} {w : World} {K : PySem.W.Frag} {mg : Str → Option Value} {base : Heap}
def draws (d0 d1 d2 : Int) : HO := .lst [.int d0, .int d1, .int d2]
theorem scSource : FnScope ["_law_script", "_law_at", "_law_cell"] ["_law_script", "_law_at"] d_source.scope := ⟨rfl, rfl, rfl, by decide +kernel, rfl, by decide +kernel, by decide +kernel⟩
def spSource (K : PySem.W.Frag) : Sp := fun vs H Q _ => ∃ (a : Addr) (ns : List Int) (k : Nat), vs = [.ref a, .int k] ∧ SqL K H a (ns.map V.int) ∧ k < 100 ∧ ∀ (d0 d1 : Int) (p : Addr), H p = none → Q (.ref p) (upd H p (draws d0 d1 0))
theorem le3 : 3 ≤ sizeLine := by decide
theorem ok_source (W : Wd K mg) : ∃ fd, FnOk P w K mg base CX0 1 (He.ga K "_law_source") fd ["_law_script", "_law_at"] (spSource K) ∧ Binds K fd ["_law_script", "_law_at"] [] := by
  obtain ⟨fd, F⟩ := W.F_source
  refine ⟨fd, F.ok scSource (fun vs H Q E h => ?_) (fun cdv A outer s H vs Q E hr h => ?_), FunD.bindsN F fun _ _ _ _ _ _ us hl => match us, hl with | [_, _], _ => rfl⟩
  · obtain ⟨a, ns, k, rfl, _⟩ := h
    rfl
  · obtain ⟨a, ns, k, rfl, hS, hk, q⟩ := h
    refine ⟨_, PSs.nox (pss_cons (ps_set (i := 2) scSource.nd rfl (Or.inl rfl) (pe_ifExp (pt_cmpR op_lt (pv 1) (pe_callB call_len_seq (by rfl) W.f_len boot_len (pa_cons (pv 0) pa_nil)) (nomark _)) (pe_ix ix_list (pv 0) (pv 1) (fun _ _ => rfl)) (pe_op op_add (pe_op op_mul pe_int (pv 1)) pe_int)))
      (pss_one (ps_ret (pe_lst (pa_cons (pe_ifExp (pt_cmpR op_ge (pv 2) (pe_op op_pow pe_int pe_int) (nomark _)) (pv 2) pe_int) (pa_cons (pe_op op_mod (pe_callTy call_intI (by rfl) W.f_int (by decide +kernel) (pa_cons (pv 2) pa_nil)) pe_int) (pa_cons pe_int pa_nil))))))), ?_⟩
    simp -dsimp [tSeq, tAsg, tRet, tIfS, tIf, tTest, tVar, tCons, tNil, tC, tOp, tUn, rI, rI0, rU, tCB, tLst_A, tTup_A, gName, L2.start, CMul, CPow, CDiv, tDrop, tBM, tBM0, tNext, tPar, gSub, rSetL, rIxL, rIxT, tChain, tB, tNot, tNotV, tAnd, tOr, tAndV, tOrV, tFld, tCall, rIxLH, rIxTH, ixN, upd_same, cxK, ex2, ex3, ex3b]
    refine ⟨ns.map V.int, .inl hS, ?_⟩
    split
    · rename_i hk'
      obtain ⟨z, hz⟩ : ∃ z : Int, (ns.map V.int)[k]? = some (V.int z) := by
        rw [List.length_map] at hk'
        exact ⟨ns[k], by rw [List.getElem?_map, List.getElem?_eq_getElem hk']; rfl⟩
      refine ⟨_, hS, _, atI_nat hz, ?_⟩
      simp -dsimp [tSeq, tAsg, tRet, tIfS, tIf, tTest, tVar, tCons, tNil, tC, tOp, tUn, rI, rI0, rU, tCB, tLst_A, tTup_A, gName, L2.start, CMul, CPow, CDiv, tDrop, tBM, tBM0, tNext, tPar, gSub, rSetL, rIxL, rIxT, tChain, tB, tNot, tNotV, tAnd, tOr, tAndV, tOrV, tFld, tCall, rIxLH, rIxTH, atI, ixN, upd_same, cxK, ex2, ex3, ex3b]
      split <;> exact ⟨le3, fun p hp => q _ _ p hp⟩
    · split <;> exact ⟨le3, fun p hp => q _ _ p hp⟩
theorem scDraw : FnScope ["_law_draws", "_law_many", "_law_found"] ["_law_draws", "_law_many"] d_draw.scope := ⟨rfl, rfl, rfl, by decide +kernel, rfl, by decide +kernel, by decide +kernel⟩
def spDraw (K : PySem.W.Frag) : Sp := fun vs H Q _ => ∃ (l : Addr) (d0 d1 d2 m : Int), vs = [.ref l, .int m] ∧ H l = some (draws d0 d1 d2) ∧ 0 < m ∧ m.natAbs < 2 ^ 64 ∧ ∀ (r e0 e1 e2 : Int), 0 ≤ r → r < m → Q (.int r) (upd H l (draws e0 e1 e2))
theorem ok_draw (W : Wd K mg) : ∃ fd, FnOk P w K mg base CX0 1 (He.ga K "_law_draw") fd ["_law_draws", "_law_many"] (spDraw K) ∧ Binds K fd ["_law_draws", "_law_many"] [] := by
  obtain ⟨fd, F⟩ := W.F_draw
  refine ⟨fd, F.ok scDraw (fun vs H Q E h => ?_) (fun cdv A outer s H vs Q E hr h => ?_), FunD.bindsN F fun _ _ _ _ _ _ us hl => match us, hl with | [_, _], _ => rfl⟩
  · obtain ⟨a, d0, d1, d2, m, rfl, _⟩ := h
    rfl
  · obtain ⟨l, d0, d1, d2, m, rfl, hl, h0, hm, q⟩ := h
    refine ⟨_, PSs.nox (pss_cons (ps_if (pt_cmpR op_gt (pe_ix ix_lstH (pv 0) pe_int (fun _ _ => rfl)) pe_int (nomark _))
        (pss_cons (ps_set (i := 2) scDraw.nd rfl (Or.inl rfl) (pe_op op_mod (pe_callTy call_intI (by rfl) W.f_int (by decide +kernel) (pa_cons (pe_ix ix_lstH (pv 0) pe_int (fun _ _ => rfl)) pa_nil)) (pv 1)))
        (pss_cons (ps_asg (pe_op op_fdivW (pe_ix ix_lstH (pv 0) pe_int (fun _ _ => rfl)) (pv 1)) (pg_sub (pv 0) pe_int set_list))
        (pss_one (ps_ret (pv 2))))) pss_nil)
      (pss_cons (ps_asg (pe_op op_add (pe_ix ix_lstH (pv 0) pe_int (fun _ _ => rfl)) pe_int) (pg_sub (pv 0) pe_int set_list))
      (pss_cons (ps_asg (pe_op op_mod (pe_callTy call_intI (by rfl) W.f_int (by decide +kernel) (pa_cons (pe_op op_add (pe_op op_add (pe_op op_mul (pe_ix ix_lstH (pv 0) pe_int (fun _ _ => rfl)) pe_int) (pe_op op_mul (pe_ix ix_lstH (pv 0) pe_int (fun _ _ => rfl)) pe_int)) pe_int) pa_nil)) pe_int) (pg_sub (pv 0) pe_int set_list))
      (pss_one (ps_ret (pe_op op_mod (pe_callTy call_intI (by rfl) W.f_int (by decide +kernel) (pa_cons (pe_op op_add (pe_op op_fdiv (pe_ix ix_lstH (pv 0) pe_int (fun _ _ => rfl)) pe_int) (pe_ix ix_lstH (pv 0) pe_int (fun _ _ => rfl))) pa_nil)) (pv 1))))))), ?_⟩
    simp -dsimp [tSeq, tAsg, tRet, tIfS, tIf, tTest, tVar, tCons, tNil, tC, tOp, tUn, rI, rI0, rU, tCB, tLst_A, tTup_A, gName, L2.start, CMul, CPow, CDiv, tDrop, tBM, tBM0, tNext, tPar, gSub, rSetL, rIxL, rIxT, tChain, tB, tNot, tNotV, tAnd, tOr, tAndV, tOrV, tFld, tCall, rIxLH, rIxTH, atI, ixN, upd_same, cxK, ex2, ex3, ex3b, hl, draws]
    split
    · exact ⟨h0, ⟨h0, Nat.lt_of_lt_of_le (PySem.Flt.log2_lt_of (by decide) hm) (by decide)⟩, q _ _ _ _ (Int.emod_nonneg _ (by omega)) (Int.emod_lt_of_pos _ h0)⟩
    · rw [upd_upd]
      exact ⟨h0, q _ _ _ _ (Int.emod_nonneg _ (by omega)) (Int.emod_lt_of_pos _ h0)⟩
end
section
variable {P : Program} {w : World} {K : PySem.W.Frag} {mg : Str → Option Value} {base : Heap}
theorem scInteger : FnScope ["_law_draws", "_law_way", "_law_found"] ["_law_draws"] d_integer.scope := ⟨rfl, rfl, rfl, by decide +kernel, rfl, by decide +kernel, by decide +kernel⟩
def spInteger (K : PySem.W.Frag) : Sp := fun vs H Q _ => ∃ (l : Addr) (d0 d1 d2 : Int), vs = [.ref l] ∧ H l = some (draws d0 d1 d2) ∧ ∀ (r e0 e1 e2 : Int), r.natAbs < 1000000000000 → Q (.int r) (upd H l (draws e0 e1 e2))
theorem ok_integer (W : Wd K mg) : ∃ fd, FnOk P w K mg base CX0 2 (He.ga K "_law_integer") fd ["_law_draws"] (spInteger K) ∧ Binds K fd ["_law_draws"] [] := by
  obtain ⟨fd, F⟩ := W.F_integer
  obtain ⟨fdD, G, bG⟩ := ok_draw (P := P) (w := w) (base := base) W
  have kD : PySem.W.keepIn K (.ref (He.ga K "_law_draw")) = true := by
    obtain ⟨fd, F⟩ := W.F_draw
    exact F.kp
  refine ⟨fd, F.ok scInteger (fun vs H Q E h => ?_) (fun cdv A outer s H vs Q E hr h => ?_), FunD.bindsN F fun _ _ _ _ _ _ us hl => match us, hl with | [_], _ => rfl⟩
  · obtain ⟨a, d0, d1, d2, rfl, _⟩ := h
    rfl
  · obtain ⟨l, d0, d1, d2, rfl, hl, q⟩ := h
    refine ⟨_, PSs.nox (pss_cons (ps_set (i := 1) scInteger.nd rfl (Or.inl rfl) (pe_call G hr rfl W.g_law_draw kD bG .nil pass0 (pa_cons (pv 0) (pa_cons pe_int pa_nil))))
      (pss_cons (ps_if (pt_cmpR op_lt (pv 1) pe_int (nomark _)) (pss_one (ps_ret (pe_op op_sub (pe_call G hr rfl W.g_law_draw kD bG .nil pass0 (pa_cons (pv 0) (pa_cons pe_int pa_nil))) pe_int))) pss_nil)
      (pss_cons (ps_set (i := 2) scInteger.nd rfl (Or.inl rfl) (pe_op op_add (pe_op op_mul (pe_call G hr rfl W.g_law_draw kD bG .nil pass0 (pa_cons (pv 0) (pa_cons (pe_op op_pow pe_int pe_int) pa_nil))) (pe_op op_pow pe_int pe_int)) (pe_call G hr rfl W.g_law_draw kD bG .nil pass0 (pa_cons (pv 0) (pa_cons (pe_op op_pow pe_int pe_int) pa_nil)))))
      (pss_one (ps_ret (pe_ifExp (pt_cmpR op_lt (pv 1) pe_int (nomark _)) (pv 2) (pe_un un_neg (pv 2)))))))), ?_⟩
    simp -dsimp [tSeq, tAsg, tRet, tIfS, tIf, tTest, tVar, tCons, tNil, tC, tOp, tUn, rI, rI0, rU, tCB, tLst_A, tTup_A, gName, L2.start, CMul, CPow, CDiv, tDrop, tBM, tBM0, tNext, tPar, gSub, rSetL, rIxL, rIxT, tChain, tB, tNot, tNotV, tAnd, tOr, tAndV, tOrV, tFld, tCall, rIxLH, rIxTH, atI, ixN, upd_same, cxK, ex2, ex3, ex3b]
    refine ⟨l, d0, d1, d2, 6, rfl, hl, by decide, by decide, fun way e0 e1 e2 w0 w1 => ⟨_, rfl, ?_⟩⟩
    split
    · refine ⟨l, e0, e1, e2, 13, rfl, upd_same, by decide, by decide, fun r f0 f1 f2 r0 r1 => ⟨_, rfl, ?_⟩⟩
      rw [upd_upd]
      exact q _ _ _ _ (by omega)
    · refine ⟨l, e0, e1, e2, 1000000, rfl, upd_same, by decide, by decide, fun r f0 f1 f2 r0 r1 => ⟨_, rfl, ?_⟩⟩
      refine ⟨l, f0, f1, f2, 1000000, rfl, upd_same, by decide, by decide, fun r' g0 g1 g2 s0 s1 => ⟨_, rfl, _, rfl, ?_⟩⟩
      rw [upd_upd, upd_upd]
      split
      · exact q _ _ _ _ (by omega)
      · exact q _ _ _ _ (by omega)
theorem scMinus : FnScope ["_law_one"] ["_law_one"] d_minus.scope := ⟨rfl, rfl, rfl, by decide +kernel, rfl, by decide +kernel, by decide +kernel⟩
def spMinus (K : PySem.W.Frag) : Sp := fun vs H Q _ => ∃ (t : Addr) (a b : Int), vs = [.ref t] ∧ H t = some (.tup [.int a, .int b]) ∧ ∀ p, H p = none → Q (.ref p) (upd H p (.tup [.int (-a), .int b]))
theorem le2 : 2 ≤ sizeLine := by decide
theorem ok_minus (W : Wd K mg) : ∃ fd, FnOk P w K mg base CX0 1 (He.ga K "_law_minus") fd ["_law_one"] (spMinus K) ∧ Binds K fd ["_law_one"] [] := by
  obtain ⟨fd, F⟩ := W.F_minus
  refine ⟨fd, F.ok scMinus (fun vs H Q E h => ?_) (fun cdv A outer s H vs Q E hr h => ?_), FunD.bindsN F fun _ _ _ _ _ _ us hl => match us, hl with | [_], _ => rfl⟩
  · obtain ⟨t, a, b, rfl, _⟩ := h
    rfl
  · obtain ⟨t, a, b, rfl, ht, q⟩ := h
    refine ⟨_, PSs.nox (pss_one (ps_ret (pe_tup (pa_cons (pe_un un_neg (pe_ix ix_tupH (pv 0) pe_int (fun _ _ => rfl))) (pa_cons (pe_ix ix_tupH (pv 0) pe_int (fun _ _ => rfl)) pa_nil))))), ?_⟩
    simp -dsimp [tSeq, tAsg, tRet, tIfS, tIf, tTest, tVar, tCons, tNil, tC, tOp, tUn, rI, rI0, rU, tCB, tLst_A, tTup_A, gName, L2.start, CMul, CPow, CDiv, tDrop, tBM, tBM0, tNext, tPar, gSub, rSetL, rIxL, rIxT, tChain, tB, tNot, tNotV, tAnd, tOr, tAndV, tOrV, tFld, tCall, rIxLH, rIxTH, atI, ixN, upd_same, cxK, ex2, ex3, ex3b, ht]
    exact ⟨le2, q⟩
/-- the sign of the divisor times the greatest common divisor -/
def side (a b : Int) : Int := if b > 0 then (Int.gcd a b : Int) else -(Int.gcd a b : Int)
theorem scLowest : FnScope ["_law_up", "_law_down", "_law_low", "_law_part", "_law_side"] ["_law_up", "_law_down"] d_lowest.scope := ⟨rfl, rfl, rfl, by decide +kernel, rfl, by decide +kernel, by decide +kernel⟩
def spLowest (K : PySem.W.Frag) : Sp := fun vs H Q _ => ∃ (a b : Int), vs = [.int a, .int b] ∧ b ≠ 0 ∧ b.natAbs < big9 ∧ ∀ p, H p = none → Q (.ref p) (upd H p (.tup [.int (a.fdiv (side a b)), .int (b.fdiv (side a b))]))
theorem ok_lowest (W : Wd K mg) : ∃ fd, FnOk P w K mg base CX0 1 (He.ga K "_law_lowest") fd ["_law_up", "_law_down"] (spLowest K) ∧ Binds K fd ["_law_up", "_law_down"] [] := by
  obtain ⟨fd, F⟩ := W.F_lowest
  refine ⟨fd, F.ok scLowest (fun vs H Q E h => ?_) (fun cdv A outer s H vs Q E hr h => ?_), FunD.bindsN F fun _ _ _ _ _ _ us hl => match us, hl with | [_, _], _ => rfl⟩
  · obtain ⟨a, b, rfl, _⟩ := h
    rfl
  · obtain ⟨a, b, rfl, hb, hbb, q⟩ := h
    refine ⟨_, PSs.nox (pss_cons (ps_par (i := 2) (j := 3) rfl scLowest.nd rfl rfl (by decide) rfl rfl (pa_cons (pe_callB call_abs (by rfl) W.f_abs (by decide +kernel) (pa_cons (pe_callTy call_intI (by rfl) W.f_int (by decide +kernel) (pa_cons (pv 0) pa_nil)) pa_nil)) (pa_cons (pe_callB call_abs (by rfl) W.f_abs (by decide +kernel) (pa_cons (pe_callTy call_intI (by rfl) W.f_int (by decide +kernel) (pa_cons (pv 1) pa_nil)) pa_nil)) pa_nil)) rfl)
      (pss_cons (ps_while PassesOwn.never (pt_cmpR op_gt (pv 2) pe_int (nomark _))
        (pss_one (ps_par (i := 2) (j := 3) rfl scLowest.nd rfl rfl (by decide) rfl rfl (pa_cons (pe_op op_mod (pe_callTy call_intI (by rfl) W.f_int (by decide +kernel) (pa_cons (pv 3) pa_nil)) (pv 2)) (pa_cons (pv 2) pa_nil)) rfl)))
      (pss_cons (ps_set (i := 4) scLowest.nd rfl (Or.inl rfl) (pe_ifExp (pt_cmpR op_gt (pv 1) pe_int (nomark _)) (pv 3) (pe_un un_neg (pv 3))))
      (pss_one (ps_ret (pe_tup (pa_cons (pe_op op_fdivX (pv 0) (pv 4)) (pa_cons (pe_op op_fdivX (pv 1) (pv 4)) pa_nil)))))))), ?_⟩
    simp -dsimp [tSeq, tAsg, tRet, tIfS, tIf, tTest, tVar, tCons, tNil, tC, tOp, tUn, rI, rI0, rU, tCB, tLst_A, tTup_A, gName, L2.start, CMul, CPow, CDiv, tDrop, tBM, tBM0, tNext, tPar, gSub, rSetL, rIxL, rIxT, tChain, tB, tNot, tNotV, tAnd, tOr, tAndV, tOrV, tFld, tCall, rIxLH, rIxTH, atI, ixN, upd_same, cxK, ex2, ex3, ex3b]
    refine while_by (fun σ H' => H' = H ∧ ∃ x y : Int, σ = [some (.int a), some (.int b), some (.int x), some (.int y), none] ∧ 0 ≤ x ∧ 0 ≤ y ∧ Int.gcd x y = Int.gcd a b) (fun σ _ => intAt 2 σ) ⟨rfl, _, _, rfl, ?_, ?_, ?_⟩ ?_ ?_
    · split <;> omega
    · split <;> omega
    · split <;> split <;> simp -dsimp [tSeq, tAsg, tRet, tIfS, tIf, tTest, tVar, tCons, tNil, tC, tOp, tUn, rI, rI0, rU, tCB, tLst_A, tTup_A, gName, L2.start, CMul, CPow, CDiv, tDrop, tBM, tBM0, tNext, tPar, gSub, rSetL, rIxL, rIxT, tChain, tB, tNot, tNotV, tAnd, tOr, tAndV, tOrV, tFld, tCall, rIxLH, rIxTH, atI, ixN, upd_same, cxK, ex2, ex3, ex3b]
    · rintro σ H1 ⟨rfl, x, y, rfl, hx, hy, g⟩
      by_cases hp : 0 < x
      · simp -dsimp [tSeq, tAsg, tRet, tIfS, tIf, tTest, tVar, tCons, tNil, tC, tOp, tUn, rI, rI0, rU, tCB, tLst_A, tTup_A, gName, L2.start, CMul, CPow, CDiv, tDrop, tBM, tBM0, tNext, tPar, gSub, rSetL, rIxL, rIxT, tChain, tB, tNot, tNotV, tAnd, tOr, tAndV, tOrV, tFld, tCall, rIxLH, rIxTH, atI, ixN, upd_same, cxK, ex2, ex3, ex3b, hp]
        refine ⟨⟨Int.emod_nonneg _ (by omega), hx, ?_⟩, ?_⟩
        · rw [Int.emod_def, Int.gcd_sub_mul_left_left, Int.gcd_comm, g]
        · have := Int.emod_lt_of_pos y hp
          have := Int.emod_nonneg y (show x ≠ 0 by omega)
          simp -dsimp [tSeq, tAsg, tRet, tIfS, tIf, tTest, tVar, tCons, tNil, tC, tOp, tUn, rI, rI0, rU, tCB, tLst_A, tTup_A, gName, L2.start, CMul, CPow, CDiv, tDrop, tBM, tBM0, tNext, tPar, gSub, rSetL, rIxL, rIxT, tChain, tB, tNot, tNotV, tAnd, tOr, tAndV, tOrV, tFld, tCall, rIxLH, rIxTH, atI, ixN, upd_same, cxK, ex2, ex3, ex3b, intAt]
          omega
      · have x0 : x = 0 := by omega
        subst x0
        have gy : y = (Int.gcd a b : Int) := by
          rw [← g, Int.zero_gcd]
          omega
        have hg0 : 0 < Int.gcd a b := Int.gcd_pos_of_ne_zero_right a hb
        have hgb : (Int.gcd a b) < big9 := Nat.lt_of_le_of_lt (Int.gcd_le_natAbs_right a hb) hbb
        subst gy
        by_cases hb0 : 0 < b
        · have e2 : side a b = (Int.gcd a b : Int) := if_pos hb0
          rw [e2] at q
          simp -dsimp [tSeq, tAsg, tRet, tIfS, tIf, tTest, tVar, tCons, tNil, tC, tOp, tUn, rI, rI0, rU, tCB, tLst_A, tTup_A, gName, L2.start, CMul, CPow, CDiv, tDrop, tBM, tBM0, tNext, tPar, gSub, rSetL, rIxL, rIxT, tChain, tB, tNot, tNotV, tAnd, tOr, tAndV, tOrV, tFld, tCall, rIxLH, rIxTH, atI, ixN, upd_same, cxK, ex2, ex3, ex3b, hb0]
          exact ⟨⟨by omega, by omega⟩, le2, q⟩
        · have e2 : side a b = -(Int.gcd a b : Int) := if_neg hb0
          rw [e2] at q
          simp -dsimp [tSeq, tAsg, tRet, tIfS, tIf, tTest, tVar, tCons, tNil, tC, tOp, tUn, rI, rI0, rU, tCB, tLst_A, tTup_A, gName, L2.start, CMul, CPow, CDiv, tDrop, tBM, tBM0, tNext, tPar, gSub, rSetL, rIxL, rIxT, tChain, tB, tNot, tNotV, tAnd, tOr, tAndV, tOrV, tFld, tCall, rIxLH, rIxTH, atI, ixN, upd_same, cxK, ex2, ex3, ex3b, hb0]
          exact ⟨⟨by omega, by omega⟩, le2, q⟩
    · rintro σ H' Q Q' h ⟨v, e, i, j, e1, e2, k, e3, q⟩
      exact ⟨v, e, i, j, e1, e2, k, e3, h _ _ q⟩
end
section
variable {P : Program} {w : World} {K : PySem.W.Frag} {mg : Str → Option Value} {base : Heap}
theorem scDivisor : FnScope ["one", "other"] ["one", "other"] d_divisor.scope := ⟨rfl, rfl, rfl, by decide +kernel, rfl, by decide +kernel, by decide +kernel⟩
def spDivisor (K : PySem.W.Frag) : Sp := fun vs H Q _ => ∃ (a b : Int), vs = [.int a, .int b] ∧ Q (.int (Int.gcd a b : Int)) H
theorem fmod_lt (x y : Int) (h : y ≠ 0) : (x.fmod y).natAbs < y.natAbs := by
  rcases Int.lt_or_gt_of_ne h with h1 | h1
  · have e := (Int.fdiv_fmod_unique' (a := x) (b := y) (r := x.fmod y) (q := x.fdiv y) h1).mp ⟨rfl, rfl⟩
    omega
  · have e := (Int.fdiv_fmod_unique (a := x) (b := y) (r := x.fmod y) (q := x.fdiv y) h1).mp ⟨rfl, rfl⟩
    omega
theorem ok_divisor (W : Wd K mg) : ∃ fd, FnOk P w K mg base CX0 1 (He.ga K "divisor") fd ["one", "other"] (spDivisor K) ∧ Binds K fd ["one", "other"] [] := by
  obtain ⟨fd, F⟩ := W.F_divisor
  refine ⟨fd, F.ok scDivisor (fun vs H Q E h => ?_) (fun cdv A outer s H vs Q E hr h => ?_), FunD.bindsN F fun _ _ _ _ _ _ us hl => match us, hl with | [_, _], _ => rfl⟩
  · obtain ⟨a, b, rfl, _⟩ := h
    rfl
  · obtain ⟨a, b, rfl, q⟩ := h
    refine ⟨_, PSs.nox (pss_cons (ps_while PassesOwn.never (pt_cmpR op_ne (pv 1) pe_int (nomark _))
        (pss_one (ps_par (i := 0) (j := 1) rfl scDivisor.nd rfl rfl (by decide) rfl rfl (pa_cons (pv 1) (pa_cons (pe_op op_modN (pv 0) (pv 1)) pa_nil)) rfl)))
      (pss_one (ps_ret (pe_callB call_abs (by rfl) W.f_abs (by decide +kernel) (pa_cons (pv 0) pa_nil))))), ?_⟩
    simp -dsimp [tSeq, tAsg, tRet, tIfS, tIf, tTest, tVar, tCons, tNil, tC, tOp, tUn, rI, rI0, rU, tCB, tLst_A, tTup_A, gName, L2.start, CMul, CPow, CDiv, tDrop, tBM, tBM0, tNext, tPar, gSub, rSetL, rIxL, rIxT, tChain, tB, tNot, tNotV, tAnd, tOr, tAndV, tOrV, tFld, tCall, rIxLH, rIxTH, atI, ixN, upd_same, cxK, ex2, ex3, ex3b]
    refine while_by (fun σ H' => H' = H ∧ ∃ x y : Int, σ = [some (.int x), some (.int y)] ∧ Int.gcd x y = Int.gcd a b) (fun σ _ => intAt 1 σ) ⟨rfl, _, _, rfl, rfl⟩ ?_ ?_
    · rintro σ H1 ⟨rfl, x, y, rfl, g⟩
      by_cases hp : y = 0
      · subst hp
        simp -dsimp [tSeq, tAsg, tRet, tIfS, tIf, tTest, tVar, tCons, tNil, tC, tOp, tUn, rI, rI0, rU, tCB, tLst_A, tTup_A, gName, L2.start, CMul, CPow, CDiv, tDrop, tBM, tBM0, tNext, tPar, gSub, rSetL, rIxL, rIxT, tChain, tB, tNot, tNotV, tAnd, tOr, tAndV, tOrV, tFld, tCall, rIxLH, rIxTH, atI, ixN, upd_same, cxK, ex2, ex3, ex3b, rNe, scal]
        rw [Int.gcd_zero] at g
        have : (if x < 0 then -x else x) = (Int.gcd a b : Int) := by
          rw [← g]
          split <;> omega
        rw [this]
        exact q
      · simp -dsimp [tSeq, tAsg, tRet, tIfS, tIf, tTest, tVar, tCons, tNil, tC, tOp, tUn, rI, rI0, rU, tCB, tLst_A, tTup_A, gName, L2.start, CMul, CPow, CDiv, tDrop, tBM, tBM0, tNext, tPar, gSub, rSetL, rIxL, rIxT, tChain, tB, tNot, tNotV, tAnd, tOr, tAndV, tOrV, tFld, tCall, rIxLH, rIxTH, atI, ixN, upd_same, cxK, ex2, ex3, ex3b, rNe, scal, hp]
        refine ⟨?_, ?_⟩
        · rw [Int.fmod_def, Int.gcd_comm, Int.gcd_sub_mul_left_left, g]
        · simp -dsimp [tSeq, tAsg, tRet, tIfS, tIf, tTest, tVar, tCons, tNil, tC, tOp, tUn, rI, rI0, rU, tCB, tLst_A, tTup_A, gName, L2.start, CMul, CPow, CDiv, tDrop, tBM, tBM0, tNext, tPar, gSub, rSetL, rIxL, rIxT, tChain, tB, tNot, tNotV, tAnd, tOr, tAndV, tOrV, tFld, tCall, rIxLH, rIxTH, atI, ixN, upd_same, cxK, ex2, ex3, ex3b, intAt]
          exact fmod_lt x y hp
    · rintro σ H' Q Q' h ⟨v, e, e1, k, e3, q⟩
      exact ⟨v, e, e1, k, e3, h _ _ q⟩
/-- a share: its class, its own dict, its numbers -/
def shareO (C dx : Addr) (t b : Int) : HO := .ins C dx [("top", .int t), ("bottom", .int b)]
theorem scInit : FnScope ["self", "top", "bottom", "common"] ["self", "top", "bottom"] d_Share_init.scope := ⟨rfl, rfl, rfl, by decide +kernel, rfl, by decide +kernel, by decide +kernel⟩
def spInit (K : PySem.W.Frag) : Sp := fun vs H Q _ => ∃ (x dx : Addr) (a b : Int), vs = [.ref x, .int a, .int b] ∧ H x = some (.ins (He.ga K "Share") dx []) ∧ b ≠ 0 ∧ b.natAbs < big9 ∧ Q .non (upd H x (shareO (He.ga K "Share") dx (a.fdiv (side a b)) (b.fdiv (side a b))))
theorem ok_init (W : Wd K mg) : ∃ fd, FnOk P w K mg base CX0 2 (He.ma K (He.ga K "Share") "__init__") fd ["self", "top", "bottom"] (spInit K) ∧ FunD K d_Share_init.name d_Share_init.qual d_Share_init.params d_Share_init.body d_Share_init.scope (d_Share_init.dvs K) (d_Share_init.kws K) (He.fAd K d_Share_init.at_) fd := by
  obtain ⟨fd, F⟩ := W.F_Share_init
  obtain ⟨fdD, G, bG⟩ := ok_divisor (P := P) (w := w) (base := base) W
  have kD : PySem.W.keepIn K (.ref (He.ga K "divisor")) = true := by
    obtain ⟨fd, F⟩ := W.F_divisor
    exact F.kp
  refine ⟨fd, F.ok scInit (fun vs H Q E h => ?_) (fun cdv A outer s H vs Q E hr h => ?_), F⟩
  · obtain ⟨x, dx, a, b, rfl, _⟩ := h
    rfl
  · obtain ⟨x, dx, a, b, rfl, hx, hb, hbb, q⟩ := h
    refine ⟨_, PSs.nox (pss_cons (ps_if (pt_cmpR op_eq (pv 2) pe_int (nomark _)) pss_never pss_nil)
      (pss_cons (ps_set (i := 3) scInit.nd rfl (Or.inl rfl) pe_int)
      (pss_cons (ps_if (pt_cmpR op_ne (pv 2) pe_int (nomark _)) (pss_one (ps_set (i := 3) scInit.nd rfl (Or.inl rfl) (pe_ifExp (pt_cmpR op_gt (pv 2) pe_int (nomark _)) (pe_call G hr rfl W.g_divisor kD bG .nil pass0 (pa_cons (pv 1) (pa_cons (pv 2) pa_nil))) (pe_un un_neg (pe_call G hr rfl W.g_divisor kD bG .nil pass0 (pa_cons (pv 1) (pa_cons (pv 2) pa_nil))))))) pss_nil)
      (pss_cons (ps_fld (pv 0) (pe_op op_fdivX (pv 1) (pv 3)) rfl)
      (pss_one (ps_fld (pv 0) (pe_op op_fdivX (pv 2) (pv 3)) rfl)))))), ?_⟩
    have hg0 : 0 < Int.gcd a b := Int.gcd_pos_of_ne_zero_right a hb
    have hgb : (Int.gcd a b) < big9 := Nat.lt_of_le_of_lt (Int.gcd_le_natAbs_right a hb) hbb
    have n1 : ¬ (Int.gcd a b : Int) = 0 := by omega
    have n3 : ¬ Int.gcd a b = 0 := by omega
    have pf : ∀ (u v : V), putF "bottom" v (putF "top" u []) = [(("top" : Str), u), (("bottom" : Str), v)] := fun u v => by
      show (if ("top" : Str) = "bottom" then [(("top" : Str), v)] else (("top" : Str), u) :: putF "bottom" v []) = _
      rw [if_neg (by decide +kernel)]
      rfl
    have pl : ∀ u : V, (putF "top" u []).length < 1000 := fun u => by
      show 1 < 1000
      decide
    by_cases hb1 : b = 1
    · subst hb1
      have e2 : side a 1 = 1 := by
        show (if (1 : Int) > 0 then (Int.gcd a 1 : Int) else -(Int.gcd a 1 : Int)) = 1
        rw [if_pos (by decide), Int.gcd_one]
        rfl
      rw [e2] at q
      simp -dsimp [tSeq, tAsg, tRet, tIfS, tIf, tTest, tVar, tCons, tNil, tC, tOp, tUn, rI, rI0, rU, tCB, tLst_A, tTup_A, gName, L2.start, CMul, CPow, CDiv, tDrop, tBM, tBM0, tNext, tPar, gSub, rSetL, rIxL, rIxT, tChain, tB, tNot, tNotV, tAnd, tOr, tAndV, tOrV, tFld, tCall, rIxLH, rIxTH, atI, ixN, upd_same, cxK, ex2, ex3, ex3b, rEq, rNe, scal, hx, sFld, W.cls_Share, W.n_Share_top, W.n_Share_bottom, upd_upd, pf, pl]
      rw [Int.fdiv_one, Int.fdiv_one] at q
      exact ⟨hbb, q⟩
    · by_cases hb0 : b < 0
      · have e2 : side a b = -(Int.gcd a b : Int) := if_neg (by omega)
        have hb2 : ¬ 0 < b := by omega
        rw [e2] at q
        simp -dsimp [tSeq, tAsg, tRet, tIfS, tIf, tTest, tVar, tCons, tNil, tC, tOp, tUn, rI, rI0, rU, tCB, tLst_A, tTup_A, gName, L2.start, CMul, CPow, CDiv, tDrop, tBM, tBM0, tNext, tPar, gSub, rSetL, rIxL, rIxT, tChain, tB, tNot, tNotV, tAnd, tOr, tAndV, tOrV, tFld, tCall, rIxLH, rIxTH, atI, ixN, upd_same, cxK, ex2, ex3, ex3b, rEq, rNe, scal, hb, hb1, hb2, hx]
        refine ⟨a, b, rfl, ?_⟩
        simp -dsimp [tSeq, tAsg, tRet, tIfS, tIf, tTest, tVar, tCons, tNil, tC, tOp, tUn, rI, rI0, rU, tCB, tLst_A, tTup_A, gName, L2.start, CMul, CPow, CDiv, tDrop, tBM, tBM0, tNext, tPar, gSub, rSetL, rIxL, rIxT, tChain, tB, tNot, tNotV, tAnd, tOr, tAndV, tOrV, tFld, tCall, rIxLH, rIxTH, atI, ixN, upd_same, cxK, ex2, ex3, ex3b, sFld, hx, W.cls_Share, W.n_Share_top, W.n_Share_bottom, upd_upd, n1, n3, hgb, pf, pl]
        exact q
      · have e2 : side a b = (Int.gcd a b : Int) := if_pos (by omega)
        have hb2 : 0 < b := by omega
        rw [e2] at q
        simp -dsimp [tSeq, tAsg, tRet, tIfS, tIf, tTest, tVar, tCons, tNil, tC, tOp, tUn, rI, rI0, rU, tCB, tLst_A, tTup_A, gName, L2.start, CMul, CPow, CDiv, tDrop, tBM, tBM0, tNext, tPar, gSub, rSetL, rIxL, rIxT, tChain, tB, tNot, tNotV, tAnd, tOr, tAndV, tOrV, tFld, tCall, rIxLH, rIxTH, atI, ixN, upd_same, cxK, ex2, ex3, ex3b, rEq, rNe, scal, hb, hb1, hb2, hx]
        refine ⟨a, b, rfl, ?_⟩
        simp -dsimp [tSeq, tAsg, tRet, tIfS, tIf, tTest, tVar, tCons, tNil, tC, tOp, tUn, rI, rI0, rU, tCB, tLst_A, tTup_A, gName, L2.start, CMul, CPow, CDiv, tDrop, tBM, tBM0, tNext, tPar, gSub, rSetL, rIxL, rIxT, tChain, tB, tNot, tNotV, tAnd, tOr, tAndV, tOrV, tFld, tCall, rIxLH, rIxTH, atI, ixN, upd_same, cxK, ex2, ex3, ex3b, sFld, hx, W.cls_Share, W.n_Share_top, W.n_Share_bottom, upd_upd, n1, n3, hgb, pf, pl]
        exact q
end
/-! ### isinstance by kinds -/
def tyN (H : Hp) : V → Option String
  | .non => some "NoneType"
  | .bl _ => some "bool"
  | .int _ => some "int"
  | .str _ => some "str"
  | .ref a => (match H a with
    | some (.lst _) => some "list"
    | some (.tup _) => some "tuple"
    | some (.dK _) => some "dict"
    | _ => none)
  | _ => none
theorem tyN_ok {K : PySem.W.Frag} {H : Hp} {x : V} {t : String} (h : tyN H x = some t) : TyOf K H x (.type t) := by
  unfold tyN at h
  split at h
  · cases h; exact .non
  · cases h; exact .bl _
  · cases h; exact .int _
  · cases h; exact .str _
  · split at h
    · rename_i e
      cases h; exact .lst e
    · rename_i e
      cases h; exact .tup e
    · rename_i e
      cases h; exact .dK e
    · cases h
  · cases h
def rIs1 : List V → Hp → VK → Prop := fun xs H Q => ∃ (x : V) (T t : String) (b : Bool), xs = [x, .ty T] ∧ tyN H x = some t ∧ kitB t T = some b ∧ Q (.bl b) H
def rIs2 : List V → Hp → VK → Prop := fun xs H Q => ∃ (x : V) (tp : Addr) (T1 T2 t : String) (b1 b2 : Bool), xs = [x, .ref tp] ∧ H tp = some (.tup [.ty T1, .ty T2]) ∧ tyN H x = some t ∧ kitB t T1 = some b1 ∧ kitB t T2 = some b2 ∧ Q (.bl (b1 || b2)) H
section
variable {X : Cx}
theorem isi_1 : CallR X (.builtin "isinstance") rIs1 := by
  intro pins s σ H xs us Q I r h
  obtain ⟨x, T, t, b, e, ty, k, q⟩ := h
  exact call_isi pins s σ H xs us Q I r ⟨x, .ty T, .type t, .type T, b, e, .ty T, .base (tyN_ok ty), kit_ty k, q⟩
theorem isi_2 : CallR X (.builtin "isinstance") rIs2 := by
  intro pins s σ H xs us Q I r h
  obtain ⟨x, tp, T1, T2, t, b1, b2, e, hT, ty, k1, k2, q⟩ := h
  refine call_isiT pins s σ H xs us Q I r ⟨x, tp, _, .type t, [.type T1, .type T2], b1 || b2, e, hT, .cons (.ty T1) (.cons (.ty T2) .nil), .base (tyN_ok ty), ?_, q⟩
  refine kitAny_cons (kit_ty k1) (fun f => ?_) (fun f => by rw [f]; rfl)
  rw [f]
  refine kitAny_cons (kit_ty k2) (fun f => ?_) (fun f => by rw [f]; rfl)
  rw [f]
  exact kitAny_nil
/-- two lists of two truths -/
def rNe2 : R2 := fun x y H Q => ∃ (p q : Addr) (a b c d : Bool), x = .ref p ∧ y = .ref q ∧ H p = some (.lst [.bl a, .bl b]) ∧ H q = some (.lst [.bl c, .bl d]) ∧ Q (.bl (!(a == c && b == d))) H
theorem op_ne2 (hu : X.A.units + 64 < cLine) : OpR X (compareOp .NotEq) rNe2 := by
  intro pins s σ H x y v u Q I rx ry h
  obtain ⟨p, q, a, b, c, d, e1, e2, hp, hq, k⟩ := h
  refine op_neD hu pins s σ H x y v u Q I rx ry ⟨.list [.bool a, .bool b], .list [.bool c, .bool d], ?_, ?_, ?_, ?_, ?_⟩
  · rw [e1]
    exact .lst (SqL.of hp) (.cons (.bl _) (.cons (.bl _) .nil))
  · rw [e2]
    exact .lst (SqL.of hq) (.cons (.bl _) (.cons (.bl _) .nil))
  · cases a <;> cases b <;> decide +kernel
  · cases c <;> cases d <;> decide +kernel
  · have e : PyData.eqv (.list [.bool a, .bool b]) (.list [.bool c, .bool d]) = (a == c && b == d) := by
      show ((a == c) && ((b == d) && true)) = _
      rw [Bool.and_true]
    rw [e]
    exact k
theorem len_tupH : CallR X (.builtin "len") (fun xs H Q => ∃ p ys, xs = [.ref p] ∧ H p = some (.tup ys) ∧ Q (.int ys.length) H) := by
  intro pins s σ H xs us Q I r h
  obtain ⟨p, ys, e, hp, q⟩ := h
  exact call_len_seq pins s σ H xs us Q I r ⟨p, ys, e, .inr (SqT.of hp), q⟩
theorem len_lstH : CallR X (.builtin "len") (fun xs H Q => ∃ p ys, xs = [.ref p] ∧ H p = some (.lst ys) ∧ Q (.int ys.length) H) := by
  intro pins s σ H xs us Q I r h
  obtain ⟨p, ys, e, hp, q⟩ := h
  exact call_len_seq pins s σ H xs us Q I r ⟨p, ys, e, .inl (SqL.of hp), q⟩
end
theorem kb1 : kitB "int" "list" = some false := by decide +kernel
theorem kb2 : kitB "int" "tuple" = some false := by decide +kernel
theorem kb3 : kitB "int" "bool" = some false := by decide +kernel
theorem kb4 : kitB "int" "int" = some true := by decide +kernel
theorem kb5 : kitB "tuple" "list" = some false := by decide +kernel
theorem kb6 : kitB "tuple" "tuple" = some true := by decide +kernel
theorem walk_zipT {K : PySem.W.Frag} {a b : Addr} {xs ys : List V} {n : Nat} (hx : xs.length = n) (hy : ys.length = n) : Walk (RZ.ItzT K a b) n (fun H => SqT K H a xs ∧ SqT K H b ys) (YPair (fun i => xs[i]?) (fun i => ys[i]?)) where
  goes := fun i H hi h => ⟨xs, ys, xs[i], ys[i], h.1, h.2, List.getElem?_eq_getElem (by omega), List.getElem?_eq_getElem (by omega)⟩
  stops := fun H h => ⟨xs, ys, h.1, h.2, .inl (by omega)⟩
  yields := fun i H x H' hi h y => by
    obtain ⟨T, x', y', e1, e2, e3, f1, f2⟩ := y
    exact ⟨T, x', y', e1, e2, e3, f1 xs h.1, f2 ys h.2⟩
section
variable {P : Program} {w : World} {K : PySem.W.Frag} {mg : Str → Option Value} {base : Heap}
theorem scSame : FnScope ["_law_found", "_law_due", "_law_kinds", "_law_left", "_law_right"] ["_law_found", "_law_due"] d_same.scope := ⟨rfl, rfl, rfl, by decide +kernel, rfl, by decide +kernel, by decide +kernel⟩
def spSameI (K : PySem.W.Frag) : Sp := fun vs H Q _ => ∃ (i : Int), vs = [.int i, .int i] ∧ ∀ H', Same H H' → Q (.bl true) H'
theorem ok_sameI (W : Wd K mg) : ∃ fd, FnOk P w K mg base CX0 1 (He.ga K "_law_same") fd ["_law_found", "_law_due"] (spSameI K) ∧ Binds K fd ["_law_found", "_law_due"] [] := by
  obtain ⟨fd, F⟩ := W.F_same
  refine ⟨fd, F.ok scSame (fun vs H Q E h => ?_) (fun cdv A outer s H vs Q E hr h => ?_), FunD.bindsN F fun _ _ _ _ _ _ us hl => match us, hl with | [_, _], _ => rfl⟩
  · obtain ⟨i, rfl, _⟩ := h
    rfl
  · obtain ⟨i, rfl, q⟩ := h
    refine ⟨_, PSs.nox (pss_cons (ps_set (i := 2) scSame.nd rfl (Or.inl rfl) (pe_lst (pa_cons (pe_callB isi_1 (by rfl) W.f_isinstance boot_isinstance (pa_cons (pv 0) (pa_cons (pe_bltn (v := .ty "list") (by rfl) W.f_list (by decide +kernel) rfl) pa_nil))) (pa_cons (pe_callB isi_1 (by rfl) W.f_isinstance boot_isinstance (pa_cons (pv 0) (pa_cons (pe_bltn (v := .ty "tuple") (by rfl) W.f_tuple (by decide +kernel) rfl) pa_nil))) pa_nil))))
      (pss_cons (ps_if (pt_val (pe_callB isi_2 (by rfl) W.f_isinstance boot_isinstance (pa_cons (pv 1) (pa_cons (pe_tup (pa_cons (pe_bltn (v := .ty "list") (by rfl) W.f_list (by decide +kernel) rfl) (pa_cons (pe_bltn (v := .ty "tuple") (by rfl) W.f_tuple (by decide +kernel) rfl) pa_nil))) pa_nil)))) pss_never pss_nil)
      (pss_cons (ps_if (pt_val (pe_callB isi_2 (by rfl) W.f_isinstance boot_isinstance (pa_cons (pv 1) (pa_cons (pe_tup (pa_cons (pe_bltn (v := .ty "bool") (by rfl) W.f_bool (by decide +kernel) rfl) (pa_cons (pe_bltn (v := .ty "int") (by rfl) W.f_int (by decide +kernel) rfl) pa_nil))) pa_nil))))
        (pss_one (ps_ret (pe_and (pe_callB isi_1 (by rfl) W.f_isinstance boot_isinstance (pa_cons (pv 0) (pa_cons (pe_bltn (v := .ty "int") (by rfl) W.f_int (by decide +kernel) rfl) pa_nil)))
          (pe_and (pe_cmpR op_eq (pe_callB isi_1 (by rfl) W.f_isinstance boot_isinstance (pa_cons (pv 0) (pa_cons (pe_bltn (v := .ty "bool") (by rfl) W.f_bool (by decide +kernel) rfl) pa_nil))) (pe_callB isi_1 (by rfl) W.f_isinstance boot_isinstance (pa_cons (pv 1) (pa_cons (pe_bltn (v := .ty "bool") (by rfl) W.f_bool (by decide +kernel) rfl) pa_nil))) (nomark _))
          (pe_one (pe_cmpR op_eq (pv 0) (pv 1) (nomark _))))))) pss_nil)
      pss_never))), ?_⟩
    simp -dsimp [tSeq, tAsg, tRet, tIfS, tIf, tTest, tVar, tCons, tNil, tC, tOp, tUn, rI, rI0, rU, tCB, tLst_A, tTup_A, gName, L2.start, CMul, CPow, CDiv, tDrop, tBM, tBM0, tNext, tPar, gSub, rSetL, rIxL, rIxT, tChain, tB, tNot, tNotV, tAnd, tOr, tAndV, tOrV, tFld, tCall, rIxLH, rIxTH, atI, ixN, upd_same, cxK, ex2, ex3, ex3b, rIs1, rIs2, rNe2, tyN, kb1, kb2, kb3, kb4, kb5, kb6, rEq, rNe, scal]
    refine ⟨le2, Alloc.of fun p1 H1 n1 e1 s1 => ?_⟩
    try simp -dsimp [tSeq, tAsg, tRet, tIfS, tIf, tTest, tVar, tCons, tNil, tC, tOp, tUn, rI, rI0, rU, tCB, tLst_A, tTup_A, gName, L2.start, CMul, CPow, CDiv, tDrop, tBM, tBM0, tNext, tPar, gSub, rSetL, rIxL, rIxT, tChain, tB, tNot, tNotV, tAnd, tOr, tAndV, tOrV, tFld, tCall, rIxLH, rIxTH, atI, ixN, upd_same, cxK, ex2, ex3, ex3b, rIs1, rIs2, rNe2, tyN, kb1, kb2, kb3, kb4, kb5, kb6, rEq, rNe, scal]
    refine ⟨le2, Alloc.of fun p2 H2 n2 e2 s2 => ?_⟩
    simp -dsimp [tSeq, tAsg, tRet, tIfS, tIf, tTest, tVar, tCons, tNil, tC, tOp, tUn, rI, rI0, rU, tCB, tLst_A, tTup_A, gName, L2.start, CMul, CPow, CDiv, tDrop, tBM, tBM0, tNext, tPar, gSub, rSetL, rIxL, rIxT, tChain, tB, tNot, tNotV, tAnd, tOr, tAndV, tOrV, tFld, tCall, rIxLH, rIxTH, atI, ixN, upd_same, cxK, ex2, ex3, ex3b, rIs1, rIs2, rNe2, tyN, kb1, kb2, kb3, kb4, kb5, kb6, rEq, rNe, scal, e2]
    refine ⟨le2, Alloc.of fun p3 H3 n3 e3 s3 => ?_⟩
    simp -dsimp [tSeq, tAsg, tRet, tIfS, tIf, tTest, tVar, tCons, tNil, tC, tOp, tUn, rI, rI0, rU, tCB, tLst_A, tTup_A, gName, L2.start, CMul, CPow, CDiv, tDrop, tBM, tBM0, tNext, tPar, gSub, rSetL, rIxL, rIxT, tChain, tB, tNot, tNotV, tAnd, tOr, tAndV, tOrV, tFld, tCall, rIxLH, rIxTH, atI, ixN, upd_same, cxK, ex2, ex3, ex3b, rIs1, rIs2, rNe2, tyN, kb1, kb2, kb3, kb4, kb5, kb6, rEq, rNe, scal, e3]
    exact q _ ((s1.trans s2).trans s3)
end
section
variable {P : Program} {w : World} {K : PySem.W.Frag} {mg : Str → Option Value} {base : Heap}
def spSameT (K : PySem.W.Frag) : Sp := fun vs H Q _ => ∃ (p q : Addr) (a b : Int), vs = [.ref p, .ref q] ∧ H p = some (.tup [.int a, .int b]) ∧ H q = some (.tup [.int a, .int b]) ∧ ∀ H', Same H H' → Q (.bl true) H'
theorem ok_sameT (W : Wd K mg) : ∃ fd, FnOk P w K mg base CX0 2 (He.ga K "_law_same") fd ["_law_found", "_law_due"] (spSameT K) ∧ Binds K fd ["_law_found", "_law_due"] [] := by
  obtain ⟨fdI, GI, bI⟩ := ok_sameI (P := P) (w := w) (base := base) W
  obtain ⟨fd, F⟩ := W.F_same
  refine ⟨fd, F.ok scSame (fun vs H Q E h => ?_) (fun cdv A outer s H vs Q E hr h => ?_), FunD.bindsN F fun _ _ _ _ _ _ us hl => match us, hl with | [_, _], _ => rfl⟩
  · obtain ⟨p, q, a, b, rfl, _⟩ := h
    rfl
  · obtain ⟨p, q, a, b, rfl, hp, hq, k⟩ := h
    refine ⟨_, PSs.nox (pss_cons (ps_set (i := 2) scSame.nd rfl (Or.inl rfl) (pe_lst (pa_cons (pe_callB isi_1 (by rfl) W.f_isinstance boot_isinstance (pa_cons (pv 0) (pa_cons (pe_bltn (v := .ty "list") (by rfl) W.f_list (by decide +kernel) rfl) pa_nil))) (pa_cons (pe_callB isi_1 (by rfl) W.f_isinstance boot_isinstance (pa_cons (pv 0) (pa_cons (pe_bltn (v := .ty "tuple") (by rfl) W.f_tuple (by decide +kernel) rfl) pa_nil))) pa_nil))))
      (pss_cons (ps_if (pt_val (pe_callB isi_2 (by rfl) W.f_isinstance boot_isinstance (pa_cons (pv 1) (pa_cons (pe_tup (pa_cons (pe_bltn (v := .ty "list") (by rfl) W.f_list (by decide +kernel) rfl) (pa_cons (pe_bltn (v := .ty "tuple") (by rfl) W.f_tuple (by decide +kernel) rfl) pa_nil))) pa_nil))))
        (pss_cons (ps_if (PW.pt (pw_or (pt_cmpR (op_ne2 hr.units) (pv 2) (pe_lst (pa_cons (pe_callB isi_1 (by rfl) W.f_isinstance boot_isinstance (pa_cons (pv 1) (pa_cons (pe_bltn (v := .ty "list") (by rfl) W.f_list (by decide +kernel) rfl) pa_nil))) (pa_cons (pe_callB isi_1 (by rfl) W.f_isinstance boot_isinstance (pa_cons (pv 1) (pa_cons (pe_bltn (v := .ty "tuple") (by rfl) W.f_tuple (by decide +kernel) rfl) pa_nil))) pa_nil))) (nomark _))
            (pw_or1 (pt_cmpR op_ne (pe_callB len_tupH (by rfl) W.f_len boot_len (pa_cons (pv 0) pa_nil)) (pe_callB len_tupH (by rfl) W.f_len boot_len (pa_cons (pv 1) pa_nil)) (nomark _))))) (pss_one (ps_ret pe_bl)) pss_nil)
        (pss_one (ps_ret (pe_callB (cr_all rfl) (by rfl) W.f_all boot_all (pa_cons
          (pe_lc (own := [("_law_left", 3), ("_law_right", 4)]) (g := gTup K 2 (gCons (gName 3) (gCons (gName 4) gNil))) (tt := tYes) rfl scSame.nd (RZ.pi_zipA (by rfl) W.f_zip (pa_cons (pv 0) (pa_cons (pv 1) pa_nil))) (blkOk_by (N := ["_law_found", "_law_due", "_law_kinds", "_law_left", "_law_right"]) (sc := defScope s_same) (by decide +kernel))
            (fun _ _ _ _ _ => pg_tup rfl (pgs_cons (pg_name (i := 3) scSame.nd rfl (Or.inl rfl)) (pgs_cons (pg_name (i := 4) scSame.nd rfl (Or.inl rfl)) pgs_nil))) (fun _ _ _ _ _ => pts_nil)
            (fun _ _ _ _ _ => pe_call GI hr rfl W.g_law_same F.kp bI .nil pass0 (pa_cons (pv 3) (pa_cons (pv 4) pa_nil)))) pa_nil))))) pss_nil)
      pss_never)), ?_⟩
    simp -dsimp [tSeq, tAsg, tRet, tIfS, tIf, tTest, tVar, tCons, tNil, tC, tOp, tUn, rI, rI0, rU, tCB, tLst_A, tTup_A, gName, L2.start, CMul, CPow, CDiv, tDrop, tBM, tBM0, tNext, tPar, gSub, rSetL, rIxL, rIxT, tChain, tB, tNot, tNotV, tAnd, tOr, tAndV, tOrV, tFld, tCall, rIxLH, rIxTH, atI, ixN, upd_same, cxK, ex2, ex3, ex3b, rIs1, rIs2, rNe2, tyN, kb1, kb2, kb3, kb4, kb5, kb6, rEq, rNe, scal, hp, hq]
    refine ⟨le2, Alloc.of fun p1 H1 n1 e1 s1 => ?_⟩
    have hp1 := s1 _ _ hp
    have hq1 := s1 _ _ hq
    try simp -dsimp [tSeq, tAsg, tRet, tIfS, tIf, tTest, tVar, tCons, tNil, tC, tOp, tUn, rI, rI0, rU, tCB, tLst_A, tTup_A, gName, L2.start, CMul, CPow, CDiv, tDrop, tBM, tBM0, tNext, tPar, gSub, rSetL, rIxL, rIxT, tChain, tB, tNot, tNotV, tAnd, tOr, tAndV, tOrV, tFld, tCall, rIxLH, rIxTH, atI, ixN, upd_same, cxK, ex2, ex3, ex3b, rIs1, rIs2, rNe2, tyN, kb1, kb2, kb3, kb4, kb5, kb6, rEq, rNe, scal]
    refine ⟨le2, Alloc.of fun p2 H2 n2 e2 s2 => ?_⟩
    have hp2 := s2 _ _ hp1
    have hq2 := s2 _ _ hq1
    have e12 := s2 _ _ e1
    simp -dsimp [tSeq, tAsg, tRet, tIfS, tIf, tTest, tVar, tCons, tNil, tC, tOp, tUn, rI, rI0, rU, tCB, tLst_A, tTup_A, gName, L2.start, CMul, CPow, CDiv, tDrop, tBM, tBM0, tNext, tPar, gSub, rSetL, rIxL, rIxT, tChain, tB, tNot, tNotV, tAnd, tOr, tAndV, tOrV, tFld, tCall, rIxLH, rIxTH, atI, ixN, upd_same, cxK, ex2, ex3, ex3b, rIs1, rIs2, rNe2, tyN, kb1, kb2, kb3, kb4, kb5, kb6, rEq, rNe, scal, e2, hp2, hq2]
    refine ⟨le2, Alloc.of fun p3 H3 n3 e3 s3 => ?_⟩
    have hp3 := s3 _ _ hp2
    have hq3 := s3 _ _ hq2
    have e13 := s3 _ _ e12
    simp -dsimp [tSeq, tAsg, tRet, tIfS, tIf, tTest, tVar, tCons, tNil, tC, tOp, tUn, rI, rI0, rU, tCB, tLst_A, tTup_A, gName, L2.start, CMul, CPow, CDiv, tDrop, tBM, tBM0, tNext, tPar, gSub, rSetL, rIxL, rIxT, tChain, tB, tNot, tNotV, tAnd, tOr, tAndV, tOrV, tFld, tCall, rIxLH, rIxTH, atI, ixN, upd_same, cxK, ex2, ex3, ex3b, rIs1, rIs2, rNe2, tyN, kb1, kb2, kb3, kb4, kb5, kb6, rEq, rNe, scal, e3, hp3, hq3, e13]
    refine ⟨_, rfl, _, rfl, p, q, _, _, rfl, .inr ⟨SqT.of hp3, SqT.of hq3, fun D hD => ?_⟩⟩
    have nD : ∀ {b : Addr} {o : HO}, H3 b = some o → b ≠ D := fun e => ne_of_none e hD
    refine lc_it (walk_zipT (n := 2) rfl rfl) (fun i H' => Same H3 H' ∧ H' D = some (.lst (List.replicate i (.bl true)))) ⟨same_upd hD, upd_same⟩ (fun i H' _ h => ⟨SqT.of (h.1 _ _ hp3), SqT.of (h.1 _ _ hq3)⟩) ?_ ?_
    · rintro i x H' H'' hi ⟨sm, hD'⟩ ⟨T, x', y', rfl, hT, rfl, fx, fy⟩
      have hz : ∃ z : Int, x' = .int z ∧ y' = .int z := by
        match i, hi with
        | 0, _ =>
          cases fx
          cases fy
          exact ⟨a, rfl, rfl⟩
        | 1, _ =>
          cases fx
          cases fy
          exact ⟨b, rfl, rfl⟩
      obtain ⟨z, rfl, rfl⟩ := hz
      refine ⟨T, _, rfl, SqT.of upd_same, rfl, _, _, rfl, _, _, rfl, rfl, rfl, ?_⟩
      simp only [tYes, if_true]
      refine ⟨_, rfl, _, rfl, z, rfl, fun H4 s4 => ⟨List.replicate i (.bl true), ?_, ?_, ?_, ?_⟩⟩
      · exact s4 _ _ (by rw [upd_ne (ne_of_none hD' hT)]; exact hD')
      · rw [List.length_replicate]
        exact small1000 (by omega)
      · intro b' o e
        rw [upd_ne (nD e)]
        exact s4 _ _ (same_upd hT _ _ (sm _ _ e))
      · rw [upd_same, ← List.replicate_succ']
    · rintro H' ⟨sm, hD'⟩
      exact ⟨D, [true, true], rfl, SqL.of hD', k _ (((s1.trans s2).trans s3).trans sm)⟩
end
/-! ### shares made and told -/
def IsSh (K : PySem.W.Frag) (H : Hp) (x : Addr) (a b : Int) : Prop := ∃ dx, H x = some (shareO (He.ga K "Share") dx a b)
/-- a new share -/
def AllocS (K : PySem.W.Frag) (H : Hp) (a b : Int) (Q : V → Hp → Prop) (_ : Lk Q := ⟨⟩) : Prop := ∀ x H', H x = none → IsSh K H' x a b → Same H H' → Q (.ref x) H'
theorem IsSh.same {K : PySem.W.Frag} {H H' : Hp} {x : Addr} {a b : Int} (h : IsSh K H x a b) (s : Same H H') : IsSh K H' x a b := by
  obtain ⟨dx, e⟩ := h
  exact ⟨dx, s _ _ e⟩
theorem mk_ok {K : PySem.W.Frag} {H : Hp} {vs : List V} {a b : Int} {Q : V → Hp → Prop} {E : XK} (e : vs = [.int a, .int b]) (hb : b ≠ 0) (hbb : b.natAbs < big9) (h : AllocS K H (a.fdiv (side a b)) (b.fdiv (side a b)) Q) :
    ∀ x dx, H x = none → H dx = none → dx ≠ x → spInit K (.ref x :: vs) (upd (upd H dx (.own x)) x (.ins (He.ga K "Share") dx [])) (fun v H2 => v = .non ∧ Q (.ref x) H2) E := by
  intro x dx nx nd ne
  refine ⟨x, dx, a, b, by rw [e], upd_same, hb, hbb, rfl, h x _ nx ⟨dx, upd_same⟩ ?_⟩
  intro c o ec
  rw [upd_ne (ne_of_none ec nx), upd_ne (ne_of_none ec nx), upd_ne (ne_of_none ec nd)]
  exact ec
def rStrOwn (C : Addr) (sp : Sp) (E : XK) : List V → Hp → VK → Prop := fun xs H Q => ∃ (a dx : Addr) (fs : List (Str × V)), xs = [.ref a] ∧ H a = some (.ins C dx fs) ∧ sp [.ref a] H (fun z H' => ∃ y, z = .str y ∧ Q z H') E
section
variable {X : Cx} {CX : CXT} {n : Nat} {sp : Sp} {E : XK} {C g : Addr}
theorem call_strOwn (hs : PySem.W.findIn X.K (.ref C) "__str__" = some (some (.ref g))) (hf : PySem.W.isFn X.K (.ref g) = true) (F : FnR X.prog X.w X.K X.mg X.base CX n g sp) (hr : Room (n + 2) X.A) (hx : Passes CX X E) : CallR X (.type "str") (rStrOwn C sp E) := by
  intro pins s σ H xs us Q I r h
  obtain ⟨a, dx, fs, rfl, ha, q⟩ := h
  obtain ⟨u, rfl, ru⟩ := r.one
  cases (show u = Value.ref a from ru)
  obtain ⟨mA, O, _⟩ := ins_get I.hok ha
  obtain ⟨od, J, _⟩ := O.look
  have hr2 : Room n X.A.in1.in1 := (show Room (n + 1) X.A.in1 from Room.in1 hr).in1
  refine PySem.W.kso_call hr2.units0 I.kIn J hs hf (wpAny_mono (wpAny_call (SlX.run_at (us := [.ref a]) (ws := [.ref a]) F hr2 I.env0.in1.in1 hx I (.cons rfl .nil) q)) (fun w s' z => ?_) fun _ _ x => x)
  obtain ⟨z', H', I', rz, y, ey, qz⟩ := z
  subst ey
  obtain ⟨t, e⟩ := (show ∃ t, w = Value.str y t from rz)
  cases e
  exact ⟨.str y, H', I', ⟨t, rfl⟩, qz⟩
end
section
variable {K : PySem.W.Frag} {mg : Str → Option Value}
theorem Wd.isSh (W : Wd K mg) {H : Hp} {x : Addr} {a b : Int} (h : IsSh K H x a b) : TyOf K H (.ref x) (.ref (He.ga K "Share")) := by
  obtain ⟨dx, e⟩ := h
  exact .ins e W.cls_Share (He.eqO_ok (W.ex 0 rfl)) (He.eqO_ok (W.ex 1 rfl)) (of_decide_eq_true (W.ex 2 rfl)) (of_decide_eq_true (W.ex 3 rfl))
theorem Wd.kitS (W : Wd K mg) : PySem.W.kitOne K (.ref (He.ga K "Share")) (.ref (He.ga K "Share")) = some true := of_decide_eq_true (W.ex 4 rfl)
/-- isinstance(x, Share) of a share -/
def rIsS (K : PySem.W.Frag) : List V → Hp → VK → Prop := fun xs H Q => ∃ (x : Addr) (a b : Int), xs = [.ref x, .ref (He.ga K "Share")] ∧ IsSh K H x a b ∧ Q (.bl true) H
theorem isi_S {X : Cx} (W : Wd X.K X.mg) : CallR X (.builtin "isinstance") (rIsS X.K) := by
  intro pins s σ H xs us Q I r h
  obtain ⟨x, a, b, e, hx, q⟩ := h
  exact call_isi pins s σ H xs us Q I r ⟨.ref x, .ref (He.ga X.K "Share"), _, _, true, e, .own _, .base (W.isSh hx), W.kitS, q⟩
end
theorem vals_rev : ∀ {vs : List V} {us : List Value}, Vals vs us → Vals vs.reverse us.reverse
  | _, _, .nil => .nil
  | _, _, .cons r t => by
    rw [List.reverse_cons, List.reverse_cons]
    exact (vals_rev t).append (.cons r .nil)
section
variable {P : Program} {w : World} {K : PySem.W.Frag} {mg : Str → Option Value} {base : Heap} {fd : FuncData}
abbrev FInit (K : PySem.W.Frag) (fd : FuncData) : Prop := FunD K d_Share_init.name d_Share_init.qual d_Share_init.params d_Share_init.body d_Share_init.scope (d_Share_init.dvs K) (d_Share_init.kws K) (He.fAd K d_Share_init.at_) fd
abbrev psI : List Str := ["self", "top", "bottom"]
theorem bind3 (F : FInit K fd) : Binds K fd psI [] := by
  obtain ⟨ds, v, b⟩ := FunD.binds1 (ps := psI) F 3 1 (List.cons_ne_nil _ _) rfl fun T kV doc pm an cdv ct us its hu hi => match us, its, hu, hi with | [_, _, _], [_], _, _ => ⟨_, rfl, rfl⟩
  cases v
  exact b
theorem bind2 (F : FInit K fd) : ∃ ds, Vals [V.int 1] ds ∧ Binds K fd psI ds := by
  obtain ⟨ds, v, b⟩ := FunD.binds1 (ps := psI) F 2 0 (List.cons_ne_nil _ _) rfl fun T kV doc pm an cdv ct us its hu hi => match us, its, hu, hi with | [_, _], [_], _, _ => ⟨_, rfl, rfl⟩
  exact ⟨ds, v, b⟩
/-- Share(bottom = b, top = a) -/
theorem bindBT (F : FInit K fd) : KBn K fd psI 1 ["bottom", "top"] (fun us ws => us ++ ws.reverse) (fun vs zs => vs ++ zs.reverse) := by
  obtain ⟨oc, od, dV, kV, doc, pm, an, cdv, ct, osl, rfl, lk, hcd, hD, hK⟩ := F.ex
  rcases hD with ⟨e, _⟩ | ⟨_, T, o, its, m, rfl, lT, oT, rT⟩
  · exact absurd e (List.cons_ne_nil _ _)
  · refine ⟨fun s us ws X l1 l2 => ?_, fun {vs us zs ws} r1 r2 => ?_⟩
    · match us, ws, l1, l2 with
      | [u], [b, t], _, _ =>
        refine BindsTo.of_looks fun M => ?_
        obtain ⟨k, e1, e2⟩ : ∃ k, bindArgs (PySem.W.fnOf d_Share_init.name d_Share_init.qual d_Share_init.params d_Share_init.body d_Share_init.scope (.ref T) kV doc pm an cdv ct) ⟨[u], (["bottom", "top"] : List Str).zip [b, t]⟩ = seqItems? (.ref T) >>= k ∧ k (some its.toArray) = pure (psI.zip [u, t, b]) := by
          match its, rT with
          | [d], _ => exact ⟨_, rfl, rfl⟩
        rw [e1]
        exact looks_items X lT oT (.of_pure e2)
    · exact r1.append (vals_rev r2)
/-- Share(a, bottom = b) -/
theorem bindB (F : FInit K fd) : KBn K fd psI 2 ["bottom"] (fun us ws => us ++ ws) (fun vs zs => vs ++ zs) := by
  obtain ⟨oc, od, dV, kV, doc, pm, an, cdv, ct, osl, rfl, lk, hcd, hD, hK⟩ := F.ex
  rcases hD with ⟨e, _⟩ | ⟨_, T, o, its, m, rfl, lT, oT, rT⟩
  · exact absurd e (List.cons_ne_nil _ _)
  · refine ⟨fun s us ws X l1 l2 => ?_, fun {vs us zs ws} r1 r2 => r1.append r2⟩
    match us, ws, l1, l2 with
    | [u, t], [b], _, _ =>
      refine BindsTo.of_looks fun M => ?_
      obtain ⟨k, e1, e2⟩ : ∃ k, bindArgs (PySem.W.fnOf d_Share_init.name d_Share_init.qual d_Share_init.params d_Share_init.body d_Share_init.scope (.ref T) kV doc pm an cdv ct) ⟨[u, t], (["bottom"] : List Str).zip [b]⟩ = seqItems? (.ref T) >>= k ∧ k (some its.toArray) = pure (psI.zip [u, t, b]) := by
        match its, rT with
        | [d], _ => exact ⟨_, rfl, rfl⟩
      rw [e1]
      exact looks_items X lT oT (.of_pure e2)
theorem scIsShare : FnScope ["_law_found", "_law_due"] ["_law_found", "_law_due"] d_is_share.scope := ⟨rfl, rfl, rfl, by decide +kernel, rfl, by decide +kernel, by decide +kernel⟩
def spIsShare (K : PySem.W.Frag) : Sp := fun vs H Q _ => ∃ (x q : Addr) (a b : Int), vs = [.ref x, .ref q] ∧ IsSh K H x a b ∧ H q = some (.tup [.int a, .int b]) ∧ ∀ H', Same H H' → Q (.bl true) H'
theorem look_top (t b : V) : List.lookup ("top" : Str) [(("top" : Str), t), (("bottom" : Str), b)] = some t := rfl
theorem look_bot (t b : V) : List.lookup ("bottom" : Str) [(("top" : Str), t), (("bottom" : Str), b)] = some b := rfl
theorem ok_isShare (W : Wd K mg) : ∃ fd, FnOk P w K mg base CX0 3 (He.ga K "_law_is_share") fd ["_law_found", "_law_due"] (spIsShare K) ∧ Binds K fd ["_law_found", "_law_due"] [] := by
  obtain ⟨fdT, GT, bT⟩ := ok_sameT (P := P) (w := w) (base := base) W
  have kS : PySem.W.keepIn K (.ref (He.ga K "_law_same")) = true := by
    obtain ⟨fd, F⟩ := W.F_same
    exact F.kp
  obtain ⟨fd, F⟩ := W.F_is_share
  refine ⟨fd, F.ok scIsShare (fun vs H Q E h => ?_) (fun cdv A outer s H vs Q E hr h => ?_), FunD.bindsN F fun _ _ _ _ _ _ us hl => match us, hl with | [_, _], _ => rfl⟩
  · obtain ⟨x, q, a, b, rfl, _⟩ := h
    rfl
  · obtain ⟨x, q, a, b, rfl, hx, hq, k⟩ := h
    refine ⟨_, PSs.nox (pss_one (ps_ret (pe_and (pe_callB (isi_S W) (by rfl) W.f_isinstance boot_isinstance (pa_cons (pv 0) (pa_cons (pe_glob (v := .ref (He.ga K "Share")) rfl W.g_Share rfl) pa_nil)))
      (pe_one (pe_call GT hr rfl W.g_law_same kS bT .nil pass0 (pa_cons (pe_tup (pa_cons (pe_fld (pv 0) rfl) (pa_cons (pe_fld (pv 0) rfl) pa_nil))) (pa_cons (pv 1) pa_nil))))))), ?_⟩
    obtain ⟨dx, hd⟩ := id hx
    refine ⟨_, rfl, x, a, b, rfl, hx, true, rfl, ?_⟩
    simp -dsimp [tSeq, tAsg, tRet, tIfS, tIf, tTest, tVar, tCons, tNil, tC, tOp, tUn, rI, rI0, rU, tCB, tLst_A, tTup_A, gName, L2.start, CMul, CPow, CDiv, tDrop, tBM, tBM0, tNext, tPar, gSub, rSetL, rIxL, rIxT, tChain, tB, tNot, tNotV, tAnd, tOr, tAndV, tOrV, tFld, tCall, rIxLH, rIxTH, atI, ixN, upd_same, cxK, ex2, ex3, ex3b, rIs1, rIs2, rNe2, tyN, kb1, kb2, kb3, kb4, kb5, kb6, rEq, rNe, scal, hd, shareO, W.cls_Share, W.n_Share_top, W.n_Share_bottom, look_top, look_bot]
    refine ⟨le2, Alloc.of fun p1 H1 n1 e1 s1 => ?_⟩
    exact ⟨p1, q, a, b, rfl, e1, s1 _ _ hq, fun H' s2 => k H' (s1.trans s2)⟩
end
def numS (n : Int) : Str := Str.ofString (toString n)
theorem neg_text {n : Int} (h : n < 0) : Txt.join (Str.ofString "") [Str.ofString "-", numS (-n)] = numS n := by
  have e : (-n : Int) = 0 - n := by omega
  unfold numS
  rw [TL.join_eq, PyProof.Rows.toString_neg h, e]
  refine PyProof.Rows.ext_toList ?_
  show TL.tl (Str.ofString "-" ++ Str.ofString "" ++ Str.ofString (toString (0 - n))) = TL.tl (Str.ofString ("-" ++ toString (0 - n)))
  rw [TL.tl_append, TL.tl_append, TL.tl_ofString, TL.tl_ofString, TL.tl_ofString, TL.tl_ofString, String.toList_append, List.map_append]
  rfl
theorem call_strN {X : Cx} : CallR X (.type "str") (fun xs H Q => ∃ i, xs = [.int i] ∧ i.natAbs.log2 < 1920 ∧ Q (.str (numS i)) H) := call_str_int
theorem numS_len {n : Int} (h : n.natAbs < 10 ^ 60) : (numS n).length ≤ 1921 ∧ n.natAbs.log2 < 1920 := by
  have h1 : n.natAbs.log2 < 1920 := by
    have h2 : n.natAbs < 2 ^ 200 := Nat.lt_of_lt_of_le h (by decide)
    have h3 := PySem.Flt.log2_lt_of (by decide : 0 < 200) h2
    omega
  exact ⟨PyProof.Rows.int_text_len_1921 h1, h1⟩
theorem tyV_lst {K : PySem.W.Frag} {H : Hp} {p : Addr} {xs : List V} (h : H p = some (.lst xs)) : tyV K "list" (.ref p) H := .inl ⟨rfl, _, SqL.of h⟩
section
variable {P : Program} {w : World} {K : PySem.W.Frag} {mg : Str → Option Value} {base : Heap} {fd : FuncData}
theorem scDigits : FnScope ["number", "size", "blocks", "rest", "block"] ["number"] d_digits.scope := ⟨rfl, rfl, rfl, by decide +kernel, rfl, by decide +kernel, by decide +kernel⟩
def spDigits (K : PySem.W.Frag) : Sp := fun vs H Q _ => ∃ (n : Int), vs = [.int n] ∧ n.natAbs < 10 ^ 60 ∧ ∀ H', Same H H' → Q (.str (numS n)) H'
theorem ok_digits (W : Wd K mg) : ∃ fd, FnOk P w K mg base CX0 1 (He.ga K "digits") fd ["number"] (spDigits K) ∧ Binds K fd ["number"] [] := by
  obtain ⟨fd, F⟩ := W.F_digits
  refine ⟨fd, F.ok scDigits (fun vs H Q E h => ?_) (fun cdv A outer s H vs Q E hr h => ?_), FunD.bindsN F fun _ _ _ _ _ _ us hl => match us, hl with | [_], _ => rfl⟩
  · obtain ⟨n, rfl, _⟩ := h
    rfl
  · obtain ⟨n, rfl, hn, q⟩ := h
    refine ⟨_, PSs.nox (pss_cons (ps_set (i := 1) scDigits.nd rfl (Or.inl rfl) (pe_op op_pow pe_int pe_int))
      (pss_cons (ps_set (i := 2) scDigits.nd rfl (Or.inl rfl) (pe_lst pa_nil))
      (pss_cons (ps_set (i := 3) scDigits.nd rfl (Or.inl rfl) (pe_callB call_abs (by rfl) W.f_abs (by decide +kernel) (pa_cons (pv 0) pa_nil)))
      (pss_cons (ps_while PassesOwn.never (pt_cmpR op_ge (pv 3) (pv 1) (nomark _)) pss_never)
      (pss_cons (ps_expr (pe_bm PySem.F.plainAttrs_list PySem.F.slot_list_append PySem.F.type_list_append mt_append (pv 2) (pa_cons (pe_callTy call_strN (by rfl) W.f_str (by decide +kernel) (pa_cons (pv 3) pa_nil)) pa_nil)))
      (pss_cons (ps_if (pt_cmpR op_lt (pv 0) pe_int (nomark _)) (pss_one (ps_expr (pe_bm PySem.F.plainAttrs_list PySem.F.slot_list_append PySem.F.type_list_append mt_append (pv 2) (pa_cons pe_str pa_nil)))) pss_nil)
      (pss_one (ps_ret (pe_join pe_str (pe_revL (pv 2)))))))))))  , ?_⟩
    simp -dsimp [tSeq, tAsg, tRet, tIfS, tIf, tTest, tVar, tCons, tNil, tC, tOp, tUn, rI, rI0, rU, tCB, tLst_A, tTup_A, gName, L2.start, CMul, CPow, CDiv, tDrop, tBM, tBM0, tNext, tPar, gSub, rSetL, rIxL, rIxT, tChain, tB, tNot, tNotV, tAnd, tOr, tAndV, tOrV, tFld, tCall, rIxLH, rIxTH, atI, ixN, upd_same, cxK, ex2, ex3, ex3b, rIs1, rIs2, rNe2, tyN, kb1, kb2, kb3, kb4, kb5, kb6, rEq, rNe, scal]
    have nl := numS_len hn
    refine Alloc.of fun p H1 n1 e1 s1 => ⟨fun m σ' H' => σ' = _ ∧ H' = H1, ⟨0, rfl, rfl⟩, ?_⟩
    rintro m σ' H' ⟨rfl, rfl⟩
    have p60 : (10 : Nat) ^ 60 = 1000000000000000000000000000000000000000000000000000000000000 := by decide
    have fr : ∀ {b : Addr} {o : HO}, H b = some o → b ≠ p := fun e => ne_of_none e n1
    by_cases h0 : n < 0
    · have nn : (-n).natAbs < 10 ^ 60 := by omega
      have nl2 := numS_len nn
      have lt : ¬ (1000000000000000000000000000000000000000000000000000000000000 ≤ -n) := by omega
      simp -dsimp [tSeq, tAsg, tRet, tIfS, tIf, tTest, tVar, tCons, tNil, tC, tOp, tUn, rI, rI0, rU, tCB, tLst_A, tTup_A, gName, L2.start, CMul, CPow, CDiv, tDrop, tBM, tBM0, tNext, tPar, gSub, rSetL, rIxL, rIxT, tChain, tB, tNot, tNotV, tAnd, tOr, tAndV, tOrV, tFld, tCall, rIxLH, rIxTH, atI, ixN, upd_same, cxK, ex2, ex3, ex3b, rIs1, rIs2, rNe2, tyN, kb1, kb2, kb3, kb4, kb5, kb6, rEq, rNe, scal, lt, h0, tyV_lst e1, rAppend, e1]
      refine ⟨nl.2, by decide, tyV_lst upd_same, by decide, ?_⟩
      refine ⟨⟨_, rfl⟩, _, rfl, p, _, rfl, SqL.of upd_same, fun p2 np2 => ⟨_, rfl, p2, rfl, [Str.ofString "-", numS (-n)], .inl (SqL.of upd_same), ?_, ?_⟩⟩
      · have l1 : (Str.ofString "-").length = 1 := rfl
        simp -dsimp [tSeq, tAsg, tRet, tIfS, tIf, tTest, tVar, tCons, tNil, tC, tOp, tUn, rI, rI0, rU, tCB, tLst_A, tTup_A, gName, L2.start, CMul, CPow, CDiv, tDrop, tBM, tBM0, tNext, tPar, gSub, rSetL, rIxL, rIxT, tChain, tB, tNot, tNotV, tAnd, tOr, tAndV, tOrV, tFld, tCall, rIxLH, rIxTH, atI, ixN, upd_same, cxK, ex2, ex3, ex3b, rIs1, rIs2, rNe2, tyN, kb1, kb2, kb3, kb4, kb5, kb6, rEq, rNe, scal, l1]
        have := nl2.1
        show 1 + (numS (-n)).length + 2 * 0 ≤ 16777216
        omega
      · rw [neg_text h0]
        refine q _ fun b o e => ?_
        have bp := fr e
        have e' : upd (upd H' p (HO.lst [V.str (numS (-n))])) p (HO.lst [V.str (numS (-n)), V.str (Str.ofString "-")]) b = some o := by
          rw [upd_ne bp, upd_ne bp]
          exact s1 _ _ e
        rw [upd_ne (ne_of_none e' np2)]
        exact e'
    · have lt : ¬ (1000000000000000000000000000000000000000000000000000000000000 ≤ n) := by omega
      simp -dsimp [tSeq, tAsg, tRet, tIfS, tIf, tTest, tVar, tCons, tNil, tC, tOp, tUn, rI, rI0, rU, tCB, tLst_A, tTup_A, gName, L2.start, CMul, CPow, CDiv, tDrop, tBM, tBM0, tNext, tPar, gSub, rSetL, rIxL, rIxT, tChain, tB, tNot, tNotV, tAnd, tOr, tAndV, tOrV, tFld, tCall, rIxLH, rIxTH, atI, ixN, upd_same, cxK, ex2, ex3, ex3b, rIs1, rIs2, rNe2, tyN, kb1, kb2, kb3, kb4, kb5, kb6, rEq, rNe, scal, lt, h0, tyV_lst e1, rAppend, e1]
      refine ⟨nl.2, by decide, ?_⟩
      refine ⟨⟨_, rfl⟩, _, rfl, p, _, rfl, SqL.of upd_same, fun p2 np2 => ⟨_, rfl, p2, rfl, [numS n], .inl (SqL.of upd_same), ?_, ?_⟩⟩
      · simp -dsimp [tSeq, tAsg, tRet, tIfS, tIf, tTest, tVar, tCons, tNil, tC, tOp, tUn, rI, rI0, rU, tCB, tLst_A, tTup_A, gName, L2.start, CMul, CPow, CDiv, tDrop, tBM, tBM0, tNext, tPar, gSub, rSetL, rIxL, rIxT, tChain, tB, tNot, tNotV, tAnd, tOr, tAndV, tOrV, tFld, tCall, rIxLH, rIxTH, atI, ixN, upd_same, cxK, ex2, ex3, ex3b, rIs1, rIs2, rNe2, tyN, kb1, kb2, kb3, kb4, kb5, kb6, rEq, rNe, scal]
        have := nl.1
        show (numS n).length + 1 * 0 ≤ 16777216
        omega
      · have e0 : Txt.join (Str.ofString "") [numS n] = numS n := by rw [TL.join_eq]; rfl
        rw [e0]
        refine q _ fun b o e => ?_
        have bp := fr e
        have e' : upd H' p (HO.lst [V.str (numS n)]) b = some o := by
          rw [upd_ne bp]
          exact s1 _ _ e
        rw [upd_ne (ne_of_none e' np2)]
        exact e'
end
section
variable {P : Program} {w : World} {K : PySem.W.Frag} {mg : Str → Option Value} {base : Heap} {fd : FuncData}
def slash : Str := Str.ofString "/"
def shS (a b : Int) : Str := if b = 1 then numS a else numS a ++ slash ++ numS b
theorem small9 {n : Nat} (h : n ≤ 9000) : n ≤ sizeLine := Nat.le_trans h (by decide)
theorem empty_app (x : Str) : Str.empty ++ x = x := by
  refine PyProof.Rows.ext_toList ?_
  show TL.tl (Str.empty ++ x) = TL.tl x
  rw [TL.tl_append]
  rfl
theorem app_len (x y : Str) : (x ++ y).length = x.length + y.length := by
  show (TL.tl (x ++ y)).length = _
  rw [TL.tl_append, List.length_append]
  rfl
theorem scStr : FnScope ["self"] ["self"] d_Share_str.scope := ⟨rfl, rfl, rfl, by decide +kernel, rfl, by decide +kernel, by decide +kernel⟩
def spStr (K : PySem.W.Frag) : Sp := fun vs H Q _ => ∃ (x : Addr) (a b : Int), vs = [.ref x] ∧ IsSh K H x a b ∧ a.natAbs < 10 ^ 60 ∧ b.natAbs < 10 ^ 60 ∧ ∀ H', Same H H' → Q (.str (shS a b)) H'
theorem ok_str (W : Wd K mg) : ∃ fd, FnOk P w K mg base CX0 2 (He.ma K (He.ga K "Share") "__str__") fd ["self"] (spStr K) ∧ Binds K fd ["self"] [] := by
  obtain ⟨fdD, G, bG⟩ := ok_digits (P := P) (w := w) (base := base) W
  have kD : PySem.W.keepIn K (.ref (He.ga K "digits")) = true := by
    obtain ⟨fd, F⟩ := W.F_digits
    exact F.kp
  obtain ⟨fd, F⟩ := W.F_Share_str
  refine ⟨fd, F.ok scStr (fun vs H Q E h => ?_) (fun cdv A outer s H vs Q E hr h => ?_), FunD.bindsN F fun _ _ _ _ _ _ us hl => match us, hl with | [_], _ => rfl⟩
  · obtain ⟨x, a, b, rfl, _⟩ := h
    rfl
  · obtain ⟨x, a, b, rfl, hx, ha, hb, q⟩ := h
    obtain ⟨dx, hd⟩ := id hx
    refine ⟨_, PSs.nox (pss_cons (ps_if (pt_cmpR op_eq (pe_fld (pv 0) rfl) pe_int (nomark _)) (pss_one (ps_ret (pe_joined1 (pe_fmt (pe_call G hr rfl W.g_digits kD bG .nil pass0 (pa_cons (pe_fld (pv 0) rfl) pa_nil)))))) pss_nil)
      (pss_one (ps_ret (pe_joined (.cons (pe_fmt (pe_call G hr rfl W.g_digits kD bG .nil pass0 (pa_cons (pe_fld (pv 0) rfl) pa_nil))) (.cons pe_str (.cons (pe_fmt (pe_call G hr rfl W.g_digits kD bG .nil pass0 (pa_cons (pe_fld (pv 0) rfl) pa_nil))) .nil))))))), ?_⟩
    have ga := numS_len ha
    have gb := numS_len hb
    have l1 : slash.length = 1 := rfl
    by_cases h1 : b = 1
    · have e : shS a b = numS a := if_pos h1
      rw [e] at q
      simp -dsimp [tSeq, tAsg, tRet, tIfS, tIf, tTest, tVar, tCons, tNil, tC, tOp, tUn, rI, rI0, rU, tCB, tLst_A, tTup_A, gName, L2.start, CMul, CPow, CDiv, tDrop, tBM, tBM0, tNext, tPar, gSub, rSetL, rIxL, rIxT, tChain, tB, tNot, tNotV, tAnd, tOr, tAndV, tOrV, tFld, tCall, rIxLH, rIxTH, atI, ixN, upd_same, cxK, ex2, ex3, ex3b, rIs1, rIs2, rNe2, tyN, kb1, kb2, kb3, kb4, kb5, kb6, rEq, rNe, scal, hd, shareO, W.cls_Share, W.n_Share_top, W.n_Share_bottom, look_top, look_bot, h1, tFmt]
      exact ⟨a, rfl, ha, fun H' s' => .inl ⟨numS a, rfl, small9 (by omega), q H' s'⟩⟩
    · have e : shS a b = numS a ++ slash ++ numS b := if_neg h1
      rw [e] at q
      simp -dsimp [tSeq, tAsg, tRet, tIfS, tIf, tTest, tVar, tCons, tNil, tC, tOp, tUn, rI, rI0, rU, tCB, tLst_A, tTup_A, gName, L2.start, CMul, CPow, CDiv, tDrop, tBM, tBM0, tNext, tPar, gSub, rSetL, rIxL, rIxT, tChain, tB, tNot, tNotV, tAnd, tOr, tAndV, tOrV, tFld, tCall, rIxLH, rIxTH, atI, ixN, upd_same, cxK, ex2, ex3, ex3b, rIs1, rIs2, rNe2, tyN, kb1, kb2, kb3, kb4, kb5, kb6, rEq, rNe, scal, hd, shareO, W.cls_Share, W.n_Share_top, W.n_Share_bottom, look_top, look_bot, h1, tFmt, tJs]
      have l0 : (Str.empty ++ numS a).length = (numS a).length := by rw [empty_app]
      refine ⟨a, rfl, ha, fun H1 s1 => .inl ⟨numS a, rfl, small9 (by omega), small9 (by omega), small9 ?_, _, _, _, s1 _ _ hd, W.cls_Share, W.n_Share_bottom, _, rfl, b, rfl, hb, fun H2 s2 => .inl ⟨numS b, rfl, small9 (by omega), small9 ?_, ?_⟩⟩⟩
      · rw [app_len, empty_app]
        show (numS a).length + slash.length ≤ 9000
        omega
      · rw [app_len, app_len, empty_app]
        show (numS a).length + slash.length + (numS b).length ≤ 9000
        omega
      · rw [empty_app]
        exact q _ (s1.trans s2)
theorem scTold : FnScope ["_law_share", "_law_due", "_law_text"] ["_law_share", "_law_due"] d_told.scope := ⟨rfl, rfl, rfl, by decide +kernel, rfl, by decide +kernel, by decide +kernel⟩
def spTold (K : PySem.W.Frag) : Sp := fun vs H Q _ => ∃ (x q : Addr) (a b : Int), vs = [.ref x, .ref q] ∧ IsSh K H x a b ∧ H q = some (.tup [.int a, .int b]) ∧ a.natAbs < 10 ^ 60 ∧ b.natAbs < 10 ^ 60 ∧ ∀ H', Same H H' → Q (.bl true) H'
theorem ok_told (W : Wd K mg) : ∃ fd, FnOk P w K mg base CX0 5 (He.ga K "_law_told") fd ["_law_share", "_law_due"] (spTold K) ∧ Binds K fd ["_law_share", "_law_due"] [] := by
  obtain ⟨fdI, GI, bI⟩ := ok_isShare (P := P) (w := w) (base := base) W
  obtain ⟨fdS, GS, bS⟩ := ok_str (P := P) (w := w) (base := base) W
  have kI : PySem.W.keepIn K (.ref (He.ga K "_law_is_share")) = true := by
    obtain ⟨fd, F⟩ := W.F_is_share
    exact F.kp
  obtain ⟨fd, F⟩ := W.F_told
  refine ⟨fd, F.ok scTold (fun vs H Q E h => ?_) (fun cdv A outer s H vs Q E hr h => ?_), FunD.bindsN F fun _ _ _ _ _ _ us hl => match us, hl with | [_, _], _ => rfl⟩
  · obtain ⟨x, q, a, b, rfl, _⟩ := h
    rfl
  · obtain ⟨x, q, a, b, rfl, hx, hq, ha, hb, k⟩ := h
    obtain ⟨dx, hd⟩ := id hx
    refine ⟨_, PSs.nox (pss_cons (ps_set (i := 2) scTold.nd rfl (Or.inl rfl) (pe_callTy call_strN (by rfl) W.f_str (by decide +kernel) (pa_cons (pe_ix ix_tupH (pv 1) pe_int (fun _ _ => rfl)) pa_nil)))
      (pss_cons (ps_if (pt_cmpR op_ne (pe_ix ix_tupH (pv 1) pe_int (fun _ _ => rfl)) pe_int (nomark _)) (pss_one (ps_set (i := 2) scTold.nd rfl (Or.inl rfl) (pe_op op_add_str (pe_op op_add_str (pv 2) pe_str) (pe_callTy call_strN (by rfl) W.f_str (by decide +kernel) (pa_cons (pe_ix ix_tupH (pv 1) pe_int (fun _ _ => rfl)) pa_nil))))) pss_nil)
      (pss_one (ps_ret (pe_and (pe_call GI (hr.mono (by decide)) rfl W.g_law_is_share kI bI .nil pass0 (pa_cons (pv 0) (pa_cons (pv 1) pa_nil)))
        (pe_one (pe_cmpR op_eq (pe_callTy (call_strOwn (C := He.ga K "Share") W.m_Share_str.at_ W.m_Share_str.fn (FnOk.raw GS bS .nil) hr pass0) (by rfl) W.f_str (by decide +kernel) (pa_cons (pv 0) pa_nil)) (pv 2) (nomark _)))))))), ?_⟩
    have ga := numS_len ha
    have gb := numS_len hb
    have l1 : slash.length = 1 := rfl
    by_cases h1 : b = 1
    · have e : shS a b = numS a := if_pos h1
      simp -dsimp [tSeq, tAsg, tRet, tIfS, tIf, tTest, tVar, tCons, tNil, tC, tOp, tUn, rI, rI0, rU, tCB, tLst_A, tTup_A, gName, L2.start, CMul, CPow, CDiv, tDrop, tBM, tBM0, tNext, tPar, gSub, rSetL, rIxL, rIxT, tChain, tB, tNot, tNotV, tAnd, tOr, tAndV, tOrV, tFld, tCall, rIxLH, rIxTH, atI, ixN, upd_same, cxK, ex2, ex3, ex3b, rIs1, rIs2, rNe2, tyN, kb1, kb2, kb3, kb4, kb5, kb6, rEq, rNe, scal, hq, h1, ga.2]
      refine ⟨x, q, a, b, rfl, hx, hq, fun H1 s1 => .inr ⟨rfl, x, dx, _, rfl, s1 _ _ hd, x, a, b, rfl, ⟨dx, s1 _ _ hd⟩, ha, hb, fun H2 s2 => ⟨_, rfl, rfl, ?_⟩⟩⟩
      rw [e, decide_eq_true rfl]
      exact k _ (s1.trans s2)
    · have e : shS a b = numS a ++ slash ++ numS b := if_neg h1
      simp -dsimp [tSeq, tAsg, tRet, tIfS, tIf, tTest, tVar, tCons, tNil, tC, tOp, tUn, rI, rI0, rU, tCB, tLst_A, tTup_A, gName, L2.start, CMul, CPow, CDiv, tDrop, tBM, tBM0, tNext, tPar, gSub, rSetL, rIxL, rIxT, tChain, tB, tNot, tNotV, tAnd, tOr, tAndV, tOrV, tFld, tCall, rIxLH, rIxTH, atI, ixN, upd_same, cxK, ex2, ex3, ex3b, rIs1, rIs2, rNe2, tyN, kb1, kb2, kb3, kb4, kb5, kb6, rEq, rNe, scal, hq, h1, ga.2, gb.2]
      refine ⟨small9 ?_, small9 ?_, x, q, a, b, rfl, hx, hq, fun H1 s1 => .inr ⟨rfl, x, dx, _, rfl, s1 _ _ hd, x, a, b, rfl, ⟨dx, s1 _ _ hd⟩, ha, hb, fun H2 s2 => ⟨_, rfl, rfl, ?_⟩⟩⟩
      · show (numS a).length + slash.length ≤ 9000
        omega
      · rw [app_len]
        show (numS a).length + slash.length + (numS b).length ≤ 9000
        omega
      · rw [e]
        show Q (.bl (decide (V.str (numS a ++ slash ++ numS b) = V.str (numS a ++ slash ++ numS b)))) H2
        rw [decide_eq_true rfl]
        exact k _ (s1.trans s2)
end
/-! ### NoShare is raised, and taken -/
section
variable {P : Program} {w : World} {K : PySem.W.Frag} {mg : Str → Option Value} {base : Heap} {fd : FuncData}
theorem ok_noshare (W : Wd K mg) (hP : SupX.PrgOk P) : ∃ fd, FnOk P w K mg base CX0 1 (He.ma K (He.ga K "NoShare") "__init__") fd ["self", "top"] (SupX.spExc (He.ga K "NoShare") "top") ∧ Binds K fd ["self", "top"] [] := by
  obtain ⟨cc, cda, T⟩ := SupX.supC_of hP (W.sup 0 rfl) (W.ex 5 rfl) (W.ex 6 rfl)
  exact SupX.exc_init T (NdefX.nscope_by (by decide +kernel)) W.n_NoShare_top (by decide +kernel) (fun _ _ _ _ us hl => match us, hl with | [_, _], _ => rfl) rfl rfl (fun env h => rfl) (fun env h => rfl) (fun env h => by unfold interactive; rw [h]; rfl) (fun env h => rfl) rfl rfl
/-- as Passes, of what is wished whatever the slots -/
theorem passAll {X : Cx} {W : WX} (tk : Takes X W) : Passes (L2.CX X.prog X.w) X (fun c d H => ∀ σ, W c d σ H) := fun pins σ H s e s' I c => by
  obtain ⟨a, B, H', cls, d, e1, e2, e3, e4, e5, e6, e7, z⟩ := c
  exact passAt tk σ pins H s e s' I ⟨a, B, H', cls, d, e1, e2, e3, e4, e5, e6, e7, z σ⟩
def spInitX (K : PySem.W.Frag) : Sp := fun vs H _ E => ∃ (x : Addr) (a : Int), vs = [.ref x, .int a, .int 0] ∧ ∀ d, H d = none → E (.ref (He.ga K "NoShare")) (some d) (upd H d (.xd [("top", .int a)]))
theorem ok_initX (W : Wd K mg) (hP : SupX.PrgOk P) : ∃ fd, FnOk P w K mg base (L2.CX P w) 3 (He.ma K (He.ga K "Share") "__init__") fd psI (spInitX K) ∧ FInit K fd := by
  obtain ⟨fdN, GN, bN⟩ := ok_noshare (P := P) (w := w) (base := base) W hP
  have f8 := He.ba (W.ex 8 rfl)
  obtain ⟨fd, F⟩ := W.F_Share_init
  refine ⟨fd, F.ok scInit (fun vs H Q E h => ?_) (fun cdv A outer s H vs Q E hr h => ?_), F⟩
  · obtain ⟨x, a, rfl, _⟩ := h
    rfl
  · obtain ⟨x, a, rfl, q⟩ := h
    refine ⟨_, pss_cons (ps_if (pt_cmpR op_eq (pv 2) pe_int (nomark _)) (pss_one (ps_raise rfl (takes_of rfl rfl rfl rfl) (pmk_oex (SupX.oexB_ok (W.ex 5 rfl)) (He.eqO_ok f8.1) (of_decide_eq_true f8.2) GN hr bN .nil pass0 rfl W.g_NoShare (pa_cons (pv 1) pa_nil)))) pss_nil) pss_never, ?_⟩
    simp -dsimp [tSeq, tAsg, tRet, tIfS, tIf, tTest, tVar, tCons, tNil, tC, tOp, tUn, rI, rI0, rU, tCB, tLst_A, tTup_A, gName, L2.start, CMul, CPow, CDiv, tDrop, tBM, tBM0, tNext, tPar, gSub, rSetL, rIxL, rIxT, tChain, tB, tNot, tNotV, tAnd, tOr, tAndV, tOrV, tFld, tCall, rIxLH, rIxTH, atI, ixN, upd_same, cxK, ex2, ex3, ex3b, rIs1, rIs2, rNe2, tyN, kb1, kb2, kb3, kb4, kb5, kb6, rEq, rNe, scal, tMkO]
    intro a1 n1
    refine ⟨a1, .int a, rfl, upd_same, fun dx nd ne => ?_⟩
    have nd' : H dx = none := by
      rw [upd_ne ne] at nd
      exact nd
    refine ⟨rfl, dx, upd_same, [("top", .int a)], by rw [upd_ne ne, upd_same], nd', ?_⟩
    have e : upd (del (upd (upd (upd H a1 (exo a1 (He.ga K "NoShare") none)) dx (exd dx [("top", V.int a)])) a1 (exo a1 (He.ga K "NoShare") (some dx))) a1) dx (.xd [("top", V.int a)]) = upd H dx (.xd [("top", V.int a)]) := by
      funext b
      by_cases hb : b = dx
      · subst hb
        rw [upd_same, upd_same]
      · rw [upd_ne hb, upd_ne hb]
        by_cases hc : b = a1
        · subst hc
          rw [del_same, n1]
        · rw [del_ne hc, upd_ne hc, upd_ne hb, upd_ne hc]
    rw [e]
    exact q dx nd'
end
/-! ### C(e, ..) where what is raised is wished for at the caller's slots -/
def tMakeS (C : Addr) (sp : Sp) (E : List (Option V) → XK) (t : TA) : TE := fun σ H Q => t σ H fun vs H1 => ∀ x dx, H1 x = none → H1 dx = none → dx ≠ x →
  sp (.ref x :: vs) (upd (upd H1 dx (.own x)) x (.ins C dx [])) (fun v H2 => v = .non ∧ Q (.ref x) H2) (E σ)
section
variable {X : Cx} {CX : CXT} {k : Nat} {f C : Addr} {fd : FuncData} {ps : List Str} {sp : Sp} {E : List (Option V) → XK} {x : Str} {p pos : Pos} {e : Expr} {es : List Expr} {t : TA}
theorem pe_makeS (M : Mk X.K C f) (F : FnOk X.prog X.w X.K X.mg X.base CX k f fd ps sp) (hr : Room (k + 1) X.A) (hg : Gl X x) (hm : X.mg x = some (.ref C)) (hb : Binds X.K fd ps []) (hx : ∀ σ, PassesAt CX X σ (E σ))
    (ha : PA X (e :: es) t) (hdb : (x == ("__debug__" : Str)) = false := by decide) (he : starEach (e :: es) X.env = (false, eval e X.env) :: starEach es X.env := by rfl) (hpl : (backTo pos (starEach es X.env)).any (·.1) = false := by rfl) :
    PE X (.Call (.Name x p) (e :: es) [] pos) (tMakeS C sp E t) := by
  refine ⟨fun pins s σ H Q I h => ?_⟩
  refine wpAny_Call_Name_kw (ld_glob I hg hm ?_ hdb)
  refine PySem.W.callWith_K (h₀ := X.base) I.ok.mod.kin M.kp (thn (ha.run pos pins s σ H _ I h) fun us s1 ⟨vs, H1, I1, r, q⟩ => ⟨I1.kIn, ?_⟩) he hpl
  have hq := q (s1.heap.objs.size + 1) s1.heap.objs.size (I1.hok.fresh (Nat.le_succ _)) (I1.hok.fresh (Nat.le_refl _)) (Nat.ne_of_lt (Nat.lt_succ_self _))
  have I2 := Inv.made (C := C) I1
  have r2 : Vals (V.ref (s1.heap.objs.size + 1) :: vs) (Value.ref (s1.heap.objs.size + 1) :: us) := .cons rfl r
  have hl : (Value.ref (s1.heap.objs.size + 1) :: us ++ []).length = ps.length := by
    have e := r2.length
    rw [F.len _ _ _ _ hq] at e
    rw [List.append_nil]
    exact e.symm
  have hbb := hb _ (Value.ref (s1.heap.objs.size + 1) :: us) I2.kIn hl
  rw [List.append_nil] at hbb
  show wpAny _ _ (call (.ref C) us) _ _ _
  refine wpAny_call (make_map (f := f) I1.kIn M.makes M.init (beq_iff_eq.mp M.fn) (codeAny_mono (F.run _ X.stack _ _ ⟨Value.ref (s1.heap.objs.size + 1) :: us, []⟩ (Value.ref (s1.heap.objs.size + 1) :: us) _ _ (E σ) (hr.make C us [])
    (I2.env0.make C us []) hbb r2 hq) fun r s' hq' => ?_))
  cases r with
  | error e => exact hx σ pins _ _ e s' I2 hq'
  | ok fl =>
    cases fl with
    | ret u =>
      obtain ⟨v, H', I3, rv, ev, q3⟩ := I2.after hq'
      subst ev
      exact ⟨rv, ⟨V.ref (s1.heap.objs.size + 1), H', I3, rfl, q3⟩⟩
    | next => exact False.elim hq'
    | brk => exact False.elim hq'
    | cont => exact False.elim hq'
end
section
variable {P : Program} {w : World} {K : PySem.W.Frag} {mg : Str → Option Value} {base : Heap} {fd : FuncData}
theorem scRefused : FnScope ["_law_up", "_law_found", "e"] ["_law_up"] d_refused.scope := ⟨rfl, rfl, rfl, by decide +kernel, rfl, by decide +kernel, by decide +kernel⟩
def spRefused (K : PySem.W.Frag) : Sp := fun vs H Q _ => ∃ (a : Int), vs = [.int a] ∧ ∀ H', Same H H' → Q (.bl true) H'
theorem ok_refused (W : Wd K mg) (hP : SupX.PrgOk P) : ∃ fd, FnOk P w K mg base CX0 5 (He.ga K "_law_refused") fd ["_law_up"] (spRefused K) ∧ Binds K fd ["_law_up"] [] := by
  obtain ⟨fdX, GX, FX⟩ := ok_initX (P := P) (w := w) (base := base) W hP
  obtain ⟨fdI, GI, bI⟩ := ok_sameI (P := P) (w := w) (base := base) W
  have kS : PySem.W.keepIn K (.ref (He.ga K "_law_same")) = true := by
    obtain ⟨fd, F⟩ := W.F_same
    exact F.kp
  obtain ⟨fd, F⟩ := W.F_refused
  refine ⟨fd, F.ok scRefused (fun vs H Q E h => ?_) (fun cdv A outer s H vs Q E hr h => ?_), FunD.bindsN F fun _ _ _ _ _ _ us hl => match us, hl with | [_], _ => rfl⟩
  · obtain ⟨a, rfl, _⟩ := h
    rfl
  · obtain ⟨a, rfl, q⟩ := h
    refine ⟨_, pss_cons (ps_set (i := 1) scRefused.nd rfl (Or.inl rfl) pe_str)
      (pss_cons (ps_try_as (i := 2) rfl rfl scRefused.nd rfl rfl ⟨rfl, by decide, .inl W.g_NoShare⟩ takes0
        (fun W' pn xe tk _ => pss_one (ps_expr (pe_makeS W.mkr_Share GX hr rfl W.g_Share (bind3 FX) (fun σ => passAt tk σ) (pa_cons (pv 0) (pa_cons pe_int pa_nil)))))
        (fun a' oe cls d pn hz hf => pss_one (ps_set (i := 1) scRefused.nd rfl (Or.inl rfl) (pe_xf (xfB_ok (W.ex 9 rfl)) W.n_NoShare_top hz hf (pv 2)))))
      (pss_one (ps_ret (pe_call GI (hr.mono (by decide)) rfl W.g_law_same kS bI .nil pass0 (pa_cons (pv 1) (pa_cons (pv 0) pa_nil)))))), ?_⟩
    refine ⟨_, rfl, fun x dx nx nd ne => ⟨x, a, rfl, fun d hd => ⟨true, of_decide_eq_true (W.ex 7 rfl), fun _ ae he => ?_, fun z => nomatch z⟩⟩⟩
    refine ⟨_, rfl, rfl, rfl, d, [("top", .int a)], .int a, rfl, upd_same, rfl, ?_⟩
    refine ⟨_, rfl, _, rfl, a, rfl, fun H' s' => q H' fun b o e => s' _ _ ?_⟩
    have e1 : upd (upd H dx (.own x)) x (.ins (He.ga K "Share") dx []) b = some o := by
      rw [upd_ne (ne_of_none e nx), upd_ne (ne_of_none e nd)]
      exact e
    rw [upd_ne (ne_of_none e1 hd)]
    exact e1
end
/-! ### the numbers -/
theorem side_facts (a b : Int) (hb : b ≠ 0) : side a b ∣ a ∧ side a b ∣ b ∧ side a b ≠ 0 := by
  have hg : 0 < Int.gcd a b := Int.gcd_pos_of_ne_zero_right a hb
  have h1 := Int.gcd_dvd_left a b
  have h2 := Int.gcd_dvd_right a b
  unfold side
  split
  · exact ⟨h1, h2, by omega⟩
  · exact ⟨Int.neg_dvd.mpr h1, Int.neg_dvd.mpr h2, by omega⟩
theorem side_neg (a b : Int) (hb : b ≠ 0) : side a (-b) = -side a b := by
  unfold side
  rw [Int.gcd_neg]
  by_cases h : b > 0
  · rw [if_pos h, if_neg (by omega)]
  · rw [if_neg h, if_pos (by omega), Int.neg_neg]
theorem side_one (a : Int) : side a 1 = 1 := by
  unfold side
  rw [if_pos (by decide), Int.gcd_one]
  rfl
theorem fdiv_le {a s : Int} (h : s ∣ a) (hs : s ≠ 0) : (a.fdiv s).natAbs ≤ a.natAbs := by
  obtain ⟨c, rfl⟩ := h
  rw [Int.fdiv_eq_ediv_of_dvd ⟨c, rfl⟩, Int.mul_ediv_cancel_left _ hs, Int.natAbs_mul]
  exact Nat.le_mul_of_pos_left _ (by omega)
theorem fdiv_flip {a b : Int} (hb : b ≠ 0) : a.fdiv (side a (-b)) = -(a.fdiv (side a b)) ∧ (-b).fdiv (side a (-b)) = b.fdiv (side a b) := by
  obtain ⟨h1, h2, h3⟩ := side_facts a b hb
  rw [side_neg a b hb]
  refine ⟨by rw [Int.fdiv_neg h3, if_pos h1], ?_⟩
  rw [Int.fdiv_neg h3, if_pos (Int.dvd_neg.mpr h2), Int.fdiv_eq_ediv_of_dvd (Int.dvd_neg.mpr h2), Int.fdiv_eq_ediv_of_dvd h2, Int.neg_ediv_of_dvd h2, Int.neg_neg]
theorem scaled {a p : Int} (h : a.natAbs < 1000000000000) (h0 : 0 ≤ p) (h1 : p < 12) : (a / 100 * (1 + p)).natAbs < 2000000000000 := by
  have e : (a / 100).natAbs ≤ 10000000001 := by omega
  rw [Int.natAbs_mul]
  have e2 : (1 + p).natAbs ≤ 12 := by omega
  have := Nat.mul_le_mul e e2
  omega
theorem big_of {n : Nat} (h : n < 10 ^ 60) : n < big9 := Nat.lt_of_lt_of_le h (by unfold big9; exact Nat.le_trans (by decide : (10 : Nat) ^ 60 ≤ 2 ^ 200) (Nat.pow_le_pow_right (by decide) (by decide)))
/-- a share is made of the ints vs -/
def MkS (K : PySem.W.Frag) (H : Hp) (vs : List V) (Q : V → Hp → Prop) (E : XK) (_ : Lk (Q, E) := ⟨⟩) : Prop :=
  ∀ x dx, H x = none → H dx = none → dx ≠ x → spInit K (.ref x :: vs) (upd (upd H dx (.own x)) x (.ins (He.ga K "Share") dx [])) (fun v H2 => v = .non ∧ Q (.ref x) H2) E
theorem MkS.of {K : PySem.W.Frag} {H : Hp} {vs : List V} {a b : Int} {Q : V → Hp → Prop} {E : XK} (e : vs = [.int a, .int b]) (hb : b ≠ 0) (hbb : b.natAbs < big9) (h : AllocS K H (a.fdiv (side a b)) (b.fdiv (side a b)) Q) : MkS K H vs Q E := mk_ok e hb hbb h
theorem tMake_S {K : PySem.W.Frag} {dvs : List V} {E : XK} {t : TA} {σ : List (Option V)} {H : Hp} {Q : V → Hp → Prop} : tMake (He.ga K "Share") (spInit K) dvs E t σ H Q = t σ H fun vs H1 => MkS K H1 (vs ++ dvs) Q E := rfl
theorem tMakeK_S {K : PySem.W.Frag} {n m : Nat} {E : XK} {t tk : TA} {σ : List (Option V)} {H : Hp} {Q : V → Hp → Prop} : tMakeK (He.ga K "Share") n m (spInit K) (fun vs zs => vs ++ zs.reverse) E t tk σ H Q = t σ H fun vs H1 => tk σ H1 fun zs H2 => vs.length = n ∧ zs.length = m ∧ MkS K H2 (vs ++ zs.reverse) Q E := rfl
theorem tMakeN_S {K : PySem.W.Frag} {n m : Nat} {E : XK} {t tk : TA} {σ : List (Option V)} {H : Hp} {Q : V → Hp → Prop} : tMakeN (He.ga K "Share") n m (spInit K) (fun vs zs => vs ++ zs) E t tk σ H Q = t σ H fun vs H1 => tk σ H1 fun zs H2 => vs.length = n ∧ zs.length = m ∧ MkS K H2 (vs ++ zs) Q E := rfl
/-- a loop over the list at a, from here -/
def ForW (K : PySem.W.Frag) (a : Addr) (g : TG) (tb : TS) (D : Ends) (σ : List (Option V)) (H : Hp) (_ : Lk (g, tb, D) := ⟨⟩) : Prop :=
  ∃ W : Nat → Nat → List (Option V) → Hp → Prop, (∃ m, W 0 m σ H) ∧ ∀ i m σ H, W i m σ H → ((Itl K a).stop i H ∧ D.nx σ H) ∨ ((Itl K a).go i H ∧ ∃ N : List (Option V) → Hp → Prop, (∀ σ' H', N σ' H' → ∃ m', m' < m ∧ W (i + 1) m' σ' H') ∧ ∀ x H', (Itl K a).yld i H x H' → g x σ H' fun σ2 H2 => tb { D with nx := N, ct := N, bk := D.nx } σ2 H2)
theorem tFor_iL {K : PySem.W.Frag} {tl : TE} {g : TG} {tb : TS} {D : Ends} {σ : List (Option V)} {H : Hp} : tFor (iList K tl) g tb D σ H = tl σ H fun x H1 => ∃ a, x = .ref a ∧ (∃ xs, SqL K H1 a xs) ∧ ForW K a g tb D σ H1 := rfl
section
variable {P : Program} {w : World} {K : PySem.W.Frag} {mg : Str → Option Value} {base : Heap}
abbrev CXL (_ : Program) (_ : World) : CXT := CX0
def lawK : Nat := 6
def spLaw (K : PySem.W.Frag) : Sp := fun vs H Q _ => ∃ (a : Addr) (ns : List Int), vs = [.ref a] ∧ SqL K H a (ns.map V.int) ∧ ns.length ≤ 63 ∧ ∀ H', Q (.bl true) H'
theorem hCX {P : Program} {w : World} : ∀ (H : Hp) (s : Shared) (e : Value) (s' : Shared), CXL P w [] H s (fun _ _ _ => False) e s' → False := fun _ _ _ _ z => z
theorem scLaw : FnScope ["_law_script", "_law_turn", "_law_draws", "_law_up", "_law_down", "_law_part", "_law_due", "_law_share"] ["_law_script"] d_law.scope := ⟨rfl, rfl, rfl, by decide +kernel, rfl, by decide +kernel, by decide +kernel⟩
theorem ok_law (W : Wd K mg) (hP : SupX.PrgOk P) {fd : FuncData} (F : FunD K d_law.name d_law.qual d_law.params d_law.body d_law.scope (d_law.dvs K) (d_law.kws K) (He.fAd K d_law.at_) fd) : FnOk P w K mg base (CXL P w) lawK (He.ga K "law") fd ["_law_script"] (spLaw K) := by
  obtain ⟨fdSo, GSo, bSo⟩ := ok_source (P := P) (w := w) (base := base) W
  obtain ⟨fdI, GI, bI⟩ := ok_integer (P := P) (w := w) (base := base) W
  obtain ⟨fdD, GD, bD⟩ := ok_draw (P := P) (w := w) (base := base) W
  obtain ⟨fdL, GL, bL⟩ := ok_lowest (P := P) (w := w) (base := base) W
  obtain ⟨fdM, GM, bM⟩ := ok_minus (P := P) (w := w) (base := base) W
  obtain ⟨fdT, GT, bT⟩ := ok_told (P := P) (w := w) (base := base) W
  obtain ⟨fdR, GR, bR⟩ := ok_refused (P := P) (w := w) (base := base) W hP
  obtain ⟨fdH, GH, FH⟩ := ok_init (P := P) (w := w) (base := base) W
  have kSo : PySem.W.keepIn K (.ref (He.ga K "_law_source")) = true := by obtain ⟨fd, F⟩ := W.F_source; exact F.kp
  have kI : PySem.W.keepIn K (.ref (He.ga K "_law_integer")) = true := by obtain ⟨fd, F⟩ := W.F_integer; exact F.kp
  have kD : PySem.W.keepIn K (.ref (He.ga K "_law_draw")) = true := by obtain ⟨fd, F⟩ := W.F_draw; exact F.kp
  have kL : PySem.W.keepIn K (.ref (He.ga K "_law_lowest")) = true := by obtain ⟨fd, F⟩ := W.F_lowest; exact F.kp
  have kM : PySem.W.keepIn K (.ref (He.ga K "_law_minus")) = true := by obtain ⟨fd, F⟩ := W.F_minus; exact F.kp
  have kT : PySem.W.keepIn K (.ref (He.ga K "_law_told")) = true := by obtain ⟨fd, F⟩ := W.F_told; exact F.kp
  have kR : PySem.W.keepIn K (.ref (He.ga K "_law_refused")) = true := by obtain ⟨fd, F⟩ := W.F_refused; exact F.kp
  obtain ⟨ds1, v1, b1⟩ := bind2 FH
  refine F.ok scLaw (fun vs H Q E h => ?_) (fun cdv A outer s H vs Q E hr h => ?_)
  · obtain ⟨a, ns, rfl, _⟩ := h
    rfl
  · obtain ⟨a, ns, rfl, hS, hlen, q⟩ := h
    have r1 : Room 1 _ := hr.mono (by decide)
    have r2 : Room 2 _ := hr.mono (by decide)
    have r3 : Room 3 _ := hr.mono (by decide)
    refine ⟨_, PSs.nox (pss_cons (ps_for PassesOwn.never rfl (pi_range1 rfl W.f_range (pa_cons pe_int pa_nil)) (pg_name (i := 1) scLaw.nd rfl (Or.inl rfl))
      (pss_cons (ps_set (i := 2) scLaw.nd rfl (Or.inl rfl) (pe_call GSo r1 rfl W.g_law_source kSo bSo .nil pass0 (pa_cons (pv 0) (pa_cons (pv 1) pa_nil))))
      (pss_cons (ps_par3 (i := 3) (j := 4) (l := 5) rfl scLaw.nd rfl rfl rfl (by decide) (by decide) (by decide) rfl rfl rfl (pa_cons (pe_call GI r2 rfl W.g_law_integer kI bI .nil pass0 (pa_cons (pv 2) pa_nil)) (pa_cons (pe_call GI r2 rfl W.g_law_integer kI bI .nil pass0 (pa_cons (pv 2) pa_nil))
          (pa_cons (pe_op op_add pe_int (pe_call GD r1 rfl W.g_law_draw kD bD .nil pass0 (pa_cons (pv 2) (pa_cons pe_int pa_nil)))) pa_nil))) rfl)
      (C8.pss_cut (ps_if (pt_cmpR op_eq (pe_call GD r1 rfl W.g_law_draw kD bD .nil pass0 (pa_cons (pv 2) (pa_cons pe_int pa_nil))) pe_int (nomark _))
        (pss_one (ps_par (i := 3) (j := 4) rfl scLaw.nd rfl rfl (by decide) rfl rfl (pa_cons (pe_op op_mul (pe_op op_fdiv (pv 3) pe_int) (pv 5)) (pa_cons (pe_op op_mul (pe_op op_fdiv (pv 4) pe_int) (pv 5)) pa_nil)) rfl)) pss_nil)
      (C8.pss_cut (ps_if (pt_cmpR op_eq (pv 4) pe_int (nomark _)) (pss_one (ps_set (i := 4) scLaw.nd rfl (Or.inl rfl) (pe_un un_neg pe_int))) pss_nil)
      (pss_cons (ps_set (i := 6) scLaw.nd rfl (Or.inl rfl) (pe_call GL r1 rfl W.g_law_lowest kL bL .nil pass0 (pa_cons (pv 3) (pa_cons (pv 4) pa_nil))))
      (pss_cons (ps_for PassesOwn.never rfl (pi_list (pe_lst (pa_cons (pe_make W.mkr_Share GH r3 rfl W.g_Share (bind3 FH) .nil pass0 (pa_cons (pv 3) (pa_cons (pv 4) pa_nil)))
          (pa_cons (pe_makeK0 W.mkr_Share GH r3 rfl W.g_Share (bindBT FH) pass0 (pk_cons (pv 4) (pk_cons (pv 3) pk_nil)))
          (pa_cons (pe_makeN W.mkr_Share GH r3 rfl W.g_Share (bindB FH) pass0 (pa_cons (pv 3) pa_nil) (pk_cons (pv 4) pk_nil)) pa_nil))))) (pg_name (i := 7) scLaw.nd rfl (Or.inl rfl))
        (pss_one (ps_if (pt_not (pt_val (pe_call GT hr rfl W.g_law_told kT bT .nil pass0 (pa_cons (pv 7) (pa_cons (pv 6) pa_nil))))) (pss_one (ps_ret pe_bl)) pss_nil)))
      (pss_cons (ps_if (PW.pt (pw_or (pt_not (pt_val (pe_call GT hr rfl W.g_law_told kT bT .nil pass0 (pa_cons (pe_make W.mkr_Share GH r3 rfl W.g_Share b1 v1 pass0 (pa_cons (pv 3) pa_nil)) (pa_cons (pe_tup (pa_cons (pv 3) (pa_cons pe_int pa_nil))) pa_nil)))))
          (pw_or1 (pt_not (pt_val (pe_call GT hr rfl W.g_law_told kT bT .nil pass0 (pa_cons (pe_make W.mkr_Share GH r3 rfl W.g_Share (bind3 FH) .nil pass0 (pa_cons (pv 3) (pa_cons (pe_un un_neg (pv 4)) pa_nil))) (pa_cons (pe_call GM r1 rfl W.g_law_minus kM bM .nil pass0 (pa_cons (pv 6) pa_nil)) pa_nil)))))))) (pss_one (ps_ret pe_bl)) pss_nil)
      (pss_one (ps_if (pt_not (pt_val (pe_call GR hr rfl W.g_law_refused kR bR .nil pass0 (pa_cons (pv 3) pa_nil)))) (pss_one (ps_ret pe_bl)) pss_nil))))))))))
      (pss_one (ps_ret pe_bl))), ?_⟩
    refine ⟨8, rfl, by decide, by decide, for_range (n := 8) (fun i σ H' => ∃ v1 v2 v3 v4 v5 v6 v7 : Option V, σ = [some (.ref a), v1, v2, v3, v4, v5, v6, v7] ∧ Same H H') ⟨none, none, none, none, none, none, none, rfl, Same.refl _⟩ ?_ ?_⟩
    · rintro i σ H1 hi ⟨v1, v2, v3, v4, v5, v6, v7, rfl, s1⟩
      simp -dsimp [tSeq, tAsg, tRet, tIfS, tIf, tTest, tVar, tCons, tNil, tC, tOp, tUn, rI, rI0, rU, tCB, tLst_A, tTup_A, gName, L2.start, CMul, CPow, CDiv, tDrop, tBM, tBM0, tNext, tPar, gSub, rSetL, rIxL, rIxT, tChain, tB, tNot, tNotV, tAnd, tOr, tAndV, tOrV, tFld, tCall, rIxLH, rIxTH, atI, ixN, upd_same, cxK, ex2, ex3, ex3b, rIs1, rIs2, rNe2, tyN, kb1, kb2, kb3, kb4, kb5, kb6, rEq, rNe, scal, tMake_S, tMakeK_S, tMakeN_S]
      refine ⟨a, ns, i, rfl, s1.seq hS, by omega, fun d0 d1 l nl => ?_⟩
      have s2 : ∀ e0 e1 e2, Same H (upd H1 l (draws e0 e1 e2)) := fun e0 e1 e2 => s1.trans (same_upd nl)
      simp -dsimp [tSeq, tAsg, tRet, tIfS, tIf, tTest, tVar, tCons, tNil, tC, tOp, tUn, rI, rI0, rU, tCB, tLst_A, tTup_A, gName, L2.start, CMul, CPow, CDiv, tDrop, tBM, tBM0, tNext, tPar, gSub, rSetL, rIxL, rIxT, tChain, tB, tNot, tNotV, tAnd, tOr, tAndV, tOrV, tFld, tCall, rIxLH, rIxTH, atI, ixN, upd_same, cxK, ex2, ex3, ex3b, rIs1, rIs2, rNe2, tyN, kb1, kb2, kb3, kb4, kb5, kb6, rEq, rNe, scal, tMake_S, tMakeK_S, tMakeN_S, tPar3]
      refine ⟨l, d0, d1, 0, rfl, upd_same, fun up e0 e1 e2 hup' => ?_⟩
      refine ⟨l, e0, e1, e2, rfl, upd_same, fun dn f0 f1 f2 hdn' => ?_⟩
      refine ⟨l, f0, f1, f2, 12, rfl, upd_same, by decide, by decide, fun r g0 g1 g2 r0 r1' => ⟨r, rfl, ?_⟩⟩
      rw [upd_upd, upd_upd, upd_upd]
      refine ⟨fun σ' H' => ∃ up dn pt : Int, σ' = [some (.ref a), some (.int i), some (.ref l), some (.int up), some (.int dn), some (.int pt), v6, v7] ∧ up.natAbs < 2000000000000 ∧ dn.natAbs < 2000000000000 ∧ Same H H', ?_, ?_⟩
      · refine ⟨_, rfl, l, g0, g1, g2, 2, rfl, upd_same, by decide, by decide, fun r' k0 k1 k2 _ _ => ?_⟩
        rw [upd_upd]
        simp -dsimp [tSeq, tAsg, tRet, tIfS, tIf, tTest, tVar, tCons, tNil, tC, tOp, tUn, rI, rI0, rU, tCB, tLst_A, tTup_A, gName, L2.start, CMul, CPow, CDiv, tDrop, tBM, tBM0, tNext, tPar, gSub, rSetL, rIxL, rIxT, tChain, tB, tNot, tNotV, tAnd, tOr, tAndV, tOrV, tFld, tCall, rIxLH, rIxTH, atI, ixN, upd_same, cxK, ex2, ex3, ex3b, rIs1, rIs2, rNe2, tyN, kb1, kb2, kb3, kb4, kb5, kb6, rEq, rNe, scal, tMake_S, tMakeK_S, tMakeN_S]
        split
        · refine ⟨.inl ⟨by omega, by omega⟩, .inl ⟨by omega, by omega⟩, ?_, ?_, s2 _ _ _⟩
          · exact scaled hup' (by omega) (by omega)
          · exact scaled hdn' (by omega) (by omega)
        · exact ⟨by omega, by omega, s2 _ _ _⟩
      · rintro σ' H2 ⟨up, dn, pt, rfl, hup, hdn, s3⟩
        refine ⟨fun σ' H' => ∃ dn : Int, σ' = [some (.ref a), some (.int i), some (.ref l), some (.int up), some (.int dn), some (.int pt), v6, v7] ∧ dn ≠ 0 ∧ dn.natAbs < 2000000000000 ∧ Same H H', ?_, ?_⟩
        · simp -dsimp [tSeq, tAsg, tRet, tIfS, tIf, tTest, tVar, tCons, tNil, tC, tOp, tUn, rI, rI0, rU, tCB, tLst_A, tTup_A, gName, L2.start, CMul, CPow, CDiv, tDrop, tBM, tBM0, tNext, tPar, gSub, rSetL, rIxL, rIxT, tChain, tB, tNot, tNotV, tAnd, tOr, tAndV, tOrV, tFld, tCall, rIxLH, rIxTH, atI, ixN, upd_same, cxK, ex2, ex3, ex3b, rIs1, rIs2, rNe2, tyN, kb1, kb2, kb3, kb4, kb5, kb6, rEq, rNe, scal, tMake_S, tMakeK_S, tMakeN_S]
          split
          · exact s3
          · rename_i hz
            exact ⟨hz, hdn, s3⟩
        · rintro σ' H3 ⟨dn, rfl, hz, hdn, s4⟩
          obtain ⟨sd1, sd2, sd3⟩ := side_facts up dn hz
          have p60 : (10 : Nat) ^ 60 = 1000000000000000000000000000000000000000000000000000000000000 := by decide
          have bu : up.natAbs < 10 ^ 60 := by omega
          have bd : dn.natAbs < 10 ^ 60 := by omega
          have bS : (up.fdiv (side up dn)).natAbs < 10 ^ 60 := Nat.lt_of_le_of_lt (fdiv_le sd1 sd3) bu
          have bD : (dn.fdiv (side up dn)).natAbs < 10 ^ 60 := Nat.lt_of_le_of_lt (fdiv_le sd2 sd3) bd
          refine ⟨_, rfl, _, rfl, up, dn, rfl, hz, big_of bd, fun t nt => ?_⟩
          generalize hH4 : upd H3 t (.tup [.int (up.fdiv (side up dn)), .int (dn.fdiv (side up dn))]) = H4
          have ht : H4 t = some (.tup [.int (up.fdiv (side up dn)), .int (dn.fdiv (side up dn))]) := by rw [← hH4]; exact upd_same
          have s5 : Same H H4 := by rw [← hH4]; exact s4.trans (same_upd nt)
          simp -dsimp [tSeq, tAsg, tRet, tIfS, tIf, tTest, tVar, tCons, tNil, tC, tOp, tUn, rI, rI0, rU, tCB, tLst_A, tTup_A, gName, L2.start, CMul, CPow, CDiv, tDrop, tBM, tBM0, tNext, tPar, gSub, rSetL, rIxL, rIxT, tChain, tB, tNot, tNotV, tAnd, tOr, tAndV, tOrV, tFld, tCall, rIxLH, rIxTH, atI, ixN, upd_same, cxK, ex2, ex3, ex3b, rIs1, rIs2, rNe2, tyN, kb1, kb2, kb3, kb4, kb5, kb6, rEq, rNe, scal, tMake_S, tMakeK_S, tMakeN_S, tFor_iL]
          refine MkS.of rfl hz (big_of bd) fun x1 H5 n1 i1 z1 => ?_
          try simp -dsimp [tSeq, tAsg, tRet, tIfS, tIf, tTest, tVar, tCons, tNil, tC, tOp, tUn, rI, rI0, rU, tCB, tLst_A, tTup_A, gName, L2.start, CMul, CPow, CDiv, tDrop, tBM, tBM0, tNext, tPar, gSub, rSetL, rIxL, rIxT, tChain, tB, tNot, tNotV, tAnd, tOr, tAndV, tOrV, tFld, tCall, rIxLH, rIxTH, atI, ixN, upd_same, cxK, ex2, ex3, ex3b, rIs1, rIs2, rNe2, tyN, kb1, kb2, kb3, kb4, kb5, kb6, rEq, rNe, scal, tMake_S, tMakeK_S, tMakeN_S]
          refine MkS.of rfl hz (big_of bd) fun x2 H6 n2 i2 z2 => ?_
          try simp -dsimp [tSeq, tAsg, tRet, tIfS, tIf, tTest, tVar, tCons, tNil, tC, tOp, tUn, rI, rI0, rU, tCB, tLst_A, tTup_A, gName, L2.start, CMul, CPow, CDiv, tDrop, tBM, tBM0, tNext, tPar, gSub, rSetL, rIxL, rIxT, tChain, tB, tNot, tNotV, tAnd, tOr, tAndV, tOrV, tFld, tCall, rIxLH, rIxTH, atI, ixN, upd_same, cxK, ex2, ex3, ex3b, rIs1, rIs2, rNe2, tyN, kb1, kb2, kb3, kb4, kb5, kb6, rEq, rNe, scal, tMake_S, tMakeK_S, tMakeN_S]
          refine MkS.of rfl hz (big_of bd) fun x3 H7 n3 i3 z3 => ?_
          refine ⟨le3, Alloc.of fun p H8 np hp z4 => ?_⟩
          have ht8 : H8 t = some (.tup [.int (up.fdiv (side up dn)), .int (dn.fdiv (side up dn))]) := z4 _ _ (z3 _ _ (z2 _ _ (z1 _ _ ht)))
          have s8 : Same H H8 := (((s5.trans z1).trans z2).trans z3).trans z4
          have j1 := ((i1.same z2).same z3).same z4
          have j2 := (i2.same z3).same z4
          have j3 := i3.same z4
          refine ⟨p, rfl, ⟨_, SqL.of hp⟩, for_list (K := K) (a := p) (xs := [.ref x1, .ref x2, .ref x3]) (fun j σ' H' => ∃ v7' : Option V, σ' = [some (.ref a), some (.int i), some (.ref l), some (.int up), some (.int dn), some (.int pt), some (.ref t), v7'] ∧ Same H8 H') ⟨v7, rfl, Same.refl _⟩ (fun j σ' H' _ ⟨_, _, s⟩ => SqL.of (s _ _ hp)) ?_ ?_⟩
          · rintro j y σ' H' hj ⟨v7', rfl, s9⟩
            have hy : ∃ x, y = .ref x ∧ IsSh K H8 x (up.fdiv (side up dn)) (dn.fdiv (side up dn)) := by
              match j, hj with
              | 0, hj => cases hj; exact ⟨x1, rfl, j1⟩
              | 1, hj => cases hj; exact ⟨x2, rfl, j2⟩
              | 2, hj => cases hj; exact ⟨x3, rfl, j3⟩
            obtain ⟨x, rfl, jx⟩ := hy
            refine ⟨_, rfl, _, rfl, x, t, _, _, rfl, jx.same s9, s9 _ _ ht8, bS, bD, fun H9 s10 => ⟨true, rfl, iteF ?_⟩⟩
            exact ⟨some (.ref x), rfl, s9.trans s10⟩
          · rintro σ' H9 ⟨v7', rfl, s9⟩
            have one : ∀ {x : Addr} {G : Hp}, IsSh K G x (up.fdiv (side up 1)) ((1 : Int).fdiv (side up 1)) → IsSh K G x up 1 := fun h => by
              rw [side_one, Int.fdiv_one, Int.fdiv_one] at h
              exact h
            have flip := fdiv_flip (a := up) (b := dn) hz
            have ht9 := s9 _ _ ht8
            simp -dsimp [tSeq, tAsg, tRet, tIfS, tIf, tTest, tVar, tCons, tNil, tC, tOp, tUn, rI, rI0, rU, tCB, tLst_A, tTup_A, gName, L2.start, CMul, CPow, CDiv, tDrop, tBM, tBM0, tNext, tPar, gSub, rSetL, rIxL, rIxT, tChain, tB, tNot, tNotV, tAnd, tOr, tAndV, tOrV, tFld, tCall, rIxLH, rIxTH, atI, ixN, upd_same, cxK, ex2, ex3, ex3b, rIs1, rIs2, rNe2, tyN, kb1, kb2, kb3, kb4, kb5, kb6, rEq, rNe, scal, tMake_S, tMakeK_S, tMakeN_S]
            refine MkS.of rfl (by decide) (big_of (by decide)) fun y1 G1 m1 k1 w1 => ?_
            refine ⟨le2, Alloc.of fun t1 G2 n1' e1 w2 => ?_⟩
            refine ⟨y1, t1, up, 1, rfl, (one k1).same w2, e1, bu, by decide, fun G3 w3 => .inr ⟨rfl, ?_⟩⟩
            refine MkS.of rfl (by omega) (big_of (by omega)) fun y2 G4 m4 k4 w4 => ?_
            have w5 : Same H9 G4 := ((w1.trans w2).trans w3).trans w4
            refine ⟨t, _, _, rfl, w5 _ _ ht9, fun t2 nt2 => ?_⟩
            rw [flip.1, flip.2] at k4
            refine ⟨y2, t2, _, _, rfl, k4.same (same_upd nt2), upd_same, by omega, bD, fun G5 w6 => .inr ⟨rfl, ?_⟩⟩
            refine ⟨up, rfl, fun G6 w7 => .inr ⟨rfl, ?_⟩⟩
            exact ((((s8.trans s9).trans w5).trans (same_upd nt2)).trans w6).trans w7
    · rintro σ H' _
      exact q H'
end
theorem facts {P : Program} {w : World} {K : PySem.W.Frag} {h : Heap} {mg : Str → Option Value} {f : Addr} (X : K.In h) (G : h.Ns mainGlobals mg) (hfa : mg ("law" : Str) = some (.ref f)) (c : SaysX fa fn sups extra K) (hP : SupX.PrgOk P) :
    ∃ fd : FuncData, (∀ (s : Shared) (v : Value), BindsTo s fd ⟨[v], []⟩ [("_law_script", v)]) ∧ ∀ base : Heap, K.In base → base.Ns mainGlobals mg → FnOk P w K mg base (CXL P w) lawK f fd ["_law_script"] (spLaw K) := by
  have Wq : Wd K mg := ⟨c, h, X, G⟩
  have e := hfa.symm.trans (Wq.g_law)
  cases e
  obtain ⟨fd, F⟩ := Wq.F_law
  have b := FunD.bindsA (ps := ["_law_script"]) F fun _ _ _ _ _ _ us hl => match us, hl with | [_], _ => rfl
  exact ⟨fd, fun s v => b s [v] rfl, fun base _ _ => ok_law Wq hP F⟩
theorem walk {l : PySem.W.OpenLaw} {q : Program} {loose : List Str} {XP : (Str → Option Value) → Heap → Prop} {YP : World → Heap → Prop} {d : DefRec} {K : Params → PySem.W.Frag} (hn : l.most = some 63) (hdf : d.params.defaults = []) (hdn : d.name = "law")
    (hY : ∀ (w : World) (h : Heap), YP w h → (K w.params).In h) (hS : ∀ w : World, SaysX fa fn sups extra (K w.params)) (hP : SupX.PrgOk l.prog) :
    PySem.W.WalkO q loose XP YP l.row.toRowW d [] (fun f vs => PySem.call f vs) :=
  L2.walk_of (n := 63) (k := lawK) (x := "_law_script") (CX := fun w => CXL l.prog w) (sp := fun w => spLaw (K w.params)) hn (by decide) hdf ⟨rfl, by decide, by decide⟩ hY
    (fun w mg fa h KX G hmg => facts KX G (by rw [hdn] at hmg; exact hmg) (hS w) hP) (fun _ _ a ns hl _ hS => ⟨a, ns, rfl, hS, hl, fun _ => rfl⟩) fun _ H s e s' z => hCX H s e s' z
end LW
open PySem PySem.W PyProof.Rows
set_option maxRecDepth 100000 in
set_option maxHeartbeats 0 in
theorem PySem.Challenge.cw_lessways_k31_shares_made_holds : PySem.Challenge.rw_lessways_k31_shares_made.Holds := by
  w_on; o_law; k_head; (case hw => w_witness2)
  k_fill
  exact LW.walk (l := PySem.Challenge.rw_lessways_k31_shares_made) rfl rfl rfl (fun w h Y => PySem.W.kIn_of Y) (fun w => by unfold LW.SaysX; kernel_rfl) ⟨by kernel_rfl, by kernel_rfl⟩
#print axioms PySem.Challenge.cw_lessways_k31_shares_made_holds
