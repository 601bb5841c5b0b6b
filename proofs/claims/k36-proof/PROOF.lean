import PyProof.Rows.All
import Wide.All
import OpenK.AllK
import Wide.FinOn
import KE.KStateDown
import Lean
import HandS.ForMost
import HandS.ForExc
import HandS.Defaults
import HandS.IsInst
import HandS.Wide
import HandS.Zip
import HandS.Walk
import HandS.Codes
import HandS.FStr
import HandS.StrMore
import HandS.Style
import HandS.MakeKw
import HandS.MakeKwOnly
import HandS.CallSlots
import HandS.ExcInit
import HandS.ExcField
import HandS.SlotsOwn
import KE.KExcSuper
import HandS.HeadHook1
import HandS.HeadHook2
import KE.KCallOwn
import HandS.NestedK
import KE.KOpsOwn
import HandS.ClsMeth
import HandS.HeadNt
import KE.KEqDict
import HandS.OwnEq
import KE.GoesNew
import HandS.Star
import PySem.Challenge.RW_lessways_k36_terms_refused
set_option Elab.async false
set_option linter.all false
set_option maxRecDepth 100000
set_option maxHeartbeats 4000000
namespace LW
open PySem PySem.Spec PyProof.Rows L2
/-! ### super().__init__(text); self.f = p : an own exception's __init__ -/
namespace SupX
open PySem.W
/-- what the written part says of the class at C whose __init__ stands at f -/
structure SupC (P : Program) (K : PySem.W.Frag) (C f cc cda : Addr) (name qual : Str) (st : Stmt) : Prop where
  oex : OexC K C
  lk : ∃ (oc : Value) (od : Option Addr) (doc pm : Value) (an : Option Addr) (ct : Value) (osl : Array (Option Value)), K.lookup f = some ⟨oc, od, .func (PySem.W.ksFn name qual (defArgs st) (defBody st) (defScope st) .none .none doc pm an (.ref cda) ct cc), osl⟩
  code : PySem.W.codeIn K (.ref cda) qual = true
  file : ∃ (ccl : Value) (cdd : Option Addr) (vs : Array Value) (ccs : Array (Option Value)) (file : Str) (tf : Tok), K.lookup cda = some ⟨ccl, cdd, .fields vs, ccs⟩ ∧ vs[2]? = some (.str file tf) ∧ ((P.main.file : Str) == file) = true
  cell : ∃ (cl : Value) (cld : Option Addr) (csl : Array (Option Value)), K.lookup cc = some ⟨cl, cld, .cell (some (.ref C)), csl⟩
  isc : ∃ cd, PySem.W.clsIn K C = some cd
  sub : PySem.W.mroIn K C (.ref C) = some true
  sup : PySem.W.nsIn K mainGlobals "super" = some none
  opq : PySem.W.nsIn K PySem.cStatics "thirdparty.any" = some none
  ini : PySem.W.ks_superIn K C C "__init__" = some (some (.builtin "ValueError.__init__"))
  veb : PySem.W.subIn K (.ref C) (.type "ValueError") = some true
  top : (P.main.scope.names.lookup ("super" : Str)).isSome = false
section
variable {X : Cx} {C f cc cda a : Addr} {name qual : Str} {st : Stmt} {body : List Stmt} {scope : Scope} {H : Hp} {s : Shared} {v : V} {par : Str} {p0 p1 p2 p3 p4 p5 : Pos} {msg : Str} {j : Nat}
theorem super_stmt (T : SupC X.prog X.K C f cc cda name qual st) (henv : X.env = PySem.W.ksEnv qual scope X.env.locals f (.ref cda) cc) (hN0 : X.N[0]? = some ("self" : Str))
    (hks : scope.names.lookup ("super" : Str) = some .globalImplicit) (hkc : scope.names.lookup ("__class__" : Str) = some .free) (hka : scope.names.lookup ("self" : Str) = some .local) (hk : scope.kind = .function)
    (hp : ((defArgs st).posonlyargs ++ (defArgs st).args).head?.map (·.arg) = some ("self" : Str)) {pl : Sem Bool}
    (he : eval (.Call (.Attribute (.Call (.Name "super" p0) [] [] p1) "__init__" p2) [.Constant (.str msg) j p3] [] p4) X.env = (do
      let ov ← attributeBase (.Call (.Name "super" p0) [] [] p1) "__init__" X.env (eval (.Call (.Name "super" p0) [] [] p1) X.env)
      standAt p2.atName
      let (f, first) ← holding [ov] (getMethod ov "__init__" pl)
      callWith p4 f first (backTo p4 (starEach [.Constant (.str msg) j p3] X.env)) []))
    (hsw : swapsWith (.Call (.Attribute (.Call (.Name "super" p0) [] [] p1) "__init__" p2) [.Constant (.str msg) j p3] [] p4) none p5.line X.env = pure false) (hi : interactive X.env = false)
    {σ : List (Option V)} (hσ : σ[0]? = some (some (.ref a))) (I : Inv X [] σ H s) (ha : H a = some (exo a C none)) {Q : Flow → Shared → Prop} (h : ∀ s', Inv X [] σ H s' → Q .next s') :
    _root_.PySem.wpAt (model X.prog X.w) X.A (.func body X.env) (exec (.Expr (.Call (.Attribute (.Call (.Name "super" p0) [] [] p1) "__init__" p2) [.Constant (.str msg) j p3] [] p4) p5) X.env) Q X.xe s := by
  obtain ⟨oc, od, doc, pm, an, ct, osl, lk⟩ := T.lk
  obtain ⟨ccl, cdd, vs, ccs, file, tf, lcd, hvs, hfile⟩ := T.file
  obtain ⟨cl, cld, csl, lcc⟩ := T.cell
  obtain ⟨cd, hcd⟩ := T.isc
  obtain ⟨ar, har, hara⟩ : ∃ ar, ((defArgs st).posonlyargs ++ (defArgs st).args).head? = some ar ∧ ar.arg = "self" := by
    cases e : ((defArgs st).posonlyargs ++ (defArgs st).args).head? with
    | none =>
      rw [e] at hp
      cases hp
    | some ar =>
      rw [e] at hp
      exact ⟨ar, rfl, Option.some.inj hp⟩
  have kX : X.K.In s.heap := I.kIn
  have k4 : X.env.scope.kind = .function := I.ok.kind
  obtain ⟨mb, hb1, hb2⟩ := I.mod.blt
  obtain ⟨m, hns, hl⟩ := I.loc
  have hself : m ("self" : Str) = some (.ref a) := by
    obtain ⟨u, r, l⟩ := hl 0 "self" (.ref a) hN0 hσ (.inl (by rw [henv]; exact hka))
    obtain rfl : u = Value.ref a := r
    rcases l with ⟨_, e⟩ | ⟨e, _⟩
    · exact e
    · rw [henv] at e
      have e2 : scope.names.lookup ("self" : Str) = some .cell ∨ scope.names.lookup ("self" : Str) = some .free := e
      rw [hka] at e2
      rcases e2 with e2 | e2 <;> cases e2
  generalize hL : X.env.locals = L at *
  rw [henv] at he hsw hi ⊢
  obtain ⟨t1, ho⟩ := exo_at I.hok ha
  obtain ⟨oD, hD1, hD2⟩ : ∃ oD, s.heap.get? C = some oD ∧ oD.data = .cls cd := by
    unfold PySem.W.clsIn at hcd
    split at hcd
    · rename_i c d cd' sl hoo
      cases hcd
      exact ⟨_, kX _ _ hoo, rfl⟩
    · cases hcd
  have J0 : PySem.W.InstAt s.heap a { cls := .ref C, dict := none, data := .fields #[.ref t1, .none, .none, .none, .bool false, .none] } C none := ⟨ho, rfl, rfl, trivial⟩
  refine PySem.ks_wpAt_Expr_any (PySem.ks_wpAt_MethodCall (PySem.ks_wpAt_super_base hks hkc rfl rfl (kX _ _ lk) rfl har rfl (kX _ _ lcd) rfl hvs hfile T.top ?_) he) hi hsw
  refine PySem.W.ks_loadName_global hk hks (Calls.loadGlobal_builtin (I.mod.glob.keeps I.bk) (PySem.W.mg_none_of I.mod.kin I.mod.glob T.sup) (hb1.keeps I.bk) ((hb2 _ (by decide)).trans (by decide +kernel : bootBuiltins "super" = some (.type "super"))) ⟨rfl, ?_⟩)
  refine wpAny_loadName_free hk hkc rfl ⟨_, kX _ _ lcc, rfl⟩ ?_
  refine wpAny_loadName_local hk (by rw [hara]; exact hka) hns (by rw [hara]; exact hself) ?_
  refine PySem.ks_wpAny_isType_cls hD1 hD2 ⟨rfl, ?_⟩
  obtain ⟨hh, g, dr, tk, os⟩ := s
  refine PySem.ks_wpAny_call_super hD1 hD2 ho rfl (fun c e => by cases e) (PySem.W.looks_mroIn kX T.sub) (fun h1 e1 kk1 => ?_)
  have I1 : Inv X [] σ H ⟨h1, g, dr, tk, os⟩ := I.kept (t' := tk) kk1
  have ho1 := kk1 _ _ ho
  have kX1 : X.K.In h1 := I1.kIn
  have hI1 : PySem.W.Looks (model X.prog X.w) h1 (isInstance (.ref a) (.type "ValueError")) true := (PySem.W.InstAt.type (M := model X.prog X.w) (show PySem.W.InstAt h1 a { cls := .ref C, dict := none, data := .fields #[.ref t1, .none, .none, .none, .bool false, .none] } C none from ⟨ho1, rfl, rfl, trivial⟩)).andThen (PySem.W.looks_subIn kX1 T.veb)
  have hini := T.ini
  unfold PySem.W.ks_superIn at hini
  rw [hcd] at hini
  refine PySem.W.kxs_getMethod PySem.W.kxs_ValueError e1 (PySem.W.looks_opaque kX1 T.opq) (l₀ := cd.mro) (fun A Q E s k q => wpAny_bind ((PySem.W.looks_clsIn kX1 hcd) A _ E s k (wpAny_pure q))) rfl kX1 hini hI1 (PySem.W.ks_ne kX J0 hcd) rfl ?_
  have kk2 : ∀ b o, h1.get? b = some o → (h1.push (PySem.W.kxs_mw "ValueError.__init__" a)).get? b = some o := fun b o e => Heap.get?_push_of_some _ e
  have hu : (h1.push (PySem.W.kxs_mw "ValueError.__init__" a)).get? h1.objs.size = some (PySem.W.kxs_mw "ValueError.__init__" a) := Heap.get?_push_at rfl rfl
  have I2 : Inv X [] σ H ⟨h1.push (PySem.W.kxs_mw "ValueError.__init__" a), g, dr, tk + 1, os⟩ := I1.kept (t' := tk + 1) kk2
  have hu0 : H h1.objs.size = none := I1.hok.fresh (Nat.le_refl _)
  have I3 : Inv X [(h1.objs.size, PySem.W.kxs_mw "ValueError.__init__" a)] σ H ⟨h1.push (PySem.W.kxs_mw "ValueError.__init__" a), g, dr, tk + 1, os⟩ := ⟨I2.ok, I2.os, I2.bare, I2.base, I2.loc, I2.cell, I2.free, I2.freeC, fun p hp => by
    rcases List.mem_append.mp hp with hp | hp
    · exact I2.pin p (List.mem_append_left _ hp)
    · cases List.mem_singleton.mp hp
      exact ⟨hu, hu0, Nat.ne_of_gt I1.lt, I1.nofs (Nat.le_refl _), fun v e => by cases e⟩, I2.hok, I2.len⟩
  refine PySem.W.kxs_callWith (i := "ValueError.__init__") (x := a) rfl ?_
  rw [show ([.Constant (.str msg) j p3] : List Expr) = .Constant (.str msg) j p3 :: [] from rfl]
  refine Calls.evalArgs_plain ?_
  rw [← henv]
  refine thn ((pa_cons (X := X) (pe_str (x := msg) (j := j) (pos := p3)) pa_nil).run p4 _ _ σ H (fun vs H' => vs = [.str msg] ∧ H' = H) I3 ⟨rfl, rfl⟩) fun us s1 ⟨vs, H', I4, r4, ev, eH⟩ => ?_
  subst ev eH
  have hu4 := (I4.pin (h1.objs.size, PySem.W.kxs_mw "ValueError.__init__" a) (List.mem_append_right _ (List.mem_singleton.mpr rfl))).1
  refine ⟨hu4, ?_⟩
  have I5 : Inv X [] σ H' s1 := Inv.unpinned (pl := [(h1.objs.size, PySem.W.kxs_mw "ValueError.__init__" a)]) I4
  obtain ⟨nm, qn, Nn, bs, bm, sn, sub, ab, col, dd, k0, k1, k2, k3, k5, hC, hbm⟩ := T.oex.cls
  have hC4 := I5.kIn _ _ hC
  obtain ⟨t4, ho4⟩ := exo_at I5.hok ha
  have hlen : us.length ≤ sizeLine := by
    rw [← r4.length]
    show 1 ≤ sizeLine
    decide
  obtain ⟨hh4, g4, d4, tk4, os4⟩ := s1
  refine wpAny_call (codeAny_of_tree ?_)
  show wpAny _ X.A.in1 (callAny (.ref h1.objs.size) ⟨[] ++ us, []⟩) _ _ _
  rw [List.nil_append]
  simp only [callAny]
  refine wpAny_bind (wpAny_load hu4 ?_)
  simp only [PySem.W.kxs_mw, show (Value.type "method-wrapper" == Value.type "method" || Value.type "method-wrapper" == Value.type "builtin_function_or_method" || Value.type "method-wrapper" == Value.type "method-wrapper") = true by decide, if_true]
  refine PySem.W.KFB.if_so (by decide) ?_
  refine wpAny_bind (PySem.W.check_bound_init F.excBase_ValueError.toExcCallFacts hC4 ho4 rfl ?_)
  refine wpAny_bind (wpAny_pure (wpAny_pure ?_))
  refine ⟨plainId_quiet F.excBase_ValueError.init.plain _, codeAny_builtin F.excBase_ValueError.initEntry ?_⟩
  refine PySem.W.exc_init_tree (cls := .ref C) (t0 := t4) (dv := none) (c2 := .none) (c3 := .none) (b4 := .bool false) ho4 hlen fun h' k hx _ => ?_
  have J := I5.write (t' := tk4) (x := a) (e := a) (o := exo a C none) (by rw [ha]; exact True.intro) (.inl rfl) k ⟨_, hx⟩ (exo_ok hx)
  have eu : upd H' a (exo a C none) = H' := by
    funext b
    by_cases hb : b = a
    · rw [hb, upd_same, ha]
    · rw [upd_ne hb]
  rw [eu] at J
  exact h _ J
end
section
variable {P : Program} {w : World} {K : PySem.W.Frag} {mg : Str → Option Value} {base : Heap} {CX : CXT} {k : Nat} {C f cc cda : Addr} {name qual : Str} {st : Stmt} {par fld : Str}
/-- the promise of such an __init__ of one parameter -/
def spExc (C : Addr) (fld : Str) : Sp := fun vs H Q _ => ∃ (a : Addr) (v : V), vs = [.ref a, v] ∧ H a = some (exo a C none) ∧ ∀ dx, H dx = none → dx ≠ a → Q .non (upd (upd H dx (exd dx [(fld, v)])) a (exo a C (some dx)))
abbrev nfOf (name qual : Str) (st : Stmt) (cc cda : Addr) : NdefX.NF := ⟨name, qual, defArgs st, defBody st, defScope st, [("__class__", cc)], cda⟩
theorem exc_init (T : SupC P K C f cc cda name qual st) (S : NdefX.NScope ["self", par, "__class__"] ["self", par] ["__class__"] (defScope st)) (hno : PySem.W.findIn K (.ref C) fld = some none)
    (hks : (defScope st).names.lookup ("super" : Str) = some .globalImplicit)
    (hb : ∀ (doc pm ct : Value) (an : Option Addr) (us : List Value), us.length = 2 → bindArgs (PySem.W.ksFn name qual (defArgs st) (defBody st) (defScope st) .none .none doc pm an (.ref cda) ct cc) ⟨us, []⟩ = pure ((["self", par] : List Str).zip us))
    (hp : ((defArgs st).posonlyargs ++ (defArgs st).args).head?.map (·.arg) = some ("self" : Str))
    {p0 p1 p2 p3 p4 p5 p6 p7 p8 p9 : Pos} {msg : Str} {j : Nat}
    (hbody : defBody st = [.Expr (.Call (.Attribute (.Call (.Name "super" p0) [] [] p1) "__init__" p2) [.Constant (.str msg) j p3] [] p4) p5, .Assign [.Attribute (.Name "self" p6) fld p7] (.Name par p8) p9])
    {pl : Env → Sem Bool}
    (he : ∀ env : Env, env.scope = defScope st → eval (.Call (.Attribute (.Call (.Name "super" p0) [] [] p1) "__init__" p2) [.Constant (.str msg) j p3] [] p4) env = (do
      let ov ← attributeBase (.Call (.Name "super" p0) [] [] p1) "__init__" env (eval (.Call (.Name "super" p0) [] [] p1) env)
      standAt p2.atName
      let (f, first) ← holding [ov] (getMethod ov "__init__" (pl env))
      callWith p4 f first (backTo p4 (starEach [.Constant (.str msg) j p3] env)) []))
    (hsw : ∀ env : Env, env.scope = defScope st → swapsWith (.Call (.Attribute (.Call (.Name "super" p0) [] [] p1) "__init__" p2) [.Constant (.str msg) j p3] [] p4) none p5.line env = pure false) (hi : ∀ env : Env, env.scope = defScope st → interactive env = false)
    (hsw2 : ∀ env : Env, env.scope = defScope st → swapsWith (.Name par p8) (some (.Attribute (.Name "self" p6) fld p7)) p9.line env = pure false) (hd1 : (par == ("__debug__" : Str)) = false) (hd2 : (par == ("__classdict__" : Str)) = false) :
    ∃ fd, FnOk P w K mg base CX (k + 1) f fd ["self", par] (spExc C fld) ∧ Binds K fd ["self", par] [] := by
  obtain ⟨oc, od, doc, pm, an, ct, osl, lk⟩ := id T.lk
  obtain ⟨cl, cld, csl, lcc⟩ := id T.cell
  refine ⟨_, ⟨fun vs H Q E h => ?_, fun A outer s H args us vs Q E hr e0 hbd r hsp => ?_⟩, .all (hb doc pm ct an)⟩
  · obtain ⟨a, v, rfl, _⟩ := h
    rfl
  · have KX : K.In s.heap := e0.mod.kin.keeps fun b o e => (e0.bs b o e).1
    have lim : s.heap.NoLimit := e0.mod.nolimit.keeps fun b o e => (e0.bs b o e).1
    obtain ⟨a, v, rfl, ha, q⟩ := hsp
    refine PySem.ks_codeAny_call_defAt (fd := PySem.W.ksFn name qual (defArgs st) (defBody st) (defScope st) .none .none doc pm an (.ref cda) ct cc) (body := defBody st) (binds := (["self", par] : List Str).zip us) hr.depth (KX _ _ lk) rfl lim (PySem.W.codeRec_of KX T.code) rfl hbd S.nocell (fun ⟨n, _⟩ hy => S.par n (List.of_mem_zip hy).1) (fun h₁ hns hk₁ => ?_) S.co S.gen S.kind
    have hl : us.length = 2 := r.length.symm
    have CA : NdefX.CellsAt [("__class__", cc)] ["__class__"] [none] s.heap H := by
      have one : ∀ (y : Str) (c : Addr), ([(("__class__" : Str), cc)] : List (Str × Addr)).lookup y = some c → y = "__class__" ∧ c = cc := fun y c e => by
        by_cases hy : y = "__class__"
        · subst hy
          exact ⟨rfl, (Option.some.inj (show some cc = some c from e)).symm⟩
        · have hy2 : (y == ("__class__" : Str)) = false := by simpa using hy
          rw [List.lookup_cons, hy2] at e
          cases e
      refine ⟨rfl, fun y c e => ?_, fun x y c e1 e2 => (one x c e1).1.trans (one y c e2).1.symm, fun i y hi => ?_⟩
      · obtain ⟨_, rfl⟩ := one y c e
        exact ⟨(e0.bs c _ (e0.mod.kin _ _ lcc)).2, _, _, KX _ _ lcc, rfl⟩
      · match i, hi with
        | 0, hi =>
          cases hi
          exact ⟨cc, rfl, fun v e => by cases e⟩
    have I := NdefX.inv_startN (CX := CX) (mg := mg) (E := E) (F := nfOf name qual st cc cda) (f := f) (tk := s.toks + ((["self", par] : List Str).zip us).length) S hr.hd e0 rfl r CA hns hk₁
    have hself : (defScope st).names.lookup ("self" : Str) = some .local := S.par _ (List.mem_cons_self ..)
    have hpar : (defScope st).names.lookup par = some .local := S.par _ (List.mem_cons_of_mem _ (List.mem_cons_self ..))
    have hcls : (defScope st).names.lookup ("__class__" : Str) = some .free := S.frk _ (List.mem_cons_self ..)
    have hstep : _root_.PySem.wpAt (model P w) (NdefX.ncx CX P w K mg base ["self", par, "__class__"] (nfOf name qual st cc cda) f A outer s H E).A (.func (defBody st) (NdefX.envF (nfOf name qual st cc cda) f s.heap.objs.size)) (execs (defBody st) (NdefX.envF (nfOf name qual st cc cda) f s.heap.objs.size))
        (fun fl s' => CR CX outer P w H s Q E (.ok (.ret (match fl with | .ret v => v | _ => .none))) s') (NdefX.ncx CX P w K mg base ["self", par, "__class__"] (nfOf name qual st cc cda) f A outer s H E).xe
        { s with heap := h₁, toks := s.toks + ((["self", par] : List Str).zip us).length } := by
      have eb : execs (defBody st) (NdefX.envF (nfOf name qual st cc cda) f s.heap.objs.size) = execs [.Expr (.Call (.Attribute (.Call (.Name "super" p0) [] [] p1) "__init__" p2) [.Constant (.str msg) j p3] [] p4) p5, .Assign [.Attribute (.Name "self" p6) fld p7] (.Name par p8) p9] (NdefX.envF (nfOf name qual st cc cda) f s.heap.objs.size) := by rw [hbody]
      rw [eb]
      refine PySem.ks_wpAt_execs_cons (super_stmt (X := NdefX.ncx CX P w K mg base ["self", par, "__class__"] (nfOf name qual st cc cda) f A outer s H E) T rfl rfl hks hcls hself S.kind hp (he _ rfl) (hsw _ rfl) (hi _ rfl) (σ := NdefX.startF ["self", par, "__class__"] [.ref a, v] [none]) rfl I ha (fun s' I' => ?_))
      have d2 : PSs (NdefX.ncx CX P w K mg base ["self", par, "__class__"] (nfOf name qual st cc cda) f A outer s H E) [.Assign [.Attribute (.Name "self" p6) fld p7] (.Name par p8) p9] _ := pss_one (ps_ost (pe_var (i := 0) rfl (.inl hself)) (pe_var (i := 1) rfl (.inl hpar) hd1 hd2) (hsw2 _ rfl))
      refine wpAt_of_wpAny (wpAny_mono (d2.run [] s' _ H { nx := fun _ H' => Q .non H', rt := Q } I' ⟨v, rfl, .ref a, rfl, a, C, rfl, T.oex, hno, .inl ⟨ha, fun dx n ne => q dx n ne⟩⟩) (fun fl s'' hs => ?_) fun e s'' hs => hs)
      cases fl with
      | ret u =>
        obtain ⟨v', σ', H', J, rv, q'⟩ := hs
        exact ⟨v', H', J.os, J.bare, J.base, J.hok, rv, q'⟩
      | next =>
        obtain ⟨σ', H', J, q'⟩ := hs
        exact ⟨.non, H', J.os, J.bare, J.base, J.hok, rfl, q'⟩
      | brk =>
        obtain ⟨_, _, _, q'⟩ := hs
        exact False.elim q'
      | cont =>
        obtain ⟨_, _, _, q'⟩ := hs
        exact False.elim q'
    exact hstep
end
end SupX
/-! ### the facts of such a class as Bools -/
namespace SupX
open PySem.W
def oexB (K : PySem.W.Frag) (C : Addr) : Bool := (match K.lookup C with
  | some ⟨.type "type", _, .cls cd, sl⟩ => (match cd.mro, sl.toList with
    | .ref C' :: bm, [_, _, _, _, some (.builtin n), _] => C' == C && (n == "ValueError.__new__" && (!cd.hasDel && (cd.hasDict && PySem.HandSPX.refsVE bm)))
    | _, _ => false)
  | _ => false) && (He.eqO (PySem.W.findIn K (.ref C) "__setattr__") (some (some (.builtin "object.__setattr__"))) && (decide (PySem.W.subIn K (.ref C) (.type "BaseException") = some true) && (decide (PySem.W.typeIn K (.ref C) = some (.type "type")) && PySem.W.keepIn K (.ref C))))
theorem oexB_ok {K : PySem.W.Frag} {C : Addr} (h : oexB K C = true) : OexC K C := by
  obtain ⟨h1, h⟩ := He.ba h
  obtain ⟨h2, h⟩ := He.ba h
  obtain ⟨h3, h⟩ := He.ba h
  obtain ⟨h4, h5⟩ := He.ba h
  refine ⟨?_, He.eqO_ok h2, of_decide_eq_true h3, of_decide_eq_true h4, h5⟩
  split at h1
  · rename_i dd cd sl ho
    split at h1
    · rename_i C' bm k0 k1 k2 k3 n k5 hm hs
      obtain ⟨g1, h1⟩ := He.ba h1
      obtain ⟨g2, h1⟩ := He.ba h1
      obtain ⟨g3, h1⟩ := He.ba h1
      obtain ⟨g4, g5⟩ := He.ba h1
      have e1 : C' = C := beq_iff_eq.mp g1
      have e2 : n = "ValueError.__new__" := beq_iff_eq.mp g2
      have e3 : cd.hasDel = false := by simpa using g3
      subst e1 e2
      obtain ⟨nm, bs, mro, ns, qn, hd, sn, sub, ab, col, del⟩ := cd
      dsimp only at hm e3 g4
      subst hm e3 g4
      have hsl : sl = #[k0, k1, k2, k3, some (.builtin "ValueError.__new__"), k5] := by
        obtain ⟨l⟩ := sl
        simp only at hs
        rw [hs]
      subst hsl
      exact ⟨nm, qn, ns, bs, bm, sn, sub, ab, col, dd, k0, k1, k2, k3, k5, ho, g5⟩
    · cases h1
  · cases h1
abbrev SpW : Type := Option (Str × Str × Arguments × FuncBody × Scope × Addr × List Str × Addr)
def supW (K : PySem.W.Frag) (f : Addr) : SpW := match K.lookup f with
  | some ⟨_, _, .func fd, _⟩ => some (fd.name, fd.qualname, fd.params, fd.body, fd.scope, fd.globals, fd.closure.map (·.1), fd.builtins)
  | _ => none
def supV (name qual : Str) (st : Stmt) : SpW := some (name, qual, defArgs st, .stmts (defBody st), defScope st, mainGlobals, ["__class__"], builtinsNs)
def supB (K : PySem.W.Frag) (C f : Addr) (qual : Str) : Bool := (match K.lookup f with
  | some ⟨_, _, .func fd, _⟩ => (match fd.code, fd.defaults, fd.kwdefaults, fd.closure with
    | .ref cda, .none, .none, [(_, cc)] => PySem.W.codeIn K (.ref cda) qual && ((match K.lookup cda with
      | some ⟨_, _, .fields vs, _⟩ => (match (vs[2]? : Option Value) with
        | some (Value.str file _) => decide (file = "/claim/cut.py")
        | _ => false)
      | _ => false) && (match K.lookup cc with
      | some ⟨_, _, .cell (some (.ref D)), _⟩ => decide (D = C)
      | _ => false))
    | _, _, _, _ => false)
  | _ => false) && ((PySem.W.clsIn K C).isSome && (decide (PySem.W.mroIn K C (.ref C) = some true) && (He.eqO (PySem.W.nsIn K mainGlobals "super") (some none) && (He.eqO (PySem.W.nsIn K PySem.cStatics "thirdparty.any") (some none) && (He.eqO (PySem.W.ks_superIn K C C "__init__") (some (some (.builtin "ValueError.__init__"))) &&
    decide (PySem.W.subIn K (.ref C) (.type "ValueError") = some true))))))
structure PrgOk (P : Program) : Prop where
  file : P.main.file = "/claim/cut.py"
  top : (P.main.scope.names.lookup ("super" : Str)).isSome = false
theorem supC_of {P : Program} {K : PySem.W.Frag} {C f : Addr} {name qual : Str} {st : Stmt} (hP : PrgOk P) (e : supW K f = supV name qual st) (o : oexB K C = true) (c : supB K C f qual = true) : ∃ cc cda, SupC P K C f cc cda name qual st := by
  obtain ⟨c1, c⟩ := He.ba c
  obtain ⟨c2, c⟩ := He.ba c
  obtain ⟨c3, c⟩ := He.ba c
  obtain ⟨c4, c⟩ := He.ba c
  obtain ⟨c5, c⟩ := He.ba c
  obtain ⟨c6, c7⟩ := He.ba c
  unfold supW at e
  split at c1
  · rename_i oc od fd osl ho
    rw [ho] at e
    split at c1
    · rename_i cda x cc q1 q2 q3 q4
      obtain ⟨d1, c1⟩ := He.ba c1
      obtain ⟨d2, d3⟩ := He.ba c1
      obtain ⟨n1, n2, n3, n4, n5, n6, n7, n8, n9, n10, n11, n12, n13, n14, n15⟩ := fd
      dsimp only at q1 q2 q3 q4
      subst q1 q2 q3 q4
      have e2 : (some (n1, n2, n3, n4, n5, n6, [x], n15) : SpW) = supV name qual st := e
      unfold supV at e2
      simp only [Option.some.injEq, Prod.mk.injEq, List.cons.injEq, and_true] at e2
      obtain ⟨e1, e2, e3, e4, e5, e6, e7, e8⟩ := e2
      subst e1 e2 e3 e4 e5 e6 e7 e8
      refine ⟨cc, cda, ⟨oexB_ok o, ⟨oc, od, _, _, _, _, osl, ho⟩, d1, ?_, ?_, Option.isSome_iff_exists.mp c2, of_decide_eq_true c3, He.eqO_ok c4, He.eqO_ok c5, He.eqO_ok c6, of_decide_eq_true c7, hP.top⟩⟩
      · split at d2
        · rename_i ccl cdd vs ccs h1
          split at d2
          · rename_i file tf h2
            refine ⟨ccl, cdd, vs, ccs, file, tf, h1, h2, ?_⟩
            rw [hP.file, of_decide_eq_true d2]
            exact beq_self_eq_true _
          · cases d2
        · cases d2
      · split at d3
        · rename_i a1 a2 D a3 h1
          have eD : D = C := of_decide_eq_true d3
          subst eD
          exact ⟨a1, a2, a3, h1⟩
        · cases d3
    · cases c1
  · cases c1
end SupX
/-! ### own operators: both of one class, or an int ahead of one -/
namespace OpX
open PySem.W (InstAt findIn isFn selfFirst mroIn looks_mroIn ksp_first ksp_try fills_K instObj)
section
variable {prog : Program} {w : World} {A : Around} {E : Value → Shared → Prop} {s : Shared} {K : PySem.W.Frag} {x y C f : Addr} {ox oy : Obj} {od od2 : Option Obj} {nm : String}
/-- both operands are of the class at C -/
theorem bin1_same {Q : Value → Shared → Prop} (X : K.In s.heap) (I : InstAt s.heap x ox C od) (J : InstAt s.heap y oy C od2) (hc : selfFirst K C = true) (hs : findIn K (.ref C) (PySem.dunder nm) = some (some (.ref f))) (hf : isFn K (.ref f) = true)
    (h : wpAny (model prog w) A (call (.ref f) [.ref x, .ref y]) (PySem.W.CmpBack Q) E s) : wpAny (model prog w) A (binaryOp1 nm (.ref x) (.ref y)) (fun r s' => ∃ v, r = some v ∧ Q v s') E s := by
  obtain ⟨cd, rest, hcd, hm⟩ := ksp_first hc
  have one := ksp_try X I hs hf h
  obtain ⟨hh, g, d, tt, os⟩ := s
  have l1 : PySem.W.Looks (model prog w) hh (typeOf (.ref x)) (.ref C) := I.type
  have l2 : PySem.W.Looks (model prog w) hh (typeOf (.ref y)) (.ref C) := J.type
  have l3 : PySem.W.Looks (model prog w) hh (fillsNumberSlot (.ref C) nm) true := fills_K X hcd hm hs
  have hee : (Value.ref C == Value.ref C) = true := beq_self_eq_true _
  unfold binaryOp1
  refine wpAny_bind (l1.at (wpAny_bind (l2.at (wpAny_bind (l3.at ?_)))))
  simp only [hee, if_true, pure_bind, Bool.and_false, Bool.false_eq_true, if_false, Bool.false_and]
  refine wpAny_bind (wpAny_mono one (fun r s' hr' => ?_) fun _ _ e => e)
  obtain ⟨v, rfl, hq⟩ := hr'
  exact wpAny_pure ⟨v, rfl, hq⟩
/-- an int ahead of an instance: its own method declines, the other one's answers -/
theorem bin1_refl {Q : Value → Shared → Prop} {i : Int} {t : Tok} {g : Addr} (X : K.In s.heap) (I : InstAt s.heap x ox C od) (hc : selfFirst K C = true) (hs : findIn K (.ref C) (PySem.dunder nm) = some (some (.ref g)))
    (hr : findIn K (.ref C) (dunderR nm) = some (some (.ref f))) (hf : isFn K (.ref f) = true) (hsub : mroIn K C (.type "int") = some false) (hfi : fillsNumberSlot (.type "int") nm = pure true)
    (hdec : wpAny (model prog w) A (tryMethod (.int i t) (PySem.dunder nm) (.ref x)) (fun r s' => r = none ∧ s' = s) E s)
    (h : wpAny (model prog w) A (call (.ref f) [.ref x, .int i t]) (PySem.W.CmpBack Q) E s) : wpAny (model prog w) A (binaryOp1 nm (.int i t) (.ref x)) (fun r s' => ∃ v, r = some v ∧ Q v s') E s := by
  obtain ⟨cd, rest, hcd, hm⟩ := ksp_first hc
  have one := ksp_try X I hr hf h
  obtain ⟨hh, g', d, tt, os⟩ := s
  have l1 : PySem.W.Looks (model prog w) hh (typeOf (.ref x)) (.ref C) := I.type
  have l3 : PySem.W.Looks (model prog w) hh (fillsNumberSlot (.ref C) nm) true := fills_K X hcd hm hs
  have l4 : PySem.W.Looks (model prog w) hh (isSubtype (.ref C) (.type "int")) false := looks_mroIn X hsub
  have hne : (Value.type "int" == Value.ref C) = false := Bool.eq_false_iff.mpr fun q => by cases beq_iff_eq.mp q
  unfold binaryOp1
  refine wpAny_bind (wpAny_of_eq (a := .type "int") rfl (wpAny_bind (l1.at (wpAny_bind (wpAny_of_eq hfi ?_)))))
  simp only [hne, Bool.false_eq_true, if_false]
  refine wpAny_bind (l3.at ?_)
  simp only [Bool.and_self, if_true]
  refine wpAny_bind (l4.at ?_)
  have hpy : numberSlotInPython (.type "int") nm = pure false := rfl
  simp only [Bool.false_eq_true, if_false, pure_bind, Bool.not_false, Bool.and_self, if_true, hpy]
  refine wpAny_bind (wpAny_mono hdec (fun r s' hr' => ?_) fun _ _ e => e)
  obtain ⟨rfl, rfl⟩ := hr'
  simp only [pure_bind]
  refine wpAny_bind (wpAny_mono one (fun r s' hr' => ?_) fun _ _ e => e)
  obtain ⟨v, rfl, hq⟩ := hr'
  exact wpAny_bind (wpAny_rule (wpAny_pure ⟨v, rfl, hq⟩))
theorem bin_of {op : Operator} {a b : Value} {Q : Value → Shared → Prop} (h : wpAny (model prog w) A (binaryOp1 op.info.2 a b) (fun r s' => ∃ v, r = some v ∧ Q v s') E s) : wpAny (model prog w) A (binaryOp op a b) Q E s := by
  rcases hi : op.info with ⟨sym, n⟩
  rw [hi] at h
  simp only [binaryOp, hi]
  refine wpAny_holding (wpAny_bind (wpAny_mono h (fun r s' hr' => ?_) fun _ _ e => e))
  obtain ⟨v, rfl, hq⟩ := hr'
  exact wpAny_pure hq
end
end OpX
namespace OpX
open PySem.W (InstAt findIn isFn selfFirst mroIn looks_mroIn ksp_first ksp_try fills_K instObj looks_findIn clsIn looks_clsIn)
/-- the class at C stands ahead of object alone -/
def mro2B (K : PySem.W.Frag) (C : Addr) : Bool := match clsIn K C with
  | some cd => cd.mro == [.ref C, .type "object"]
  | none => false
/-- what the written part says of an operator's names: none in place, and int's own are known -/
def opB (K : PySem.W.Frag) (C : Addr) (nm : String) : Bool :=
  He.eqO (findIn K (.ref C) (dunderI nm)) (some none) && (He.eqO (findIn K (.type "object") (dunderI nm)) (some none) && ((findIn K (.type "int") (PySem.dunder nm)).isSome && (findIn K (.type "int") (dunderR nm)).isSome))
section
variable {prog : Program} {w : World} {A : Around} {E : Value → Shared → Prop} {s : Shared} {K : PySem.W.Frag} {x y C f : Addr} {ox oy : Obj} {od od2 : Option Obj} {nm : String}
theorem fillsI_no {h : Heap} {M : Model} {add : Bool} (X : K.In h) (hm : mro2B K C = true) (hi : findIn K (.ref C) (dunderI nm) = some none) (ho : findIn K (.type "object") (dunderI nm) = some none) :
    PySem.W.Looks M h (fillsInplaceSlot (.ref C) nm add) false := by
  unfold mro2B at hm
  cases hc : clsIn K C with
  | none => rw [hc] at hm; cases hm
  | some cd =>
    rw [hc] at hm
    have hm : cd.mro = [.ref C, .type "object"] := beq_iff_eq.mp hm
    intro A Q E s k q
    have lm : PySem.W.Looks M h (mroOf (.ref C)) cd.mro := (looks_clsIn X hc).andThen (f := fun cd => pure cd.mro) .now
    have lm' := lm.keeps k
    obtain ⟨hh, g, d, tt, os⟩ := s
    have X' : K.In hh := X.keeps k
    have l1 : PySem.W.Looks M hh (typeLookup (.ref C) (dunderI nm)) none := looks_findIn X' hi
    have l2 : PySem.W.Looks M hh (typeLookup (.type "object") (dunderI nm)) none := looks_findIn X' ho
    unfold fillsInplaceSlot
    refine wpAny_bind (lm'.at ?_)
    rw [hm, List.anyM_cons]
    refine wpAny_bind (wpAny_bind (l1.at ?_))
    refine wpAny_pure ?_
    rw [if_neg (by decide), List.anyM_cons]
    refine wpAny_bind (wpAny_bind (l2.at ?_))
    refine wpAny_pure ?_
    rw [if_neg (by decide)]
    exact wpAny_pure q
theorem inp_of {op : Operator} {b : Value} {Q : Value → Shared → Prop} (X : K.In s.heap) (I : InstAt s.heap x ox C od) (hm : mro2B K C = true) (hi : findIn K (.ref C) (dunderI op.info.2) = some none) (ho : findIn K (.type "object") (dunderI op.info.2) = some none)
    (h : wpAny (model prog w) A (binaryOp1 op.info.2 (.ref x) b) (fun r s' => ∃ v, r = some v ∧ Q v s') E s) : wpAny (model prog w) A (inplaceOp op (.ref x) b) Q E s := by
  obtain ⟨hh, g, d, tt, os⟩ := s
  have l1 : PySem.W.Looks (model prog w) hh (typeOf (.ref x)) (.ref C) := I.type
  have l2 : PySem.W.Looks (model prog w) hh (fillsInplaceSlot (.ref C) op.info.2 (op == .Add)) false := fillsI_no X hm hi ho
  unfold inplaceOp
  refine wpAny_holding (wpAny_bind (l1.at (wpAny_bind (l2.at ?_))))
  simp only [Bool.false_eq_true, if_false]
  refine wpAny_bind (wpAny_mono h (fun r s' hr' => ?_) fun _ _ e => e)
  obtain ⟨v, rfl, hq⟩ := hr'
  exact wpAny_pure hq
end
end OpX
namespace OpX
open PySem.W (InstAt findIn isFn selfFirst mroIn looks_mroIn ksp_first ksp_try fills_K instObj looks_findIn clsIn looks_clsIn subIn looks_subIn ksp_inPy)
section
variable {prog : Program} {w : World} {A : Around} {E : Value → Shared → Prop} {s : Shared} {K : PySem.W.Frag} {x y C dx f g : Addr} {ox oy : Obj} {od od2 : Option Obj} {nm : String} {i : Int} {t : Tok}
/-- an instance ahead of an int -/
theorem bin1_int {Q : Value → Shared → Prop} {ro : Option Value} (X : K.In s.heap) (I : InstAt s.heap x ox C od) (hc : selfFirst K C = true) (hs : findIn K (.ref C) (PySem.dunder nm) = some (some (.ref f))) (hf : isFn K (.ref f) = true)
    (hr : findIn K (.ref C) (dunderR nm) = some (some (.ref g))) (h2 : findIn K (.type "int") (dunderR nm) = some ro) (hsub : subIn K (.type "int") (.ref C) = some false) (hfi : fillsNumberSlot (.type "int") nm = pure true)
    (h : wpAny (model prog w) A (call (.ref f) [.ref x, .int i t]) (PySem.W.CmpBack Q) E s) : wpAny (model prog w) A (binaryOp1 nm (.ref x) (.int i t)) (fun r s' => ∃ v, r = some v ∧ Q v s') E s := by
  obtain ⟨cd, rest, hcd, hm⟩ := ksp_first hc
  have one := ksp_try X I hs hf h
  obtain ⟨hh, g', d, tt, os⟩ := s
  have l1 : PySem.W.Looks (model prog w) hh (typeOf (.ref x)) (.ref C) := I.type
  have l3 : PySem.W.Looks (model prog w) hh (fillsNumberSlot (.ref C) nm) true := fills_K X hcd hm hs
  have l4 : PySem.W.Looks (model prog w) hh (isSubtype (.type "int") (.ref C)) false := looks_subIn X hsub
  have l5 : PySem.W.Looks (model prog w) hh (numberSlotInPython (.ref C) nm) true := ksp_inPy X hs hr (.inr ⟨g, rfl⟩)
  have l6 : PySem.W.Looks (model prog w) hh (typeLookup (.type "int") (dunderR nm)) ro := looks_findIn X h2
  have hne : (Value.ref C == Value.type "int") = false := Bool.eq_false_iff.mpr fun q => by cases beq_iff_eq.mp q
  have hpy : numberSlotInPython (.type "int") nm = pure false := rfl
  unfold binaryOp1
  refine wpAny_bind (l1.at (wpAny_bind (wpAny_of_eq (a := .type "int") rfl (wpAny_bind (l3.at ?_)))))
  simp only [hne, Bool.false_eq_true, if_false]
  refine wpAny_bind (wpAny_of_eq hfi ?_)
  simp only [Bool.and_self, if_true]
  refine wpAny_bind (l4.at ?_)
  simp only [Bool.false_eq_true, if_false, pure_bind, Bool.not_false, Bool.and_self, if_true, hpy]
  refine wpAny_bind (l5.at ?_)
  simp only [if_true, pure_bind, Bool.not_false]
  refine wpAny_bind (l6.at ?_)
  refine wpAny_bind (wpAny_mono one (fun r s' hr' => ?_) fun _ _ e => e)
  obtain ⟨v, rfl, hq⟩ := hr'
  exact wpAny_pure ⟨v, rfl, hq⟩
/-- what a two-place method of int says to an instance -/
theorem int_ins {name : String} {F : Int → Int → Sem Fin} : Meets (Builtin.Int.intBinary name F false ⟨[.int i t, .ref x], []⟩) (fun _ R s => s.heap.get? x = some (instObj C dx) ∧ R (.ok (.ret Value.notImplemented)) s) :=
  .of_wp fun prog w A R s h => by
    obtain ⟨hl, h⟩ := h
    unfold Builtin.Int.intBinary
    refine wpAny_bind (wpAny_of_eq (a := (Value.int i t, [Value.ref x])) rfl ?_)
    refine wpAny_bind (wpAny_of_eq (a := i) rfl ?_)
    refine wpAny_bind (m := asInt? (.ref x)) (wpAny_bind (wpAny_load hl ?_))
    refine wpAny_pure ?_
    refine wpAny_bind (wpAny_rule ?_)
    exact wpAny_pure ⟨_, rfl, h⟩
/-- what int's own method says to an instance, by the operator's name -/
def Dec (nm : String) : Prop := ∀ (prog : Program) (w : World) (A : Around) (E : Value → Shared → Prop) (s : Shared) (x C dx : Addr) (i : Int) (t : Tok), s.heap.get? x = some (instObj C dx) →
  wpAny (model prog w) A (tryMethod (.int i t) (PySem.dunder nm) (.ref x)) (fun r s' => r = none ∧ s' = s) E s
theorem dec_gen {nm id name : String} {F : Int → Int → Sem Fin} (slot : Slot "int" (PySem.dunder nm) id) (entry : entryFor table id = some (Builtin.Int.intBinary name F false)) (args : ∀ a b : Value, argsOk id ⟨[a, b], []⟩) : Dec nm := fun prog w A E s x C dx i t hx =>
  wpAny_tryMethod_declines (Q := fun r s' => r = none ∧ s' = s) (typeIs_int s i t) slot (call_meets slot (typeIs_int s i t) entry (args _ _) (int_ins (C := C) (dx := dx)) ⟨hx, rfl, rfl, rfl⟩)
theorem dec_add : Dec "add" := dec_gen PySem.F.slot_int_add PySem.F.entry_int_add PySem.F.args_int_add_2
theorem dec_sub : Dec "sub" := dec_gen PySem.F.slot_int_sub PySem.F.entry_int_sub PySem.F.args_int_sub_2
theorem dec_mul : Dec "mul" := dec_gen PySem.F.slot_int_mul PySem.F.entry_int_mul PySem.F.args_int_mul_2
end
end OpX
/-! ### the operators' readings -/
/-- x op y by x's own def: y of the same class, or an int -/
def rBinL (C : Addr) (sp : Sp) (E : XK) : R2 := fun x y H Q => ∃ (a dx : Addr) (fs : List (Str × V)), x = .ref a ∧ H a = some (.ins C dx fs) ∧ ((∃ (b dy : Addr) (gs : List (Str × V)), y = .ref b ∧ H b = some (.ins C dy gs)) ∨ ∃ i : Int, y = .int i) ∧ sp [x, y] H Q E
/-- x op y by y's own def: x an int -/
def rBinR (C : Addr) (sp : Sp) (E : XK) : R2 := fun x y H Q => ∃ (i : Int) (b dy : Addr) (gs : List (Str × V)), x = .int i ∧ y = .ref b ∧ H b = some (.ins C dy gs) ∧ sp [y, x] H Q E
/-- what the written part says of one operator at the class C -/
structure OpAt (K : PySem.W.Frag) (C : Addr) (nm : String) (f g : Addr) : Prop where
  first : PySem.W.selfFirst K C = true
  at_ : PySem.W.findIn K (.ref C) (PySem.dunder nm) = some (some (.ref f))
  fn : PySem.W.isFn K (.ref f) = true
  atR : PySem.W.findIn K (.ref C) (dunderR nm) = some (some (.ref g))
  fnR : PySem.W.isFn K (.ref g) = true
  notInt : PySem.W.mroIn K C (.type "int") = some false
  intNot : PySem.W.subIn K (.type "int") (.ref C) = some false
  mro : OpX.mro2B K C = true
  names : OpX.opB K C nm = true
  fills : fillsNumberSlot (.type "int") nm = pure true
  dec : OpX.Dec nm
section
variable {X : Cx} {CX : CXT} {n : Nat} {sp : Sp} {E : XK} {C f g : Addr}
theorem bin1_at {nm : String} {pins : List (Addr × Obj)} {s : Shared} {σ : L2.St} {H : Hp} {x y : V} {v u : Value} {Q : VK} (o : OpAt X.K C nm f g) (F : FnR X.prog X.w X.K X.mg X.base CX n f sp) (hr : Room n X.A) (hx : Passes CX X E)
    (I : Inv X pins σ H s) (rx : RelV x v) (ry : RelV y u) (h : rBinL C sp E x y H Q) :
    (∃ (a : Addr) (od : Option Obj) (dx : Addr), v = .ref a ∧ PySem.W.InstAt s.heap a (PySem.W.instObj C dx) C od) ∧ wpAny (model X.prog X.w) X.A (binaryOp1 nm v u) (fun r s' => ∃ z, r = some z ∧ EP X pins σ Q z s') X.xe s := by
  obtain ⟨a, dx, fs, rfl, ha, hy, q⟩ := h
  cases (show v = Value.ref a from rx)
  obtain ⟨mA, O, _⟩ := ins_get I.hok ha
  obtain ⟨od, J, _⟩ := O.look
  refine ⟨⟨a, _, _, rfl, J⟩, ?_⟩
  have go : wpAny (model X.prog X.w) X.A (call (.ref f) [.ref a, u]) (PySem.W.CmpBack (EP X pins σ Q)) X.xe s :=
    wpAny_mono (wpAny_call (run_fnR (us := [.ref a, u]) (vs := [.ref a, y]) F hr hx I (.cons rfl (.cons ry .nil)) q)) (fun w s' z => by
      obtain ⟨z', H', I', rz, qz⟩ := z
      exact SlX.cmpback rz ⟨z', H', I', rz, qz⟩) fun _ _ x => x
  rcases hy with ⟨b, dy, gs, rfl, hb⟩ | ⟨i, rfl⟩
  · cases (show u = Value.ref b from ry)
    obtain ⟨mB, O', _⟩ := ins_get I.hok hb
    obtain ⟨od', J', _⟩ := O'.look
    exact OpX.bin1_same I.kIn J J' o.first o.at_ o.fn go
  · obtain ⟨t, e⟩ := (show ∃ t, u = Value.int i t from ry)
    cases e
    have h2 := (Bool.and_eq_true_iff.mp (Bool.and_eq_true_iff.mp (Bool.and_eq_true_iff.mp o.names).2).2).2
    obtain ⟨ro, h2⟩ := Option.isSome_iff_exists.mp h2
    exact OpX.bin1_int I.kIn J o.first o.at_ o.fn o.atR h2 o.intNot o.fills go
theorem op_L {op : Operator} (o : OpAt X.K C op.info.2 f g) (F : FnR X.prog X.w X.K X.mg X.base CX n f sp) (hr : Room n X.A) (hx : Passes CX X E) : OpR X (binaryOp op) (rBinL C sp E) :=
  fun pins s σ H x y v u Q I rx ry h => OpX.bin_of (bin1_at o F hr hx I rx ry h).2
theorem ip_L {op : Operator} (o : OpAt X.K C op.info.2 f g) (F : FnR X.prog X.w X.K X.mg X.base CX n f sp) (hr : Room n X.A) (hx : Passes CX X E) : PIp X op (rBinL C sp E) := by
  intro pins s σ H x y v u Q I rx ry h
  obtain ⟨⟨a, od, dx, rfl, J⟩, z⟩ := bin1_at o F hr hx I rx ry h
  have h1 := Bool.and_eq_true_iff.mp o.names
  exact OpX.inp_of I.kIn J o.mro (He.eqO_ok h1.1) (He.eqO_ok (Bool.and_eq_true_iff.mp h1.2).1) z
theorem op_Rt {op : Operator} (o : OpAt X.K C op.info.2 f g) (F : FnR X.prog X.w X.K X.mg X.base CX n g sp) (hr : Room n X.A) (hx : Passes CX X E) : OpR X (binaryOp op) (rBinR C sp E) := by
  intro pins s σ H x y v u Q I rx ry h
  obtain ⟨i, b, dy, gs, rfl, rfl, hb, q⟩ := h
  obtain ⟨t, e⟩ := (show ∃ t, v = Value.int i t from rx)
  cases e
  cases (show u = Value.ref b from ry)
  obtain ⟨mB, O, _⟩ := ins_get I.hok hb
  obtain ⟨od, J, _⟩ := O.look
  have go : wpAny (model X.prog X.w) X.A (call (.ref g) [.ref b, .int i t]) (PySem.W.CmpBack (EP X pins σ Q)) X.xe s :=
    wpAny_mono (wpAny_call (run_fnR (us := [.ref b, .int i t]) (vs := [.ref b, .int i]) F hr hx I (.cons rfl (.cons ⟨t, rfl⟩ .nil)) q)) (fun w s' z => by
      obtain ⟨z', H', I', rz, qz⟩ := z
      exact SlX.cmpback rz ⟨z', H', I', rz, qz⟩) fun _ _ x => x
  exact OpX.bin_of (OpX.bin1_refl I.kIn J o.first o.at_ o.atR o.fnR o.notInt o.fills (o.dec _ _ _ _ _ _ _ _ _ _ J.at_) go)
theorem op_or {F : Value → Value → Sem Value} {r1 r2 : R2} (h1 : OpR X F r1) (h2 : OpR X F r2) : OpR X F (fun x y H Q => r1 x y H Q ∨ r2 x y H Q) := by
  intro pins s σ H x y v u Q I rx ry h
  rcases h with h | h
  · exact h1 pins s σ H x y v u Q I rx ry h
  · exact h2 pins s σ H x y v u Q I rx ry h
/-- -x by x's own def -/
def rUnO (C : Addr) (sp : Sp) (E : XK) : V → Hp → VK → Prop := fun x H Q => ∃ (a dx : Addr) (fs : List (Str × V)), x = .ref a ∧ H a = some (.ins C dx fs) ∧ sp [x] H Q E
theorem un_own (hs : PySem.W.findIn X.K (.ref C) "__neg__" = some (some (.ref f))) (hf : PySem.W.isFn X.K (.ref f) = true) (F : FnR X.prog X.w X.K X.mg X.base CX n f sp) (hr : Room n X.A) (hx : Passes CX X E) : UnR X (unaryOp .USub) (rUnO C sp E) := by
  intro pins s σ H x v Q I rx h
  obtain ⟨a, dx, fs, rfl, ha, q⟩ := h
  cases (show v = Value.ref a from rx)
  obtain ⟨mA, O, _⟩ := ins_get I.hok ha
  obtain ⟨od, J, _⟩ := O.look
  obtain ⟨m, hF⟩ := I.fr
  exact PySem.W.ksp_neg hF I.ok.mod.kin J hs hf (wpAny_call (run_fnR (us := [.ref a]) (vs := [.ref a]) F hr hx I (.cons rfl .nil) q))
/-- abs(x) by x's own def -/
def rAbsO (C : Addr) (sp : Sp) (E : XK) : List V → Hp → VK → Prop := fun xs H Q => ∃ (a dx : Addr) (fs : List (Str × V)), xs = [.ref a] ∧ H a = some (.ins C dx fs) ∧ sp [.ref a] H Q E
end
section
variable {X : Cx} {CX : CXT} {n : Nat} {sp : Sp} {E : XK} {C f : Addr}
theorem call_absO (hs : PySem.W.findIn X.K (.ref C) "__abs__" = some (some (.ref f))) (hf : PySem.W.isFn X.K (.ref f) = true) (F : FnR X.prog X.w X.K X.mg X.base CX n f sp) (hr : Room (n + 1) X.A) (hx : Passes CX X E) : CallR X (.builtin "abs") (rAbsO C sp E) := by
  intro pins s σ H xs us Q I r h
  obtain ⟨a, dx, fs, rfl, ha, q⟩ := h
  obtain ⟨u, rfl, ru⟩ := r.one
  cases (show u = Value.ref a from ru)
  obtain ⟨mA, O, _⟩ := ins_get I.hok ha
  obtain ⟨od, J, _⟩ := O.look
  have hr2 : Room n X.A.in1 := Room.in1 hr
  refine Calls.call_function_entry kind_abs plain_abs entry_abs (args_abs _) ?_
  unfold Builtin.«abs»
  refine wpAny_bind (m := oneArg "abs" _) (wpAny_pure ?_)
  refine wpAny_bind (m := callSpecial? (.ref a) (Str.ofString "__abs__")) (PySem.W.special_fn I.kIn J hs (beq_iff_eq.mp hf) (wpAny_mono (wpAny_call (SlX.run_at (us := [.ref a]) (ws := [.ref a]) F hr2 I.env0.in1 hx I (.cons rfl .nil) q)) (fun w s' z => ?_) fun _ _ x => x))
  exact wpAny_pure ⟨_, rfl, z⟩
end
/-! ### comparisons by own methods -/
namespace CmX
open PySem.W (InstAt findIn isFn mroIn typeIn subIn looks_subIn looks_mroIn looks_findIn instObj ifBound_K Looks)
section
variable {prog : Program} {w : World} {A : Around} {E : Value → Shared → Prop} {s : Shared} {K : PySem.W.Frag} {x C f : Addr} {ox : Obj} {od : Option Obj} {a b ta tb : Value} {op : CmpOp}
/-- the left one's rule answers -/
theorem rc_fst {Q : Value → Shared → Prop} (hu : A.units < cLine) (ho : oneThing? op a b = none) (la : Looks (model prog w) s.heap (typeOf a) ta) (lb : Looks (model prog w) s.heap (typeOf b) tb)
    (hn : (ta != tb) = true → Looks (model prog w) s.heap (isSubtype tb ta) false)
    (one : wpAny (model prog w) A (tryCompare a (cmpInfo op).2.1 b) (fun r s' => ∃ v, r = some v ∧ Q v s') E s) : wpAny (model prog w) A (richCompare op a b) Q E s := by
  unfold richCompare
  simp only [ho]
  refine wpAny_holding (wpAny_bind (wpAny_cRoomFor hu ?_))
  refine wpAny_bind (la.here (wpAny_bind (lb.here ?_)))
  split
  · rename_i q
    refine wpAny_bind ((hn q).here ?_)
    simp only [Bool.false_eq_true, if_false]
    refine wpAny_bind (wpAny_mono one (fun r s' z => ?_) fun _ _ e => e)
    obtain ⟨v, rfl, hq⟩ := z
    exact wpAny_pure hq
  · refine wpAny_bind (wpAny_pure ?_)
    simp only [Bool.false_eq_true, if_false]
    refine wpAny_bind (wpAny_mono one (fun r s' z => ?_) fun _ _ e => e)
    obtain ⟨v, rfl, hq⟩ := z
    exact wpAny_pure hq
/-- the left one's rule declines, the right one's answers -/
theorem rc_snd {Q : Value → Shared → Prop} (hu : A.units < cLine) (ho : oneThing? op a b = none) (la : Looks (model prog w) s.heap (typeOf a) ta) (lb : Looks (model prog w) s.heap (typeOf b) tb)
    (hn : Looks (model prog w) s.heap (isSubtype tb ta) false)
    (one : wpAny (model prog w) A (tryCompare a (cmpInfo op).2.1 b) (fun r s' => r = none ∧ s' = s) E s)
    (two : wpAny (model prog w) A (tryCompare b (cmpInfo op).2.2 a) (fun r s' => ∃ v, r = some v ∧ Q v s') E s) : wpAny (model prog w) A (richCompare op a b) Q E s := by
  unfold richCompare
  simp only [ho]
  refine wpAny_holding (wpAny_bind (wpAny_cRoomFor hu ?_))
  refine wpAny_bind (la.here (wpAny_bind (lb.here ?_)))
  split
  · refine wpAny_bind (hn.here ?_)
    simp only [Bool.false_eq_true, if_false, Bool.not_false, if_true]
    refine wpAny_bind (wpAny_mono one (fun r s' z => ?_) fun _ _ e => e)
    obtain ⟨rfl, rfl⟩ := z
    refine wpAny_bind (wpAny_mono two (fun r s' z => ?_) fun _ _ e => e)
    obtain ⟨v, rfl, hq⟩ := z
    exact wpAny_pure hq
  · refine wpAny_bind (wpAny_pure ?_)
    simp only [Bool.false_eq_true, if_false, Bool.not_false, if_true]
    refine wpAny_bind (wpAny_mono one (fun r s' z => ?_) fun _ _ e => e)
    obtain ⟨rfl, rfl⟩ := z
    refine wpAny_bind (wpAny_mono two (fun r s' z => ?_) fun _ _ e => e)
    obtain ⟨v, rfl, hq⟩ := z
    exact wpAny_pure hq
theorem try_own {name : Str} {Q : Value → Shared → Prop} (X : K.In s.heap) (I : InstAt s.heap x ox C od) (hs : findIn K (.ref C) name = some (some (.ref f))) (hf : isFn K (.ref f) = true)
    (h : wpAny (model prog w) A (call (.ref f) [.ref x, b]) (PySem.W.CmpBack Q) E s) : wpAny (model prog w) A (tryCompare (.ref x) name b) (fun r s' => ∃ v, r = some v ∧ Q v s') E s := by
  unfold tryCompare
  refine wpAny_bind (ifBound_K X I hs hf (wpAny_mono h (fun v s' hv => ?_) fun _ _ e => e))
  cases v <;> first | exact hv.elim | exact wpAny_pure ⟨_, rfl, hv⟩
theorem ifBound_ne {args : List Value} {Q : Option Value → Shared → Prop} (X : K.In s.heap) (I : InstAt s.heap x ox C od) (hs : findIn K (.ref C) "__ne__" = some (some (.builtin "object.__ne__")))
    (h : wpAny (model prog w) A (call (.builtin "object.__ne__") (.ref x :: args)) (fun v => Q (some v)) E s) : wpAny (model prog w) A (callSpecialIfBound? (.ref x) "__ne__" args) Q E s := by
  simp only [callSpecialIfBound?, bindSpecialIfBound?]
  refine wpAny_holding (wpAny_bind (wpAny_bind (wpAny_bind (I.type.here ((looks_findIn X hs).here ?_)))))
  refine wpAny_bind (wpAny_askSetting (wpAny_ite ?_))
  have fin : wpAny (model prog w) A (call (.builtin "object.__ne__") ([.ref x] ++ args) >>= fun v => pure (some v)) Q E s := wpAny_bind (wpAny_mono h (fun v s' h' => wpAny_pure h') fun _ _ h' => h')
  split
  · exact wpAny_bind (wpAny_of_eq (F.cmp_object.ne.bind _) (wpAny_pure (by exact fin)))
  · exact wpAny_tryCatch (wpAny_bind (wpAny_of_eq (F.cmp_object.ne.bind _) (wpAny_pure (by exact fin))))
/-- != by an own __eq__ -/
theorem try_ne {Q : Value → Shared → Prop} (hu : A.in1.units < cLine) (X : K.In s.heap) (I : InstAt s.heap x ox C od) (hm : mroIn K C (.type "object") = some true) (hs : findIn K (.ref C) "__ne__" = some (some (.builtin "object.__ne__")))
    (he : findIn K (.ref C) "__eq__" = some (some (.ref f))) (hf : isFn K (.ref f) = true)
    (h : wpAny (model prog w) A.in1 (call (.ref f) [.ref x, b]) (fun v s' => ∃ k, v = .bool k ∧ Q (.bool !k) s') E s) : wpAny (model prog w) A (tryCompare (.ref x) "__ne__" b) (fun r s' => ∃ v, r = some v ∧ Q v s') E s := by
  unfold tryCompare
  refine wpAny_bind (ifBound_ne X I hs ?_)
  refine wpAny_call (codeAny_call_builtin F.cmp_object.ne.plain F.cmpEntry_ne (PySem.W.check_slot F.cmpKind_ne F.cmpSplit_ne (I.type.andThen (looks_mroIn X hm)) (F.cmpArgs_ne _ _) ?_))
  unfold Builtin.«object.__ne__»
  refine wpAny_bind (m := slotArgs "__ne__" 1 _) (wpAny_pure ?_)
  refine wpAny_bind (m := cRoomFor _ _) (wpAny_cRoomFor hu ?_)
  refine wpAny_bind (ifBound_K X I he hf (wpAny_mono h (fun v s' hv => ?_) fun _ _ e => e))
  obtain ⟨k, rfl, hq⟩ := hv
  refine wpAny_bind (wpAny_truthy_bool (wpAny_pure ?_))
  exact wpAny_pure ⟨_, rfl, hq⟩
end
end CmX
/-! ### what the built-in types say to an instance -/
namespace CmX
open PySem.AutoSeq1 (wpAny_loadPart')
open PySem.W (InstAt findIn isFn mroIn typeIn subIn looks_subIn looks_mroIn looks_findIn instObj ifBound_K Looks)
section
variable {x C dx : Addr}
theorem int_eq_ins (b : Int) (u : Tok) : Meets (Builtin.«int.__eq__» ⟨[.int b u, .ref x], []⟩) (fun _ R s => s.heap.get? x = some (instObj C dx) ∧ R (.ok (.ret .notImplemented)) s) :=
  .of_wp fun prog w A R s h => by obtain ⟨hp, g, d, tk, os⟩ := s; obtain ⟨hl, h⟩ := h; wp_walk using wpAny_load hl; exact ⟨_, rfl, h⟩
theorem int_ne_ins (b : Int) (u : Tok) : Meets (Builtin.«int.__ne__» ⟨[.int b u, .ref x], []⟩) (fun _ R s => s.heap.get? x = some (instObj C dx) ∧ R (.ok (.ret .notImplemented)) s) :=
  .of_wp fun prog w A R s h => by obtain ⟨hp, g, d, tk, os⟩ := s; obtain ⟨hl, h⟩ := h; wp_walk using wpAny_load hl; exact ⟨_, rfl, h⟩
theorem int_lt_ins (b : Int) (u : Tok) : Meets (Builtin.«int.__lt__» ⟨[.int b u, .ref x], []⟩) (fun _ R s => s.heap.get? x = some (instObj C dx) ∧ R (.ok (.ret .notImplemented)) s) :=
  .of_wp fun prog w A R s h => by obtain ⟨hp, g, d, tk, os⟩ := s; obtain ⟨hl, h⟩ := h; wp_walk using wpAny_load hl; exact ⟨_, rfl, h⟩
theorem int_le_ins (b : Int) (u : Tok) : Meets (Builtin.«int.__le__» ⟨[.int b u, .ref x], []⟩) (fun _ R s => s.heap.get? x = some (instObj C dx) ∧ R (.ok (.ret .notImplemented)) s) :=
  .of_wp fun prog w A R s h => by obtain ⟨hp, g, d, tk, os⟩ := s; obtain ⟨hl, h⟩ := h; wp_walk using wpAny_load hl; exact ⟨_, rfl, h⟩
theorem int_gt_ins (b : Int) (u : Tok) : Meets (Builtin.«int.__gt__» ⟨[.int b u, .ref x], []⟩) (fun _ R s => s.heap.get? x = some (instObj C dx) ∧ R (.ok (.ret .notImplemented)) s) :=
  .of_wp fun prog w A R s h => by obtain ⟨hp, g, d, tk, os⟩ := s; obtain ⟨hl, h⟩ := h; wp_walk using wpAny_load hl; exact ⟨_, rfl, h⟩
theorem int_ge_ins (b : Int) (u : Tok) : Meets (Builtin.«int.__ge__» ⟨[.int b u, .ref x], []⟩) (fun _ R s => s.heap.get? x = some (instObj C dx) ∧ R (.ok (.ret .notImplemented)) s) :=
  .of_wp fun prog w A R s h => by obtain ⟨hp, g, d, tk, os⟩ := s; obtain ⟨hl, h⟩ := h; wp_walk using wpAny_load hl; exact ⟨_, rfl, h⟩
theorem bool_eq_ins (b : Bool) : Meets (Builtin.«int.__eq__» ⟨[.bool b, .ref x], []⟩) (fun _ R s => s.heap.get? x = some (instObj C dx) ∧ R (.ok (.ret .notImplemented)) s) :=
  .of_wp fun prog w A R s h => by obtain ⟨hp, g, d, tk, os⟩ := s; obtain ⟨hl, h⟩ := h; wp_walk using wpAny_load hl; exact ⟨_, rfl, h⟩
theorem str_eq_ins (b : Str) (u : Tok) : Meets (Builtin.«str.__eq__» ⟨[.str b u, .ref x], []⟩) (fun _ R s => s.heap.get? x = some (instObj C dx) ∧ R (.ok (.ret .notImplemented)) s) :=
  .of_wp fun prog w A R s h => by obtain ⟨hp, g, d, tk, os⟩ := s; obtain ⟨hl, h⟩ := h; wp_walk using wpAny_load hl; exact ⟨_, rfl, h⟩
end
section
variable {prog : Program} {w : World} {A : Around} {E : Value → Shared → Prop} {s : Shared} {K : PySem.W.Frag} {x C dx l : Addr} {ox ol : Obj} {od : Option Obj} {Q : Fin → Shared → Prop}
theorem isi_ins {T : String} {r : Bool} (X : K.In s.heap) (I : InstAt s.heap x ox C od) (hm : mroIn K C (.type T) = some r) : Looks (model prog w) s.heap (isInstance (.ref x) (.type T)) r := I.type.andThen (looks_mroIn X hm)
theorem list_eq_ins {a : Value} (X : K.In s.heap) (I : InstAt s.heap x ox C od) (hm : mroIn K C (.type "list") = some false) (h : Q (.done (.ret .notImplemented)) s) : wpAny (model prog w) A (Builtin.«list.__eq__» ⟨[a, .ref x], []⟩) Q E s := by
  unfold Builtin.«list.__eq__»
  refine wpAny_bind (m := slotArgs "__eq__" 1 _) (wpAny_pure ?_)
  refine wpAny_bind ((isi_ins X I hm).here ?_)
  simp only [Bool.not_false, if_true]
  exact wpAny_pure h
theorem tup_eq_ins {a : Value} (X : K.In s.heap) (I : InstAt s.heap x ox C od) (hm : mroIn K C (.type "tuple") = some false) (h : Q (.done (.ret .notImplemented)) s) : wpAny (model prog w) A (Builtin.«tuple.__eq__» ⟨[a, .ref x], []⟩) Q E s := by
  unfold Builtin.«tuple.__eq__»
  refine wpAny_bind (m := slotArgs "__eq__" 1 _) (wpAny_pure ?_)
  refine wpAny_bind ((isi_ins X I hm).here ?_)
  simp only [Bool.not_false, if_true]
  exact wpAny_pure h
theorem dict_eq_ins (hl : s.heap.get? l = some ol) (hc : ol.cls = .type "dict") (X : K.In s.heap) (I : InstAt s.heap x ox C od) (hm : mroIn K C (.type "dict") = some false) (h : Q (.done (.ret .notImplemented)) s) : wpAny (model prog w) A (Builtin.«dict.__eq__» ⟨[.ref l, .ref x], []⟩) Q E s := by
  unfold Builtin.«dict.__eq__»
  show wpAny _ _ (Builtin.Dict.dictSlotArgs "__eq__" ⟨[.ref l, .ref x], []⟩ >>= _) _ _ s
  refine wpAny_bind ?_
  unfold Builtin.Dict.dictSlotArgs
  refine wpAny_bind (wpAny_notOrdered_dict (show s.TypeIs (.ref l) "dict" from ⟨_, hl, hc⟩) ?_)
  show wpAny _ _ (pure (Value.ref l, Value.ref x)) _ _ s
  refine wpAny_pure ?_
  refine wpAny_bind ((isi_ins X I hm).here ?_)
  simp only [Bool.not_false, if_true]
  exact wpAny_bind (wpAny_rule (wpAny_pure h))
end
end CmX
/-! ### comparisons: readings -/
namespace CmX
open PySem.W (InstAt findIn isFn mroIn typeIn subIn looks_subIn looks_mroIn looks_findIn instObj ifBound_K Looks)
/-- C's own comparisons are asked: what the written part says -/
def names7 : List String := ["NoneType", "bool", "int", "str", "list", "tuple", "dict"]
def cmpB (K : PySem.W.Frag) (C : Addr) : Bool := decide (mroIn K C (.type "object") = some true) && (He.eqO (findIn K (.ref C) "__ne__") (some (some (.builtin "object.__ne__"))) && names7.all fun T => decide (subIn K (.type T) (.ref C) = some false) && decide (mroIn K C (.type T) = some false))
structure CmpC (K : PySem.W.Frag) (C : Addr) : Prop where
  top : mroIn K C (.type "object") = some true
  ne : findIn K (.ref C) "__ne__" = some (some (.builtin "object.__ne__"))
  no : ∀ T ∈ names7, subIn K (.type T) (.ref C) = some false ∧ mroIn K C (.type T) = some false
theorem cmpB_ok {K : PySem.W.Frag} {C : Addr} (h : cmpB K C = true) : CmpC K C := by
  obtain ⟨h1, h⟩ := He.ba h
  obtain ⟨h2, h3⟩ := He.ba h
  refine ⟨of_decide_eq_true h1, He.eqO_ok h2, fun T hT => ?_⟩
  obtain ⟨h4, h5⟩ := He.ba (List.all_eq_true.mp h3 T hT)
  exact ⟨of_decide_eq_true h4, of_decide_eq_true h5⟩
/-- the type of y is C itself, or not below C -/
def Beside (K : PySem.W.Frag) (C : Addr) (t : Value) : Prop := t = .ref C ∨ subIn K t (.ref C) = some false
theorem looks_ty {X : Cx} {pins : List (Addr × Obj)} {σ : L2.St} {H : Hp} {s : Shared} {y : V} {u t : Value} (I : Inv X pins σ H s) (ry : RelV y u) (ty : TyOf X.K H y t) : Looks (model X.prog X.w) s.heap (typeOf u) t := by
  obtain ⟨P, Z, p, _⟩ := kit_of I ry (.base ty)
  exact Z.ty _ _ I.kIn p
/-- x op y by x's own def -/
def rCmpL (K : PySem.W.Frag) (C : Addr) (sp : Sp) (E : XK) : R2 := fun x y H Q => ∃ (a dx : Addr) (fs : List (Str × V)) (t : Value), x = .ref a ∧ H a = some (.ins C dx fs) ∧ TyOf K H y t ∧ Beside K C t ∧ sp [x, y] H Q E
/-- x != y by x's own __eq__ -/
def rNeL (K : PySem.W.Frag) (C : Addr) (sp : Sp) (E : XK) : R2 := fun x y H Q => ∃ (a dx : Addr) (fs : List (Str × V)) (t : Value), x = .ref a ∧ H a = some (.ins C dx fs) ∧ TyOf K H y t ∧ Beside K C t ∧ sp [x, y] H (fun z H' => ∃ k, z = .bl k ∧ Q (.bl !k) H') E
/-- i op y by y's own def -/
def rCmpI (C : Addr) (sp : Sp) (E : XK) : R2 := fun x y H Q => ∃ (i : Int) (b dy : Addr) (gs : List (Str × V)), x = .int i ∧ y = .ref b ∧ H b = some (.ins C dy gs) ∧ sp [y, x] H Q E
def rNeI (C : Addr) (sp : Sp) (E : XK) : R2 := fun x y H Q => ∃ (i : Int) (b dy : Addr) (gs : List (Str × V)), x = .int i ∧ y = .ref b ∧ H b = some (.ins C dy gs) ∧ sp [y, x] H (fun z H' => ∃ k, z = .bl k ∧ Q (.bl !k) H') E
/-- x == y by y's own __eq__, x of a built-in type -/
inductive Bi (H : Hp) : V → Prop where
  | non : Bi H .non
  | bl (x : Bool) : Bi H (.bl x)
  | int (i : Int) : Bi H (.int i)
  | str (x : Str) : Bi H (.str x)
  | lst {a : Addr} {xs : List V} (e : H a = some (.lst xs)) : Bi H (.ref a)
  | tup {a : Addr} {xs : List V} (e : H a = some (.tup xs)) : Bi H (.ref a)
  | dK {a : Addr} {kvs : List (Key × V)} (e : H a = some (.dK kvs)) : Bi H (.ref a)
def rEqB (C : Addr) (sp : Sp) (E : XK) : R2 := fun x y H Q => ∃ (b dy : Addr) (gs : List (Str × V)), Bi H x ∧ y = .ref b ∧ H b = some (.ins C dy gs) ∧ sp [y, x] H Q E
section
variable {X : Cx} {CX : CXT} {n : Nat} {sp : Sp} {E : XK} {C f : Addr} {op : CmpOp}
theorem beside_looks {K : PySem.W.Frag} {M : Model} {h : Heap} {t : Value} (X : K.In h) (b : Beside K C t) : (Value.ref C != t) = true → Looks M h (isSubtype t (.ref C)) false := fun q => by
  rcases b with e | e
  · rw [e] at q
    simp at q
  · exact looks_subIn X e
theorem op_cmpL (hc : ∀ a b, compareOp op a b = richCompare op a b) (hs : findIn X.K (.ref C) (cmpInfo op).2.1 = some (some (.ref f))) (hf : isFn X.K (.ref f) = true)
    (F : FnR X.prog X.w X.K X.mg X.base CX n f sp) (hr : Room n X.A) (hu : X.A.units < cLine) (hx : Passes CX X E) : OpR X (compareOp op) (rCmpL X.K C sp E) := by
  intro pins s σ H x y v u Q I rx ry h
  obtain ⟨a, dx, fs, t, rfl, ha, ty, bs, q⟩ := h
  cases (show v = Value.ref a from rx)
  obtain ⟨mA, O, _⟩ := ins_get I.hok ha
  obtain ⟨od, J, _⟩ := O.look
  rw [hc]
  refine rc_fst hu rfl J.type (looks_ty I ry ty) (beside_looks I.kIn bs) (try_own I.kIn J hs hf ?_)
  exact wpAny_mono (wpAny_call (run_fnR (us := [.ref a, u]) (vs := [.ref a, y]) F hr hx I (.cons rfl (.cons ry .nil)) q)) (fun w s' z => by
    obtain ⟨z', H', I', rz, qz⟩ := z
    exact SlX.cmpback rz ⟨z', H', I', rz, qz⟩) fun _ _ x => x
theorem op_neL (K0 : CmpC X.K C) (hs : findIn X.K (.ref C) "__eq__" = some (some (.ref f))) (hf : isFn X.K (.ref f) = true)
    (F : FnR X.prog X.w X.K X.mg X.base CX n f sp) (hr : Room (n + 1) X.A) (hu : X.A.units + 1 < cLine) (hx : Passes CX X E) : OpR X (compareOp .NotEq) (rNeL X.K C sp E) := by
  intro pins s σ H x y v u Q I rx ry h
  obtain ⟨a, dx, fs, t, rfl, ha, ty, bs, q⟩ := h
  cases (show v = Value.ref a from rx)
  obtain ⟨mA, O, _⟩ := ins_get I.hok ha
  obtain ⟨od, J, _⟩ := O.look
  show wpAny _ _ (richCompare .NotEq (.ref a) u) _ _ s
  refine rc_fst (by omega) rfl J.type (looks_ty I ry ty) (beside_looks I.kIn bs) (try_ne (show X.A.units + 1 < cLine from hu) I.kIn J K0.top K0.ne hs hf ?_)
  exact wpAny_mono (wpAny_call (SlX.run_at (us := [.ref a, u]) (ws := [.ref a, y]) F hr.in1 I.env0.in1 hx I (.cons rfl (.cons ry .nil)) q)) (fun w s' z => by
    obtain ⟨z', H', I', rz, k, rfl, qz⟩ := z
    cases (show w = Value.bool k from rz)
    exact ⟨k, rfl, .bl !k, H', I', rfl, qz⟩) fun _ _ x => x
/-- what int says -/
def DcI (op : CmpOp) : Prop := ∀ (prog : Program) (w : World) (A : Around) (E : Value → Shared → Prop) (s : Shared) (x C dx : Addr) (i : Int) (t : Tok), s.heap.get? x = some (instObj C dx) →
  wpAny (model prog w) A (tryCompare (.int i t) (cmpInfo op).2.1 (.ref x)) (fun r s' => r = none ∧ s' = s) E s
theorem dcI {op : CmpOp} {nm : Str} {id : String} {B : Builtin} (hn : (cmpInfo op).2.1 = nm) (slot : Slot "int" nm id) (entry : entryFor table id = some B) (args : ∀ a b : Value, argsOk id ⟨[a, b], []⟩)
    (hB : ∀ (x C dx : Addr) (i : Int) (t : Tok), Meets (B ⟨[.int i t, .ref x], []⟩) (fun _ R s => s.heap.get? x = some (instObj C dx) ∧ R (.ok (.ret .notImplemented)) s)) : DcI op := fun prog w A E s x C dx i t hx => by
  rw [hn]
  exact wpAny_tryCompare_declines (Q := fun r s' => r = none ∧ s' = s) (typeIs_int s i t) slot (call_meets slot (typeIs_int s i t) entry (args _ _) (hB x C dx i t) ⟨hx, rfl, rfl, rfl⟩)
theorem hb_eq : ∀ (x C dx : Addr) (i : Int) (t : Tok), Meets (Builtin.«int.__eq__» ⟨[.int i t, .ref x], []⟩) (fun _ R s => s.heap.get? x = some (instObj C dx) ∧ R (.ok (.ret .notImplemented)) s) := fun _ _ _ _ _ => int_eq_ins _ _
theorem dc_eq : DcI .Eq := dcI (nm := (cmpInfo .Eq).2.1) rfl F.slot_int_eq F.entry_int_eq F.args_int_eq_2 hb_eq
theorem hb_ne : ∀ (x C dx : Addr) (i : Int) (t : Tok), Meets (Builtin.«int.__ne__» ⟨[.int i t, .ref x], []⟩) (fun _ R s => s.heap.get? x = some (instObj C dx) ∧ R (.ok (.ret .notImplemented)) s) := fun _ _ _ _ _ => int_ne_ins _ _
theorem dc_ne : DcI .NotEq := dcI (nm := (cmpInfo .NotEq).2.1) rfl F.slot_int_ne F.entry_int_ne F.args_int_ne_2 hb_ne
theorem hb_lt : ∀ (x C dx : Addr) (i : Int) (t : Tok), Meets (Builtin.«int.__lt__» ⟨[.int i t, .ref x], []⟩) (fun _ R s => s.heap.get? x = some (instObj C dx) ∧ R (.ok (.ret .notImplemented)) s) := fun _ _ _ _ _ => int_lt_ins _ _
theorem dc_lt : DcI .Lt := dcI (nm := (cmpInfo .Lt).2.1) rfl F.slot_int_lt F.entry_int_lt F.args_int_lt_2 hb_lt
theorem hb_le : ∀ (x C dx : Addr) (i : Int) (t : Tok), Meets (Builtin.«int.__le__» ⟨[.int i t, .ref x], []⟩) (fun _ R s => s.heap.get? x = some (instObj C dx) ∧ R (.ok (.ret .notImplemented)) s) := fun _ _ _ _ _ => int_le_ins _ _
theorem dc_le : DcI .LtE := dcI (nm := (cmpInfo .LtE).2.1) rfl F.slot_int_le F.entry_int_le F.args_int_le_2 hb_le
theorem hb_gt : ∀ (x C dx : Addr) (i : Int) (t : Tok), Meets (Builtin.«int.__gt__» ⟨[.int i t, .ref x], []⟩) (fun _ R s => s.heap.get? x = some (instObj C dx) ∧ R (.ok (.ret .notImplemented)) s) := fun _ _ _ _ _ => int_gt_ins _ _
theorem dc_gt : DcI .Gt := dcI (nm := (cmpInfo .Gt).2.1) rfl F.slot_int_gt F.entry_int_gt F.args_int_gt_2 hb_gt
theorem hb_ge : ∀ (x C dx : Addr) (i : Int) (t : Tok), Meets (Builtin.«int.__ge__» ⟨[.int i t, .ref x], []⟩) (fun _ R s => s.heap.get? x = some (instObj C dx) ∧ R (.ok (.ret .notImplemented)) s) := fun _ _ _ _ _ => int_ge_ins _ _
theorem dc_ge : DcI .GtE := dcI (nm := (cmpInfo .GtE).2.1) rfl F.slot_int_ge F.entry_int_ge F.args_int_ge_2 hb_ge
theorem op_cmpI (hc : ∀ a b, compareOp op a b = richCompare op a b) (K0 : CmpC X.K C) (dc : DcI op) (hs : findIn X.K (.ref C) (cmpInfo op).2.2 = some (some (.ref f))) (hf : isFn X.K (.ref f) = true)
    (F : FnR X.prog X.w X.K X.mg X.base CX n f sp) (hr : Room n X.A) (hu : X.A.units < cLine) (hx : Passes CX X E) : OpR X (compareOp op) (rCmpI C sp E) := by
  intro pins s σ H x y v u Q I rx ry h
  obtain ⟨i, b, dy, gs, rfl, rfl, hb, q⟩ := h
  obtain ⟨t, e⟩ := (show ∃ t, v = Value.int i t from rx)
  cases e
  cases (show u = Value.ref b from ry)
  obtain ⟨mB, O, _⟩ := ins_get I.hok hb
  obtain ⟨od, J, _⟩ := O.look
  rw [hc]
  refine rc_snd hu rfl (Looks.of_pure rfl) J.type (looks_mroIn I.kIn (K0.no "int" (by decide)).2) (dc _ _ _ _ _ _ _ _ _ _ J.at_) (try_own I.kIn J hs hf ?_)
  exact wpAny_mono (wpAny_call (run_fnR (us := [.ref b, .int i t]) (vs := [.ref b, .int i]) F hr hx I (.cons rfl (.cons ⟨t, rfl⟩ .nil)) q)) (fun w s' z => by
    obtain ⟨z', H', I', rz, qz⟩ := z
    exact SlX.cmpback rz ⟨z', H', I', rz, qz⟩) fun _ _ x => x
theorem op_neI (K0 : CmpC X.K C) (hs : findIn X.K (.ref C) "__eq__" = some (some (.ref f))) (hf : isFn X.K (.ref f) = true)
    (F : FnR X.prog X.w X.K X.mg X.base CX n f sp) (hr : Room (n + 1) X.A) (hu : X.A.units + 1 < cLine) (hx : Passes CX X E) : OpR X (compareOp .NotEq) (rNeI C sp E) := by
  intro pins s σ H x y v u Q I rx ry h
  obtain ⟨i, b, dy, gs, rfl, rfl, hb, q⟩ := h
  obtain ⟨t, e⟩ := (show ∃ t, v = Value.int i t from rx)
  cases e
  cases (show u = Value.ref b from ry)
  obtain ⟨mB, O, _⟩ := ins_get I.hok hb
  obtain ⟨od, J, _⟩ := O.look
  show wpAny _ _ (richCompare .NotEq _ _) _ _ s
  refine rc_snd (by omega) rfl (Looks.of_pure rfl) J.type (looks_mroIn I.kIn (K0.no "int" (by decide)).2) (dc_ne _ _ _ _ _ _ _ _ _ _ J.at_) (try_ne (show X.A.units + 1 < cLine from hu) I.kIn J K0.top K0.ne hs hf ?_)
  exact wpAny_mono (wpAny_call (SlX.run_at (us := [.ref b, .int i t]) (ws := [.ref b, .int i]) F hr.in1 I.env0.in1 hx I (.cons rfl (.cons ⟨t, rfl⟩ .nil)) q)) (fun w s' z => by
    obtain ⟨z', H', I', rz, k, rfl, qz⟩ := z
    cases (show w = Value.bool k from rz)
    exact ⟨k, rfl, .bl !k, H', I', rfl, qz⟩) fun _ _ x => x
theorem op_eqB (K0 : CmpC X.K C) (hs : findIn X.K (.ref C) "__eq__" = some (some (.ref f))) (hf : isFn X.K (.ref f) = true)
    (G : FnR X.prog X.w X.K X.mg X.base CX n f sp) (hr : Room n X.A) (hu : X.A.units < cLine) (hx : Passes CX X E) : OpR X (compareOp .Eq) (rEqB C sp E) := by
  intro pins s σ H x y v u Q I rx ry h
  obtain ⟨b, dy, gs, bi, rfl, hb, q⟩ := h
  cases (show u = Value.ref b from ry)
  obtain ⟨mB, O, _⟩ := ins_get I.hok hb
  obtain ⟨od, J, _⟩ := O.look
  have two : wpAny (model X.prog X.w) X.A (tryCompare (.ref b) (cmpInfo .Eq).2.2 v) (fun r s' => ∃ z, r = some z ∧ EP X pins σ Q z s') X.xe s := by
    refine try_own I.kIn J hs hf ?_
    exact wpAny_mono (wpAny_call (run_fnR (us := [.ref b, v]) (vs := [.ref b, x]) G hr hx I (.cons rfl (.cons rx .nil)) q)) (fun w s' z => by
      obtain ⟨z', H', I', rz, qz⟩ := z
      exact SlX.cmpback rz ⟨z', H', I', rz, qz⟩) fun _ _ x => x
  show wpAny _ _ (richCompare .Eq _ _) _ _ s
  cases bi with
  | non =>
    cases (show v = Value.none from rx)
    exact rc_snd hu rfl (Looks.of_pure rfl) J.type (looks_mroIn I.kIn (K0.no "NoneType" (by decide)).2) (wpAny_tryCompare_declines (show s.TypeIs .none "NoneType" from rfl) F.slot_NoneType_eq (call_gives F.slot_NoneType_eq rfl F.entry_NoneType_eq (F.args_NoneType_eq_2 _ _) (SeqAt.NoneType___eq___none_ref_0 b) ⟨rfl, rfl, rfl⟩)) two
  | bl k =>
    cases (show v = Value.bool k from rx)
    exact rc_snd hu rfl (Looks.of_pure rfl) J.type (looks_mroIn I.kIn (K0.no "bool" (by decide)).2) (wpAny_tryCompare_declines (show s.TypeIs (.bool k) "bool" from rfl) F.slot_bool_eq (call_meets F.slot_bool_eq rfl F.entry_int_eq (F.args_int_eq_2 _ _) (bool_eq_ins k) ⟨J.at_, rfl, rfl, rfl⟩)) two
  | int i =>
    obtain ⟨t, e⟩ := (show ∃ t, v = Value.int i t from rx)
    cases e
    exact rc_snd hu rfl (Looks.of_pure rfl) J.type (looks_mroIn I.kIn (K0.no "int" (by decide)).2) (dc_eq _ _ _ _ _ _ _ _ _ _ J.at_) two
  | str z =>
    obtain ⟨t, e⟩ := (show ∃ t, v = Value.str z t from rx)
    cases e
    exact rc_snd hu rfl (Looks.of_pure rfl) J.type (looks_mroIn I.kIn (K0.no "str" (by decide)).2) (wpAny_tryCompare_declines (typeIs_str s z t) F.slot_str_eq (call_meets F.slot_str_eq (typeIs_str s z t) F.entry_str_eq (F.args_str_eq_2 _ _) (str_eq_ins z t) ⟨J.at_, rfl, rfl, rfl⟩)) two
  | @lst a xs e =>
    cases (show v = Value.ref a from rx)
    obtain ⟨_, _, n, _, h1⟩ := (show ObjOk X.prog X.w H s.heap a (.lst xs) from I.hok a _ e)
    have ht : s.TypeIs (.ref a) "list" := ⟨_, h1, rfl⟩
    exact rc_snd hu rfl (looks_ty I rx (.lst e)) J.type (looks_mroIn I.kIn (K0.no "list" (by decide)).2) (wpAny_tryCompare_declines ht F.slot_list_eq (wpAny_call (codeAny_call_builtin F.slot_list_eq.plain F.entry_list_eq (F.slot_list_eq.check _ _ _ _ _ _ _ _ ht (F.args_list_eq_2 _ _) (list_eq_ins I.kIn J (K0.no "list" (by decide)).2 ⟨rfl, rfl, rfl⟩))))) two
  | @tup a xs e =>
    cases (show v = Value.ref a from rx)
    obtain ⟨_, _, _, o, h1, h2, _⟩ := (show ObjOk X.prog X.w H s.heap a (.tup xs) from I.hok a _ e)
    have ht : s.TypeIs (.ref a) "tuple" := ⟨o, h1, h2⟩
    exact rc_snd hu rfl (looks_ty I rx (.tup e)) J.type (looks_mroIn I.kIn (K0.no "tuple" (by decide)).2) (wpAny_tryCompare_declines ht F.slot_tuple_eq (wpAny_call (codeAny_call_builtin F.slot_tuple_eq.plain F.entry_tuple_eq (F.slot_tuple_eq.check _ _ _ _ _ _ _ _ ht (F.args_tuple_eq_2 _ _) (tup_eq_ins I.kIn J (K0.no "tuple" (by decide)).2 ⟨rfl, rfl, rfl⟩))))) two
  | @dK a kvs e =>
    cases (show v = Value.ref a from rx)
    obtain ⟨_, _, vs, _, o, es, ep, h1, h2, _⟩ := (show ObjOk X.prog X.w H s.heap a (.dK kvs) from I.hok a _ e)
    have ht : s.TypeIs (.ref a) "dict" := ⟨o, h1, h2.1⟩
    exact rc_snd hu rfl (looks_ty I rx (.dK e)) J.type (looks_mroIn I.kIn (K0.no "dict" (by decide)).2) (wpAny_tryCompare_declines ht F.slot_dict_eq (wpAny_call (codeAny_call_builtin F.slot_dict_eq.plain F.entry_dict_eq (F.slot_dict_eq.check _ _ _ _ _ _ _ _ ht (F.args_dict_eq_2 _ _) (dict_eq_ins h1 h2.1 I.kIn J (K0.no "dict" (by decide)).2 ⟨rfl, rfl, rfl⟩))))) two
end
end CmX
/-! ### a staticmethod called off its class -/
namespace StX
/-- C.m is a staticmethod around the def at g -/
structure SMet (K : PySem.W.Frag) (C : Addr) (m : Str) (p g : Addr) : Prop where
  rd : ClX.CRead K C (.type "type")
  at_ : PySem.W.findCls K (.ref C) (.type "type") m = some (.get (.builtin "staticmethod.__get__") (.ref p) .none (.ref C))
  rc : ∃ rest, PySem.W.recIn K p "staticmethod" = some (.ref g :: rest)
  kp : PySem.W.keepIn K (.ref g) = true
def smB (K : PySem.W.Frag) (C : Addr) (m : Str) : Bool := PySem.W.readsIn K C (.type "type") && (He.eqO (PySem.W.specialIn K (.ref C) "__getattribute__") (some (some (.builtin "type.__getattribute__"))) && (He5.wrapB K C "staticmethod" "staticmethod.__get__" m && PySem.W.keepIn K (.ref (He5.wf K C "staticmethod" m))))
theorem smB_ok {K : PySem.W.Frag} {C : Addr} {m : Str} (h : smB K C m = true) : SMet K C m (He.ma K C m) (He5.wf K C "staticmethod" m) := by
  obtain ⟨h1, h⟩ := He.ba h
  obtain ⟨h2, h⟩ := He.ba h
  obtain ⟨h3, h4⟩ := He.ba h
  obtain ⟨k1, k2⟩ := He5.wrapB_ok h3
  exact ⟨⟨h1, He.eqO_ok h2⟩, k1, k2, h4⟩
/-- C.m(..) -/
def tSMeth (C : Addr) (sp : Sp) (dvs : List V) (E : XK) (ta : TE) (t : TA) : TE := fun σ H Q => ta σ H fun x H1 => x = .ref C ∧ t σ H1 fun vs H2 => sp (vs ++ dvs) H2 Q E
section
variable {X : Cx} {CX : CXT} {k : Nat} {C p g : Addr} {fd : FuncData} {ps : List Str} {dvs : List V} {ds : List Value} {sp : Sp} {E : XK} {o e : Expr} {es : List Expr} {m : Str} {pos apos : Pos} {ta : TE} {t : TA} {pl : Sem Bool}
theorem pe_smeth (he : PE X o ta) (c : SMet X.K C m p g) (F : FnOk X.prog X.w X.K X.mg X.base CX k g fd ps sp) (hr : Room k X.A) (hb : Binds X.K fd ps ds) (hd : Vals dvs ds) (hx : Passes CX X E) (ha : PA X (e :: es) t)
    (hst : starEach (e :: es) X.env = (false, eval e X.env) :: starEach es X.env := by rfl) (hpl : (backTo pos (starEach es X.env)).any (·.1) = false := by rfl)
    (ht : eval (.Call (.Attribute o m apos) (e :: es) [] pos) X.env = (do
      let ov ← eval o X.env
      standAt apos.atName
      let (f, first) ← holding [ov] (getMethod ov m pl)
      callWith pos f first (backTo pos (starEach (e :: es) X.env)) (backToKw pos (keywordEach [] X.env))) := by rfl) :
    PE X (.Call (.Attribute o m apos) (e :: es) [] pos) (tSMeth C sp dvs E ta t) := by
  refine ⟨fun pins s σ H Q I h => ?_⟩
  refine PySem.W.methodCall_KW (pl := pl) (thn (he.run pins s σ H _ I h) fun u s1 ⟨x, H1, I1, rx, ex, q⟩ => ?_) ht
  subst ex
  obtain rfl : u = Value.ref C := rx
  obtain ⟨rest, hp⟩ := c.rc
  refine PySem.W.method_cls I1.kIn c.rd.ga (PySem.W.cls_bind I1.kIn c.rd.rd c.at_ ?_)
  refine wpAny_call (PySem.W.sm_get (s := { s1 with toks := s1.toks + 1 }) I1.kIn hp (PySem.W.handed_on rfl ?_))
  have I2 := I1.tok (s1.toks + 1 + 1)
  refine PySem.W.callWith_K (first := []) (h₀ := X.base) I.ok.mod.kin c.kp (thn (ha.run pos pins _ σ H1 _ (I1.tok _) q) fun us s2 ⟨vs, H2, I2, r, q2⟩ => ⟨I2.kIn, ?_⟩) hst hpl
  exact run_fn F hr hb hd hx I2 r q2
end
end StX
/-! ### what is a number, by kinds -/
namespace NuX
/-- is_integer, is_number of a thing of type t -/
def KI (K : PySem.W.Frag) (t : Value) (b : Bool) : Prop := ∃ bi bb, PySem.W.kitOne K t (.type "int") = some bi ∧ PySem.W.kitOne K t (.type "bool") = some bb ∧ b = (bi && !bb)
def KN (K : PySem.W.Frag) (t : Value) (b : Bool) : Prop := ∃ bs, PySem.W.kitOne K t (.ref (He.ga K "Share")) = some bs ∧ ((bs = true ∧ b = true) ∨ (bs = false ∧ KI K t b))
def knB (K : PySem.W.Frag) (t : Value) (b : Bool) : Bool := match PySem.W.kitOne K t (.ref (He.ga K "Share")), PySem.W.kitOne K t (.type "int"), PySem.W.kitOne K t (.type "bool") with
  | some true, _, _ => b
  | some false, some bi, some bb => b == (bi && !bb)
  | _, _, _ => false
theorem knB_ok {K : PySem.W.Frag} {t : Value} {b : Bool} (h : knB K t b = true) : KN K t b := by
  unfold knB at h
  split at h
  · rename_i e
    exact ⟨true, e, .inl ⟨rfl, h⟩⟩
  · rename_i bi bb e1 e2 e3
    exact ⟨false, e1, .inr ⟨rfl, bi, bb, e2, e3, eq_of_beq h⟩⟩
  · cases h
end NuX
/-! ### zip of a tuple and a list -/
namespace ZmX
/-- the tuple at a and the list at b as they stand at each turn, the items in new pairs -/
def ItM (K : PySem.W.Frag) (a b : Addr) : It :=
  ⟨fun i H => ∃ xs ys x y, SqT K H a xs ∧ SqL K H b ys ∧ xs[i]? = some x ∧ ys[i]? = some y,
    fun i H v H' => ∃ T x y, v = V.ref T ∧ H T = none ∧ H' = upd H T (.tup [x, y]) ∧ (∀ xs, SqT K H a xs → xs[i]? = some x) ∧ (∀ ys, SqL K H b ys → ys[i]? = some y),
    fun i H => ∃ xs ys, SqT K H a xs ∧ SqL K H b ys ∧ i ≤ xs.length ∧ i ≤ ys.length ∧ (i = xs.length ∨ i = ys.length)⟩
def cells (n : Nat) : List Addr := [n + 4, n + 2, n + 3, n, n + 1]
theorem nin {c x y : Nat} (h1 : c ≠ x) (h2 : c ≠ y) : c ∉ [x, y] := by simp [h1, h2]
theorem sep {n a b : Nat} (ha : a < n) (hb : b < n) : ZipSep2 (n + 4) (n + 2) (n + 3) n (n + 1) [n, a] [n + 1, b] := by
  have f : ∀ {x y : Nat}, x < y → x ≠ y := fun h e => by omega
  have g : ∀ {x y : Nat}, y < x → x ≠ y := fun h e => by omega
  exact ⟨f (by omega), f (by omega), f (by omega), g (by omega), List.mem_cons_self, nin (g (by omega)) (g (by omega)), nin (g (by omega)) (g (by omega)), g (by omega), List.mem_cons_self, nin (g (by omega)) (g (by omega)), nin (g (by omega)) (g (by omega)), nin (f (by omega)) (g (by omega)), nin (g (by omega)) (g (by omega))⟩
/-- the zip's objects over a and b, at place i -/
structure At (n a b i : Nat) (h : Heap) : Prop where
  z : IsZip h (n + 4) (n + 2) (n + 3) .none
  ti : IsPair h (n + 2) (.ref n) (.ref (n + 1))
  to : ∃ x y, IsPair h (n + 3) x y
  one : h.IsTupleIter n a i
  two : h.IsListIter (n + 1) b i
theorem mem_cells {n c : Nat} : c ∈ cells n ↔ c = n + 4 ∨ c = n + 2 ∨ c = n + 3 ∨ c = n ∨ c = n + 1 := by simp [cells]
theorem lt_size_of {h : Heap} {n a b i c : Nat} (st : At n a b i h) (hc : c ∈ cells n) : ∃ o, h.get? c = some o ∧ ∀ v, o.data ≠ .cell v := by
  obtain ⟨hz, ht, ⟨x, y, hto⟩, ⟨o1, e1, _, d1⟩, ⟨o2, e2, _, d2⟩⟩ := st
  rcases mem_cells.mp hc with rfl | rfl | rfl | rfl | rfl
  · exact ⟨_, hz, fun v q => nomatch q⟩
  · exact ⟨_, ht, fun v q => nomatch q⟩
  · exact ⟨_, hto, fun v q => nomatch q⟩
  · exact ⟨o1, e1, fun v q => by rw [d1] at q; cases q⟩
  · exact ⟨o2, e2, fun v q => by rw [d2] at q; cases q⟩
theorem turnM {P : Program} {w : World} {K : PySem.W.Frag} {elts : List Expr} {kk : Nat} {tpos : Pos} {n a b : Nat} (ha : a < n) (hb : b < n) :
    Turn P w K (.Tuple elts kk tpos) (ItM K a b) (cells n) (n + 4) (fun i h => At n a b i h) where
  mem := mem_cells.mpr (.inl rfl)
  obj := fun i h st c hc => lt_size_of st hc
  keep := fun i h h' st k => by
    obtain ⟨hz, ht, ⟨x, y, hto⟩, h1, h2⟩ := st
    exact ⟨k _ (mem_cells.mpr (.inl rfl)) _ hz, k _ (mem_cells.mpr (.inr (.inl rfl))) _ ht, ⟨x, y, k _ (mem_cells.mpr (.inr (.inr (.inl rfl)))) _ hto⟩, h1.at fun o q => k _ (mem_cells.mpr (by simp)) o q, h2.at fun o q => k _ (mem_cells.mpr (by simp)) o q⟩
  item := by
    intro X hP hw hK hc i pins s σ H E I hf st hg
    subst hP hw hK
    obtain ⟨xs, ys, x, y, qx, qy, ex, ey⟩ := hg
    obtain ⟨its, rv, p, _⟩ := I.tuple qx
    obtain ⟨its2, rv2, p2, _⟩ := I.list qy
    obtain ⟨u, hu, ru⟩ := rv.get ex
    obtain ⟨u2, hu2, ru2⟩ := rv2.get ey
    have f : ∀ {x y : Nat}, x < y → x ≠ y := fun h e => by omega
    have g : ∀ {x y : Nat}, y < x → x ≠ y := fun h e => by omega
    have hd : X.A.in1.handled = none := I.ok.hd hc
    obtain ⟨hz, ht, ⟨x0, y0, hto⟩, h1, h2⟩ := id st
    have zl : n + 4 < s.heap.objs.size := Heap.lt_size hz
    have i1 : i < its.length := (List.getElem?_eq_some_iff.mp hu).1
    have i2 : i < its2.length := (List.getElem?_eq_some_iff.mp hu2).1
    have below : ∀ c ∈ cells n, c < s.heap.objs.size := fun c hcm => by
      obtain ⟨o, e, _⟩ := lt_size_of st hcm
      exact Heap.lt_size e
    refine wpAny_pyNext_zipD2_item (sep ha hb) (Draws.tuple hd n a (f ha) its.toArray) (Draws.list hd (n + 1) b (f (Nat.lt_succ_of_lt hb)) its2.toArray) hz ht hto ⟨h1, p⟩ ⟨h2, p2.isList⟩ (by simpa using i1) (by simpa using i2)
      fun v1 v2 h' tk e1 e2 z' to' st1 st2 hT hsz hk => ?_
    have e1 : its[i]? = some v1 := by simpa using e1
    have e2 : its2[i]? = some v2 := by simpa using e2
    rw [hu] at e1
    rw [hu2] at e2
    cases e1
    cases e2
    refine ⟨_, rfl, wpAny_letOwnedTupleGo_zip (s := { s with heap := h', toks := tk }) z' fun h'' z'' sb => ?_⟩
    have nz : s.heap.objs.size ≠ n + 4 := Nat.ne_of_gt zl
    have new : ObjOk X.prog X.w (upd H s.heap.objs.size (.tup [x, y])) h'' s.heap.objs.size (.tup [x, y]) :=
      ⟨by show 2 ≤ sizeLine; decide, [u, u2], .cons ru (.cons ru2 .nil), ⟨_, (sb.2 _ nz).trans hT, rfl, _, rfl⟩⟩
    have I1 : Inv X pins σ (upd H s.heap.objs.size (.tup [x, y])) { s with heap := h'', toks := tk } :=
      I.turnedNew (t' := tk) (ch := cells n) (fun c o nc q => (sb.2 c (fun q' => nc (mem_cells.mpr (.inl q')))).trans
        (hk c o (fun q' => nc (mem_cells.mpr (.inl q'))) (fun q' => nc (mem_cells.mpr (.inr (.inr (.inl q'))))) (fun q' => nc (mem_cells.mpr (.inr (.inr (.inr (.inl q')))))) (fun q' => nc (mem_cells.mpr (.inr (.inr (.inr (.inr q')))))) q)) hf (Nat.le_refl _) new
    refine ⟨.ref s.heap.objs.size, _, I1, rfl, ⟨_, x, y, rfl, I.hok.fresh (Nat.le_refl _), rfl, fun l hl => by rw [I.tuple_inj hl qx]; exact ex, fun l hl => by rw [I.list_inj hl qy]; exact ey⟩, ⟨z'', ?_, ⟨u, u2, ?_⟩, ?_, ?_⟩, fun c hcm => ?_⟩
    · exact (sb.2 _ (f (by omega))).trans (hk _ _ (f (by omega)) (f (by omega)) (g (by omega)) (g (by omega)) ht)
    · exact (sb.2 _ (f (by omega))).trans to'
    · exact st1.1.at fun o q => (sb.2 _ (f (by omega))).trans q
    · exact st2.1.at fun o q => (sb.2 _ (f (by omega))).trans q
    · rw [upd_ne (Nat.ne_of_lt (below c hcm))]
      exact (hf c hcm).1
  done := by
    intro X hP hw hK hc i pins s σ H E I hf st hg
    subst hP hw hK
    obtain ⟨xs, ys, qx, qy, m1, m2, hend⟩ := hg
    obtain ⟨its, rv, p, _⟩ := I.tuple qx
    obtain ⟨its2, rv2, p2, _⟩ := I.list qy
    have f : ∀ {x y : Nat}, x < y → x ≠ y := fun h e => by omega
    have hd : X.A.in1.handled = none := I.ok.hd hc
    obtain ⟨hz, ht, ⟨x0, y0, hto⟩, h1, h2⟩ := id st
    have l1 := rv.length
    have l2 := rv2.length
    exact wpAny_pyNext_zipD2_end (sep ha hb) (Draws.tuple hd n a (f ha) its.toArray) (Draws.list hd (n + 1) b (f (Nat.lt_succ_of_lt hb)) its2.toArray) hz ht hto ⟨h1, p⟩ ⟨h2, p2.isList⟩ (by simp; omega) (by simp; omega) (by simp; omega)
      fun h' tk hk => ⟨rfl, I.turnedL (t' := tk) (ch := cells n) (fun c o nc q => hk c o (fun q' => nc (mem_cells.mpr (.inl q'))) (fun q' => nc (mem_cells.mpr (.inr (.inr (.inl q'))))) (fun q' => nc (mem_cells.mpr (.inr (.inr (.inr (.inl q')))))) (fun q' => nc (mem_cells.mpr (.inr (.inr (.inr (.inr q')))))) q) hf⟩
  self := fun A i s Q E st h => wpAny_pyIter_zip st.z h
/-- zip's object, new -/
def it1 (h : Heap) (a : Addr) : Heap := h.push { cls := .type "tuple_iterator", data := .fields #[.ref a, .int 0 0] }
def it2 (h : Heap) (a b : Addr) : Heap := (it1 h a).push { cls := .type "list_iterator", data := .fields #[.ref b, .int 0 0] }
def it3 (h : Heap) (a b : Addr) : Heap := (it2 h a b).push { cls := .type "tuple", data := .seq #[.ref h.objs.size, .ref (it1 h a).objs.size] }
def it4 (h : Heap) (a b : Addr) : Heap := (it3 h a b).push { cls := .type "tuple", data := .seq #[.none, .none] }
def it5 (h : Heap) (a b : Addr) : Heap := (it4 h a b).push { cls := .type "zip", data := .fields #[.none, .bool false, .bool false, .ref (it2 h a b).objs.size, .ref (it3 h a b).objs.size] }
theorem meets_new (a b : Addr) (xs ys : Array Value) : Meets (Builtin.«zip.__new__» ⟨[.type "zip", .ref a, .ref b], []⟩) (fun _ R s => s.heap.IsTuple a xs ∧ s.heap.IsList b ys ∧ R (.ok (.ret (.ref (it4 s.heap a b).objs.size))) { s with heap := it5 s.heap a b }) :=
  .of_wp fun prog w A R s h => by
    obtain ⟨hp, g, d, tk, os⟩ := s
    obtain ⟨ha, hb, h⟩ := h
    have hsub := sub_zip
    have h1 : Heap.IsTuple (Shared.heap ⟨hp, g, d, tk, os⟩) a xs := ha
    have h2 : Heap.IsList (Shared.heap ⟨it1 hp a, g, d, tk, os⟩) b ys := Heap.IsList.push hb _
    unfold it1 at h2
    wp_walk using wpAny_pyIter_tuple h1, wpAny_pyIter_list h2
    exact ⟨_, rfl, h⟩
section
variable {prog : Program} {w : World} {A : Around} {E : Value → Shared → Prop} {s : Shared}
theorem call_new {a b : Addr} {xs ys : Array Value} {Q : Value → Shared → Prop} (ha : s.heap.IsTuple a xs) (hb : s.heap.IsList b ys)
    (h : ∀ h', At s.heap.objs.size a b 0 h' → (∀ c o, s.heap.get? c = some o → h'.get? c = some o) → Q (.ref (s.heap.objs.size + 4)) { s with heap := h' }) : wpAny (model prog w) A (call (.type "zip") [.ref a, .ref b]) Q E s := by
  refine callType_new F.called_zip (by decide) (F.typeCall_zip_2 _ _) (F.newCall_zip_2 _ _) (fun obj => F.args_object_init_3 obj _ _) F.entry_zip_new (meets_new a b xs ys) ⟨ha, hb, ?_⟩
  have z1 : (it1 s.heap a).objs.size = s.heap.objs.size + 1 := Heap.size_push ..
  have z2 : (it2 s.heap a b).objs.size = s.heap.objs.size + 2 := (Heap.size_push ..).trans (congrArg (· + 1) z1)
  have z3 : (it3 s.heap a b).objs.size = s.heap.objs.size + 3 := (Heap.size_push ..).trans (congrArg (· + 1) z2)
  have z4 : (it4 s.heap a b).objs.size = s.heap.objs.size + 4 := (Heap.size_push ..).trans (congrArg (· + 1) z3)
  have k4 : ∀ c o, (it4 s.heap a b).get? c = some o → (it5 s.heap a b).get? c = some o := fun c o e => Heap.get?_push_of_some _ e
  have k3 : ∀ c o, (it3 s.heap a b).get? c = some o → (it5 s.heap a b).get? c = some o := fun c o e => k4 c o (Heap.get?_push_of_some _ e)
  have k2 : ∀ c o, (it2 s.heap a b).get? c = some o → (it5 s.heap a b).get? c = some o := fun c o e => k3 c o (Heap.get?_push_of_some _ e)
  have k1 : ∀ c o, (it1 s.heap a).get? c = some o → (it5 s.heap a b).get? c = some o := fun c o e => k2 c o (Heap.get?_push_of_some _ e)
  have g5 : (it5 s.heap a b).get? (it4 s.heap a b).objs.size = some _ := Heap.get?_push_size _ rfl
  have g4 : (it5 s.heap a b).get? (it3 s.heap a b).objs.size = some _ := k4 _ _ (Heap.get?_push_size _ rfl)
  have g3 : (it5 s.heap a b).get? (it2 s.heap a b).objs.size = some _ := k3 _ _ (Heap.get?_push_size _ rfl)
  have g2 : (it5 s.heap a b).get? (it1 s.heap a).objs.size = some _ := k2 _ _ (Heap.get?_push_size _ rfl)
  have g1 : (it5 s.heap a b).get? s.heap.objs.size = some _ := k1 _ _ (Heap.get?_push_size _ rfl)
  rw [z2, z3, z4] at g5
  rw [z1, z2] at g3
  rw [z3] at g4
  rw [z1] at g2
  rw [z4]
  exact ⟨⟨_, g5, rfl⟩, h _ ⟨g5, g3, ⟨_, _, g4⟩, ⟨_, g1, rfl, rfl⟩, ⟨_, g2, rfl, rfl⟩⟩ fun c o e => k1 c o (Heap.get?_push_of_some _ e)⟩
end
def iZipM (K : PySem.W.Frag) (ta : TA) : TI := fun σ H R => ta σ H fun vs H1 => ∃ a b xs ys, vs = [.ref a, .ref b] ∧ SqT K H1 a xs ∧ SqL K H1 b ys ∧ R (ItM K a b) H1
theorem pi_zipM {X : Cx} {e e2 : Expr} {ta : TA} {p pos tpos : Pos} {elts : List Expr} {kk : Nat} (hg : Gl X "zip") (hm : X.mg "zip" = none) (ha : PA X [e, e2] ta)
    (hs : starEach [e, e2] X.env = (false, eval e X.env) :: starEach [e2] X.env := by rfl) (hpl : (backTo pos (starEach [e2] X.env)).any (·.1) = false := by rfl) :
    PI X (.Tuple elts kk tpos) (.Call (.Name "zip" p) [e, e2] [] pos) (iZipM X.K ta) := by
  refine ⟨fun pins s σ H R I h => ?_⟩
  refine Call_ (ld_blt I hg hm PyProof.Rows.boot_zip (PyProof.Rows.callWith_type1 (thn (ha.run pos pins s σ H _ I h) fun us s1 ⟨vs, H1, I1, r1, a, b, xs, ys, ex, qx, qy, q⟩ => ?_) hs hpl))
  subst ex
  cases r1 with
  | cons r rr =>
    cases rr with
    | cons r' rr =>
      cases rr
      cases r
      cases r'
      obtain ⟨its, rv, p1, _⟩ := I1.tuple qx
      obtain ⟨its2, rv2, p2, _⟩ := I1.list qy
      obtain ⟨o1, ho1, _⟩ := id p1
      refine call_new (show s1.heap.IsTuple a its.toArray from p1) p2.isList fun h' st hk => wpAny_pyIter_zip st.z ?_
      refine ⟨s1.heap.objs.size + 4, cells s1.heap.objs.size, _, _, H1, rfl, I1.kept (t' := s1.toks) hk, turnM (Heap.lt_size ho1) p2.lt, st, fun c hcm => ?_, q⟩
      have hle : s1.heap.objs.size ≤ c := by
        rcases mem_cells.mp hcm with e | e | e | e | e
        · exact e ▸ Nat.le_add_right _ _
        · exact e ▸ Nat.le_add_right _ _
        · exact e ▸ Nat.le_add_right _ _
        · exact e ▸ Nat.le_refl _
        · exact e ▸ Nat.le_add_right _ _
      exact I1.fpOk hle (I1.hok.fresh hle)
theorem walkM {K : PySem.W.Frag} {a b : Addr} {xs ys : List V} {n : Nat} (hn : n = min xs.length ys.length) : Walk (ItM K a b) n (fun H => SqT K H a xs ∧ SqL K H b ys) (YPair (fun i => xs[i]?) (fun i => ys[i]?)) where
  goes := fun i H hi h => ⟨xs, ys, xs[i], ys[i], h.1, h.2, List.getElem?_eq_getElem (by omega), List.getElem?_eq_getElem (by omega)⟩
  stops := fun H h => ⟨xs, ys, h.1, h.2, by omega, by omega, by omega⟩
  yields := fun i H x H' hi h y => by
    obtain ⟨T, x', y', e1, e2, e3, f1, f2⟩ := y
    exact ⟨T, x', y', e1, e2, e3, f1 xs h.1, f2 ys h.2⟩
end ZmX
/-! ### == of two tuples of three -/
namespace T3X
open PySem.W (Looks)
section
variable {prog : Program} {w : World} {A : Around} {R : Result → Shared → Prop} {E : Value → Shared → Prop}
theorem tup3 {l b : Addr} {v0 v1 v2 w0 w1 w2 : Value} {n n2 : Nat} {dd dd2 : Option Addr} {sl sl2 : Array (Option Value)} {s : Shared} (hl : s.heap.get? l = some { cls := .type "tuple", dict := dd, data := .seq #[v0, v1, v2] n, slots := sl }) (hb : s.heap.get? b = some { cls := .type "tuple", dict := dd2, data := .seq #[w0, w1, w2] n2, slots := sl2 })
    (h : wpAny (model prog w) A (eqBool v0 w0) (fun r s1 => if r = true then wpAny (model prog w) A (eqBool v1 w1) (fun r s2 => if r = true then wpAny (model prog w) A (eqBool v2 w2) (fun r s3 => R (.ok (.ret (.bool r))) s3) E s2 else R (.ok (.ret (.bool false))) s2) E s1 else R (.ok (.ret (.bool false))) s1) E s) :
    wpAny (model prog w) A (Builtin.«tuple.__eq__» ⟨[.ref l, .ref b], []⟩) (fun fin s' => ∃ v, fin = .done (.ret v) ∧ R (.ok (.ret v)) s') E s := by
  have f2 := AutoSeq1.sub_tuple_tuple
  unfold Builtin.«tuple.__eq__»
  refine wpAny_bind (m := slotArgs "__eq__" 1 _) (wpAny_pure ?_)
  refine wpAny_bind (wpAny_isInstance (T := "tuple") (b := true) ⟨_, hb, rfl⟩ f2 ?_)
  simp only [Bool.not_true, Bool.false_eq_true, if_false]
  refine wpAny_bind (wpAny_tupleItemsOf hl rfl ?_)
  refine wpAny_bind (wpAny_tupleItemsOf hb rfl ?_)
  simp only [List.zip_cons_cons, List.zip_nil_left, List.forIn_cons, List.forIn_nil]
  refine wpAny_bind (wpAny_bind (wpAny_bind (wpAny_mono h (fun r s1 h1 => ?_) fun _ _ x => x)))
  cases r with
  | false =>
    have q : R (.ok (.ret (.bool false))) s1 := by simpa using h1
    simp only [Bool.not_false, if_true]
    exact wpAny_bind (wpAny_pure (wpAny_pure (wpAny_pure (wpAny_pure ⟨_, rfl, q⟩))))
  | true =>
    rw [if_pos rfl] at h1
    simp only [Bool.not_true, Bool.false_eq_true, if_false]
    refine wpAny_pure (wpAny_bind (wpAny_bind (wpAny_mono h1 (fun r s2 h2 => ?_) fun _ _ x => x)))
    cases r with
    | false =>
      have q : R (.ok (.ret (.bool false))) s2 := by simpa using h2
      simp only [Bool.not_false, if_true]
      exact wpAny_bind (wpAny_pure (wpAny_pure (wpAny_pure (wpAny_pure ⟨_, rfl, q⟩))))
    | true =>
      rw [if_pos rfl] at h2
      simp only [Bool.not_true, Bool.false_eq_true, if_false]
      refine wpAny_pure (wpAny_bind (wpAny_bind (wpAny_mono h2 (fun r s3 h3 => ?_) fun _ _ x => x)))
      cases r with
      | false =>
        simp only [Bool.not_false, if_true]
        exact wpAny_bind (wpAny_pure (wpAny_pure (wpAny_pure (wpAny_pure ⟨_, rfl, h3⟩))))
      | true =>
        simp only [Bool.not_true, Bool.false_eq_true, if_false]
        exact wpAny_pure (wpAny_pure (wpAny_pure ⟨_, rfl, h3⟩))
end
/-! shares in them -/
section
variable {X : Cx} {n : Nat}
/-- == of two objects of one class by its own __eq__, as == within a tuple asks it -/
def Eq1 (X : Cx) (n : Nat) (C : Addr) (sp : Sp) (E : XK) : Prop := ∀ (A : Around) (pins : List (Addr × Obj)) (s : Shared) (σ : L2.St) (H : Hp) (a b da db : Addr) (fs gs : List (Str × V)) (Q : Bool → Hp → Prop), Room n A → A.units < cLine → Env0 X.prog X.w X.K X.mg X.base A X.stack s H → Inv X pins σ H s → H a = some (.ins C da fs) → H b = some (.ins C db gs) →
  (a = b → Q true H) → sp [.ref a, .ref b] H (fun v H' => ∃ k, v = .bl k ∧ Q k H') E → wpAny (model X.prog X.w) A (eqBool (.ref a) (.ref b)) (fun r s' => ∃ H', Inv X pins σ H' s' ∧ Q r H') X.xe s
theorem eq1_own {CX : CXT} {sp : Sp} {E : XK} {C f : Addr} (hs : PySem.W.findIn X.K (.ref C) (cmpInfo .Eq).2.1 = some (some (.ref f))) (hf : PySem.W.isFn X.K (.ref f) = true) (F : FnR X.prog X.w X.K X.mg X.base CX n f sp) (hx : Passes CX X E) : Eq1 X n C sp E := by
  intro A pins s σ H a b da db fs gs Q hr hu e0 I ha hb hq h
  by_cases hab : a = b
  · subst hab
    unfold eqBool
    refine wpAny_holding ?_
    rw [if_pos (beq_self_eq_true _)]
    exact wpAny_bind (wpAny_rule (wpAny_pure ⟨H, I, hq rfl⟩))
  · obtain ⟨mA, O, _⟩ := ins_get I.hok ha
    obtain ⟨od, J, _⟩ := O.look
    obtain ⟨mB, O', _⟩ := ins_get I.hok hb
    obtain ⟨od', J', _⟩ := O'.look
    refine GQ.eqBool_refG hab ?_
    refine CmX.rc_fst hu rfl J.type J'.type (fun q => by simp at q) (CmX.try_own I.kIn J hs hf ?_)
    exact wpAny_mono (wpAny_call (SlX.run_at (us := [.ref a, .ref b]) (ws := [.ref a, .ref b]) F hr e0 hx I (.cons rfl (.cons rfl .nil)) h)) (fun w s' z => by
      obtain ⟨z', H', I', rz, k, rfl, qz⟩ := z
      cases (show w = Value.bool k from rz)
      exact ⟨k, rfl, H', I', qz⟩) fun _ _ x => x
end
end T3X
/-! ### a def that returns NotImplemented at its first if -/
namespace NiX
open PySem.W (Looks InstAt findIn isFn selfFirst mroIn looks_mroIn ksp_first ksp_try fills_K instObj looks_findIn subIn looks_subIn ksp_inPy)
/-- f, called so, returns NotImplemented, the heap becoming what R says -/
def FnN (P : Program) (w : World) (K : PySem.W.Frag) (mg : Str → Option Value) (base : Heap) (k : Nat) (f : Addr) (sp : List V → Hp → (Hp → Prop) → Prop) : Prop :=
  ∀ (A : Around) (outer : List Env) (s : Shared) (H : Hp) (us : List Value) (vs : List V) (R : Hp → Prop), Room k A → Env0 P w K mg base A outer s H → Vals vs us → sp vs H R →
    codeAny (model P w) A (.call (.ref f) ⟨us, []⟩) (fun r s' => r = .ok (.ret .notImplemented) ∧ CE outer P w H s (fun _ H' => R H') .none s') s
section
variable {P : Program} {w : World} {K : PySem.W.Frag} {mg : Str → Option Value} {base : Heap} {x qual : Str} {params : Arguments} {body : List Stmt} {scope : Scope} {f : Addr} {fd : FuncData} {ps N : List Str} {k : Nat} {sp : List V → Hp → (Hp → Prop) → Prop}
  {tst : Expr} {p1 p2 p3 : Pos} {rest els : List Stmt}
theorem fnN (F : FunD K x qual params body scope [] [] f fd) (S : FnScope N ps scope) (hloc : ∀ y ∈ ps, scope.names.lookup y = some .local)
    (hb : ∀ (kV doc pm : Value) (an : Option Addr) (cdv ct : Value) (us : List Value), us.length = ps.length → bindArgs (PySem.W.fnOf x qual params body scope Value.none kV doc pm an cdv ct) { pos := us } = pure (ps.zip us))
    (hbody : body = .If tst [.Return (some (.Name "NotImplemented" p1)) p2] els p3 :: rest) (hg : ∀ (L a : Addr) (cdv : Value), (PyProof.Rows.envOfC qual scope L a cdv).kindOf ("NotImplemented" : Str) = some .globalImplicit) (hm : mg ("NotImplemented" : Str) = none)
    (len : ∀ vs H R, sp vs H R → vs.length = ps.length)
    (ht : ∀ (cdv : Value) (A : Around) (outer : List Env) (s : Shared) (H : Hp) (vs : List V) (R : Hp → Prop), Room k (A.deeper (PyProof.Rows.envOfC qual scope s.heap.objs.size f cdv)) → sp vs H R →
      ∃ t, PT (cxOf CX0 P w K mg base N qual scope f cdv A outer s H E0) tst t ∧ t (L2.start N vs) H (fun b H' => b = true ∧ R H')) : FnN P w K mg base (k + 1) f sp := by
  intro A outer s H us vs R hr e0 r hsp
  obtain ⟨oc, od, dV, kV, doc, pm, an, cdv, ct, osl, hfd, lk, code, dfl, kwd⟩ := F.ex
  have hd : dV = .none := by
    rcases dfl with ⟨_, e⟩ | ⟨h, _⟩
    · exact e
    · exact (h rfl).elim
  subst hd hfd
  have KX : K.In s.heap := e0.mod.kin.keeps fun b o e => (e0.bs b o e).1
  have lim : s.heap.NoLimit := e0.mod.nolimit.keeps fun b o e => (e0.bs b o e).1
  have hl : us.length = ps.length := by
    rw [← r.length]
    exact len vs H R hsp
  refine PySem.codeAny_call_cells (fd := PySem.W.fnOf x qual params body scope Value.none kV doc pm an cdv ct) (body := body) (binds := ps.zip us) hr.depth (KX _ _ lk) rfl lim (PySem.W.codeRec_of KX code) rfl (hb _ _ _ _ _ _ us hl) rfl (fun ⟨n, _⟩ hy => .inl (hloc n (List.of_mem_zip hy).1)) (fun s1 hin => ?_) S.co S.gen S.kind
  have I : L2.Inv (cxOf CX0 P w K mg base N qual scope f cdv A outer s H E0) [] (L2.start N vs) H s1 := inv_start S hr.hd e0 (len vs H R hsp) r hin
  have r' : Room k (A.deeper (PyProof.Rows.envOfC qual scope s.heap.objs.size f cdv)) := hr.deeper _
  obtain ⟨t, pt, h⟩ := ht cdv A outer s H vs R r' hsp
  subst hbody
  refine wpAny_execs_cons ?_
  rw [exec_If]
  refine wpAny_bind (wpAny_standAt ?_)
  refine wpAny_bind (wpAny_mono (pt.run [] s1 _ H _ I h) (fun b s2 z => ?_) (fun e s2 z => ?_))
  · obtain ⟨H2, I2, rfl, hR⟩ := z
    rw [if_pos rfl]
    refine wpAny_execs_cons ?_
    rw [exec_Return_some]
    exact wpAny_bind (wpAny_standAt (wpAny_bind (ld_blt I2 (hg _ _ _) hm (by decide +kernel) (wpAny_pure ⟨rfl, .non, H2, I2.os, I2.bare, I2.base, I2.hok, rfl, hR⟩))))
  · exact wpAny_mono z (fun _ _ h => h.elim) (fun _ _ h => h.elim)
end
section
variable {prog : Program} {w : World} {A : Around} {E : Value → Shared → Prop} {s : Shared} {K : PySem.W.Frag} {x y C D f g fr gr : Addr} {ox oy : Obj} {od od2 : Option Obj} {nm : String}
/-- an own method that returns NotImplemented -/
theorem try_no {M : Model} {name : Str} {b : Value} {Q : Shared → Prop} (X : K.In s.heap) (I : InstAt s.heap x ox C od) (hs : findIn K (.ref C) name = some (some (.ref f))) (hf : isFn K (.ref f) = true)
    (h : wpAny M A (call (.ref f) [.ref x, b]) (fun v s' => v = .notImplemented ∧ Q s') E s) : wpAny M A (tryMethod (.ref x) name b) (fun r s' => r = none ∧ Q s') E s := by
  unfold tryMethod
  refine wpAny_bind (PySem.W.special_fn X I hs (beq_iff_eq.mp hf) (wpAny_mono h (fun v s' z => ?_) fun _ _ e => e))
  obtain ⟨rfl, q⟩ := z
  exact wpAny_pure ⟨rfl, q⟩
/-- operands of two classes: the left one's method answers -/
theorem bin1_left {Q : Value → Shared → Prop} (X : K.In s.heap) (I : InstAt s.heap x ox C od) (J : InstAt s.heap y oy D od2) (hCD : C ≠ D) (hc : selfFirst K C = true) (hd : selfFirst K D = true) (hs : findIn K (.ref C) (PySem.dunder nm) = some (some (.ref f))) (hf : isFn K (.ref f) = true)
    (hr : findIn K (.ref C) (dunderR nm) = some (some (.ref fr))) (ht : findIn K (.ref D) (PySem.dunder nm) = some (some (.ref g))) (htr : findIn K (.ref D) (dunderR nm) = some (some (.ref gr))) (hsub : subIn K (.ref D) (.ref C) = some false)
    (h : wpAny (model prog w) A (call (.ref f) [.ref x, .ref y]) (PySem.W.CmpBack Q) E s) : wpAny (model prog w) A (binaryOp1 nm (.ref x) (.ref y)) (fun r s' => ∃ v, r = some v ∧ Q v s') E s := by
  obtain ⟨cd, rest, hcd, hm⟩ := ksp_first hc
  obtain ⟨cd2, rest2, hcd2, hm2⟩ := ksp_first hd
  have one := ksp_try X I hs hf h
  obtain ⟨hh, g', d, tt, os⟩ := s
  have l1 : Looks (model prog w) hh (typeOf (.ref x)) (.ref C) := I.type
  have l2 : Looks (model prog w) hh (typeOf (.ref y)) (.ref D) := J.type
  have l3 : Looks (model prog w) hh (fillsNumberSlot (.ref C) nm) true := fills_K X hcd hm hs
  have l3' : Looks (model prog w) hh (fillsNumberSlot (.ref D) nm) true := fills_K X hcd2 hm2 ht
  have l4 : Looks (model prog w) hh (isSubtype (.ref D) (.ref C)) false := looks_subIn X hsub
  have l5 : Looks (model prog w) hh (numberSlotInPython (.ref C) nm) true := ksp_inPy X hs hr (.inr ⟨fr, rfl⟩)
  have l6 : Looks (model prog w) hh (numberSlotInPython (.ref D) nm) true := ksp_inPy X ht htr (.inr ⟨gr, rfl⟩)
  have hne : (Value.ref C == Value.ref D) = false := Bool.eq_false_iff.mpr fun q => hCD (by cases beq_iff_eq.mp q; rfl)
  unfold binaryOp1
  refine wpAny_bind (l1.at (wpAny_bind (l2.at (wpAny_bind (l3.at ?_)))))
  simp only [hne, Bool.false_eq_true, if_false]
  refine wpAny_bind (l3'.at ?_)
  simp only [Bool.and_self, if_true]
  refine wpAny_bind (l4.at ?_)
  simp only [Bool.false_eq_true, if_false, pure_bind, Bool.not_false, Bool.and_self, if_true]
  refine wpAny_bind (l5.at ?_)
  simp only [if_true]
  refine wpAny_bind (l6.at ?_)
  simp only [Bool.not_true, Bool.false_eq_true, if_false]
  refine wpAny_bind (wpAny_mono one (fun r s' hr' => ?_) fun _ _ e => e)
  obtain ⟨v, rfl, hq⟩ := hr'
  exact wpAny_pure ⟨v, rfl, hq⟩
/-- .. it declines, and the right one's method answers -/
theorem bin1_swap {Q : Value → Shared → Prop} (X : K.In s.heap) (I : InstAt s.heap x ox C od) (J : InstAt s.heap y oy D od2) (hCD : C ≠ D) (hc : selfFirst K C = true) (hd : selfFirst K D = true) (hs : findIn K (.ref C) (PySem.dunder nm) = some (some (.ref f))) (hf : isFn K (.ref f) = true)
    (hr : findIn K (.ref C) (dunderR nm) = some (some (.ref fr))) (ht : findIn K (.ref D) (PySem.dunder nm) = some (some (.ref g))) (htr : findIn K (.ref D) (dunderR nm) = some (some (.ref gr))) (hgr : isFn K (.ref gr) = true) (hsub : subIn K (.ref D) (.ref C) = some false)
    (h : wpAny (model prog w) A (call (.ref f) [.ref x, .ref y]) (fun v s' => v = .notImplemented ∧ K.In s'.heap ∧ (∃ ox od, InstAt s'.heap x ox C od) ∧ (∃ oy od, InstAt s'.heap y oy D od) ∧ wpAny (model prog w) A (call (.ref gr) [.ref y, .ref x]) (PySem.W.CmpBack Q) E s') E s) :
    wpAny (model prog w) A (binaryOp1 nm (.ref x) (.ref y)) (fun r s' => ∃ v, r = some v ∧ Q v s') E s := by
  obtain ⟨cd, rest, hcd, hm⟩ := ksp_first hc
  obtain ⟨cd2, rest2, hcd2, hm2⟩ := ksp_first hd
  have one := try_no X I hs hf h
  obtain ⟨hh, g', d, tt, os⟩ := s
  have l1 : Looks (model prog w) hh (typeOf (.ref x)) (.ref C) := I.type
  have l2 : Looks (model prog w) hh (typeOf (.ref y)) (.ref D) := J.type
  have l3 : Looks (model prog w) hh (fillsNumberSlot (.ref C) nm) true := fills_K X hcd hm hs
  have l3' : Looks (model prog w) hh (fillsNumberSlot (.ref D) nm) true := fills_K X hcd2 hm2 ht
  have l4 : Looks (model prog w) hh (isSubtype (.ref D) (.ref C)) false := looks_subIn X hsub
  have l5 : Looks (model prog w) hh (numberSlotInPython (.ref C) nm) true := ksp_inPy X hs hr (.inr ⟨fr, rfl⟩)
  have l6 : Looks (model prog w) hh (numberSlotInPython (.ref D) nm) true := ksp_inPy X ht htr (.inr ⟨gr, rfl⟩)
  have hne : (Value.ref C == Value.ref D) = false := Bool.eq_false_iff.mpr fun q => hCD (by cases beq_iff_eq.mp q; rfl)
  unfold binaryOp1
  refine wpAny_bind (l1.at (wpAny_bind (l2.at (wpAny_bind (l3.at ?_)))))
  simp only [hne, Bool.false_eq_true, if_false]
  refine wpAny_bind (l3'.at ?_)
  simp only [Bool.and_self, if_true]
  refine wpAny_bind (l4.at ?_)
  simp only [Bool.false_eq_true, if_false, pure_bind, Bool.not_false, Bool.and_self, if_true]
  refine wpAny_bind (l5.at ?_)
  simp only [if_true]
  refine wpAny_bind (l6.at ?_)
  simp only [Bool.not_true, Bool.false_eq_true, if_false]
  refine wpAny_bind (wpAny_mono one (fun r s' hr' => ?_) fun _ _ e => e)
  obtain ⟨rfl, X', ⟨ox', od', I'⟩, ⟨oy', od2', J'⟩, h'⟩ := hr'
  have two := ksp_try X' J' htr hgr h'
  obtain ⟨hh', g'', d', tt', os'⟩ := s'
  have m1 : Looks (model prog w) hh' (typeOf (.ref x)) (.ref C) := I'.type
  have m2 : Looks (model prog w) hh' (typeOf (.ref y)) (.ref D) := J'.type
  simp only []
  refine wpAny_bind (m1.at (wpAny_bind (m2.at ?_)))
  simp only [hne, Bool.false_eq_true, if_false]
  refine wpAny_bind (wpAny_mono two (fun r s' hr' => ?_) fun _ _ e => e)
  obtain ⟨v, rfl, hq⟩ := hr'
  exact wpAny_bind (wpAny_rule (wpAny_pure ⟨v, rfl, hq⟩))
end
end NiX
/-! ### operators between two own classes -/
section
variable {X : Cx} {CX : CXT} {n m : Nat} {sp : Sp} {spn : List V → Hp → (Hp → Prop) → Prop} {E : XK} {C D f fr g gr : Addr}
theorem run_fnN {pins : List (Addr × Obj)} {σ : L2.St} {H : Hp} {s : Shared} {us : List Value} {vs : List V} {R : Hp → Prop} (N : NiX.FnN X.prog X.w X.K X.mg X.base n f spn) (hr : Room n X.A) (I : Inv X pins σ H s) (r : Vals vs us) (h : spn vs H R) :
    codeAny (model X.prog X.w) X.A (.call (.ref f) ⟨us, []⟩) (fun r s' => match r with | .ok (.ret v) => v = .notImplemented ∧ ∃ H', Inv X pins σ H' s' ∧ R H' | .ok _ => False | .error e => X.xe e s') s := by
  refine codeAny_mono (N X.A X.stack s H us vs R hr I.env0 r h) (fun r s' z => ?_)
  obtain ⟨rfl, z⟩ := z
  obtain ⟨v, H', I', _, q⟩ := I.after z
  exact ⟨rfl, H', I', q⟩
/-- x op y by x's own def, y of another class -/
def rMixL (C D : Addr) (sp : Sp) (E : XK) : R2 := fun x y H Q => ∃ (a dx b dy : Addr) (fs gs : List (Str × V)), x = .ref a ∧ H a = some (.ins C dx fs) ∧ y = .ref b ∧ H b = some (.ins D dy gs) ∧ sp [x, y] H Q E
/-- x op y by y's own reflected def, x's own one declining -/
def rMixR (C D : Addr) (spn : List V → Hp → (Hp → Prop) → Prop) (sp : Sp) (E : XK) : R2 := fun x y H Q => ∃ (a b : Addr), x = .ref a ∧ y = .ref b ∧ (∃ (dx : Addr) (fs : List (Str × V)), H a = some (.ins C dx fs)) ∧ (∃ (dy : Addr) (gs : List (Str × V)), H b = some (.ins D dy gs)) ∧
  spn [x, y] H (fun H1 => (∃ (dx : Addr) (fs : List (Str × V)), H1 a = some (.ins C dx fs)) ∧ (∃ (dy : Addr) (gs : List (Str × V)), H1 b = some (.ins D dy gs)) ∧ sp [y, x] H1 Q E)
theorem bin1_mixL {nm : String} {pins : List (Addr × Obj)} {s : Shared} {σ : L2.St} {H : Hp} {x y : V} {v u : Value} {Q : VK} (o : OpAt X.K C nm f fr) (o2 : OpAt X.K D nm g gr) (hCD : C ≠ D) (hsub : PySem.W.subIn X.K (.ref D) (.ref C) = some false) (F : FnR X.prog X.w X.K X.mg X.base CX n f sp) (hr : Room n X.A) (hx : Passes CX X E)
    (I : Inv X pins σ H s) (rx : RelV x v) (ry : RelV y u) (h : rMixL C D sp E x y H Q) :
    (∃ (a : Addr) (od : Option Obj) (dx : Addr), v = .ref a ∧ PySem.W.InstAt s.heap a (PySem.W.instObj C dx) C od) ∧ wpAny (model X.prog X.w) X.A (binaryOp1 nm v u) (fun r s' => ∃ z, r = some z ∧ EP X pins σ Q z s') X.xe s := by
  obtain ⟨a, dx, b, dy, fs, gs, rfl, ha, rfl, hb, q⟩ := h
  cases (show v = Value.ref a from rx)
  cases (show u = Value.ref b from ry)
  obtain ⟨mA, O, _⟩ := ins_get I.hok ha
  obtain ⟨od, J, _⟩ := O.look
  obtain ⟨mB, O', _⟩ := ins_get I.hok hb
  obtain ⟨od', J', _⟩ := O'.look
  refine ⟨⟨a, _, _, rfl, J⟩, ?_⟩
  exact NiX.bin1_left I.kIn J J' hCD o.first o2.first o.at_ o.fn o.atR o2.at_ o2.atR hsub (wpAny_mono (wpAny_call (run_fnR (us := [.ref a, .ref b]) (vs := [.ref a, .ref b]) F hr hx I (.cons rfl (.cons rfl .nil)) q)) (fun w s' z => by
      obtain ⟨z', H', I', rz, qz⟩ := z
      exact SlX.cmpback rz ⟨z', H', I', rz, qz⟩) fun _ _ x => x)
theorem op_mixL {op : Operator} (o : OpAt X.K C op.info.2 f fr) (o2 : OpAt X.K D op.info.2 g gr) (hCD : C ≠ D) (hsub : PySem.W.subIn X.K (.ref D) (.ref C) = some false) (F : FnR X.prog X.w X.K X.mg X.base CX n f sp) (hr : Room n X.A) (hx : Passes CX X E) : OpR X (binaryOp op) (rMixL C D sp E) :=
  fun pins s σ H x y v u Q I rx ry h => OpX.bin_of (bin1_mixL o o2 hCD hsub F hr hx I rx ry h).2
theorem ip_mixL {op : Operator} (o : OpAt X.K C op.info.2 f fr) (o2 : OpAt X.K D op.info.2 g gr) (hCD : C ≠ D) (hsub : PySem.W.subIn X.K (.ref D) (.ref C) = some false) (F : FnR X.prog X.w X.K X.mg X.base CX n f sp) (hr : Room n X.A) (hx : Passes CX X E) : PIp X op (rMixL C D sp E) := by
  intro pins s σ H x y v u Q I rx ry h
  obtain ⟨⟨a, od, dx, rfl, J⟩, z⟩ := bin1_mixL o o2 hCD hsub F hr hx I rx ry h
  have h1 := Bool.and_eq_true_iff.mp o.names
  exact OpX.inp_of I.kIn J o.mro (He.eqO_ok h1.1) (He.eqO_ok (Bool.and_eq_true_iff.mp h1.2).1) z
theorem bin1_mixR {nm : String} {pins : List (Addr × Obj)} {s : Shared} {σ : L2.St} {H : Hp} {x y : V} {v u : Value} {Q : VK} (o : OpAt X.K C nm f fr) (o2 : OpAt X.K D nm g gr) (hCD : C ≠ D) (hsub : PySem.W.subIn X.K (.ref D) (.ref C) = some false) (N : NiX.FnN X.prog X.w X.K X.mg X.base m f spn) (F : FnR X.prog X.w X.K X.mg X.base CX n gr sp) (hrN : Room m X.A) (hr : Room n X.A) (hx : Passes CX X E)
    (I : Inv X pins σ H s) (rx : RelV x v) (ry : RelV y u) (h : rMixR C D spn sp E x y H Q) :
    (∃ (a : Addr) (od : Option Obj) (dx : Addr), v = .ref a ∧ PySem.W.InstAt s.heap a (PySem.W.instObj C dx) C od) ∧ wpAny (model X.prog X.w) X.A (binaryOp1 nm v u) (fun r s' => ∃ z, r = some z ∧ EP X pins σ Q z s') X.xe s := by
  obtain ⟨a, b, rfl, rfl, ⟨dx, fs, ha⟩, ⟨dy, gs, hb⟩, q⟩ := h
  cases (show v = Value.ref a from rx)
  cases (show u = Value.ref b from ry)
  obtain ⟨mA, O, _⟩ := ins_get I.hok ha
  obtain ⟨od, J, _⟩ := O.look
  obtain ⟨mB, O', _⟩ := ins_get I.hok hb
  obtain ⟨od', J', _⟩ := O'.look
  refine ⟨⟨a, _, _, rfl, J⟩, ?_⟩
  refine NiX.bin1_swap I.kIn J J' hCD o.first o2.first o.at_ o.fn o.atR o2.at_ o2.atR o2.fnR hsub (wpAny_mono (wpAny_call (run_fnN (us := [.ref a, .ref b]) (vs := [.ref a, .ref b]) N hrN I (.cons rfl (.cons rfl .nil)) q)) (fun w s' z => ?_) fun _ _ x => x)
  obtain ⟨rfl, H1, I1, ⟨dx1, fs1, ha1⟩, ⟨dy1, gs1, hb1⟩, q1⟩ := z
  obtain ⟨mA1, O1, _⟩ := ins_get I1.hok ha1
  obtain ⟨od1, J1, _⟩ := O1.look
  obtain ⟨mB1, O1', _⟩ := ins_get I1.hok hb1
  obtain ⟨od1', J1', _⟩ := O1'.look
  exact ⟨rfl, I1.kIn, ⟨_, _, J1⟩, ⟨_, _, J1'⟩, wpAny_mono (wpAny_call (run_fnR (us := [.ref b, .ref a]) (vs := [.ref b, .ref a]) F hr hx I1 (.cons rfl (.cons rfl .nil)) q1)) (fun w s' z => by
      obtain ⟨z', H', I', rz, qz⟩ := z
      exact SlX.cmpback rz ⟨z', H', I', rz, qz⟩) fun _ _ x => x⟩
theorem op_mixR {op : Operator} (o : OpAt X.K C op.info.2 f fr) (o2 : OpAt X.K D op.info.2 g gr) (hCD : C ≠ D) (hsub : PySem.W.subIn X.K (.ref D) (.ref C) = some false) (N : NiX.FnN X.prog X.w X.K X.mg X.base m f spn) (F : FnR X.prog X.w X.K X.mg X.base CX n gr sp) (hrN : Room m X.A) (hr : Room n X.A) (hx : Passes CX X E) : OpR X (binaryOp op) (rMixR C D spn sp E) :=
  fun pins s σ H x y v u Q I rx ry h => OpX.bin_of (bin1_mixR o o2 hCD hsub N F hrN hr hx I rx ry h).2
end
/-! ### the text by places -/
def top (i : Nat) : Stmt := PySem.Challenge.pw_lessways_k36_terms_refused.main.body.getD i (.Pass ⟨0, 0, 0, 0⟩)
abbrev s_divisor : Stmt := top 11
abbrev s_is_integer : Stmt := top 7
abbrev s_is_number : Stmt := top 8
abbrev s_share_of : Stmt := top 9
abbrev s_fraction : Stmt := top 10
abbrev s_excess : Stmt := top 12
abbrev s_term_of : Stmt := top 20
abbrev s_source : Stmt := top 23
abbrev s_draw : Stmt := top 24
abbrev s_same : Stmt := top 25
abbrev s_lowest : Stmt := top 26
abbrev s_ratio : Stmt := top 27
abbrev s_integer : Stmt := top 28
abbrev s_drawn : Stmt := top 29
abbrev s_times : Stmt := top 30
abbrev s_over : Stmt := top 31
abbrev s_law : Stmt := top 32
abbrev s_Share_init : Stmt := inClass (top 14) 0
abbrev s_Share_eq : Stmt := inClass (top 14) 10
abbrev s_Share_add : Stmt := inClass (top 14) 2
abbrev s_Share_radd : Stmt := inClass (top 14) 3
abbrev s_Share_sub : Stmt := inClass (top 14) 4
abbrev s_Share_rsub : Stmt := inClass (top 14) 5
abbrev s_Share_mul : Stmt := inClass (top 14) 6
abbrev s_Share_rmul : Stmt := inClass (top 14) 7
abbrev s_Share_neg : Stmt := inClass (top 14) 8
abbrev s_Share_over : Stmt := inClass (top 14) 1
abbrev s_Term_init : Stmt := inClass (top 21) 0
abbrev s_Term_eq : Stmt := inClass (top 21) 12
abbrev s_Term_add : Stmt := inClass (top 21) 5
abbrev s_Term_radd : Stmt := inClass (top 21) 6
abbrev s_Term_sub : Stmt := inClass (top 21) 7
abbrev s_Term_rsub : Stmt := inClass (top 21) 8
abbrev s_Term_mul : Stmt := inClass (top 21) 9
abbrev s_Term_rmul : Stmt := inClass (top 21) 10
abbrev s_Term_neg : Stmt := inClass (top 21) 11
abbrev s_Term_over : Stmt := inClass (top 21) 3
abbrev s_NoUnknown_init : Stmt := inClass (top 4) 0
abbrev s_NoShare_init : Stmt := inClass (top 3) 0
abbrev s_NotStraight_init : Stmt := inClass (top 5) 0
def sups : List (Str × Str × Str × Stmt) := [("NoUnknown", "__init__", "NoUnknown.__init__", s_NoUnknown_init), ("NoShare", "__init__", "NoShare.__init__", s_NoShare_init), ("NotStraight", "__init__", "NotStraight.__init__", s_NotStraight_init)]
abbrev s_Term_constant : Stmt := inClass (top 21) 2
abbrev s_Term_unknown : Stmt := inClass (top 21) 1
def d_Term_constant : He5.DefA := ⟨fun K => He5.wf K (He.ga K "Term") "staticmethod" "constant", "constant", "Term.constant", defArgs s_Term_constant, defBody s_Term_constant, defScope s_Term_constant, [], []⟩
def d_Term_unknown : He5.DefA := ⟨fun K => He5.wf K (He.ga K "Term") "staticmethod" "unknown", "unknown", "Term.unknown", defArgs s_Term_unknown, defBody s_Term_unknown, defScope s_Term_unknown, [], []⟩
def stats : List He5.DefA := [d_Term_constant, d_Term_unknown]
/-! ### the facts by names -/
def d_divisor : He.DefD := ⟨("divisor", none), "divisor", "divisor", defArgs s_divisor, defBody s_divisor, defScope s_divisor, [], []⟩
def d_is_integer : He.DefD := ⟨("is_integer", none), "is_integer", "is_integer", defArgs s_is_integer, defBody s_is_integer, defScope s_is_integer, [], []⟩
def d_is_number : He.DefD := ⟨("is_number", none), "is_number", "is_number", defArgs s_is_number, defBody s_is_number, defScope s_is_number, [], []⟩
def d_share_of : He.DefD := ⟨("share_of", none), "share_of", "share_of", defArgs s_share_of, defBody s_share_of, defScope s_share_of, [], []⟩
def d_fraction : He.DefD := ⟨("fraction", none), "fraction", "fraction", defArgs s_fraction, defBody s_fraction, defScope s_fraction, [], []⟩
def d_excess : He.DefD := ⟨("excess", none), "excess", "excess", defArgs s_excess, defBody s_excess, defScope s_excess, [], []⟩
def d_term_of : He.DefD := ⟨("term_of", none), "term_of", "term_of", defArgs s_term_of, defBody s_term_of, defScope s_term_of, [], []⟩
def d_source : He.DefD := ⟨("_law_source", none), "_law_source", "_law_source", defArgs s_source, defBody s_source, defScope s_source, [], []⟩
def d_draw : He.DefD := ⟨("_law_draw", none), "_law_draw", "_law_draw", defArgs s_draw, defBody s_draw, defScope s_draw, [], []⟩
def d_same : He.DefD := ⟨("_law_same", none), "_law_same", "_law_same", defArgs s_same, defBody s_same, defScope s_same, [], []⟩
def d_lowest : He.DefD := ⟨("_law_lowest", none), "_law_lowest", "_law_lowest", defArgs s_lowest, defBody s_lowest, defScope s_lowest, [], []⟩
def d_ratio : He.DefD := ⟨("_law_ratio", none), "_law_ratio", "_law_ratio", defArgs s_ratio, defBody s_ratio, defScope s_ratio, [], []⟩
def d_integer : He.DefD := ⟨("_law_integer", none), "_law_integer", "_law_integer", defArgs s_integer, defBody s_integer, defScope s_integer, [], []⟩
def d_drawn : He.DefD := ⟨("_law_drawn", none), "_law_drawn", "_law_drawn", defArgs s_drawn, defBody s_drawn, defScope s_drawn, [], []⟩
def d_times : He.DefD := ⟨("_law_times", none), "_law_times", "_law_times", defArgs s_times, defBody s_times, defScope s_times, [], []⟩
def d_over : He.DefD := ⟨("_law_over", none), "_law_over", "_law_over", defArgs s_over, defBody s_over, defScope s_over, [], []⟩
def d_law : He.DefD := ⟨("law", none), "law", "law", defArgs s_law, defBody s_law, defScope s_law, [], []⟩
def d_Share_init : He.DefD := ⟨("Share", some "__init__"), "__init__", "Share.__init__", defArgs s_Share_init, defBody s_Share_init, defScope s_Share_init, [.int 1], []⟩
def d_Share_eq : He.DefD := ⟨("Share", some "__eq__"), "__eq__", "Share.__eq__", defArgs s_Share_eq, defBody s_Share_eq, defScope s_Share_eq, [], []⟩
def d_Share_add : He.DefD := ⟨("Share", some "__add__"), "__add__", "Share.__add__", defArgs s_Share_add, defBody s_Share_add, defScope s_Share_add, [], []⟩
def d_Share_radd : He.DefD := ⟨("Share", some "__radd__"), "__radd__", "Share.__radd__", defArgs s_Share_radd, defBody s_Share_radd, defScope s_Share_radd, [], []⟩
def d_Share_sub : He.DefD := ⟨("Share", some "__sub__"), "__sub__", "Share.__sub__", defArgs s_Share_sub, defBody s_Share_sub, defScope s_Share_sub, [], []⟩
def d_Share_rsub : He.DefD := ⟨("Share", some "__rsub__"), "__rsub__", "Share.__rsub__", defArgs s_Share_rsub, defBody s_Share_rsub, defScope s_Share_rsub, [], []⟩
def d_Share_mul : He.DefD := ⟨("Share", some "__mul__"), "__mul__", "Share.__mul__", defArgs s_Share_mul, defBody s_Share_mul, defScope s_Share_mul, [], []⟩
def d_Share_rmul : He.DefD := ⟨("Share", some "__rmul__"), "__rmul__", "Share.__rmul__", defArgs s_Share_rmul, defBody s_Share_rmul, defScope s_Share_rmul, [], []⟩
def d_Share_neg : He.DefD := ⟨("Share", some "__neg__"), "__neg__", "Share.__neg__", defArgs s_Share_neg, defBody s_Share_neg, defScope s_Share_neg, [], []⟩
def d_Share_over : He.DefD := ⟨("Share", some "over"), "over", "Share.over", defArgs s_Share_over, defBody s_Share_over, defScope s_Share_over, [], []⟩
def d_Term_init : He.DefD := ⟨("Term", some "__init__"), "__init__", "Term.__init__", defArgs s_Term_init, defBody s_Term_init, defScope s_Term_init, [], []⟩
def d_Term_eq : He.DefD := ⟨("Term", some "__eq__"), "__eq__", "Term.__eq__", defArgs s_Term_eq, defBody s_Term_eq, defScope s_Term_eq, [], []⟩
def d_Term_add : He.DefD := ⟨("Term", some "__add__"), "__add__", "Term.__add__", defArgs s_Term_add, defBody s_Term_add, defScope s_Term_add, [], []⟩
def d_Term_radd : He.DefD := ⟨("Term", some "__radd__"), "__radd__", "Term.__radd__", defArgs s_Term_radd, defBody s_Term_radd, defScope s_Term_radd, [], []⟩
def d_Term_sub : He.DefD := ⟨("Term", some "__sub__"), "__sub__", "Term.__sub__", defArgs s_Term_sub, defBody s_Term_sub, defScope s_Term_sub, [], []⟩
def d_Term_rsub : He.DefD := ⟨("Term", some "__rsub__"), "__rsub__", "Term.__rsub__", defArgs s_Term_rsub, defBody s_Term_rsub, defScope s_Term_rsub, [], []⟩
def d_Term_mul : He.DefD := ⟨("Term", some "__mul__"), "__mul__", "Term.__mul__", defArgs s_Term_mul, defBody s_Term_mul, defScope s_Term_mul, [], []⟩
def d_Term_rmul : He.DefD := ⟨("Term", some "__rmul__"), "__rmul__", "Term.__rmul__", defArgs s_Term_rmul, defBody s_Term_rmul, defScope s_Term_rmul, [], []⟩
def d_Term_neg : He.DefD := ⟨("Term", some "__neg__"), "__neg__", "Term.__neg__", defArgs s_Term_neg, defBody s_Term_neg, defScope s_Term_neg, [], []⟩
def d_Term_over : He.DefD := ⟨("Term", some "over"), "over", "Term.over", defArgs s_Term_over, defBody s_Term_over, defScope s_Term_over, [], []⟩
def fn : List He.DefD := [d_divisor, d_is_integer, d_is_number, d_share_of, d_fraction, d_excess, d_term_of, d_source, d_draw, d_same, d_lowest, d_ratio, d_integer, d_drawn, d_times, d_over, d_law, d_Share_init, d_Share_eq, d_Share_add, d_Share_radd, d_Share_sub, d_Share_rsub, d_Share_mul, d_Share_rmul, d_Share_neg, d_Share_over, d_Term_init, d_Term_eq, d_Term_add, d_Term_radd, d_Term_sub, d_Term_rsub, d_Term_mul, d_Term_rmul, d_Term_neg, d_Term_over]
def fa : List He.Fa := [.glo "divisor", .glo "is_integer", .glo "is_number", .glo "share_of", .glo "fraction", .glo "excess", .glo "term_of", .glo "_law_source", .glo "_law_draw", .glo "_law_same", .glo "_law_lowest", .glo "_law_ratio", .glo "_law_integer", .glo "_law_drawn", .glo "_law_times", .glo "_law_over", .glo "law", .glo "Share", .glo "Term", .glo "NoUnknown", .glo "NoShare", .glo "NotStraight", .free "isinstance", .free "int", .free "bool", .free "abs", .free "len", .free "range", .free "str", .free "list", .free "tuple", .free "all", .free "zip", .free "NotImplemented", .free "super", .int "UNKNOWNS" 3, .cls "Share", .mkr "Share", .cls "Term", .mkr "Term", .noat "Share" "top", .noat "Share" "bottom", .noat "Term" "number", .noat "Term" "times", .noat "NoUnknown" "k", .noat "NoShare" "top", .noat "NotStraight" "left", .noat "NotStraight" "right", .meth "Share" "__eq__", .meth "Share" "__add__", .meth "Share" "__radd__", .meth "Share" "__sub__", .meth "Share" "__rsub__", .meth "Share" "__mul__", .meth "Share" "__rmul__", .meth "Share" "__neg__", .meth "Share" "over", .meth "Term" "__eq__", .meth "Term" "__add__", .meth "Term" "__radd__", .meth "Term" "__sub__", .meth "Term" "__rsub__", .meth "Term" "__mul__", .meth "Term" "__rmul__", .meth "Term" "__neg__", .meth "Term" "over"]
/-- further facts, as Bools of the written part -/
def extra : List (PySem.W.Frag → Bool) := [fun K => He.eqO (PySem.W.findIn K (.ref (He.ga K "Share")) "__class__") (some (some (.builtin "object.__class__"))),
  fun K => He.eqO (PySem.W.specialIn K (.builtin "object.__class__") "__get__") (some (some (.builtin "getset_descriptor.__get__"))),
  fun K => decide (PySem.W.takesIn K (.builtin "object.__class__") = some true),
  fun K => decide (PySem.W.mroIn K (He.ga K "Share") (.type "object") = some true),
  fun K => decide (PySem.W.kitOne K (.ref (He.ga K "Share")) (.ref (He.ga K "Share")) = some true),
  fun K => He.eqO (PySem.W.findIn K (.ref (He.ga K "Term")) "__class__") (some (some (.builtin "object.__class__"))),
  fun K => decide (PySem.W.mroIn K (He.ga K "Term") (.type "object") = some true),
  fun K => CmX.cmpB K (He.ga K "Share"),
  fun K => NuX.knB K (.ref (He.ga K "Share")) true,
  fun K => NuX.knB K (.ref (He.ga K "Term")) false,
  fun K => NuX.knB K (.type "int") true,
  fun K => NuX.knB K (.type "NoneType") false,
  fun K => NuX.knB K (.type "bool") false,
  fun K => NuX.knB K (.type "str") false,
  fun K => NuX.knB K (.type "list") false,
  fun K => NuX.knB K (.type "tuple") false,
  fun K => NuX.knB K (.type "dict") false,
  fun K => StX.smB K (He.ga K "Term") "constant",
  fun K => decide (PySem.W.kitOne K (.ref (He.ga K "Share")) (.ref (He.ga K "Term")) = some false),
  fun K => decide (PySem.W.subIn K (.ref (He.ga K "Term")) (.ref (He.ga K "Share")) = some false),
  fun K => decide (PySem.W.subIn K (.ref (He.ga K "Share")) (.ref (He.ga K "Term")) = some false),
  fun K => decide (PySem.W.kitOne K (.type "int") (.ref (He.ga K "Share")) = some false),
  fun K => CmX.cmpB K (He.ga K "Term"),
  fun K => SupX.oexB K (He.ga K "NoUnknown"),
  fun K => SupX.supB K (He.ga K "NoUnknown") (He.ma K (He.ga K "NoUnknown") "__init__") "NoUnknown.__init__",
  fun K => decide (PySem.W.exmOne K (.ref (He.ga K "NoUnknown")) (.ref (He.ga K "NoUnknown")) = some true),
  fun K => He.eqO (PySem.W.findIn K (.ref (He.ga K "NoUnknown")) "__init__") (some (some (.ref (He.ma K (He.ga K "NoUnknown") "__init__")))) && decide (PySem.W.typeIn K (.ref (He.ma K (He.ga K "NoUnknown") "__init__")) = some (.type "function")),
  fun K => xfB K (He.ga K "NoUnknown"),
  fun K => StX.smB K (He.ga K "Term") "unknown",
  fun K => CmX.names7.all fun T => decide (PySem.W.kitOne K (.type T) (.ref (He.ga K "Term")) = some false),
  fun K => decide (PySem.W.kitOne K (.ref (He.ga K "Term")) (.ref (He.ga K "Term")) = some true),
  fun K => ["int", "bool", "list", "tuple"].all fun T => decide (PySem.W.kitOne K (.ref (He.ga K "Share")) (.type T) = some false),
  fun K => PySem.W.selfFirst K (He.ga K "Share"),
  fun K => decide (PySem.W.mroIn K (He.ga K "Share") (.type "int") = some false),
  fun K => decide (PySem.W.subIn K (.type "int") (.ref (He.ga K "Share")) = some false),
  fun K => OpX.mro2B K (He.ga K "Share"),
  fun K => OpX.opB K (He.ga K "Share") "add",
  fun K => OpX.opB K (He.ga K "Share") "sub",
  fun K => OpX.opB K (He.ga K "Share") "mul",
  fun K => PySem.W.selfFirst K (He.ga K "Term"),
  fun K => decide (PySem.W.mroIn K (He.ga K "Term") (.type "int") = some false),
  fun K => decide (PySem.W.subIn K (.type "int") (.ref (He.ga K "Term")) = some false),
  fun K => OpX.mro2B K (He.ga K "Term"),
  fun K => OpX.opB K (He.ga K "Term") "add",
  fun K => OpX.opB K (He.ga K "Term") "sub",
  fun K => OpX.opB K (He.ga K "Term") "mul",
  fun K => SupX.oexB K (He.ga K "NoShare"),
  fun K => decide (PySem.W.exmOne K (.ref (He.ga K "NoShare")) (.ref (He.ga K "NoShare")) = some true),
  fun K => He.eqO (PySem.W.findIn K (.ref (He.ga K "NoShare")) "__init__") (some (some (.ref (He.ma K (He.ga K "NoShare") "__init__")))) && decide (PySem.W.typeIn K (.ref (He.ma K (He.ga K "NoShare") "__init__")) = some (.type "function")),
  fun K => xfB K (He.ga K "NoShare"),
  fun K => SupX.supB K (He.ga K "NoShare") (He.ma K (He.ga K "NoShare") "__init__") "NoShare.__init__",
  fun K => SupX.oexB K (He.ga K "NotStraight"),
  fun K => decide (PySem.W.exmOne K (.ref (He.ga K "NotStraight")) (.ref (He.ga K "NotStraight")) = some true),
  fun K => He.eqO (PySem.W.findIn K (.ref (He.ga K "NotStraight")) "__init__") (some (some (.ref (He.ma K (He.ga K "NotStraight") "__init__")))) && decide (PySem.W.typeIn K (.ref (He.ma K (He.ga K "NotStraight") "__init__")) = some (.type "function")),
  fun K => xfB K (He.ga K "NotStraight"),
  fun K => SupX.supB K (He.ga K "NotStraight") (He.ma K (He.ga K "NotStraight") "__init__") "NotStraight.__init__"]
abbrev AlX : Type := Bool × He.AlD × List SupX.SpW × List He5.FnW
def obsX (fa : List He.Fa) (fn : List He.DefD) (sp : List (Str × Str × Str × Stmt)) (ex : List (PySem.W.Frag → Bool)) (st : List He5.DefA) (K : PySem.W.Frag) : AlX := ((ex.all fun f => f K) && st.all fun d => d.ok K, He.obsD fa fn K, sp.map fun d => SupX.supW K (He.fAd K (d.1, some d.2.1)), st.map fun d => He5.fnA K (d.at_ K))
def valX (fn : List He.DefD) (sp : List (Str × Str × Str × Stmt)) (st : List He5.DefA) : AlX := (true, He.valD fn, sp.map fun d => SupX.supV d.2.1 d.2.2.1 d.2.2.2, st.map He5.DefA.val)
def SaysX (fa : List He.Fa) (fn : List He.DefD) (sp : List (Str × Str × Str × Stmt)) (ex : List (PySem.W.Frag → Bool)) (st : List He5.DefA) (K : PySem.W.Frag) : Prop := obsX fa fn sp ex st K = valX fn sp st
/-- what every def leans on: the facts, and where the module's names are read -/
structure Wd (K : PySem.W.Frag) (mg : Str → Option Value) : Prop where
  s : SaysX fa fn sups extra stats K
  X : ∃ h : Heap, K.In h ∧ h.Ns mainGlobals mg
section
variable {K : PySem.W.Frag} {mg : Str → Option Value}
theorem Wd.c (W : Wd K mg) : He.SaysD fa fn K := congrArg (fun z : AlX => z.2.1) W.s
theorem Wd.ex (W : Wd K mg) (i : Nat) {f : PySem.W.Frag → Bool} (h : extra[i]? = some f) : f K = true :=
  List.all_eq_true.mp (He.ba (show ((extra.all fun f => f K) && stats.all fun d => d.ok K) = true from congrArg (fun z : AlX => z.1) W.s)).1 f (List.mem_of_getElem? h)
theorem Wd.stat (W : Wd K mg) (i : Nat) {d : He5.DefA} (h : stats[i]? = some d) : ∃ fd, FunD K d.name d.qual d.params d.body d.scope (d.dvs K) (d.kws K) (d.at_ K) fd := by
  have c := (He.ba (show ((extra.all fun f => f K) && stats.all fun d => d.ok K) = true from congrArg (fun z : AlX => z.1) W.s)).2
  have e : stats.map (fun d => He5.fnA K (d.at_ K)) = stats.map He5.DefA.val := congrArg (fun z : AlX => z.2.2.2) W.s
  have e2 : (stats.map fun d => He5.fnA K (d.at_ K))[i]? = (stats.map He5.DefA.val)[i]? := by rw [e]
  rw [List.getElem?_map, List.getElem?_map, h] at e2
  exact He5.DefA.funD (Option.some.inj e2) (List.all_eq_true.mp c d (List.mem_of_getElem? h))
theorem Wd.glo (W : Wd K mg) (i : Nat) {x : Str} (h : fa[i]? = some (.glo x)) : mg x = some (.ref (He.ga K x)) := by
  obtain ⟨h0, X, G⟩ := W.X
  exact He.glo_ok X G (W.c.fact i h)
theorem Wd.free (W : Wd K mg) (i : Nat) {x : Str} (h : fa[i]? = some (.free x)) : mg x = none := by
  obtain ⟨h0, X, G⟩ := W.X
  exact He.free_ok X G (W.c.fact i h)
theorem Wd.sup (W : Wd K mg) (i : Nat) {d : Str × Str × Str × Stmt} (h : sups[i]? = some d) : SupX.supW K (He.fAd K (d.1, some d.2.1)) = SupX.supV d.2.1 d.2.2.1 d.2.2.2 := by
  have e : sups.map (fun d => SupX.supW K (He.fAd K (d.1, some d.2.1))) = sups.map fun d => SupX.supV d.2.1 d.2.2.1 d.2.2.2 := congrArg (fun z : AlX => z.2.2.1) W.s
  have e2 : (sups.map (fun d => SupX.supW K (He.fAd K (d.1, some d.2.1))))[i]? = (sups.map fun d => SupX.supV d.2.1 d.2.2.1 d.2.2.2)[i]? := by rw [e]
  rw [List.getElem?_map, List.getElem?_map, h] at e2
  exact Option.some.inj e2
end

theorem Wd.g_divisor {K : PySem.W.Frag} {mg : Str → Option Value} (W : Wd K mg) : mg "divisor" = some (.ref (He.ga K "divisor")) := W.glo 0 rfl
theorem Wd.g_is_integer {K : PySem.W.Frag} {mg : Str → Option Value} (W : Wd K mg) : mg "is_integer" = some (.ref (He.ga K "is_integer")) := W.glo 1 rfl
theorem Wd.g_is_number {K : PySem.W.Frag} {mg : Str → Option Value} (W : Wd K mg) : mg "is_number" = some (.ref (He.ga K "is_number")) := W.glo 2 rfl
theorem Wd.g_share_of {K : PySem.W.Frag} {mg : Str → Option Value} (W : Wd K mg) : mg "share_of" = some (.ref (He.ga K "share_of")) := W.glo 3 rfl
theorem Wd.g_fraction {K : PySem.W.Frag} {mg : Str → Option Value} (W : Wd K mg) : mg "fraction" = some (.ref (He.ga K "fraction")) := W.glo 4 rfl
theorem Wd.g_excess {K : PySem.W.Frag} {mg : Str → Option Value} (W : Wd K mg) : mg "excess" = some (.ref (He.ga K "excess")) := W.glo 5 rfl
theorem Wd.g_term_of {K : PySem.W.Frag} {mg : Str → Option Value} (W : Wd K mg) : mg "term_of" = some (.ref (He.ga K "term_of")) := W.glo 6 rfl
theorem Wd.g_law_source {K : PySem.W.Frag} {mg : Str → Option Value} (W : Wd K mg) : mg "_law_source" = some (.ref (He.ga K "_law_source")) := W.glo 7 rfl
theorem Wd.g_law_draw {K : PySem.W.Frag} {mg : Str → Option Value} (W : Wd K mg) : mg "_law_draw" = some (.ref (He.ga K "_law_draw")) := W.glo 8 rfl
theorem Wd.g_law_same {K : PySem.W.Frag} {mg : Str → Option Value} (W : Wd K mg) : mg "_law_same" = some (.ref (He.ga K "_law_same")) := W.glo 9 rfl
theorem Wd.g_law_lowest {K : PySem.W.Frag} {mg : Str → Option Value} (W : Wd K mg) : mg "_law_lowest" = some (.ref (He.ga K "_law_lowest")) := W.glo 10 rfl
theorem Wd.g_law_ratio {K : PySem.W.Frag} {mg : Str → Option Value} (W : Wd K mg) : mg "_law_ratio" = some (.ref (He.ga K "_law_ratio")) := W.glo 11 rfl
theorem Wd.g_law_integer {K : PySem.W.Frag} {mg : Str → Option Value} (W : Wd K mg) : mg "_law_integer" = some (.ref (He.ga K "_law_integer")) := W.glo 12 rfl
theorem Wd.g_law_drawn {K : PySem.W.Frag} {mg : Str → Option Value} (W : Wd K mg) : mg "_law_drawn" = some (.ref (He.ga K "_law_drawn")) := W.glo 13 rfl
theorem Wd.g_law_times {K : PySem.W.Frag} {mg : Str → Option Value} (W : Wd K mg) : mg "_law_times" = some (.ref (He.ga K "_law_times")) := W.glo 14 rfl
theorem Wd.g_law_over {K : PySem.W.Frag} {mg : Str → Option Value} (W : Wd K mg) : mg "_law_over" = some (.ref (He.ga K "_law_over")) := W.glo 15 rfl
theorem Wd.g_law {K : PySem.W.Frag} {mg : Str → Option Value} (W : Wd K mg) : mg "law" = some (.ref (He.ga K "law")) := W.glo 16 rfl
theorem Wd.g_Share {K : PySem.W.Frag} {mg : Str → Option Value} (W : Wd K mg) : mg "Share" = some (.ref (He.ga K "Share")) := W.glo 17 rfl
theorem Wd.g_Term {K : PySem.W.Frag} {mg : Str → Option Value} (W : Wd K mg) : mg "Term" = some (.ref (He.ga K "Term")) := W.glo 18 rfl
theorem Wd.g_NoUnknown {K : PySem.W.Frag} {mg : Str → Option Value} (W : Wd K mg) : mg "NoUnknown" = some (.ref (He.ga K "NoUnknown")) := W.glo 19 rfl
theorem Wd.g_NoShare {K : PySem.W.Frag} {mg : Str → Option Value} (W : Wd K mg) : mg "NoShare" = some (.ref (He.ga K "NoShare")) := W.glo 20 rfl
theorem Wd.g_NotStraight {K : PySem.W.Frag} {mg : Str → Option Value} (W : Wd K mg) : mg "NotStraight" = some (.ref (He.ga K "NotStraight")) := W.glo 21 rfl
theorem Wd.f_isinstance {K : PySem.W.Frag} {mg : Str → Option Value} (W : Wd K mg) : mg "isinstance" = none := W.free 22 rfl
theorem Wd.f_int {K : PySem.W.Frag} {mg : Str → Option Value} (W : Wd K mg) : mg "int" = none := W.free 23 rfl
theorem Wd.f_bool {K : PySem.W.Frag} {mg : Str → Option Value} (W : Wd K mg) : mg "bool" = none := W.free 24 rfl
theorem Wd.f_abs {K : PySem.W.Frag} {mg : Str → Option Value} (W : Wd K mg) : mg "abs" = none := W.free 25 rfl
theorem Wd.f_len {K : PySem.W.Frag} {mg : Str → Option Value} (W : Wd K mg) : mg "len" = none := W.free 26 rfl
theorem Wd.f_range {K : PySem.W.Frag} {mg : Str → Option Value} (W : Wd K mg) : mg "range" = none := W.free 27 rfl
theorem Wd.f_str {K : PySem.W.Frag} {mg : Str → Option Value} (W : Wd K mg) : mg "str" = none := W.free 28 rfl
theorem Wd.f_list {K : PySem.W.Frag} {mg : Str → Option Value} (W : Wd K mg) : mg "list" = none := W.free 29 rfl
theorem Wd.f_tuple {K : PySem.W.Frag} {mg : Str → Option Value} (W : Wd K mg) : mg "tuple" = none := W.free 30 rfl
theorem Wd.f_all {K : PySem.W.Frag} {mg : Str → Option Value} (W : Wd K mg) : mg "all" = none := W.free 31 rfl
theorem Wd.f_zip {K : PySem.W.Frag} {mg : Str → Option Value} (W : Wd K mg) : mg "zip" = none := W.free 32 rfl
theorem Wd.f_NotImplemented {K : PySem.W.Frag} {mg : Str → Option Value} (W : Wd K mg) : mg "NotImplemented" = none := W.free 33 rfl
theorem Wd.f_super {K : PySem.W.Frag} {mg : Str → Option Value} (W : Wd K mg) : mg "super" = none := W.free 34 rfl
theorem Wd.cls_Share {K : PySem.W.Frag} {mg : Str → Option Value} (W : Wd K mg) : Cls K (He.ga K "Share") := He.cls_ok (W.c.fact 36 rfl)
theorem Wd.mkr_Share {K : PySem.W.Frag} {mg : Str → Option Value} (W : Wd K mg) : Mk K (He.ga K "Share") (He.ma K (He.ga K "Share") "__init__") := He.mkr_ok (W.c.fact 37 rfl)
theorem Wd.cls_Term {K : PySem.W.Frag} {mg : Str → Option Value} (W : Wd K mg) : Cls K (He.ga K "Term") := He.cls_ok (W.c.fact 38 rfl)
theorem Wd.mkr_Term {K : PySem.W.Frag} {mg : Str → Option Value} (W : Wd K mg) : Mk K (He.ga K "Term") (He.ma K (He.ga K "Term") "__init__") := He.mkr_ok (W.c.fact 39 rfl)
theorem Wd.n_Share_top {K : PySem.W.Frag} {mg : Str → Option Value} (W : Wd K mg) : NoAttr K (He.ga K "Share") "top" := He.noat_ok (W.c.fact 40 rfl)
theorem Wd.n_Share_bottom {K : PySem.W.Frag} {mg : Str → Option Value} (W : Wd K mg) : NoAttr K (He.ga K "Share") "bottom" := He.noat_ok (W.c.fact 41 rfl)
theorem Wd.n_Term_number {K : PySem.W.Frag} {mg : Str → Option Value} (W : Wd K mg) : NoAttr K (He.ga K "Term") "number" := He.noat_ok (W.c.fact 42 rfl)
theorem Wd.n_Term_times {K : PySem.W.Frag} {mg : Str → Option Value} (W : Wd K mg) : NoAttr K (He.ga K "Term") "times" := He.noat_ok (W.c.fact 43 rfl)
theorem Wd.n_NoUnknown_k {K : PySem.W.Frag} {mg : Str → Option Value} (W : Wd K mg) : NoAttr K (He.ga K "NoUnknown") "k" := He.noat_ok (W.c.fact 44 rfl)
theorem Wd.n_NoShare_top {K : PySem.W.Frag} {mg : Str → Option Value} (W : Wd K mg) : NoAttr K (He.ga K "NoShare") "top" := He.noat_ok (W.c.fact 45 rfl)
theorem Wd.n_NotStraight_left {K : PySem.W.Frag} {mg : Str → Option Value} (W : Wd K mg) : NoAttr K (He.ga K "NotStraight") "left" := He.noat_ok (W.c.fact 46 rfl)
theorem Wd.n_NotStraight_right {K : PySem.W.Frag} {mg : Str → Option Value} (W : Wd K mg) : NoAttr K (He.ga K "NotStraight") "right" := He.noat_ok (W.c.fact 47 rfl)
theorem Wd.m_Share_eq {K : PySem.W.Frag} {mg : Str → Option Value} (W : Wd K mg) : Meth K (He.ga K "Share") "__eq__" (He.ma K (He.ga K "Share") "__eq__") := He.meth_ok (W.c.fact 48 rfl)
theorem Wd.m_Share_add {K : PySem.W.Frag} {mg : Str → Option Value} (W : Wd K mg) : Meth K (He.ga K "Share") "__add__" (He.ma K (He.ga K "Share") "__add__") := He.meth_ok (W.c.fact 49 rfl)
theorem Wd.m_Share_radd {K : PySem.W.Frag} {mg : Str → Option Value} (W : Wd K mg) : Meth K (He.ga K "Share") "__radd__" (He.ma K (He.ga K "Share") "__radd__") := He.meth_ok (W.c.fact 50 rfl)
theorem Wd.m_Share_sub {K : PySem.W.Frag} {mg : Str → Option Value} (W : Wd K mg) : Meth K (He.ga K "Share") "__sub__" (He.ma K (He.ga K "Share") "__sub__") := He.meth_ok (W.c.fact 51 rfl)
theorem Wd.m_Share_rsub {K : PySem.W.Frag} {mg : Str → Option Value} (W : Wd K mg) : Meth K (He.ga K "Share") "__rsub__" (He.ma K (He.ga K "Share") "__rsub__") := He.meth_ok (W.c.fact 52 rfl)
theorem Wd.m_Share_mul {K : PySem.W.Frag} {mg : Str → Option Value} (W : Wd K mg) : Meth K (He.ga K "Share") "__mul__" (He.ma K (He.ga K "Share") "__mul__") := He.meth_ok (W.c.fact 53 rfl)
theorem Wd.m_Share_rmul {K : PySem.W.Frag} {mg : Str → Option Value} (W : Wd K mg) : Meth K (He.ga K "Share") "__rmul__" (He.ma K (He.ga K "Share") "__rmul__") := He.meth_ok (W.c.fact 54 rfl)
theorem Wd.m_Share_neg {K : PySem.W.Frag} {mg : Str → Option Value} (W : Wd K mg) : Meth K (He.ga K "Share") "__neg__" (He.ma K (He.ga K "Share") "__neg__") := He.meth_ok (W.c.fact 55 rfl)
theorem Wd.m_Share_over {K : PySem.W.Frag} {mg : Str → Option Value} (W : Wd K mg) : Meth K (He.ga K "Share") "over" (He.ma K (He.ga K "Share") "over") := He.meth_ok (W.c.fact 56 rfl)
theorem Wd.m_Term_eq {K : PySem.W.Frag} {mg : Str → Option Value} (W : Wd K mg) : Meth K (He.ga K "Term") "__eq__" (He.ma K (He.ga K "Term") "__eq__") := He.meth_ok (W.c.fact 57 rfl)
theorem Wd.m_Term_add {K : PySem.W.Frag} {mg : Str → Option Value} (W : Wd K mg) : Meth K (He.ga K "Term") "__add__" (He.ma K (He.ga K "Term") "__add__") := He.meth_ok (W.c.fact 58 rfl)
theorem Wd.m_Term_radd {K : PySem.W.Frag} {mg : Str → Option Value} (W : Wd K mg) : Meth K (He.ga K "Term") "__radd__" (He.ma K (He.ga K "Term") "__radd__") := He.meth_ok (W.c.fact 59 rfl)
theorem Wd.m_Term_sub {K : PySem.W.Frag} {mg : Str → Option Value} (W : Wd K mg) : Meth K (He.ga K "Term") "__sub__" (He.ma K (He.ga K "Term") "__sub__") := He.meth_ok (W.c.fact 60 rfl)
theorem Wd.m_Term_rsub {K : PySem.W.Frag} {mg : Str → Option Value} (W : Wd K mg) : Meth K (He.ga K "Term") "__rsub__" (He.ma K (He.ga K "Term") "__rsub__") := He.meth_ok (W.c.fact 61 rfl)
theorem Wd.m_Term_mul {K : PySem.W.Frag} {mg : Str → Option Value} (W : Wd K mg) : Meth K (He.ga K "Term") "__mul__" (He.ma K (He.ga K "Term") "__mul__") := He.meth_ok (W.c.fact 62 rfl)
theorem Wd.m_Term_rmul {K : PySem.W.Frag} {mg : Str → Option Value} (W : Wd K mg) : Meth K (He.ga K "Term") "__rmul__" (He.ma K (He.ga K "Term") "__rmul__") := He.meth_ok (W.c.fact 63 rfl)
theorem Wd.m_Term_neg {K : PySem.W.Frag} {mg : Str → Option Value} (W : Wd K mg) : Meth K (He.ga K "Term") "__neg__" (He.ma K (He.ga K "Term") "__neg__") := He.meth_ok (W.c.fact 64 rfl)
theorem Wd.m_Term_over {K : PySem.W.Frag} {mg : Str → Option Value} (W : Wd K mg) : Meth K (He.ga K "Term") "over" (He.ma K (He.ga K "Term") "over") := He.meth_ok (W.c.fact 65 rfl)
theorem Wd.F_divisor {K : PySem.W.Frag} {mg : Str → Option Value} (W : Wd K mg) : ∃ fd, FunD K d_divisor.name d_divisor.qual d_divisor.params d_divisor.body d_divisor.scope (d_divisor.dvs K) (d_divisor.kws K) (He.fAd K d_divisor.at_) fd := W.c.def_ 0 rfl
theorem Wd.F_is_integer {K : PySem.W.Frag} {mg : Str → Option Value} (W : Wd K mg) : ∃ fd, FunD K d_is_integer.name d_is_integer.qual d_is_integer.params d_is_integer.body d_is_integer.scope (d_is_integer.dvs K) (d_is_integer.kws K) (He.fAd K d_is_integer.at_) fd := W.c.def_ 1 rfl
theorem Wd.F_is_number {K : PySem.W.Frag} {mg : Str → Option Value} (W : Wd K mg) : ∃ fd, FunD K d_is_number.name d_is_number.qual d_is_number.params d_is_number.body d_is_number.scope (d_is_number.dvs K) (d_is_number.kws K) (He.fAd K d_is_number.at_) fd := W.c.def_ 2 rfl
theorem Wd.F_share_of {K : PySem.W.Frag} {mg : Str → Option Value} (W : Wd K mg) : ∃ fd, FunD K d_share_of.name d_share_of.qual d_share_of.params d_share_of.body d_share_of.scope (d_share_of.dvs K) (d_share_of.kws K) (He.fAd K d_share_of.at_) fd := W.c.def_ 3 rfl
theorem Wd.F_fraction {K : PySem.W.Frag} {mg : Str → Option Value} (W : Wd K mg) : ∃ fd, FunD K d_fraction.name d_fraction.qual d_fraction.params d_fraction.body d_fraction.scope (d_fraction.dvs K) (d_fraction.kws K) (He.fAd K d_fraction.at_) fd := W.c.def_ 4 rfl
theorem Wd.F_excess {K : PySem.W.Frag} {mg : Str → Option Value} (W : Wd K mg) : ∃ fd, FunD K d_excess.name d_excess.qual d_excess.params d_excess.body d_excess.scope (d_excess.dvs K) (d_excess.kws K) (He.fAd K d_excess.at_) fd := W.c.def_ 5 rfl
theorem Wd.F_term_of {K : PySem.W.Frag} {mg : Str → Option Value} (W : Wd K mg) : ∃ fd, FunD K d_term_of.name d_term_of.qual d_term_of.params d_term_of.body d_term_of.scope (d_term_of.dvs K) (d_term_of.kws K) (He.fAd K d_term_of.at_) fd := W.c.def_ 6 rfl
theorem Wd.F_source {K : PySem.W.Frag} {mg : Str → Option Value} (W : Wd K mg) : ∃ fd, FunD K d_source.name d_source.qual d_source.params d_source.body d_source.scope (d_source.dvs K) (d_source.kws K) (He.fAd K d_source.at_) fd := W.c.def_ 7 rfl
theorem Wd.F_draw {K : PySem.W.Frag} {mg : Str → Option Value} (W : Wd K mg) : ∃ fd, FunD K d_draw.name d_draw.qual d_draw.params d_draw.body d_draw.scope (d_draw.dvs K) (d_draw.kws K) (He.fAd K d_draw.at_) fd := W.c.def_ 8 rfl
theorem Wd.F_same {K : PySem.W.Frag} {mg : Str → Option Value} (W : Wd K mg) : ∃ fd, FunD K d_same.name d_same.qual d_same.params d_same.body d_same.scope (d_same.dvs K) (d_same.kws K) (He.fAd K d_same.at_) fd := W.c.def_ 9 rfl
theorem Wd.F_lowest {K : PySem.W.Frag} {mg : Str → Option Value} (W : Wd K mg) : ∃ fd, FunD K d_lowest.name d_lowest.qual d_lowest.params d_lowest.body d_lowest.scope (d_lowest.dvs K) (d_lowest.kws K) (He.fAd K d_lowest.at_) fd := W.c.def_ 10 rfl
theorem Wd.F_ratio {K : PySem.W.Frag} {mg : Str → Option Value} (W : Wd K mg) : ∃ fd, FunD K d_ratio.name d_ratio.qual d_ratio.params d_ratio.body d_ratio.scope (d_ratio.dvs K) (d_ratio.kws K) (He.fAd K d_ratio.at_) fd := W.c.def_ 11 rfl
theorem Wd.F_integer {K : PySem.W.Frag} {mg : Str → Option Value} (W : Wd K mg) : ∃ fd, FunD K d_integer.name d_integer.qual d_integer.params d_integer.body d_integer.scope (d_integer.dvs K) (d_integer.kws K) (He.fAd K d_integer.at_) fd := W.c.def_ 12 rfl
theorem Wd.F_drawn {K : PySem.W.Frag} {mg : Str → Option Value} (W : Wd K mg) : ∃ fd, FunD K d_drawn.name d_drawn.qual d_drawn.params d_drawn.body d_drawn.scope (d_drawn.dvs K) (d_drawn.kws K) (He.fAd K d_drawn.at_) fd := W.c.def_ 13 rfl
theorem Wd.F_times {K : PySem.W.Frag} {mg : Str → Option Value} (W : Wd K mg) : ∃ fd, FunD K d_times.name d_times.qual d_times.params d_times.body d_times.scope (d_times.dvs K) (d_times.kws K) (He.fAd K d_times.at_) fd := W.c.def_ 14 rfl
theorem Wd.F_over {K : PySem.W.Frag} {mg : Str → Option Value} (W : Wd K mg) : ∃ fd, FunD K d_over.name d_over.qual d_over.params d_over.body d_over.scope (d_over.dvs K) (d_over.kws K) (He.fAd K d_over.at_) fd := W.c.def_ 15 rfl
theorem Wd.F_law {K : PySem.W.Frag} {mg : Str → Option Value} (W : Wd K mg) : ∃ fd, FunD K d_law.name d_law.qual d_law.params d_law.body d_law.scope (d_law.dvs K) (d_law.kws K) (He.fAd K d_law.at_) fd := W.c.def_ 16 rfl
theorem Wd.F_Share_init {K : PySem.W.Frag} {mg : Str → Option Value} (W : Wd K mg) : ∃ fd, FunD K d_Share_init.name d_Share_init.qual d_Share_init.params d_Share_init.body d_Share_init.scope (d_Share_init.dvs K) (d_Share_init.kws K) (He.fAd K d_Share_init.at_) fd := W.c.def_ 17 rfl
theorem Wd.F_Share_eq {K : PySem.W.Frag} {mg : Str → Option Value} (W : Wd K mg) : ∃ fd, FunD K d_Share_eq.name d_Share_eq.qual d_Share_eq.params d_Share_eq.body d_Share_eq.scope (d_Share_eq.dvs K) (d_Share_eq.kws K) (He.fAd K d_Share_eq.at_) fd := W.c.def_ 18 rfl
theorem Wd.F_Share_add {K : PySem.W.Frag} {mg : Str → Option Value} (W : Wd K mg) : ∃ fd, FunD K d_Share_add.name d_Share_add.qual d_Share_add.params d_Share_add.body d_Share_add.scope (d_Share_add.dvs K) (d_Share_add.kws K) (He.fAd K d_Share_add.at_) fd := W.c.def_ 19 rfl
theorem Wd.F_Share_radd {K : PySem.W.Frag} {mg : Str → Option Value} (W : Wd K mg) : ∃ fd, FunD K d_Share_radd.name d_Share_radd.qual d_Share_radd.params d_Share_radd.body d_Share_radd.scope (d_Share_radd.dvs K) (d_Share_radd.kws K) (He.fAd K d_Share_radd.at_) fd := W.c.def_ 20 rfl
theorem Wd.F_Share_sub {K : PySem.W.Frag} {mg : Str → Option Value} (W : Wd K mg) : ∃ fd, FunD K d_Share_sub.name d_Share_sub.qual d_Share_sub.params d_Share_sub.body d_Share_sub.scope (d_Share_sub.dvs K) (d_Share_sub.kws K) (He.fAd K d_Share_sub.at_) fd := W.c.def_ 21 rfl
theorem Wd.F_Share_rsub {K : PySem.W.Frag} {mg : Str → Option Value} (W : Wd K mg) : ∃ fd, FunD K d_Share_rsub.name d_Share_rsub.qual d_Share_rsub.params d_Share_rsub.body d_Share_rsub.scope (d_Share_rsub.dvs K) (d_Share_rsub.kws K) (He.fAd K d_Share_rsub.at_) fd := W.c.def_ 22 rfl
theorem Wd.F_Share_mul {K : PySem.W.Frag} {mg : Str → Option Value} (W : Wd K mg) : ∃ fd, FunD K d_Share_mul.name d_Share_mul.qual d_Share_mul.params d_Share_mul.body d_Share_mul.scope (d_Share_mul.dvs K) (d_Share_mul.kws K) (He.fAd K d_Share_mul.at_) fd := W.c.def_ 23 rfl
theorem Wd.F_Share_rmul {K : PySem.W.Frag} {mg : Str → Option Value} (W : Wd K mg) : ∃ fd, FunD K d_Share_rmul.name d_Share_rmul.qual d_Share_rmul.params d_Share_rmul.body d_Share_rmul.scope (d_Share_rmul.dvs K) (d_Share_rmul.kws K) (He.fAd K d_Share_rmul.at_) fd := W.c.def_ 24 rfl
theorem Wd.F_Share_neg {K : PySem.W.Frag} {mg : Str → Option Value} (W : Wd K mg) : ∃ fd, FunD K d_Share_neg.name d_Share_neg.qual d_Share_neg.params d_Share_neg.body d_Share_neg.scope (d_Share_neg.dvs K) (d_Share_neg.kws K) (He.fAd K d_Share_neg.at_) fd := W.c.def_ 25 rfl
theorem Wd.F_Share_over {K : PySem.W.Frag} {mg : Str → Option Value} (W : Wd K mg) : ∃ fd, FunD K d_Share_over.name d_Share_over.qual d_Share_over.params d_Share_over.body d_Share_over.scope (d_Share_over.dvs K) (d_Share_over.kws K) (He.fAd K d_Share_over.at_) fd := W.c.def_ 26 rfl
theorem Wd.F_Term_init {K : PySem.W.Frag} {mg : Str → Option Value} (W : Wd K mg) : ∃ fd, FunD K d_Term_init.name d_Term_init.qual d_Term_init.params d_Term_init.body d_Term_init.scope (d_Term_init.dvs K) (d_Term_init.kws K) (He.fAd K d_Term_init.at_) fd := W.c.def_ 27 rfl
theorem Wd.F_Term_eq {K : PySem.W.Frag} {mg : Str → Option Value} (W : Wd K mg) : ∃ fd, FunD K d_Term_eq.name d_Term_eq.qual d_Term_eq.params d_Term_eq.body d_Term_eq.scope (d_Term_eq.dvs K) (d_Term_eq.kws K) (He.fAd K d_Term_eq.at_) fd := W.c.def_ 28 rfl
theorem Wd.F_Term_add {K : PySem.W.Frag} {mg : Str → Option Value} (W : Wd K mg) : ∃ fd, FunD K d_Term_add.name d_Term_add.qual d_Term_add.params d_Term_add.body d_Term_add.scope (d_Term_add.dvs K) (d_Term_add.kws K) (He.fAd K d_Term_add.at_) fd := W.c.def_ 29 rfl
theorem Wd.F_Term_radd {K : PySem.W.Frag} {mg : Str → Option Value} (W : Wd K mg) : ∃ fd, FunD K d_Term_radd.name d_Term_radd.qual d_Term_radd.params d_Term_radd.body d_Term_radd.scope (d_Term_radd.dvs K) (d_Term_radd.kws K) (He.fAd K d_Term_radd.at_) fd := W.c.def_ 30 rfl
theorem Wd.F_Term_sub {K : PySem.W.Frag} {mg : Str → Option Value} (W : Wd K mg) : ∃ fd, FunD K d_Term_sub.name d_Term_sub.qual d_Term_sub.params d_Term_sub.body d_Term_sub.scope (d_Term_sub.dvs K) (d_Term_sub.kws K) (He.fAd K d_Term_sub.at_) fd := W.c.def_ 31 rfl
theorem Wd.F_Term_rsub {K : PySem.W.Frag} {mg : Str → Option Value} (W : Wd K mg) : ∃ fd, FunD K d_Term_rsub.name d_Term_rsub.qual d_Term_rsub.params d_Term_rsub.body d_Term_rsub.scope (d_Term_rsub.dvs K) (d_Term_rsub.kws K) (He.fAd K d_Term_rsub.at_) fd := W.c.def_ 32 rfl
theorem Wd.F_Term_mul {K : PySem.W.Frag} {mg : Str → Option Value} (W : Wd K mg) : ∃ fd, FunD K d_Term_mul.name d_Term_mul.qual d_Term_mul.params d_Term_mul.body d_Term_mul.scope (d_Term_mul.dvs K) (d_Term_mul.kws K) (He.fAd K d_Term_mul.at_) fd := W.c.def_ 33 rfl
theorem Wd.F_Term_rmul {K : PySem.W.Frag} {mg : Str → Option Value} (W : Wd K mg) : ∃ fd, FunD K d_Term_rmul.name d_Term_rmul.qual d_Term_rmul.params d_Term_rmul.body d_Term_rmul.scope (d_Term_rmul.dvs K) (d_Term_rmul.kws K) (He.fAd K d_Term_rmul.at_) fd := W.c.def_ 34 rfl
theorem Wd.F_Term_neg {K : PySem.W.Frag} {mg : Str → Option Value} (W : Wd K mg) : ∃ fd, FunD K d_Term_neg.name d_Term_neg.qual d_Term_neg.params d_Term_neg.body d_Term_neg.scope (d_Term_neg.dvs K) (d_Term_neg.kws K) (He.fAd K d_Term_neg.at_) fd := W.c.def_ 35 rfl
theorem Wd.F_Term_over {K : PySem.W.Frag} {mg : Str → Option Value} (W : Wd K mg) : ∃ fd, FunD K d_Term_over.name d_Term_over.qual d_Term_over.params d_Term_over.body d_Term_over.scope (d_Term_over.dvs K) (d_Term_over.kws K) (He.fAd K d_Term_over.at_) fd := W.c.def_ 36 rfl
theorem Wd.F_Term_constant {K : PySem.W.Frag} {mg : Str → Option Value} (W : Wd K mg) : ∃ fd, FunD K d_Term_constant.name d_Term_constant.qual d_Term_constant.params d_Term_constant.body d_Term_constant.scope (d_Term_constant.dvs K) (d_Term_constant.kws K) (d_Term_constant.at_ K) fd := W.stat 0 rfl
theorem Wd.F_Term_unknown {K : PySem.W.Frag} {mg : Str → Option Value} (W : Wd K mg) : ∃ fd, FunD K d_Term_unknown.name d_Term_unknown.qual d_Term_unknown.params d_Term_unknown.body d_Term_unknown.scope (d_Term_unknown.dvs K) (d_Term_unknown.kws K) (d_Term_unknown.at_ K) fd := W.stat 1 rfl
def loose1 : List PySem.Str := ["LessError", "NoShare", "NoUnknown", "NotStraight", "Row", "Share", "Term", "UNKNOWNS", "_law_draw", "_law_drawn", "_law_integer", "_law_lowest", "_law_over"]
def loose2 : List PySem.Str := ["_law_ratio", "_law_same", "_law_source", "_law_times", "_wall", "digits", "divisor", "excess", "fraction", "is_integer", "is_number", "scale", "share_of", "term_of"]
abbrev R : PySem.W.OpenRow := PySem.W.OpenLaw.row PySem.Challenge.rw_lessways_k36_terms_refused
def lawAt : Nat := 32
section
variable {K : PySem.W.Frag} {mg : Str → Option Value}
theorem Wd.e_firstShare (W : Wd K mg) : (fun K => PySem.W.selfFirst K (He.ga K "Share")) K = true := W.ex 32 rfl
theorem Wd.e_notIntShare (W : Wd K mg) : (fun K => decide (PySem.W.mroIn K (He.ga K "Share") (.type "int") = some false)) K = true := W.ex 33 rfl
theorem Wd.e_intNotShare (W : Wd K mg) : (fun K => decide (PySem.W.subIn K (.type "int") (.ref (He.ga K "Share")) = some false)) K = true := W.ex 34 rfl
theorem Wd.e_mro2Share (W : Wd K mg) : (fun K => OpX.mro2B K (He.ga K "Share")) K = true := W.ex 35 rfl
theorem Wd.e_opShareadd (W : Wd K mg) : (fun K => OpX.opB K (He.ga K "Share") "add") K = true := W.ex 36 rfl
theorem Wd.e_opSharesub (W : Wd K mg) : (fun K => OpX.opB K (He.ga K "Share") "sub") K = true := W.ex 37 rfl
theorem Wd.e_opSharemul (W : Wd K mg) : (fun K => OpX.opB K (He.ga K "Share") "mul") K = true := W.ex 38 rfl
theorem Wd.e_firstTerm (W : Wd K mg) : (fun K => PySem.W.selfFirst K (He.ga K "Term")) K = true := W.ex 39 rfl
theorem Wd.e_notIntTerm (W : Wd K mg) : (fun K => decide (PySem.W.mroIn K (He.ga K "Term") (.type "int") = some false)) K = true := W.ex 40 rfl
theorem Wd.e_intNotTerm (W : Wd K mg) : (fun K => decide (PySem.W.subIn K (.type "int") (.ref (He.ga K "Term")) = some false)) K = true := W.ex 41 rfl
theorem Wd.e_mro2Term (W : Wd K mg) : (fun K => OpX.mro2B K (He.ga K "Term")) K = true := W.ex 42 rfl
theorem Wd.e_opTermadd (W : Wd K mg) : (fun K => OpX.opB K (He.ga K "Term") "add") K = true := W.ex 43 rfl
theorem Wd.e_opTermsub (W : Wd K mg) : (fun K => OpX.opB K (He.ga K "Term") "sub") K = true := W.ex 44 rfl
theorem Wd.e_opTermmul (W : Wd K mg) : (fun K => OpX.opB K (He.ga K "Term") "mul") K = true := W.ex 45 rfl
theorem Wd.e_oexNoShare (W : Wd K mg) : (fun K => SupX.oexB K (He.ga K "NoShare")) K = true := W.ex 46 rfl
theorem Wd.e_exmNoShare (W : Wd K mg) : (fun K => decide (PySem.W.exmOne K (.ref (He.ga K "NoShare")) (.ref (He.ga K "NoShare")) = some true)) K = true := W.ex 47 rfl
theorem Wd.e_iniNoShare (W : Wd K mg) : (fun K => He.eqO (PySem.W.findIn K (.ref (He.ga K "NoShare")) "__init__") (some (some (.ref (He.ma K (He.ga K "NoShare") "__init__")))) && decide (PySem.W.typeIn K (.ref (He.ma K (He.ga K "NoShare") "__init__")) = some (.type "function"))) K = true := W.ex 48 rfl
theorem Wd.e_xfNoShare (W : Wd K mg) : (fun K => xfB K (He.ga K "NoShare")) K = true := W.ex 49 rfl
theorem Wd.e_supNoShare (W : Wd K mg) : (fun K => SupX.supB K (He.ga K "NoShare") (He.ma K (He.ga K "NoShare") "__init__") "NoShare.__init__") K = true := W.ex 50 rfl
theorem Wd.e_oexNotStraight (W : Wd K mg) : (fun K => SupX.oexB K (He.ga K "NotStraight")) K = true := W.ex 51 rfl
theorem Wd.e_exmNotStraight (W : Wd K mg) : (fun K => decide (PySem.W.exmOne K (.ref (He.ga K "NotStraight")) (.ref (He.ga K "NotStraight")) = some true)) K = true := W.ex 52 rfl
theorem Wd.e_iniNotStraight (W : Wd K mg) : (fun K => He.eqO (PySem.W.findIn K (.ref (He.ga K "NotStraight")) "__init__") (some (some (.ref (He.ma K (He.ga K "NotStraight") "__init__")))) && decide (PySem.W.typeIn K (.ref (He.ma K (He.ga K "NotStraight") "__init__")) = some (.type "function"))) K = true := W.ex 53 rfl
theorem Wd.e_xfNotStraight (W : Wd K mg) : (fun K => xfB K (He.ga K "NotStraight")) K = true := W.ex 54 rfl
theorem Wd.e_supNotStraight (W : Wd K mg) : (fun K => SupX.supB K (He.ga K "NotStraight") (He.ma K (He.ga K "NotStraight") "__init__") "NotStraight.__init__") K = true := W.ex 55 rfl
end
def big9 : Nat := 2 ^ 8999
def bigM : Nat := 2 ^ 400000
section
variable {X : Cx}
/-- // by a divisor that is not 0, below 2 ^ 9000 either way -/
theorem op_fdivX : OpR X (binaryOp .FloorDiv) (rI (fun _ j => j ≠ 0 ∧ j.natAbs < big9) fun i j => .int (i.fdiv j)) := opI fun i j _ _ _ _ _ hc q => by
  exact floordiv_int hc.1 q (.inl (PyProof.noPylong_of_log2 (Nat.lt_of_lt_of_le (PySem.Flt.log2_lt_of (by decide) hc.2) (by decide))))
theorem call_intI : CallR X (.type "int") (fun xs H Q => ∃ i, xs = [.int i] ∧ Q (.int i) H) := fun pins s σ H xs us Q I r h => by
  obtain ⟨i, e, q⟩ := h
  exact call_int1 pins s σ H xs us Q I r (.inl ⟨i, e, q⟩)
theorem op_mulX9 : OpR X (binaryOp .Mult) (rI (fun i j => i.natAbs < bigM ∧ j.natAbs < bigM) fun i j => .int (i * j)) := opI fun i j _ _ _ _ _ hc q => by
  refine mul_int q (CMulW.ok (wide_mul hc.1 hc.2 (by omega) (by omega) (by omega)))
end
def rIxLH : R2 := fun x y H Q => ∃ (p : Addr) (xs : List V) (i : Int) (v : V), x = .ref p ∧ y = .int i ∧ H p = some (.lst xs) ∧ atI xs i = some v ∧ Q v H
def rIxTH : R2 := fun x y H Q => ∃ (p : Addr) (xs : List V) (i : Int) (v : V), x = .ref p ∧ y = .int i ∧ H p = some (.tup xs) ∧ atI xs i = some v ∧ Q v H
section
variable {X : Cx}
theorem ix_lstH : IxR X rIxLH := by
  intro value slice pins s σ H x y v u Q I rx ry h hs
  obtain ⟨p, xs, i, z, e1, e2, hp, a, q⟩ := h
  exact ix_list value slice pins s σ H x y v u Q I rx ry ⟨p, xs, i, z, e1, e2, SqL.of hp, a, q⟩ hs
theorem ix_tupH : IxR X rIxTH := by
  intro value slice pins s σ H x y v u Q I rx ry h hs
  obtain ⟨p, xs, i, z, e1, e2, hp, a, q⟩ := h
  exact ix_tup value slice pins s σ H x y v u Q I rx ry ⟨p, xs, i, z, e1, e2, SqT.of hp, a, q⟩ hs
end
theorem cxK {CX : CXT} {P : Program} {w : World} {K : PySem.W.Frag} {mg : Str → Option Value} {base : Heap} {N : List Str} {qual : Str} {scope : Scope} {f : Addr} {cd : Value} {A : Around} {outer : List Env} {s : Shared} {H : Hp} {E : XK} :
    (cxOf CX P w K mg base N qual scope f cd A outer s H E).K = K := rfl
/-- the size of the int in slot i -/
def intAt (i : Nat) (σ : List (Option V)) : Nat := match σ[i]? with
  | some (some (V.int x)) => x.natAbs
  | _ => 0
theorem ex2 {α β : Type} {a : α} {b : β} {P : α → β → Prop} : (∃ x y, (a = x ∧ b = y) ∧ P x y) ↔ P a b := ⟨fun ⟨_, _, ⟨e1, e2⟩, h⟩ => by subst e1 e2; exact h, fun h => ⟨_, _, ⟨rfl, rfl⟩, h⟩⟩
theorem ex3 {α β γ : Type} {a : α} {b : β} {c : γ} {P : α → β → γ → Prop} : (∃ x y z, (a = x ∧ b = y ∧ c = z) ∧ P x y z) ↔ P a b c := ⟨fun ⟨_, _, _, ⟨e1, e2, e3⟩, h⟩ => by subst e1 e2 e3; exact h, fun h => ⟨_, _, _, ⟨rfl, rfl, rfl⟩, h⟩⟩
theorem ex3b {α β γ : Type} {a : α} {b : β} {c : γ} {P : α → β → γ → Prop} : (∃ x y z, (a = x ∧ b = y ∧ z = c) ∧ P x y z) ↔ P a b c := ⟨fun ⟨_, _, _, ⟨e1, e2, e3⟩, h⟩ => by subst e1 e2 e3; exact h, fun h => ⟨_, _, _, ⟨rfl, rfl, rfl⟩, h⟩⟩
universe u
/-- what a is locked with: behind it simp leaves a be -/
structure Lk {α : Sort u} (a : α) : Type
/-- a new object: what follows holds of it and of the heap with it -/
def Alloc (H : Hp) (o : HO) (Q : V → Hp → Prop) (_ : Lk Q := ⟨⟩) : Prop := ∀ p, H p = none → Q (.ref p) (upd H p o)
theorem same_upd {H : Hp} {p : Addr} {o : HO} (h : H p = none) : Same H (upd H p o) := fun b u e => by
  rw [upd_ne (ne_of_none e h)]
  exact e
theorem Alloc.of {H : Hp} {o : HO} {Q : V → Hp → Prop} (h : ∀ p H', H p = none → H' p = some o → Same H H' → Q (.ref p) H') : Alloc H o Q := fun p hp => h p _ hp upd_same (same_upd hp)
theorem tLst_A {t : TA} {σ : List (Option V)} {H : Hp} {Q : V → Hp → Prop} : tLst t σ H Q = t σ H fun xs H1 => xs.length ≤ sizeLine ∧ Alloc H1 (.lst xs) Q := rfl
theorem tTup_A {t : TA} {σ : List (Option V)} {H : Hp} {Q : V → Hp → Prop} : tTup t σ H Q = t σ H fun xs H1 => xs.length ≤ sizeLine ∧ Alloc H1 (.tup xs) Q := rfl
/-! ### the draws -/
section
variable {P : Program} {w : World} {K : PySem.W.Frag} {mg : Str → Option Value} {base : Heap}
def draws (d0 d1 d2 : Int) : HO := .lst [.int d0, .int d1, .int d2]
theorem scSource : FnScope ["_law_script", "_law_at", "_law_cell"] ["_law_script", "_law_at"] d_source.scope := ⟨rfl, rfl, rfl, by decide +kernel, rfl, by decide +kernel, by decide +kernel⟩
def spSource (K : PySem.W.Frag) : Sp := fun vs H Q _ => ∃ (a : Addr) (ns : List Int) (k : Nat), vs = [.ref a, .int k] ∧ SqL K H a (ns.map V.int) ∧ k < 100 ∧ ∀ (d0 d1 : Int) (p : Addr), H p = none → Q (.ref p) (upd H p (draws d0 d1 0))
theorem le3 : 3 ≤ sizeLine := by decide
theorem ok_source (W : Wd K mg) : ∃ fd, FnOk P w K mg base CX0 1 (He.ga K "_law_source") fd ["_law_script", "_law_at"] (spSource K) ∧ Binds K fd ["_law_script", "_law_at"] [] := by
  obtain ⟨fd, F⟩ := W.F_source
  refine ⟨fd, F.ok scSource (fun vs H Q E h => ?_) (fun cdv A outer s H vs Q E hr h => ?_), FunD.bindsN F fun _ _ _ _ _ _ us hl => match us, hl with | [_, _], _ => rfl⟩
  · obtain ⟨a, ns, k, rfl, _⟩ := h
    rfl
  · obtain ⟨a, ns, k, rfl, hS, hk, q⟩ := h
    refine ⟨_, PSs.nox (pss_cons (ps_set (i := 2) scSource.nd rfl (Or.inl rfl) (pe_ifExp (pt_cmpR op_lt (pv 1) (pe_callB call_len_seq (by rfl) W.f_len boot_len (pa_cons (pv 0) pa_nil)) (nomark _)) (pe_ix ix_list (pv 0) (pv 1) (fun _ _ => rfl)) (pe_op op_add (pe_op op_mul pe_int (pv 1)) pe_int)))
      (pss_one (ps_ret (pe_lst (pa_cons (pe_ifExp (pt_cmpR op_ge (pv 2) (pe_op op_pow pe_int pe_int) (nomark _)) (pv 2) pe_int) (pa_cons (pe_op op_mod (pe_callTy call_intI (by rfl) W.f_int (by decide +kernel) (pa_cons (pv 2) pa_nil)) pe_int) (pa_cons pe_int pa_nil))))))), ?_⟩
    simp -dsimp [tSeq, tAsg, tRet, tIfS, tIf, tTest, tVar, tCons, tNil, tC, tOp, tUn, rI, rI0, rU, tCB, tLst_A, tTup_A, gName, L2.start, CMul, CPow, CDiv, tDrop, tBM, tBM0, tNext, tPar, gSub, rSetL, rIxL, rIxT, tChain, tB, tNot, tNotV, tAnd, tOr, tAndV, tOrV, tFld, tCall, rIxLH, rIxTH, ixN, upd_same, cxK, ex2, ex3, ex3b]
    refine ⟨ns.map V.int, .inl hS, ?_⟩
    split
    · rename_i hk'
      obtain ⟨z, hz⟩ : ∃ z : Int, (ns.map V.int)[k]? = some (V.int z) := by
        rw [List.length_map] at hk'
        exact ⟨ns[k], by rw [List.getElem?_map, List.getElem?_eq_getElem hk']; rfl⟩
      refine ⟨_, hS, _, atI_nat hz, ?_⟩
      simp -dsimp [tSeq, tAsg, tRet, tIfS, tIf, tTest, tVar, tCons, tNil, tC, tOp, tUn, rI, rI0, rU, tCB, tLst_A, tTup_A, gName, L2.start, CMul, CPow, CDiv, tDrop, tBM, tBM0, tNext, tPar, gSub, rSetL, rIxL, rIxT, tChain, tB, tNot, tNotV, tAnd, tOr, tAndV, tOrV, tFld, tCall, rIxLH, rIxTH, atI, ixN, upd_same, cxK, ex2, ex3, ex3b]
      split <;> exact ⟨le3, fun p hp => q _ _ p hp⟩
    · split <;> exact ⟨le3, fun p hp => q _ _ p hp⟩
theorem scDraw : FnScope ["_law_draws", "_law_many", "_law_found"] ["_law_draws", "_law_many"] d_draw.scope := ⟨rfl, rfl, rfl, by decide +kernel, rfl, by decide +kernel, by decide +kernel⟩
def spDraw (K : PySem.W.Frag) : Sp := fun vs H Q _ => ∃ (l : Addr) (d0 d1 d2 m : Int), vs = [.ref l, .int m] ∧ H l = some (draws d0 d1 d2) ∧ 0 < m ∧ m.natAbs < 2 ^ 64 ∧ ∀ (r e0 e1 e2 : Int), 0 ≤ r → r < m → Q (.int r) (upd H l (draws e0 e1 e2))
theorem ok_draw (W : Wd K mg) : ∃ fd, FnOk P w K mg base CX0 1 (He.ga K "_law_draw") fd ["_law_draws", "_law_many"] (spDraw K) ∧ Binds K fd ["_law_draws", "_law_many"] [] := by
  obtain ⟨fd, F⟩ := W.F_draw
  refine ⟨fd, F.ok scDraw (fun vs H Q E h => ?_) (fun cdv A outer s H vs Q E hr h => ?_), FunD.bindsN F fun _ _ _ _ _ _ us hl => match us, hl with | [_, _], _ => rfl⟩
  · obtain ⟨a, d0, d1, d2, m, rfl, _⟩ := h
    rfl
  · obtain ⟨l, d0, d1, d2, m, rfl, hl, h0, hm, q⟩ := h
    refine ⟨_, PSs.nox (pss_cons (ps_if (pt_cmpR op_gt (pe_ix ix_lstH (pv 0) pe_int (fun _ _ => rfl)) pe_int (nomark _))
        (pss_cons (ps_set (i := 2) scDraw.nd rfl (Or.inl rfl) (pe_op op_mod (pe_callTy call_intI (by rfl) W.f_int (by decide +kernel) (pa_cons (pe_ix ix_lstH (pv 0) pe_int (fun _ _ => rfl)) pa_nil)) (pv 1)))
        (pss_cons (ps_asg (pe_op op_fdivW (pe_ix ix_lstH (pv 0) pe_int (fun _ _ => rfl)) (pv 1)) (pg_sub (pv 0) pe_int set_list))
        (pss_one (ps_ret (pv 2))))) pss_nil)
      (pss_cons (ps_asg (pe_op op_add (pe_ix ix_lstH (pv 0) pe_int (fun _ _ => rfl)) pe_int) (pg_sub (pv 0) pe_int set_list))
      (pss_cons (ps_asg (pe_op op_mod (pe_callTy call_intI (by rfl) W.f_int (by decide +kernel) (pa_cons (pe_op op_add (pe_op op_add (pe_op op_mul (pe_ix ix_lstH (pv 0) pe_int (fun _ _ => rfl)) pe_int) (pe_op op_mul (pe_ix ix_lstH (pv 0) pe_int (fun _ _ => rfl)) pe_int)) pe_int) pa_nil)) pe_int) (pg_sub (pv 0) pe_int set_list))
      (pss_one (ps_ret (pe_op op_mod (pe_callTy call_intI (by rfl) W.f_int (by decide +kernel) (pa_cons (pe_op op_add (pe_op op_fdiv (pe_ix ix_lstH (pv 0) pe_int (fun _ _ => rfl)) pe_int) (pe_ix ix_lstH (pv 0) pe_int (fun _ _ => rfl))) pa_nil)) (pv 1))))))), ?_⟩
    simp -dsimp [tSeq, tAsg, tRet, tIfS, tIf, tTest, tVar, tCons, tNil, tC, tOp, tUn, rI, rI0, rU, tCB, tLst_A, tTup_A, gName, L2.start, CMul, CPow, CDiv, tDrop, tBM, tBM0, tNext, tPar, gSub, rSetL, rIxL, rIxT, tChain, tB, tNot, tNotV, tAnd, tOr, tAndV, tOrV, tFld, tCall, rIxLH, rIxTH, atI, ixN, upd_same, cxK, ex2, ex3, ex3b, hl, draws]
    split
    · exact ⟨h0, ⟨h0, Nat.lt_of_lt_of_le (PySem.Flt.log2_lt_of (by decide) hm) (by decide)⟩, q _ _ _ _ (Int.emod_nonneg _ (by omega)) (Int.emod_lt_of_pos _ h0)⟩
    · rw [upd_upd]
      exact ⟨h0, q _ _ _ _ (Int.emod_nonneg _ (by omega)) (Int.emod_lt_of_pos _ h0)⟩
end
section
variable {P : Program} {w : World} {K : PySem.W.Frag} {mg : Str → Option Value} {base : Heap}
theorem scInteger : FnScope ["_law_draws", "_law_way", "_law_found"] ["_law_draws"] d_integer.scope := ⟨rfl, rfl, rfl, by decide +kernel, rfl, by decide +kernel, by decide +kernel⟩
def spInteger (K : PySem.W.Frag) : Sp := fun vs H Q _ => ∃ (l : Addr) (d0 d1 d2 : Int), vs = [.ref l] ∧ H l = some (draws d0 d1 d2) ∧ ∀ (r e0 e1 e2 : Int), r.natAbs < 1000000000000 → Q (.int r) (upd H l (draws e0 e1 e2))
theorem ok_integer (W : Wd K mg) : ∃ fd, FnOk P w K mg base CX0 2 (He.ga K "_law_integer") fd ["_law_draws"] (spInteger K) ∧ Binds K fd ["_law_draws"] [] := by
  obtain ⟨fd, F⟩ := W.F_integer
  obtain ⟨fdD, G, bG⟩ := ok_draw (P := P) (w := w) (base := base) W
  have kD : PySem.W.keepIn K (.ref (He.ga K "_law_draw")) = true := by
    obtain ⟨fd, F⟩ := W.F_draw
    exact F.kp
  refine ⟨fd, F.ok scInteger (fun vs H Q E h => ?_) (fun cdv A outer s H vs Q E hr h => ?_), FunD.bindsN F fun _ _ _ _ _ _ us hl => match us, hl with | [_], _ => rfl⟩
  · obtain ⟨a, d0, d1, d2, rfl, _⟩ := h
    rfl
  · obtain ⟨l, d0, d1, d2, rfl, hl, q⟩ := h
    refine ⟨_, PSs.nox (pss_cons (ps_set (i := 1) scInteger.nd rfl (Or.inl rfl) (pe_call G hr rfl W.g_law_draw kD bG .nil pass0 (pa_cons (pv 0) (pa_cons pe_int pa_nil))))
      (pss_cons (ps_if (pt_cmpR op_lt (pv 1) pe_int (nomark _)) (pss_one (ps_ret (pe_op op_sub (pe_call G hr rfl W.g_law_draw kD bG .nil pass0 (pa_cons (pv 0) (pa_cons pe_int pa_nil))) pe_int))) pss_nil)
      (pss_cons (ps_set (i := 2) scInteger.nd rfl (Or.inl rfl) (pe_op op_add (pe_op op_mul (pe_call G hr rfl W.g_law_draw kD bG .nil pass0 (pa_cons (pv 0) (pa_cons (pe_op op_pow pe_int pe_int) pa_nil))) (pe_op op_pow pe_int pe_int)) (pe_call G hr rfl W.g_law_draw kD bG .nil pass0 (pa_cons (pv 0) (pa_cons (pe_op op_pow pe_int pe_int) pa_nil)))))
      (pss_one (ps_ret (pe_ifExp (pt_cmpR op_lt (pv 1) pe_int (nomark _)) (pv 2) (pe_un un_neg (pv 2)))))))), ?_⟩
    simp -dsimp [tSeq, tAsg, tRet, tIfS, tIf, tTest, tVar, tCons, tNil, tC, tOp, tUn, rI, rI0, rU, tCB, tLst_A, tTup_A, gName, L2.start, CMul, CPow, CDiv, tDrop, tBM, tBM0, tNext, tPar, gSub, rSetL, rIxL, rIxT, tChain, tB, tNot, tNotV, tAnd, tOr, tAndV, tOrV, tFld, tCall, rIxLH, rIxTH, atI, ixN, upd_same, cxK, ex2, ex3, ex3b]
    refine ⟨l, d0, d1, d2, 6, rfl, hl, by decide, by decide, fun way e0 e1 e2 w0 w1 => ⟨_, rfl, ?_⟩⟩
    split
    · refine ⟨l, e0, e1, e2, 13, rfl, upd_same, by decide, by decide, fun r f0 f1 f2 r0 r1 => ⟨_, rfl, ?_⟩⟩
      rw [upd_upd]
      exact q _ _ _ _ (by omega)
    · refine ⟨l, e0, e1, e2, 1000000, rfl, upd_same, by decide, by decide, fun r f0 f1 f2 r0 r1 => ⟨_, rfl, ?_⟩⟩
      refine ⟨l, f0, f1, f2, 1000000, rfl, upd_same, by decide, by decide, fun r' g0 g1 g2 s0 s1 => ⟨_, rfl, _, rfl, ?_⟩⟩
      rw [upd_upd, upd_upd]
      split
      · exact q _ _ _ _ (by omega)
      · exact q _ _ _ _ (by omega)
theorem le2 : 2 ≤ sizeLine := by decide
def side (a b : Int) : Int := if b > 0 then (Int.gcd a b : Int) else -(Int.gcd a b : Int)
theorem scLowest : FnScope ["_law_up", "_law_down", "_law_low", "_law_part", "_law_side"] ["_law_up", "_law_down"] d_lowest.scope := ⟨rfl, rfl, rfl, by decide +kernel, rfl, by decide +kernel, by decide +kernel⟩
def spLowest (K : PySem.W.Frag) : Sp := fun vs H Q _ => ∃ (a b : Int), vs = [.int a, .int b] ∧ b ≠ 0 ∧ b.natAbs < big9 ∧ ∀ p, H p = none → Q (.ref p) (upd H p (.tup [.int (a.fdiv (side a b)), .int (b.fdiv (side a b))]))
theorem ok_lowest (W : Wd K mg) : ∃ fd, FnOk P w K mg base CX0 1 (He.ga K "_law_lowest") fd ["_law_up", "_law_down"] (spLowest K) ∧ Binds K fd ["_law_up", "_law_down"] [] := by
  obtain ⟨fd, F⟩ := W.F_lowest
  refine ⟨fd, F.ok scLowest (fun vs H Q E h => ?_) (fun cdv A outer s H vs Q E hr h => ?_), FunD.bindsN F fun _ _ _ _ _ _ us hl => match us, hl with | [_, _], _ => rfl⟩
  · obtain ⟨a, b, rfl, _⟩ := h
    rfl
  · obtain ⟨a, b, rfl, hb, hbb, q⟩ := h
    refine ⟨_, PSs.nox (pss_cons (ps_par (i := 2) (j := 3) rfl scLowest.nd rfl rfl (by decide) rfl rfl (pa_cons (pe_callB call_abs (by rfl) W.f_abs (by decide +kernel) (pa_cons (pe_callTy call_intI (by rfl) W.f_int (by decide +kernel) (pa_cons (pv 0) pa_nil)) pa_nil)) (pa_cons (pe_callB call_abs (by rfl) W.f_abs (by decide +kernel) (pa_cons (pe_callTy call_intI (by rfl) W.f_int (by decide +kernel) (pa_cons (pv 1) pa_nil)) pa_nil)) pa_nil)) rfl)
      (pss_cons (ps_while PassesOwn.never (pt_cmpR op_gt (pv 2) pe_int (nomark _))
        (pss_one (ps_par (i := 2) (j := 3) rfl scLowest.nd rfl rfl (by decide) rfl rfl (pa_cons (pe_op op_mod (pe_callTy call_intI (by rfl) W.f_int (by decide +kernel) (pa_cons (pv 3) pa_nil)) (pv 2)) (pa_cons (pv 2) pa_nil)) rfl)))
      (pss_cons (ps_set (i := 4) scLowest.nd rfl (Or.inl rfl) (pe_ifExp (pt_cmpR op_gt (pv 1) pe_int (nomark _)) (pv 3) (pe_un un_neg (pv 3))))
      (pss_one (ps_ret (pe_tup (pa_cons (pe_op op_fdivX (pv 0) (pv 4)) (pa_cons (pe_op op_fdivX (pv 1) (pv 4)) pa_nil)))))))), ?_⟩
    simp -dsimp [tSeq, tAsg, tRet, tIfS, tIf, tTest, tVar, tCons, tNil, tC, tOp, tUn, rI, rI0, rU, tCB, tLst_A, tTup_A, gName, L2.start, CMul, CPow, CDiv, tDrop, tBM, tBM0, tNext, tPar, gSub, rSetL, rIxL, rIxT, tChain, tB, tNot, tNotV, tAnd, tOr, tAndV, tOrV, tFld, tCall, rIxLH, rIxTH, atI, ixN, upd_same, cxK, ex2, ex3, ex3b]
    refine while_by (fun σ H' => H' = H ∧ ∃ x y : Int, σ = [some (.int a), some (.int b), some (.int x), some (.int y), none] ∧ 0 ≤ x ∧ 0 ≤ y ∧ Int.gcd x y = Int.gcd a b) (fun σ _ => intAt 2 σ) ⟨rfl, _, _, rfl, ?_, ?_, ?_⟩ ?_ ?_
    · split <;> omega
    · split <;> omega
    · split <;> split <;> simp -dsimp [tSeq, tAsg, tRet, tIfS, tIf, tTest, tVar, tCons, tNil, tC, tOp, tUn, rI, rI0, rU, tCB, tLst_A, tTup_A, gName, L2.start, CMul, CPow, CDiv, tDrop, tBM, tBM0, tNext, tPar, gSub, rSetL, rIxL, rIxT, tChain, tB, tNot, tNotV, tAnd, tOr, tAndV, tOrV, tFld, tCall, rIxLH, rIxTH, atI, ixN, upd_same, cxK, ex2, ex3, ex3b]
    · rintro σ H1 ⟨rfl, x, y, rfl, hx, hy, g⟩
      by_cases hp : 0 < x
      · simp -dsimp [tSeq, tAsg, tRet, tIfS, tIf, tTest, tVar, tCons, tNil, tC, tOp, tUn, rI, rI0, rU, tCB, tLst_A, tTup_A, gName, L2.start, CMul, CPow, CDiv, tDrop, tBM, tBM0, tNext, tPar, gSub, rSetL, rIxL, rIxT, tChain, tB, tNot, tNotV, tAnd, tOr, tAndV, tOrV, tFld, tCall, rIxLH, rIxTH, atI, ixN, upd_same, cxK, ex2, ex3, ex3b, hp]
        refine ⟨⟨Int.emod_nonneg _ (by omega), hx, ?_⟩, ?_⟩
        · rw [Int.emod_def, Int.gcd_sub_mul_left_left, Int.gcd_comm, g]
        · have := Int.emod_lt_of_pos y hp
          have := Int.emod_nonneg y (show x ≠ 0 by omega)
          simp -dsimp [tSeq, tAsg, tRet, tIfS, tIf, tTest, tVar, tCons, tNil, tC, tOp, tUn, rI, rI0, rU, tCB, tLst_A, tTup_A, gName, L2.start, CMul, CPow, CDiv, tDrop, tBM, tBM0, tNext, tPar, gSub, rSetL, rIxL, rIxT, tChain, tB, tNot, tNotV, tAnd, tOr, tAndV, tOrV, tFld, tCall, rIxLH, rIxTH, atI, ixN, upd_same, cxK, ex2, ex3, ex3b, intAt]
          omega
      · have x0 : x = 0 := by omega
        subst x0
        have gy : y = (Int.gcd a b : Int) := by
          rw [← g, Int.zero_gcd]
          omega
        have hg0 : 0 < Int.gcd a b := Int.gcd_pos_of_ne_zero_right a hb
        have hgb : (Int.gcd a b) < big9 := Nat.lt_of_le_of_lt (Int.gcd_le_natAbs_right a hb) hbb
        subst gy
        by_cases hb0 : 0 < b
        · have e2 : side a b = (Int.gcd a b : Int) := if_pos hb0
          rw [e2] at q
          simp -dsimp [tSeq, tAsg, tRet, tIfS, tIf, tTest, tVar, tCons, tNil, tC, tOp, tUn, rI, rI0, rU, tCB, tLst_A, tTup_A, gName, L2.start, CMul, CPow, CDiv, tDrop, tBM, tBM0, tNext, tPar, gSub, rSetL, rIxL, rIxT, tChain, tB, tNot, tNotV, tAnd, tOr, tAndV, tOrV, tFld, tCall, rIxLH, rIxTH, atI, ixN, upd_same, cxK, ex2, ex3, ex3b, hb0]
          exact ⟨⟨by omega, by omega⟩, le2, q⟩
        · have e2 : side a b = -(Int.gcd a b : Int) := if_neg hb0
          rw [e2] at q
          simp -dsimp [tSeq, tAsg, tRet, tIfS, tIf, tTest, tVar, tCons, tNil, tC, tOp, tUn, rI, rI0, rU, tCB, tLst_A, tTup_A, gName, L2.start, CMul, CPow, CDiv, tDrop, tBM, tBM0, tNext, tPar, gSub, rSetL, rIxL, rIxT, tChain, tB, tNot, tNotV, tAnd, tOr, tAndV, tOrV, tFld, tCall, rIxLH, rIxTH, atI, ixN, upd_same, cxK, ex2, ex3, ex3b, hb0]
          exact ⟨⟨by omega, by omega⟩, le2, q⟩
    · rintro σ H' Q Q' h ⟨v, e, i, j, e1, e2, k, e3, q⟩
      exact ⟨v, e, i, j, e1, e2, k, e3, h _ _ q⟩
end
section
variable {P : Program} {w : World} {K : PySem.W.Frag} {mg : Str → Option Value} {base : Heap}
theorem scDivisor : FnScope ["one", "other"] ["one", "other"] d_divisor.scope := ⟨rfl, rfl, rfl, by decide +kernel, rfl, by decide +kernel, by decide +kernel⟩
def spDivisor (K : PySem.W.Frag) : Sp := fun vs H Q _ => ∃ (a b : Int), vs = [.int a, .int b] ∧ Q (.int (Int.gcd a b : Int)) H
theorem fmod_lt (x y : Int) (h : y ≠ 0) : (x.fmod y).natAbs < y.natAbs := by
  rcases Int.lt_or_gt_of_ne h with h1 | h1
  · have e := (Int.fdiv_fmod_unique' (a := x) (b := y) (r := x.fmod y) (q := x.fdiv y) h1).mp ⟨rfl, rfl⟩
    omega
  · have e := (Int.fdiv_fmod_unique (a := x) (b := y) (r := x.fmod y) (q := x.fdiv y) h1).mp ⟨rfl, rfl⟩
    omega
theorem ok_divisor (W : Wd K mg) : ∃ fd, FnOk P w K mg base CX0 1 (He.ga K "divisor") fd ["one", "other"] (spDivisor K) ∧ Binds K fd ["one", "other"] [] := by
  obtain ⟨fd, F⟩ := W.F_divisor
  refine ⟨fd, F.ok scDivisor (fun vs H Q E h => ?_) (fun cdv A outer s H vs Q E hr h => ?_), FunD.bindsN F fun _ _ _ _ _ _ us hl => match us, hl with | [_, _], _ => rfl⟩
  · obtain ⟨a, b, rfl, _⟩ := h
    rfl
  · obtain ⟨a, b, rfl, q⟩ := h
    refine ⟨_, PSs.nox (pss_cons (ps_while PassesOwn.never (pt_cmpR op_ne (pv 1) pe_int (nomark _))
        (pss_one (ps_par (i := 0) (j := 1) rfl scDivisor.nd rfl rfl (by decide) rfl rfl (pa_cons (pv 1) (pa_cons (pe_op op_modN (pv 0) (pv 1)) pa_nil)) rfl)))
      (pss_one (ps_ret (pe_callB call_abs (by rfl) W.f_abs (by decide +kernel) (pa_cons (pv 0) pa_nil))))), ?_⟩
    simp -dsimp [tSeq, tAsg, tRet, tIfS, tIf, tTest, tVar, tCons, tNil, tC, tOp, tUn, rI, rI0, rU, tCB, tLst_A, tTup_A, gName, L2.start, CMul, CPow, CDiv, tDrop, tBM, tBM0, tNext, tPar, gSub, rSetL, rIxL, rIxT, tChain, tB, tNot, tNotV, tAnd, tOr, tAndV, tOrV, tFld, tCall, rIxLH, rIxTH, atI, ixN, upd_same, cxK, ex2, ex3, ex3b]
    refine while_by (fun σ H' => H' = H ∧ ∃ x y : Int, σ = [some (.int x), some (.int y)] ∧ Int.gcd x y = Int.gcd a b) (fun σ _ => intAt 1 σ) ⟨rfl, _, _, rfl, rfl⟩ ?_ ?_
    · rintro σ H1 ⟨rfl, x, y, rfl, g⟩
      by_cases hp : y = 0
      · subst hp
        simp -dsimp [tSeq, tAsg, tRet, tIfS, tIf, tTest, tVar, tCons, tNil, tC, tOp, tUn, rI, rI0, rU, tCB, tLst_A, tTup_A, gName, L2.start, CMul, CPow, CDiv, tDrop, tBM, tBM0, tNext, tPar, gSub, rSetL, rIxL, rIxT, tChain, tB, tNot, tNotV, tAnd, tOr, tAndV, tOrV, tFld, tCall, rIxLH, rIxTH, atI, ixN, upd_same, cxK, ex2, ex3, ex3b, rNe, scal]
        rw [Int.gcd_zero] at g
        have : (if x < 0 then -x else x) = (Int.gcd a b : Int) := by
          rw [← g]
          split <;> omega
        rw [this]
        exact q
      · simp -dsimp [tSeq, tAsg, tRet, tIfS, tIf, tTest, tVar, tCons, tNil, tC, tOp, tUn, rI, rI0, rU, tCB, tLst_A, tTup_A, gName, L2.start, CMul, CPow, CDiv, tDrop, tBM, tBM0, tNext, tPar, gSub, rSetL, rIxL, rIxT, tChain, tB, tNot, tNotV, tAnd, tOr, tAndV, tOrV, tFld, tCall, rIxLH, rIxTH, atI, ixN, upd_same, cxK, ex2, ex3, ex3b, rNe, scal, hp]
        refine ⟨?_, ?_⟩
        · rw [Int.fmod_def, Int.gcd_comm, Int.gcd_sub_mul_left_left, g]
        · simp -dsimp [tSeq, tAsg, tRet, tIfS, tIf, tTest, tVar, tCons, tNil, tC, tOp, tUn, rI, rI0, rU, tCB, tLst_A, tTup_A, gName, L2.start, CMul, CPow, CDiv, tDrop, tBM, tBM0, tNext, tPar, gSub, rSetL, rIxL, rIxT, tChain, tB, tNot, tNotV, tAnd, tOr, tAndV, tOrV, tFld, tCall, rIxLH, rIxTH, atI, ixN, upd_same, cxK, ex2, ex3, ex3b, intAt]
          exact fmod_lt x y hp
    · rintro σ H' Q Q' h ⟨v, e, e1, k, e3, q⟩
      exact ⟨v, e, e1, k, e3, h _ _ q⟩
/-- a share: its class, its own dict, its numbers -/
def shareO (C dx : Addr) (t b : Int) : HO := .ins C dx [("top", .int t), ("bottom", .int b)]
theorem scInit : FnScope ["self", "top", "bottom", "common"] ["self", "top", "bottom"] d_Share_init.scope := ⟨rfl, rfl, rfl, by decide +kernel, rfl, by decide +kernel, by decide +kernel⟩
def spInit (K : PySem.W.Frag) : Sp := fun vs H Q _ => ∃ (x dx : Addr) (a b : Int), vs = [.ref x, .int a, .int b] ∧ H x = some (.ins (He.ga K "Share") dx []) ∧ b ≠ 0 ∧ b.natAbs < big9 ∧ Q .non (upd H x (shareO (He.ga K "Share") dx (a.fdiv (side a b)) (b.fdiv (side a b))))
theorem ok_init (W : Wd K mg) : ∃ fd, FnOk P w K mg base CX0 2 (He.ma K (He.ga K "Share") "__init__") fd ["self", "top", "bottom"] (spInit K) ∧ FunD K d_Share_init.name d_Share_init.qual d_Share_init.params d_Share_init.body d_Share_init.scope (d_Share_init.dvs K) (d_Share_init.kws K) (He.fAd K d_Share_init.at_) fd := by
  obtain ⟨fd, F⟩ := W.F_Share_init
  obtain ⟨fdD, G, bG⟩ := ok_divisor (P := P) (w := w) (base := base) W
  have kD : PySem.W.keepIn K (.ref (He.ga K "divisor")) = true := by
    obtain ⟨fd, F⟩ := W.F_divisor
    exact F.kp
  refine ⟨fd, F.ok scInit (fun vs H Q E h => ?_) (fun cdv A outer s H vs Q E hr h => ?_), F⟩
  · obtain ⟨x, dx, a, b, rfl, _⟩ := h
    rfl
  · obtain ⟨x, dx, a, b, rfl, hx, hb, hbb, q⟩ := h
    refine ⟨_, PSs.nox (pss_cons (ps_if (pt_cmpR op_eq (pv 2) pe_int (nomark _)) pss_never pss_nil)
      (pss_cons (ps_set (i := 3) scInit.nd rfl (Or.inl rfl) pe_int)
      (pss_cons (ps_if (pt_cmpR op_ne (pv 2) pe_int (nomark _)) (pss_one (ps_set (i := 3) scInit.nd rfl (Or.inl rfl) (pe_ifExp (pt_cmpR op_gt (pv 2) pe_int (nomark _)) (pe_call G hr rfl W.g_divisor kD bG .nil pass0 (pa_cons (pv 1) (pa_cons (pv 2) pa_nil))) (pe_un un_neg (pe_call G hr rfl W.g_divisor kD bG .nil pass0 (pa_cons (pv 1) (pa_cons (pv 2) pa_nil))))))) pss_nil)
      (pss_cons (ps_fld (pv 0) (pe_op op_fdivX (pv 1) (pv 3)) rfl)
      (pss_one (ps_fld (pv 0) (pe_op op_fdivX (pv 2) (pv 3)) rfl)))))), ?_⟩
    have hg0 : 0 < Int.gcd a b := Int.gcd_pos_of_ne_zero_right a hb
    have hgb : (Int.gcd a b) < big9 := Nat.lt_of_le_of_lt (Int.gcd_le_natAbs_right a hb) hbb
    have n1 : ¬ (Int.gcd a b : Int) = 0 := by omega
    have n3 : ¬ Int.gcd a b = 0 := by omega
    have pf : ∀ (u v : V), putF "bottom" v (putF "top" u []) = [(("top" : Str), u), (("bottom" : Str), v)] := fun u v => by
      show (if ("top" : Str) = "bottom" then [(("top" : Str), v)] else (("top" : Str), u) :: putF "bottom" v []) = _
      rw [if_neg (by decide +kernel)]
      rfl
    have pl : ∀ u : V, (putF "top" u []).length < 1000 := fun u => by
      show 1 < 1000
      decide
    by_cases hb1 : b = 1
    · subst hb1
      have e2 : side a 1 = 1 := by
        show (if (1 : Int) > 0 then (Int.gcd a 1 : Int) else -(Int.gcd a 1 : Int)) = 1
        rw [if_pos (by decide), Int.gcd_one]
        rfl
      rw [e2] at q
      simp -dsimp [tSeq, tAsg, tRet, tIfS, tIf, tTest, tVar, tCons, tNil, tC, tOp, tUn, rI, rI0, rU, tCB, tLst_A, tTup_A, gName, L2.start, CMul, CPow, CDiv, tDrop, tBM, tBM0, tNext, tPar, gSub, rSetL, rIxL, rIxT, tChain, tB, tNot, tNotV, tAnd, tOr, tAndV, tOrV, tFld, tCall, rIxLH, rIxTH, atI, ixN, upd_same, cxK, ex2, ex3, ex3b, rEq, rNe, scal, hx, sFld, W.cls_Share, W.n_Share_top, W.n_Share_bottom, upd_upd, pf, pl]
      rw [Int.fdiv_one, Int.fdiv_one] at q
      exact ⟨hbb, q⟩
    · by_cases hb0 : b < 0
      · have e2 : side a b = -(Int.gcd a b : Int) := if_neg (by omega)
        have hb2 : ¬ 0 < b := by omega
        rw [e2] at q
        simp -dsimp [tSeq, tAsg, tRet, tIfS, tIf, tTest, tVar, tCons, tNil, tC, tOp, tUn, rI, rI0, rU, tCB, tLst_A, tTup_A, gName, L2.start, CMul, CPow, CDiv, tDrop, tBM, tBM0, tNext, tPar, gSub, rSetL, rIxL, rIxT, tChain, tB, tNot, tNotV, tAnd, tOr, tAndV, tOrV, tFld, tCall, rIxLH, rIxTH, atI, ixN, upd_same, cxK, ex2, ex3, ex3b, rEq, rNe, scal, hb, hb1, hb2, hx]
        refine ⟨a, b, rfl, ?_⟩
        simp -dsimp [tSeq, tAsg, tRet, tIfS, tIf, tTest, tVar, tCons, tNil, tC, tOp, tUn, rI, rI0, rU, tCB, tLst_A, tTup_A, gName, L2.start, CMul, CPow, CDiv, tDrop, tBM, tBM0, tNext, tPar, gSub, rSetL, rIxL, rIxT, tChain, tB, tNot, tNotV, tAnd, tOr, tAndV, tOrV, tFld, tCall, rIxLH, rIxTH, atI, ixN, upd_same, cxK, ex2, ex3, ex3b, sFld, hx, W.cls_Share, W.n_Share_top, W.n_Share_bottom, upd_upd, n1, n3, hgb, pf, pl]
        exact q
      · have e2 : side a b = (Int.gcd a b : Int) := if_pos (by omega)
        have hb2 : 0 < b := by omega
        rw [e2] at q
        simp -dsimp [tSeq, tAsg, tRet, tIfS, tIf, tTest, tVar, tCons, tNil, tC, tOp, tUn, rI, rI0, rU, tCB, tLst_A, tTup_A, gName, L2.start, CMul, CPow, CDiv, tDrop, tBM, tBM0, tNext, tPar, gSub, rSetL, rIxL, rIxT, tChain, tB, tNot, tNotV, tAnd, tOr, tAndV, tOrV, tFld, tCall, rIxLH, rIxTH, atI, ixN, upd_same, cxK, ex2, ex3, ex3b, rEq, rNe, scal, hb, hb1, hb2, hx]
        refine ⟨a, b, rfl, ?_⟩
        simp -dsimp [tSeq, tAsg, tRet, tIfS, tIf, tTest, tVar, tCons, tNil, tC, tOp, tUn, rI, rI0, rU, tCB, tLst_A, tTup_A, gName, L2.start, CMul, CPow, CDiv, tDrop, tBM, tBM0, tNext, tPar, gSub, rSetL, rIxL, rIxT, tChain, tB, tNot, tNotV, tAnd, tOr, tAndV, tOrV, tFld, tCall, rIxLH, rIxTH, atI, ixN, upd_same, cxK, ex2, ex3, ex3b, sFld, hx, W.cls_Share, W.n_Share_top, W.n_Share_bottom, upd_upd, n1, n3, hgb, pf, pl]
        exact q
end
/-! ### isinstance by kinds -/
def tyN (H : Hp) : V → Option String
  | .non => some "NoneType"
  | .bl _ => some "bool"
  | .int _ => some "int"
  | .str _ => some "str"
  | .ref a => (match H a with
    | some (.lst _) => some "list"
    | some (.tup _) => some "tuple"
    | some (.dK _) => some "dict"
    | _ => none)
  | _ => none
theorem tyN_ok {K : PySem.W.Frag} {H : Hp} {x : V} {t : String} (h : tyN H x = some t) : TyOf K H x (.type t) := by
  unfold tyN at h
  split at h
  · cases h; exact .non
  · cases h; exact .bl _
  · cases h; exact .int _
  · cases h; exact .str _
  · split at h
    · rename_i e
      cases h; exact .lst e
    · rename_i e
      cases h; exact .tup e
    · rename_i e
      cases h; exact .dK e
    · cases h
  · cases h
def rIs1 : List V → Hp → VK → Prop := fun xs H Q => ∃ (x : V) (T t : String) (b : Bool), xs = [x, .ty T] ∧ tyN H x = some t ∧ kitB t T = some b ∧ Q (.bl b) H
def rIs2 : List V → Hp → VK → Prop := fun xs H Q => ∃ (x : V) (tp : Addr) (T1 T2 t : String) (b1 b2 : Bool), xs = [x, .ref tp] ∧ H tp = some (.tup [.ty T1, .ty T2]) ∧ tyN H x = some t ∧ kitB t T1 = some b1 ∧ kitB t T2 = some b2 ∧ Q (.bl (b1 || b2)) H
section
variable {X : Cx}
theorem isi_1 : CallR X (.builtin "isinstance") rIs1 := by
  intro pins s σ H xs us Q I r h
  obtain ⟨x, T, t, b, e, ty, k, q⟩ := h
  exact call_isi pins s σ H xs us Q I r ⟨x, .ty T, .type t, .type T, b, e, .ty T, .base (tyN_ok ty), kit_ty k, q⟩
theorem isi_2 : CallR X (.builtin "isinstance") rIs2 := by
  intro pins s σ H xs us Q I r h
  obtain ⟨x, tp, T1, T2, t, b1, b2, e, hT, ty, k1, k2, q⟩ := h
  refine call_isiT pins s σ H xs us Q I r ⟨x, tp, _, .type t, [.type T1, .type T2], b1 || b2, e, hT, .cons (.ty T1) (.cons (.ty T2) .nil), .base (tyN_ok ty), ?_, q⟩
  refine kitAny_cons (kit_ty k1) (fun f => ?_) (fun f => by rw [f]; rfl)
  rw [f]
  refine kitAny_cons (kit_ty k2) (fun f => ?_) (fun f => by rw [f]; rfl)
  rw [f]
  exact kitAny_nil
/-- two lists of two truths -/
def rNe2 : R2 := fun x y H Q => ∃ (p q : Addr) (a b c d : Bool), x = .ref p ∧ y = .ref q ∧ H p = some (.lst [.bl a, .bl b]) ∧ H q = some (.lst [.bl c, .bl d]) ∧ Q (.bl (!(a == c && b == d))) H
theorem op_ne2 (hu : X.A.units + 64 < cLine) : OpR X (compareOp .NotEq) rNe2 := by
  intro pins s σ H x y v u Q I rx ry h
  obtain ⟨p, q, a, b, c, d, e1, e2, hp, hq, k⟩ := h
  refine op_neD hu pins s σ H x y v u Q I rx ry ⟨.list [.bool a, .bool b], .list [.bool c, .bool d], ?_, ?_, ?_, ?_, ?_⟩
  · rw [e1]
    exact .lst (SqL.of hp) (.cons (.bl _) (.cons (.bl _) .nil))
  · rw [e2]
    exact .lst (SqL.of hq) (.cons (.bl _) (.cons (.bl _) .nil))
  · cases a <;> cases b <;> decide +kernel
  · cases c <;> cases d <;> decide +kernel
  · have e : PyData.eqv (.list [.bool a, .bool b]) (.list [.bool c, .bool d]) = (a == c && b == d) := by
      show ((a == c) && ((b == d) && true)) = _
      rw [Bool.and_true]
    rw [e]
    exact k
theorem len_tupH : CallR X (.builtin "len") (fun xs H Q => ∃ p ys, xs = [.ref p] ∧ H p = some (.tup ys) ∧ Q (.int ys.length) H) := by
  intro pins s σ H xs us Q I r h
  obtain ⟨p, ys, e, hp, q⟩ := h
  exact call_len_seq pins s σ H xs us Q I r ⟨p, ys, e, .inr (SqT.of hp), q⟩
theorem len_lstH : CallR X (.builtin "len") (fun xs H Q => ∃ p ys, xs = [.ref p] ∧ H p = some (.lst ys) ∧ Q (.int ys.length) H) := by
  intro pins s σ H xs us Q I r h
  obtain ⟨p, ys, e, hp, q⟩ := h
  exact call_len_seq pins s σ H xs us Q I r ⟨p, ys, e, .inl (SqL.of hp), q⟩
end
theorem kb1 : kitB "int" "list" = some false := by decide +kernel
theorem kb2 : kitB "int" "tuple" = some false := by decide +kernel
theorem kb3 : kitB "int" "bool" = some false := by decide +kernel
theorem kb4 : kitB "int" "int" = some true := by decide +kernel
theorem kb5 : kitB "tuple" "list" = some false := by decide +kernel
theorem kb6 : kitB "tuple" "tuple" = some true := by decide +kernel
theorem walk_zipT {K : PySem.W.Frag} {a b : Addr} {xs ys : List V} {n : Nat} (hx : xs.length = n) (hy : ys.length = n) : Walk (RZ.ItzT K a b) n (fun H => SqT K H a xs ∧ SqT K H b ys) (YPair (fun i => xs[i]?) (fun i => ys[i]?)) where
  goes := fun i H hi h => ⟨xs, ys, xs[i], ys[i], h.1, h.2, List.getElem?_eq_getElem (by omega), List.getElem?_eq_getElem (by omega)⟩
  stops := fun H h => ⟨xs, ys, h.1, h.2, .inl (by omega)⟩
  yields := fun i H x H' hi h y => by
    obtain ⟨T, x', y', e1, e2, e3, f1, f2⟩ := y
    exact ⟨T, x', y', e1, e2, e3, f1 xs h.1, f2 ys h.2⟩
section
variable {P : Program} {w : World} {K : PySem.W.Frag} {mg : Str → Option Value} {base : Heap}
theorem scSame : FnScope ["_law_found", "_law_due", "_law_kinds", "_law_left", "_law_right"] ["_law_found", "_law_due"] d_same.scope := ⟨rfl, rfl, rfl, by decide +kernel, rfl, by decide +kernel, by decide +kernel⟩
def spSameI (K : PySem.W.Frag) : Sp := fun vs H Q _ => ∃ (i : Int), vs = [.int i, .int i] ∧ ∀ H', Same H H' → Q (.bl true) H'
theorem ok_sameI (W : Wd K mg) : ∃ fd, FnOk P w K mg base CX0 1 (He.ga K "_law_same") fd ["_law_found", "_law_due"] (spSameI K) ∧ Binds K fd ["_law_found", "_law_due"] [] := by
  obtain ⟨fd, F⟩ := W.F_same
  refine ⟨fd, F.ok scSame (fun vs H Q E h => ?_) (fun cdv A outer s H vs Q E hr h => ?_), FunD.bindsN F fun _ _ _ _ _ _ us hl => match us, hl with | [_, _], _ => rfl⟩
  · obtain ⟨i, rfl, _⟩ := h
    rfl
  · obtain ⟨i, rfl, q⟩ := h
    refine ⟨_, PSs.nox (pss_cons (ps_set (i := 2) scSame.nd rfl (Or.inl rfl) (pe_lst (pa_cons (pe_callB isi_1 (by rfl) W.f_isinstance boot_isinstance (pa_cons (pv 0) (pa_cons (pe_bltn (v := .ty "list") (by rfl) W.f_list (by decide +kernel) rfl) pa_nil))) (pa_cons (pe_callB isi_1 (by rfl) W.f_isinstance boot_isinstance (pa_cons (pv 0) (pa_cons (pe_bltn (v := .ty "tuple") (by rfl) W.f_tuple (by decide +kernel) rfl) pa_nil))) pa_nil))))
      (pss_cons (ps_if (pt_val (pe_callB isi_2 (by rfl) W.f_isinstance boot_isinstance (pa_cons (pv 1) (pa_cons (pe_tup (pa_cons (pe_bltn (v := .ty "list") (by rfl) W.f_list (by decide +kernel) rfl) (pa_cons (pe_bltn (v := .ty "tuple") (by rfl) W.f_tuple (by decide +kernel) rfl) pa_nil))) pa_nil)))) pss_never pss_nil)
      (pss_cons (ps_if (pt_val (pe_callB isi_2 (by rfl) W.f_isinstance boot_isinstance (pa_cons (pv 1) (pa_cons (pe_tup (pa_cons (pe_bltn (v := .ty "bool") (by rfl) W.f_bool (by decide +kernel) rfl) (pa_cons (pe_bltn (v := .ty "int") (by rfl) W.f_int (by decide +kernel) rfl) pa_nil))) pa_nil))))
        (pss_one (ps_ret (pe_and (pe_callB isi_1 (by rfl) W.f_isinstance boot_isinstance (pa_cons (pv 0) (pa_cons (pe_bltn (v := .ty "int") (by rfl) W.f_int (by decide +kernel) rfl) pa_nil)))
          (pe_and (pe_cmpR op_eq (pe_callB isi_1 (by rfl) W.f_isinstance boot_isinstance (pa_cons (pv 0) (pa_cons (pe_bltn (v := .ty "bool") (by rfl) W.f_bool (by decide +kernel) rfl) pa_nil))) (pe_callB isi_1 (by rfl) W.f_isinstance boot_isinstance (pa_cons (pv 1) (pa_cons (pe_bltn (v := .ty "bool") (by rfl) W.f_bool (by decide +kernel) rfl) pa_nil))) (nomark _))
          (pe_one (pe_cmpR op_eq (pv 0) (pv 1) (nomark _))))))) pss_nil)
      pss_never))), ?_⟩
    simp -dsimp [tSeq, tAsg, tRet, tIfS, tIf, tTest, tVar, tCons, tNil, tC, tOp, tUn, rI, rI0, rU, tCB, tLst_A, tTup_A, gName, L2.start, CMul, CPow, CDiv, tDrop, tBM, tBM0, tNext, tPar, gSub, rSetL, rIxL, rIxT, tChain, tB, tNot, tNotV, tAnd, tOr, tAndV, tOrV, tFld, tCall, rIxLH, rIxTH, atI, ixN, upd_same, cxK, ex2, ex3, ex3b, rIs1, rIs2, rNe2, tyN, kb1, kb2, kb3, kb4, kb5, kb6, rEq, rNe, scal]
    refine ⟨le2, Alloc.of fun p1 H1 n1 e1 s1 => ?_⟩
    try simp -dsimp [tSeq, tAsg, tRet, tIfS, tIf, tTest, tVar, tCons, tNil, tC, tOp, tUn, rI, rI0, rU, tCB, tLst_A, tTup_A, gName, L2.start, CMul, CPow, CDiv, tDrop, tBM, tBM0, tNext, tPar, gSub, rSetL, rIxL, rIxT, tChain, tB, tNot, tNotV, tAnd, tOr, tAndV, tOrV, tFld, tCall, rIxLH, rIxTH, atI, ixN, upd_same, cxK, ex2, ex3, ex3b, rIs1, rIs2, rNe2, tyN, kb1, kb2, kb3, kb4, kb5, kb6, rEq, rNe, scal]
    refine ⟨le2, Alloc.of fun p2 H2 n2 e2 s2 => ?_⟩
    simp -dsimp [tSeq, tAsg, tRet, tIfS, tIf, tTest, tVar, tCons, tNil, tC, tOp, tUn, rI, rI0, rU, tCB, tLst_A, tTup_A, gName, L2.start, CMul, CPow, CDiv, tDrop, tBM, tBM0, tNext, tPar, gSub, rSetL, rIxL, rIxT, tChain, tB, tNot, tNotV, tAnd, tOr, tAndV, tOrV, tFld, tCall, rIxLH, rIxTH, atI, ixN, upd_same, cxK, ex2, ex3, ex3b, rIs1, rIs2, rNe2, tyN, kb1, kb2, kb3, kb4, kb5, kb6, rEq, rNe, scal, e2]
    refine ⟨le2, Alloc.of fun p3 H3 n3 e3 s3 => ?_⟩
    simp -dsimp [tSeq, tAsg, tRet, tIfS, tIf, tTest, tVar, tCons, tNil, tC, tOp, tUn, rI, rI0, rU, tCB, tLst_A, tTup_A, gName, L2.start, CMul, CPow, CDiv, tDrop, tBM, tBM0, tNext, tPar, gSub, rSetL, rIxL, rIxT, tChain, tB, tNot, tNotV, tAnd, tOr, tAndV, tOrV, tFld, tCall, rIxLH, rIxTH, atI, ixN, upd_same, cxK, ex2, ex3, ex3b, rIs1, rIs2, rNe2, tyN, kb1, kb2, kb3, kb4, kb5, kb6, rEq, rNe, scal, e3]
    exact q _ ((s1.trans s2).trans s3)
end
/-! ### shares made and told -/
def IsSh (K : PySem.W.Frag) (H : Hp) (x : Addr) (a b : Int) : Prop := ∃ dx, H x = some (shareO (He.ga K "Share") dx a b)
/-- a new share -/
def AllocS (K : PySem.W.Frag) (H : Hp) (a b : Int) (Q : V → Hp → Prop) (_ : Lk Q := ⟨⟩) : Prop := ∀ x H', H x = none → IsSh K H' x a b → Same H H' → Q (.ref x) H'
theorem IsSh.same {K : PySem.W.Frag} {H H' : Hp} {x : Addr} {a b : Int} (h : IsSh K H x a b) (s : Same H H') : IsSh K H' x a b := by
  obtain ⟨dx, e⟩ := h
  exact ⟨dx, s _ _ e⟩
theorem mk_ok {K : PySem.W.Frag} {H : Hp} {vs : List V} {a b : Int} {Q : V → Hp → Prop} {E : XK} (e : vs = [.int a, .int b]) (hb : b ≠ 0) (hbb : b.natAbs < big9) (h : AllocS K H (a.fdiv (side a b)) (b.fdiv (side a b)) Q) :
    ∀ x dx, H x = none → H dx = none → dx ≠ x → spInit K (.ref x :: vs) (upd (upd H dx (.own x)) x (.ins (He.ga K "Share") dx [])) (fun v H2 => v = .non ∧ Q (.ref x) H2) E := by
  intro x dx nx nd ne
  refine ⟨x, dx, a, b, by rw [e], upd_same, hb, hbb, rfl, h x _ nx ⟨dx, upd_same⟩ ?_⟩
  intro c o ec
  rw [upd_ne (ne_of_none ec nx), upd_ne (ne_of_none ec nx), upd_ne (ne_of_none ec nd)]
  exact ec
def rStrOwn (C : Addr) (sp : Sp) (E : XK) : List V → Hp → VK → Prop := fun xs H Q => ∃ (a dx : Addr) (fs : List (Str × V)), xs = [.ref a] ∧ H a = some (.ins C dx fs) ∧ sp [.ref a] H (fun z H' => ∃ y, z = .str y ∧ Q z H') E
section
variable {X : Cx} {CX : CXT} {n : Nat} {sp : Sp} {E : XK} {C g : Addr}
theorem call_strOwn (hs : PySem.W.findIn X.K (.ref C) "__str__" = some (some (.ref g))) (hf : PySem.W.isFn X.K (.ref g) = true) (F : FnR X.prog X.w X.K X.mg X.base CX n g sp) (hr : Room (n + 2) X.A) (hx : Passes CX X E) : CallR X (.type "str") (rStrOwn C sp E) := by
  intro pins s σ H xs us Q I r h
  obtain ⟨a, dx, fs, rfl, ha, q⟩ := h
  obtain ⟨u, rfl, ru⟩ := r.one
  cases (show u = Value.ref a from ru)
  obtain ⟨mA, O, _⟩ := ins_get I.hok ha
  obtain ⟨od, J, _⟩ := O.look
  have hr2 : Room n X.A.in1.in1 := (show Room (n + 1) X.A.in1 from Room.in1 hr).in1
  refine PySem.W.kso_call hr2.units0 I.kIn J hs hf (wpAny_mono (wpAny_call (SlX.run_at (us := [.ref a]) (ws := [.ref a]) F hr2 I.env0.in1.in1 hx I (.cons rfl .nil) q)) (fun w s' z => ?_) fun _ _ x => x)
  obtain ⟨z', H', I', rz, y, ey, qz⟩ := z
  subst ey
  obtain ⟨t, e⟩ := (show ∃ t, w = Value.str y t from rz)
  cases e
  exact ⟨.str y, H', I', ⟨t, rfl⟩, qz⟩
end
section
variable {K : PySem.W.Frag} {mg : Str → Option Value}
theorem Wd.isSh (W : Wd K mg) {H : Hp} {x : Addr} {a b : Int} (h : IsSh K H x a b) : TyOf K H (.ref x) (.ref (He.ga K "Share")) := by
  obtain ⟨dx, e⟩ := h
  exact .ins e W.cls_Share (He.eqO_ok (W.ex 0 rfl)) (He.eqO_ok (W.ex 1 rfl)) (of_decide_eq_true (W.ex 2 rfl)) (of_decide_eq_true (W.ex 3 rfl))
theorem Wd.kitS (W : Wd K mg) : PySem.W.kitOne K (.ref (He.ga K "Share")) (.ref (He.ga K "Share")) = some true := of_decide_eq_true (W.ex 4 rfl)
/-- isinstance(x, Share) of a share -/
def rIsS (K : PySem.W.Frag) : List V → Hp → VK → Prop := fun xs H Q => ∃ (x : Addr) (a b : Int), xs = [.ref x, .ref (He.ga K "Share")] ∧ IsSh K H x a b ∧ Q (.bl true) H
theorem isi_S {X : Cx} (W : Wd X.K X.mg) : CallR X (.builtin "isinstance") (rIsS X.K) := by
  intro pins s σ H xs us Q I r h
  obtain ⟨x, a, b, e, hx, q⟩ := h
  exact call_isi pins s σ H xs us Q I r ⟨.ref x, .ref (He.ga X.K "Share"), _, _, true, e, .own _, .base (W.isSh hx), W.kitS, q⟩
end
theorem vals_rev : ∀ {vs : List V} {us : List Value}, Vals vs us → Vals vs.reverse us.reverse
  | _, _, .nil => .nil
  | _, _, .cons r t => by
    rw [List.reverse_cons, List.reverse_cons]
    exact (vals_rev t).append (.cons r .nil)
section
variable {P : Program} {w : World} {K : PySem.W.Frag} {mg : Str → Option Value} {base : Heap} {fd : FuncData}
abbrev FInit (K : PySem.W.Frag) (fd : FuncData) : Prop := FunD K d_Share_init.name d_Share_init.qual d_Share_init.params d_Share_init.body d_Share_init.scope (d_Share_init.dvs K) (d_Share_init.kws K) (He.fAd K d_Share_init.at_) fd
abbrev psI : List Str := ["self", "top", "bottom"]
theorem bind3 (F : FInit K fd) : Binds K fd psI [] := by
  obtain ⟨ds, v, b⟩ := FunD.binds1 (ps := psI) F 3 1 (List.cons_ne_nil _ _) rfl fun T kV doc pm an cdv ct us its hu hi => match us, its, hu, hi with | [_, _, _], [_], _, _ => ⟨_, rfl, rfl⟩
  cases v
  exact b
theorem bind2 (F : FInit K fd) : ∃ ds, Vals [V.int 1] ds ∧ Binds K fd psI ds := by
  obtain ⟨ds, v, b⟩ := FunD.binds1 (ps := psI) F 2 0 (List.cons_ne_nil _ _) rfl fun T kV doc pm an cdv ct us its hu hi => match us, its, hu, hi with | [_, _], [_], _, _ => ⟨_, rfl, rfl⟩
  exact ⟨ds, v, b⟩
/-- Share(bottom = b, top = a) -/
theorem bindBT (F : FInit K fd) : KBn K fd psI 1 ["bottom", "top"] (fun us ws => us ++ ws.reverse) (fun vs zs => vs ++ zs.reverse) := by
  obtain ⟨oc, od, dV, kV, doc, pm, an, cdv, ct, osl, rfl, lk, hcd, hD, hK⟩ := F.ex
  rcases hD with ⟨e, _⟩ | ⟨_, T, o, its, m, rfl, lT, oT, rT⟩
  · exact absurd e (List.cons_ne_nil _ _)
  · refine ⟨fun s us ws X l1 l2 => ?_, fun {vs us zs ws} r1 r2 => ?_⟩
    · match us, ws, l1, l2 with
      | [u], [b, t], _, _ =>
        refine BindsTo.of_looks fun M => ?_
        obtain ⟨k, e1, e2⟩ : ∃ k, bindArgs (PySem.W.fnOf d_Share_init.name d_Share_init.qual d_Share_init.params d_Share_init.body d_Share_init.scope (.ref T) kV doc pm an cdv ct) ⟨[u], (["bottom", "top"] : List Str).zip [b, t]⟩ = seqItems? (.ref T) >>= k ∧ k (some its.toArray) = pure (psI.zip [u, t, b]) := by
          match its, rT with
          | [d], _ => exact ⟨_, rfl, rfl⟩
        rw [e1]
        exact looks_items X lT oT (.of_pure e2)
    · exact r1.append (vals_rev r2)
/-- Share(a, bottom = b) -/
theorem bindB (F : FInit K fd) : KBn K fd psI 2 ["bottom"] (fun us ws => us ++ ws) (fun vs zs => vs ++ zs) := by
  obtain ⟨oc, od, dV, kV, doc, pm, an, cdv, ct, osl, rfl, lk, hcd, hD, hK⟩ := F.ex
  rcases hD with ⟨e, _⟩ | ⟨_, T, o, its, m, rfl, lT, oT, rT⟩
  · exact absurd e (List.cons_ne_nil _ _)
  · refine ⟨fun s us ws X l1 l2 => ?_, fun {vs us zs ws} r1 r2 => r1.append r2⟩
    match us, ws, l1, l2 with
    | [u, t], [b], _, _ =>
      refine BindsTo.of_looks fun M => ?_
      obtain ⟨k, e1, e2⟩ : ∃ k, bindArgs (PySem.W.fnOf d_Share_init.name d_Share_init.qual d_Share_init.params d_Share_init.body d_Share_init.scope (.ref T) kV doc pm an cdv ct) ⟨[u, t], (["bottom"] : List Str).zip [b]⟩ = seqItems? (.ref T) >>= k ∧ k (some its.toArray) = pure (psI.zip [u, t, b]) := by
        match its, rT with
        | [d], _ => exact ⟨_, rfl, rfl⟩
      rw [e1]
      exact looks_items X lT oT (.of_pure e2)
theorem look_top (t b : V) : List.lookup ("top" : Str) [(("top" : Str), t), (("bottom" : Str), b)] = some t := rfl
theorem look_bot (t b : V) : List.lookup ("bottom" : Str) [(("top" : Str), t), (("bottom" : Str), b)] = some b := rfl
end
/-! ### the numbers -/
theorem side_facts (a b : Int) (hb : b ≠ 0) : side a b ∣ a ∧ side a b ∣ b ∧ side a b ≠ 0 := by
  have hg : 0 < Int.gcd a b := Int.gcd_pos_of_ne_zero_right a hb
  have h1 := Int.gcd_dvd_left a b
  have h2 := Int.gcd_dvd_right a b
  unfold side
  split
  · exact ⟨h1, h2, by omega⟩
  · exact ⟨Int.neg_dvd.mpr h1, Int.neg_dvd.mpr h2, by omega⟩
theorem side_neg (a b : Int) (hb : b ≠ 0) : side a (-b) = -side a b := by
  unfold side
  rw [Int.gcd_neg]
  by_cases h : b > 0
  · rw [if_pos h, if_neg (by omega)]
  · rw [if_neg h, if_pos (by omega), Int.neg_neg]
theorem side_one (a : Int) : side a 1 = 1 := by
  unfold side
  rw [if_pos (by decide), Int.gcd_one]
  rfl
theorem fdiv_le {a s : Int} (h : s ∣ a) (hs : s ≠ 0) : (a.fdiv s).natAbs ≤ a.natAbs := by
  obtain ⟨c, rfl⟩ := h
  rw [Int.fdiv_eq_ediv_of_dvd ⟨c, rfl⟩, Int.mul_ediv_cancel_left _ hs, Int.natAbs_mul]
  exact Nat.le_mul_of_pos_left _ (by omega)
theorem fdiv_flip {a b : Int} (hb : b ≠ 0) : a.fdiv (side a (-b)) = -(a.fdiv (side a b)) ∧ (-b).fdiv (side a (-b)) = b.fdiv (side a b) := by
  obtain ⟨h1, h2, h3⟩ := side_facts a b hb
  rw [side_neg a b hb]
  refine ⟨by rw [Int.fdiv_neg h3, if_pos h1], ?_⟩
  rw [Int.fdiv_neg h3, if_pos (Int.dvd_neg.mpr h2), Int.fdiv_eq_ediv_of_dvd (Int.dvd_neg.mpr h2), Int.fdiv_eq_ediv_of_dvd h2, Int.neg_ediv_of_dvd h2, Int.neg_neg]
theorem scaled {a p : Int} (h : a.natAbs < 1000000000000) (h0 : 0 ≤ p) (h1 : p < 12) : (a / 100 * (1 + p)).natAbs < 2000000000000 := by
  have e : (a / 100).natAbs ≤ 10000000001 := by omega
  rw [Int.natAbs_mul]
  have e2 : (1 + p).natAbs ≤ 12 := by omega
  have := Nat.mul_le_mul e e2
  omega
theorem big_of {n : Nat} (h : n < 10 ^ 60) : n < big9 := Nat.lt_of_lt_of_le h (by unfold big9; exact Nat.le_trans (by decide : (10 : Nat) ^ 60 ≤ 2 ^ 200) (Nat.pow_le_pow_right (by decide) (by decide)))
/-- a share is made of the ints vs -/
def MkS (K : PySem.W.Frag) (H : Hp) (vs : List V) (Q : V → Hp → Prop) (E : XK) (_ : Lk (Q, E) := ⟨⟩) : Prop :=
  ∀ x dx, H x = none → H dx = none → dx ≠ x → spInit K (.ref x :: vs) (upd (upd H dx (.own x)) x (.ins (He.ga K "Share") dx [])) (fun v H2 => v = .non ∧ Q (.ref x) H2) E
theorem MkS.of {K : PySem.W.Frag} {H : Hp} {vs : List V} {a b : Int} {Q : V → Hp → Prop} {E : XK} (e : vs = [.int a, .int b]) (hb : b ≠ 0) (hbb : b.natAbs < big9) (h : AllocS K H (a.fdiv (side a b)) (b.fdiv (side a b)) Q) : MkS K H vs Q E := mk_ok e hb hbb h
theorem tMake_S {K : PySem.W.Frag} {dvs : List V} {E : XK} {t : TA} {σ : List (Option V)} {H : Hp} {Q : V → Hp → Prop} : tMake (He.ga K "Share") (spInit K) dvs E t σ H Q = t σ H fun vs H1 => MkS K H1 (vs ++ dvs) Q E := rfl
theorem tMakeK_S {K : PySem.W.Frag} {n m : Nat} {E : XK} {t tk : TA} {σ : List (Option V)} {H : Hp} {Q : V → Hp → Prop} : tMakeK (He.ga K "Share") n m (spInit K) (fun vs zs => vs ++ zs.reverse) E t tk σ H Q = t σ H fun vs H1 => tk σ H1 fun zs H2 => vs.length = n ∧ zs.length = m ∧ MkS K H2 (vs ++ zs.reverse) Q E := rfl
theorem tMakeN_S {K : PySem.W.Frag} {n m : Nat} {E : XK} {t tk : TA} {σ : List (Option V)} {H : Hp} {Q : V → Hp → Prop} : tMakeN (He.ga K "Share") n m (spInit K) (fun vs zs => vs ++ zs) E t tk σ H Q = t σ H fun vs H1 => tk σ H1 fun zs H2 => vs.length = n ∧ zs.length = m ∧ MkS K H2 (vs ++ zs) Q E := rfl
/-- a loop over the list at a, from here -/
def ForW (K : PySem.W.Frag) (a : Addr) (g : TG) (tb : TS) (D : Ends) (σ : List (Option V)) (H : Hp) (_ : Lk (g, tb, D) := ⟨⟩) : Prop :=
  ∃ W : Nat → Nat → List (Option V) → Hp → Prop, (∃ m, W 0 m σ H) ∧ ∀ i m σ H, W i m σ H → ((Itl K a).stop i H ∧ D.nx σ H) ∨ ((Itl K a).go i H ∧ ∃ N : List (Option V) → Hp → Prop, (∀ σ' H', N σ' H' → ∃ m', m' < m ∧ W (i + 1) m' σ' H') ∧ ∀ x H', (Itl K a).yld i H x H' → g x σ H' fun σ2 H2 => tb { D with nx := N, ct := N, bk := D.nx } σ2 H2)
theorem tFor_iL {K : PySem.W.Frag} {tl : TE} {g : TG} {tb : TS} {D : Ends} {σ : List (Option V)} {H : Hp} : tFor (iList K tl) g tb D σ H = tl σ H fun x H1 => ∃ a, x = .ref a ∧ (∃ xs, SqL K H1 a xs) ∧ ForW K a g tb D σ H1 := rfl
/-! ### numbers: shares and ints -/
def bigH : Nat := 2 ^ 4499
theorem mul_h {a b : Int} (ha : a.natAbs < bigH) (hb : b.natAbs < bigH) : 2 * (a * b).natAbs < big9 := by
  rw [Int.natAbs_mul]
  have h := Nat.mul_lt_mul'' ha hb
  have e : 2 * (bigH * bigH) = big9 := by
    unfold bigH big9
    rw [← Nat.pow_add, Nat.mul_comm, ← Nat.pow_succ]
  omega
theorem h_lt_M {n : Nat} (h : n < bigH) : n < bigM := Nat.lt_of_lt_of_le h (by unfold bigH bigM; exact Nat.pow_le_pow_right (by decide) (by decide))
/-- v is c over d: a share, or an int -/
def Nu (K : PySem.W.Frag) (H : Hp) (v : V) (c d : Int) : Prop := (∃ y, v = .ref y ∧ IsSh K H y c d) ∨ (v = .int c ∧ d = 1)
theorem Nu.same {K : PySem.W.Frag} {H H' : Hp} {v : V} {c d : Int} (h : Nu K H v c d) (s : Same H H') : Nu K H' v c d := by
  rcases h with ⟨y, e, h⟩ | h
  · exact .inl ⟨y, e, h.same s⟩
  · exact .inr h
theorem tup2 {K : PySem.W.Frag} {p : Addr} {u v : V} {f g : TG} {σ : List (Option V)} {H : Hp} {Q : List (Option V) → Hp → Prop} (h : H p = some (.tup [u, v])) (k : f u σ H fun σ1 H1 => g v σ1 H1 Q) : gTup K 2 (gCons f (gCons g gNil)) (.ref p) σ H Q := by
  refine ⟨p, [u, v], rfl, SqT.of h, rfl, u, [v], rfl, ?_⟩
  refine Eq.mp ?_ k
  congr 1
  funext σ1 H1
  refine propext ⟨fun z => ⟨v, [], rfl, ?_⟩, fun ⟨v', r, e, z⟩ => ?_⟩
  · refine Eq.mp ?_ z
    congr 1
    funext σ2 H2
    exact propext ⟨fun z => ⟨rfl, z⟩, fun z => z.2⟩
  · cases e
    refine Eq.mp ?_ z
    congr 1
    funext σ2 H2
    exact propext ⟨fun z => z.2, fun z => ⟨rfl, z⟩⟩
section
/-- what follows for a new share in lowest terms -/
def Res (K : PySem.W.Frag) (H : Hp) (p q : Int) (Q : V → Hp → Prop) (_ : Lk Q := ⟨⟩) : Prop := ∀ z H', Same H H' → IsSh K H' z (p.fdiv (side p q)) (q.fdiv (side p q)) → Q (.ref z) H'
theorem MkS.res {K : PySem.W.Frag} {H0 H : Hp} {vs : List V} {a b : Int} {Q : V → Hp → Prop} {E : XK} (s : Same H0 H) (e : vs = [.int a, .int b]) (hb : b ≠ 0) (hbb : b.natAbs < big9) (h : Res K H0 a b Q) : MkS K H vs Q E :=
  MkS.of e hb hbb fun z H' _ i s' => h z H' (s.trans s') i
theorem one_fd (c : Int) : c.fdiv (side c 1) = c ∧ (1 : Int).fdiv (side c 1) = 1 := by
  rw [side_one, Int.fdiv_one, Int.fdiv_one]
  exact ⟨rfl, rfl⟩
end
/-! ### lowest terms -/
def Low (c d : Int) : Prop := 0 < d ∧ Int.gcd c d = 1
theorem side_low {c d : Int} (h : Low c d) : side c d = 1 := by
  unfold side
  rw [if_pos h.1, h.2]
  rfl
theorem lo_low {c d : Int} (h : Low c d) : c.fdiv (side c d) = c ∧ d.fdiv (side c d) = d := by
  rw [side_low h, Int.fdiv_one, Int.fdiv_one]
  exact ⟨rfl, rfl⟩
theorem lo_cross {x y : Int} (hy : y ≠ 0) : x.fdiv (side x y) * y = x * y.fdiv (side x y) := by
  obtain ⟨⟨k, hk⟩, ⟨m, hm⟩, h3⟩ := side_facts x y hy
  have e1 : x.fdiv (side x y) = k := by
    rw [Int.fdiv_eq_ediv_of_dvd ⟨k, hk⟩]
    exact Int.ediv_eq_of_eq_mul_right h3 hk
  have e2 : y.fdiv (side x y) = m := by
    rw [Int.fdiv_eq_ediv_of_dvd ⟨m, hm⟩]
    exact Int.ediv_eq_of_eq_mul_right h3 hm
  rw [e1, e2]
  calc k * y = k * (side x y * m) := by rw [← hm]
    _ = side x y * k * m := by rw [Int.mul_comm (side x y) k, Int.mul_assoc]
    _ = x * m := by rw [← hk]
theorem low_lo {x y : Int} (hy : y ≠ 0) : Low (x.fdiv (side x y)) (y.fdiv (side x y)) := by
  have hg : 0 < Int.gcd x y := Int.gcd_pos_of_ne_zero_right x hy
  have d1 := Int.gcd_dvd_left x y
  have d2 := Int.gcd_dvd_right x y
  have h3 : ((Int.gcd x y : Nat) : Int) ≠ 0 := by omega
  have key : Int.gcd (x / (Int.gcd x y : Int)) (y / (Int.gcd x y : Int)) = 1 := by
    rw [Int.gcd_ediv d1 d2]
    rw [Int.natAbs_natCast]
    exact Nat.div_self hg
  by_cases hp : y > 0
  · have e : side x y = (Int.gcd x y : Int) := if_pos hp
    rw [e, Int.fdiv_eq_ediv_of_dvd d1, Int.fdiv_eq_ediv_of_dvd d2]
    exact ⟨Int.ediv_pos_of_pos_of_dvd hp (by omega) d2, key⟩
  · have e : side x y = -(Int.gcd x y : Int) := if_neg hp
    have n1 : -((Int.gcd x y : Nat) : Int) ∣ x := Int.neg_dvd.mpr d1
    have n2 : -((Int.gcd x y : Nat) : Int) ∣ y := Int.neg_dvd.mpr d2
    rw [e, Int.fdiv_eq_ediv_of_dvd n1, Int.fdiv_eq_ediv_of_dvd n2, Int.ediv_neg, Int.ediv_neg]
    refine ⟨?_, by rw [Int.neg_gcd, Int.gcd_neg]; exact key⟩
    have : 0 < (-y) / (Int.gcd x y : Int) := Int.ediv_pos_of_pos_of_dvd (by omega) (by omega) (Int.dvd_neg.mpr d2)
    rw [Int.neg_ediv_of_dvd d2] at this
    exact this
/-- two pairs in lowest terms with one worth are one pair -/
theorem low_eq {a b c d : Int} (h1 : Low a b) (h2 : Low c d) (h : a * d = c * b) : a = c ∧ b = d := by
  have db : b ∣ d := by
    have z : b ∣ a * d := ⟨c, by rw [h, Int.mul_comm]⟩
    have g := Int.dvd_gcd_mul_iff_dvd_mul.mpr z
    rw [Int.gcd_comm, h1.2] at g
    simpa using g
  have dd : d ∣ b := by
    have z : d ∣ c * b := ⟨a, by rw [← h, Int.mul_comm]⟩
    have g := Int.dvd_gcd_mul_iff_dvd_mul.mpr z
    rw [Int.gcd_comm, h2.2] at g
    simpa using g
  have e : b = d := Int.dvd_antisymm (Int.le_of_lt h1.1) (Int.le_of_lt h2.1) db dd
  subst e
  exact ⟨Int.eq_of_mul_eq_mul_right (Int.ne_of_gt h1.1) h, rfl⟩
/-- lowest terms of x over y are c over d, where these are -/
theorem lo_eq {x y c d : Int} (hy : y ≠ 0) (h : Low c d) (e : x * d = c * y) : x.fdiv (side x y) = c ∧ y.fdiv (side x y) = d := by
  have l := low_lo (x := x) hy
  have cr := lo_cross (x := x) hy
  refine low_eq l h (Int.eq_of_mul_eq_mul_right hy ?_)
  calc x.fdiv (side x y) * d * y = x.fdiv (side x y) * y * d := by rw [Int.mul_right_comm]
    _ = x * y.fdiv (side x y) * d := by rw [cr]
    _ = x * d * y.fdiv (side x y) := by rw [Int.mul_right_comm]
    _ = c * y * y.fdiv (side x y) := by rw [e]
    _ = c * y.fdiv (side x y) * y := by rw [Int.mul_right_comm]
/-! ### numbers and other things -/
def rIsG (K : PySem.W.Frag) : List V → Hp → VK → Prop := fun xs H Q => ∃ (x c : V) (t u : Value) (b : Bool), xs = [x, c] ∧ ClsV c u ∧ TyOf K H x t ∧ PySem.W.kitOne K t u = some b ∧ Q (.bl b) H
section
variable {X : Cx}
theorem isi_G : CallR X (.builtin "isinstance") (rIsG X.K) := by
  intro pins s σ H xs us Q I r h
  obtain ⟨x, c, t, u, b, e, cv, ty, k, q⟩ := h
  exact call_isi pins s σ H xs us Q I r ⟨x, c, t, u, b, e, cv, .base ty, k, q⟩
end
section
variable {K : PySem.W.Frag} {mg : Str → Option Value}
theorem Wd.knS (W : Wd K mg) : NuX.KN K (.ref (He.ga K "Share")) true := NuX.knB_ok (W.ex 8 rfl)
theorem Wd.knT (W : Wd K mg) : NuX.KN K (.ref (He.ga K "Term")) false := NuX.knB_ok (W.ex 9 rfl)
theorem Wd.knI (W : Wd K mg) : NuX.KN K (.type "int") true := NuX.knB_ok (W.ex 10 rfl)
theorem Wd.cmp (W : Wd K mg) : CmX.CmpC K (He.ga K "Share") := CmX.cmpB_ok (W.ex 7 rfl)
/-- a number: its kind, whether it is a share -/
theorem Wd.nuTy (W : Wd K mg) {H : Hp} {v : V} {c d : Int} (h : Nu K H v c d) : ∃ t b, TyOf K H v t ∧ NuX.KN K t true ∧ PySem.W.kitOne K t (.ref (He.ga K "Share")) = some b ∧ CmX.Beside K (He.ga K "Share") t ∧
    ((b = true ∧ ∃ y, v = .ref y ∧ IsSh K H y c d) ∨ (b = false ∧ v = .int c ∧ d = 1)) := by
  rcases h with ⟨y, e, h⟩ | ⟨e, e2⟩
  · subst e
    exact ⟨_, true, W.isSh h, W.knS, W.kitS, .inl rfl, .inl ⟨rfl, y, rfl, h⟩⟩
  · subst e
    exact ⟨_, false, .int c, W.knI, of_decide_eq_true (W.ex 21 rfl), .inr (W.cmp.no "int" (by decide)).1, .inr ⟨rfl, rfl, e2⟩⟩
end
section
variable {P : Program} {w : World} {K : PySem.W.Frag} {mg : Str → Option Value} {base : Heap}
theorem scIsInt : FnScope ["thing"] ["thing"] d_is_integer.scope := ⟨rfl, rfl, rfl, by decide +kernel, rfl, by decide +kernel, by decide +kernel⟩
def spIsInt (K : PySem.W.Frag) : Sp := fun vs H Q _ => ∃ (v : V) (t : Value) (b : Bool), vs = [v] ∧ TyOf K H v t ∧ NuX.KI K t b ∧ Q (.bl b) H
theorem ok_isInt (W : Wd K mg) : ∃ fd, FnOk P w K mg base CX0 1 (He.ga K "is_integer") fd ["thing"] (spIsInt K) ∧ Binds K fd ["thing"] [] := by
  obtain ⟨fd, F⟩ := W.F_is_integer
  refine ⟨fd, F.ok scIsInt (fun vs H Q E h => ?_) (fun cdv A outer s H vs Q E hr h => ?_), FunD.bindsN F fun _ _ _ _ _ _ us hl => match us, hl with | [_], _ => rfl⟩
  · obtain ⟨v, t, b, rfl, _⟩ := h
    rfl
  · obtain ⟨v, t, b, rfl, ty, ⟨bi, bb, k1, k2, rfl⟩, q⟩ := h
    refine ⟨_, PSs.nox (pss_one (ps_ret (pe_and (pe_callB isi_G (by rfl) W.f_isinstance boot_isinstance (pa_cons (pv 0) (pa_cons (pe_bltn (v := .ty "int") (by rfl) W.f_int (by decide +kernel) rfl) pa_nil)))
      (pe_one (pe_not (pe_callB isi_G (by rfl) W.f_isinstance boot_isinstance (pa_cons (pv 0) (pa_cons (pe_bltn (v := .ty "bool") (by rfl) W.f_bool (by decide +kernel) rfl) pa_nil)))))))), ?_⟩
    simp -dsimp [tSeq, tAsg, tRet, tIfS, tIf, tTest, tVar, tCons, tNil, tC, tOp, tUn, rI, rI0, rU, tCB, tLst_A, tTup_A, gName, L2.start, CMul, CPow, CDiv, tDrop, tBM, tBM0, tNext, tPar, gSub, rSetL, rIxL, rIxT, tChain, tB, tNot, tNotV, tAnd, tOr, tAndV, tOrV, tFld, tCall, rIxLH, rIxTH, atI, ixN, upd_same, cxK, ex2, ex3, ex3b, rIs1, rIs2, rNe2, tyN, kb1, kb2, kb3, kb4, kb5, kb6, rEq, rNe, scal, tMake_S, tMakeK_S, tMakeN_S]
    refine ⟨_, _, t, _, bi, rfl, .ty "int", ty, k1, ?_⟩
    cases bi with
    | false => exact .inl ⟨rfl, q⟩
    | true =>
      refine .inr ⟨rfl, _, _, t, _, bb, rfl, .ty "bool", ty, k2, ?_⟩
      cases bb with
      | false => exact .inl ⟨rfl, q⟩
      | true => exact .inr ⟨rfl, q⟩
theorem scIsNum : FnScope ["thing"] ["thing"] d_is_number.scope := ⟨rfl, rfl, rfl, by decide +kernel, rfl, by decide +kernel, by decide +kernel⟩
def spIsNum (K : PySem.W.Frag) : Sp := fun vs H Q _ => ∃ (v : V) (t : Value) (b : Bool), vs = [v] ∧ TyOf K H v t ∧ NuX.KN K t b ∧ Q (.bl b) H
theorem ok_isNum (W : Wd K mg) : ∃ fd, FnOk P w K mg base CX0 2 (He.ga K "is_number") fd ["thing"] (spIsNum K) ∧ Binds K fd ["thing"] [] := by
  obtain ⟨fdI, GI, bI⟩ := ok_isInt (P := P) (w := w) (base := base) W
  have kI : PySem.W.keepIn K (.ref (He.ga K "is_integer")) = true := by obtain ⟨fd, F⟩ := W.F_is_integer; exact F.kp
  obtain ⟨fd, F⟩ := W.F_is_number
  refine ⟨fd, F.ok scIsNum (fun vs H Q E h => ?_) (fun cdv A outer s H vs Q E hr h => ?_), FunD.bindsN F fun _ _ _ _ _ _ us hl => match us, hl with | [_], _ => rfl⟩
  · obtain ⟨v, t, b, rfl, _⟩ := h
    rfl
  · obtain ⟨v, t, b, rfl, ty, ⟨bs, k1, kk⟩, q⟩ := h
    refine ⟨_, PSs.nox (pss_one (ps_ret (pe_or (pe_callB isi_G (by rfl) W.f_isinstance boot_isinstance (pa_cons (pv 0) (pa_cons (pe_glob (v := .ref (He.ga K "Share")) rfl W.g_Share rfl) pa_nil)))
      (pe_one (pe_call GI hr rfl W.g_is_integer kI bI .nil pass0 (pa_cons (pv 0) pa_nil)))))), ?_⟩
    simp -dsimp [tSeq, tAsg, tRet, tIfS, tIf, tTest, tVar, tCons, tNil, tC, tOp, tUn, rI, rI0, rU, tCB, tLst_A, tTup_A, gName, L2.start, CMul, CPow, CDiv, tDrop, tBM, tBM0, tNext, tPar, gSub, rSetL, rIxL, rIxT, tChain, tB, tNot, tNotV, tAnd, tOr, tAndV, tOrV, tFld, tCall, rIxLH, rIxTH, atI, ixN, upd_same, cxK, ex2, ex3, ex3b, rIs1, rIs2, rNe2, tyN, kb1, kb2, kb3, kb4, kb5, kb6, rEq, rNe, scal, tMake_S, tMakeK_S, tMakeN_S]
    refine ⟨_, _, t, _, bs, rfl, .own _, ty, k1, ?_⟩
    rcases kk with ⟨rfl, rfl⟩ | ⟨rfl, kk⟩
    · exact .inr ⟨rfl, q⟩
    · exact .inl ⟨rfl, _, t, b, rfl, ty, kk, q⟩
theorem scFrac : FnScope ["number"] ["number"] d_fraction.scope := ⟨rfl, rfl, rfl, by decide +kernel, rfl, by decide +kernel, by decide +kernel⟩
def spFrac (K : PySem.W.Frag) : Sp := fun vs H Q _ => ∃ (v : V) (c d : Int), vs = [v] ∧ Nu K H v c d ∧ ∀ p H', H p = none → H' p = some (.tup [.int c, .int d]) → Same H H' → Q (.ref p) H'
theorem ok_frac (W : Wd K mg) : ∃ fd, FnOk P w K mg base CX0 1 (He.ga K "fraction") fd ["number"] (spFrac K) ∧ Binds K fd ["number"] [] := by
  obtain ⟨fd, F⟩ := W.F_fraction
  refine ⟨fd, F.ok scFrac (fun vs H Q E h => ?_) (fun cdv A outer s H vs Q E hr h => ?_), FunD.bindsN F fun _ _ _ _ _ _ us hl => match us, hl with | [_], _ => rfl⟩
  · obtain ⟨v, c, d, rfl, _⟩ := h
    rfl
  · obtain ⟨v, c, d, rfl, h, q⟩ := h
    refine ⟨_, PSs.nox (pss_cons (ps_if (pt_val (pe_callB isi_G (by rfl) W.f_isinstance boot_isinstance (pa_cons (pv 0) (pa_cons (pe_glob (v := .ref (He.ga K "Share")) rfl W.g_Share rfl) pa_nil))))
        (pss_one (ps_ret (pe_tup (pa_cons (pe_fld (pv 0) rfl) (pa_cons (pe_fld (pv 0) rfl) pa_nil))))) pss_nil)
      (pss_one (ps_ret (pe_tup (pa_cons (pv 0) (pa_cons pe_int pa_nil)))))), ?_⟩
    obtain ⟨t, b, ty, kn, k, _, hb⟩ := W.nuTy h
    simp -dsimp [tSeq, tAsg, tRet, tIfS, tIf, tTest, tVar, tCons, tNil, tC, tOp, tUn, rI, rI0, rU, tCB, tLst_A, tTup_A, gName, L2.start, CMul, CPow, CDiv, tDrop, tBM, tBM0, tNext, tPar, gSub, rSetL, rIxL, rIxT, tChain, tB, tNot, tNotV, tAnd, tOr, tAndV, tOrV, tFld, tCall, rIxLH, rIxTH, atI, ixN, upd_same, cxK, ex2, ex3, ex3b, rIs1, rIs2, rNe2, tyN, kb1, kb2, kb3, kb4, kb5, kb6, rEq, rNe, scal, tMake_S, tMakeK_S, tMakeN_S]
    refine ⟨_, _, t, _, b, rfl, .own _, ty, k, ?_⟩
    rcases hb with ⟨rfl, y, rfl, hy⟩ | ⟨rfl, rfl, rfl⟩
    · obtain ⟨dx, hd⟩ := id hy
      simp -dsimp [tSeq, tAsg, tRet, tIfS, tIf, tTest, tVar, tCons, tNil, tC, tOp, tUn, rI, rI0, rU, tCB, tLst_A, tTup_A, gName, L2.start, CMul, CPow, CDiv, tDrop, tBM, tBM0, tNext, tPar, gSub, rSetL, rIxL, rIxT, tChain, tB, tNot, tNotV, tAnd, tOr, tAndV, tOrV, tFld, tCall, rIxLH, rIxTH, atI, ixN, upd_same, cxK, ex2, ex3, ex3b, rIs1, rIs2, rNe2, tyN, kb1, kb2, kb3, kb4, kb5, kb6, rEq, rNe, scal, tMake_S, tMakeK_S, tMakeN_S, hd, shareO, W.cls_Share, W.n_Share_top, W.n_Share_bottom, look_top, look_bot]
      exact ⟨le2, Alloc.of q⟩
    · simp -dsimp [tSeq, tAsg, tRet, tIfS, tIf, tTest, tVar, tCons, tNil, tC, tOp, tUn, rI, rI0, rU, tCB, tLst_A, tTup_A, gName, L2.start, CMul, CPow, CDiv, tDrop, tBM, tBM0, tNext, tPar, gSub, rSetL, rIxL, rIxT, tChain, tB, tNot, tNotV, tAnd, tOr, tAndV, tOrV, tFld, tCall, rIxLH, rIxTH, atI, ixN, upd_same, cxK, ex2, ex3, ex3b, rIs1, rIs2, rNe2, tyN, kb1, kb2, kb3, kb4, kb5, kb6, rEq, rNe, scal, tMake_S, tMakeK_S, tMakeN_S]
      exact ⟨le2, Alloc.of q⟩
theorem scShareOf : FnScope ["number"] ["number"] d_share_of.scope := ⟨rfl, rfl, rfl, by decide +kernel, rfl, by decide +kernel, by decide +kernel⟩
def spShareOf (K : PySem.W.Frag) : Sp := fun vs H Q _ => ∃ (v : V) (c d : Int), vs = [v] ∧ Nu K H v c d ∧ ∀ z H', Same H H' → IsSh K H' z c d → Q (.ref z) H'
theorem ok_shareOf (W : Wd K mg) : ∃ fd, FnOk P w K mg base CX0 4 (He.ga K "share_of") fd ["number"] (spShareOf K) ∧ Binds K fd ["number"] [] := by
  obtain ⟨fdH, GH, FH⟩ := ok_init (P := P) (w := w) (base := base) W
  obtain ⟨ds1, v1, b1⟩ := bind2 FH
  obtain ⟨fd, F⟩ := W.F_share_of
  refine ⟨fd, F.ok scShareOf (fun vs H Q E h => ?_) (fun cdv A outer s H vs Q E hr h => ?_), FunD.bindsN F fun _ _ _ _ _ _ us hl => match us, hl with | [_], _ => rfl⟩
  · obtain ⟨v, c, d, rfl, _⟩ := h
    rfl
  · obtain ⟨v, c, d, rfl, h, q⟩ := h
    refine ⟨_, PSs.nox (pss_cons (ps_if (pt_val (pe_callB isi_G (by rfl) W.f_isinstance boot_isinstance (pa_cons (pv 0) (pa_cons (pe_glob (v := .ref (He.ga K "Share")) rfl W.g_Share rfl) pa_nil))))
        (pss_one (ps_ret (pv 0))) pss_nil)
      (pss_one (ps_ret (pe_make W.mkr_Share GH hr rfl W.g_Share b1 v1 pass0 (pa_cons (pv 0) pa_nil))))), ?_⟩
    obtain ⟨t, b, ty, kn, k, _, hb⟩ := W.nuTy h
    simp -dsimp [tSeq, tAsg, tRet, tIfS, tIf, tTest, tVar, tCons, tNil, tC, tOp, tUn, rI, rI0, rU, tCB, tLst_A, tTup_A, gName, L2.start, CMul, CPow, CDiv, tDrop, tBM, tBM0, tNext, tPar, gSub, rSetL, rIxL, rIxT, tChain, tB, tNot, tNotV, tAnd, tOr, tAndV, tOrV, tFld, tCall, rIxLH, rIxTH, atI, ixN, upd_same, cxK, ex2, ex3, ex3b, rIs1, rIs2, rNe2, tyN, kb1, kb2, kb3, kb4, kb5, kb6, rEq, rNe, scal, tMake_S, tMakeK_S, tMakeN_S]
    refine ⟨_, _, t, _, b, rfl, .own _, ty, k, ?_⟩
    rcases hb with ⟨rfl, y, rfl, hy⟩ | ⟨rfl, rfl, rfl⟩
    · exact .inr ⟨rfl, q y H (Same.refl _) hy⟩
    · refine .inl ⟨rfl, ?_⟩
      refine MkS.of rfl (by decide) (by decide +kernel) fun z H' _ i s' => ?_
      rw [(one_fd c).1, (one_fd c).2] at i
      exact q z H' s' i
def Sm (a b c d : Int) : Prop := a.natAbs < bigH ∧ b.natAbs < bigH ∧ c.natAbs < bigH ∧ d.natAbs < bigH
theorem scExcess : FnScope ["share", "number", "top", "bottom"] ["share", "number"] d_excess.scope := ⟨rfl, rfl, rfl, by decide +kernel, rfl, by decide +kernel, by decide +kernel⟩
def spExcess (K : PySem.W.Frag) : Sp := fun vs H Q _ => ∃ (x : Addr) (v : V) (a b c d : Int), vs = [.ref x, v] ∧ IsSh K H x a b ∧ Nu K H v c d ∧ Sm a b c d ∧ ∀ H', Same H H' → Q (.int (a * d - c * b)) H'
theorem ok_excess (W : Wd K mg) : ∃ fd, FnOk P w K mg base CX0 2 (He.ga K "excess") fd ["share", "number"] (spExcess K) ∧ Binds K fd ["share", "number"] [] := by
  obtain ⟨fdF, GF, bF⟩ := ok_frac (P := P) (w := w) (base := base) W
  have kF : PySem.W.keepIn K (.ref (He.ga K "fraction")) = true := by obtain ⟨fd, F⟩ := W.F_fraction; exact F.kp
  obtain ⟨fd, F⟩ := W.F_excess
  refine ⟨fd, F.ok scExcess (fun vs H Q E h => ?_) (fun cdv A outer s H vs Q E hr h => ?_), FunD.bindsN F fun _ _ _ _ _ _ us hl => match us, hl with | [_, _], _ => rfl⟩
  · obtain ⟨x, v, a, b, c, d, rfl, _⟩ := h
    rfl
  · obtain ⟨x, v, a, b, c, d, rfl, hx, hv, ⟨ha, hb, hc, hd⟩, q⟩ := h
    refine ⟨_, PSs.nox (pss_cons (ps_asg (pe_call GF hr rfl W.g_fraction kF bF .nil pass0 (pa_cons (pv 1) pa_nil)) (pg_tup rfl (pgs_cons (pg_name (i := 2) scExcess.nd rfl (Or.inl rfl)) (pgs_cons (pg_name (i := 3) scExcess.nd rfl (Or.inl rfl)) pgs_nil))))
      (pss_one (ps_ret (pe_op op_sub (pe_op op_mulX9 (pe_fld (pv 0) rfl) (pv 3)) (pe_op op_mulX9 (pv 2) (pe_fld (pv 0) rfl)))))), ?_⟩
    simp -dsimp [tSeq, tAsg, tRet, tIfS, tIf, tTest, tVar, tCons, tNil, tC, tOp, tUn, rI, rI0, rU, tCB, tLst_A, tTup_A, gName, L2.start, CMul, CPow, CDiv, tDrop, tBM, tBM0, tNext, tPar, gSub, rSetL, rIxL, rIxT, tChain, tB, tNot, tNotV, tAnd, tOr, tAndV, tOrV, tFld, tCall, rIxLH, rIxTH, atI, ixN, upd_same, cxK, ex2, ex3, ex3b, rIs1, rIs2, rNe2, tyN, kb1, kb2, kb3, kb4, kb5, kb6, rEq, rNe, scal, tMake_S, tMakeK_S, tMakeN_S]
    refine ⟨v, c, d, rfl, hv, fun p H1 np hp s1 => tup2 hp ?_⟩
    obtain ⟨dx, hx1⟩ := hx.same s1
    simp -dsimp [tSeq, tAsg, tRet, tIfS, tIf, tTest, tVar, tCons, tNil, tC, tOp, tUn, rI, rI0, rU, tCB, tLst_A, tTup_A, gName, L2.start, CMul, CPow, CDiv, tDrop, tBM, tBM0, tNext, tPar, gSub, rSetL, rIxL, rIxT, tChain, tB, tNot, tNotV, tAnd, tOr, tAndV, tOrV, tFld, tCall, rIxLH, rIxTH, atI, ixN, upd_same, cxK, ex2, ex3, ex3b, rIs1, rIs2, rNe2, tyN, kb1, kb2, kb3, kb4, kb5, kb6, rEq, rNe, scal, tMake_S, tMakeK_S, tMakeN_S, hx1, shareO, W.cls_Share, W.n_Share_top, W.n_Share_bottom, look_top, look_bot, h_lt_M ha, h_lt_M hb, h_lt_M hc, h_lt_M hd]
    exact q H1 s1
/-- what an own comparison promises of a number -/
def spCmp (K : PySem.W.Frag) (f : Int → Bool) : Sp := fun vs H Q _ => ∃ (x : Addr) (v : V) (a b c d : Int), vs = [.ref x, v] ∧ IsSh K H x a b ∧ Nu K H v c d ∧ Sm a b c d ∧ ∀ H', Same H H' → Q (.bl (f (a * d - c * b))) H'
theorem spCmp_len {K : PySem.W.Frag} {f : Int → Bool} {vs : List V} {H : Hp} {Q : VK} {E : XK} (h : spCmp K f vs H Q E) : vs.length = 2 := by
  obtain ⟨x, v, a, b, c, d, rfl, _⟩ := h
  rfl
/-- .. and __eq__ of other things -/
def spEqS (K : PySem.W.Frag) : Sp := fun vs H Q E => spCmp K (fun z => decide (z = 0)) vs H Q E ∨ ∃ (x : Addr) (a b : Int) (v : V) (t : Value), vs = [.ref x, v] ∧ IsSh K H x a b ∧ TyOf K H v t ∧ NuX.KN K t false ∧ Q (.bl false) H
def sc2 (sc : Scope) : Prop := FnScope ["self", "other"] ["self", "other"] sc
theorem sc_eq : FnScope ["self", "other"] ["self", "other"] d_Share_eq.scope := ⟨rfl, rfl, rfl, by decide +kernel, rfl, by decide +kernel, by decide +kernel⟩
theorem ok_eq (W : Wd K mg) : ∃ fd, FnOk P w K mg base CX0 3 (He.ma K (He.ga K "Share") "__eq__") fd ["self", "other"] (spEqS K) ∧ Binds K fd ["self", "other"] [] := by
  obtain ⟨fdN, GN, bN⟩ := ok_isNum (P := P) (w := w) (base := base) W
  obtain ⟨fdX, GX, bX⟩ := ok_excess (P := P) (w := w) (base := base) W
  have kN : PySem.W.keepIn K (.ref (He.ga K "is_number")) = true := by obtain ⟨fd, F⟩ := W.F_is_number; exact F.kp
  have kX : PySem.W.keepIn K (.ref (He.ga K "excess")) = true := by obtain ⟨fd, F⟩ := W.F_excess; exact F.kp
  obtain ⟨fd, F⟩ := W.F_Share_eq
  refine ⟨fd, F.ok sc_eq (fun vs H Q E h => ?_) (fun cdv A outer s H vs Q E hr h => ?_), FunD.bindsN F fun _ _ _ _ _ _ us hl => match us, hl with | [_, _], _ => rfl⟩
  · rcases h with h | ⟨x, a, b, v, t, rfl, _⟩
    · exact spCmp_len h
    · rfl
  · refine ⟨_, PSs.nox (pss_cons (ps_if (pt_not (pt_val (pe_call GN hr rfl W.g_is_number kN bN .nil pass0 (pa_cons (pv 1) pa_nil)))) (pss_one (ps_ret pe_bl)) pss_nil)
      (pss_one (ps_ret (pe_cmpR op_eq (pe_call GX hr rfl W.g_excess kX bX .nil pass0 (pa_cons (pv 0) (pa_cons (pv 1) pa_nil))) pe_int (nomark _))))), ?_⟩
    rcases h with ⟨x, v, a, b, c, d, rfl, hx, hv, hs, q⟩ | ⟨x, a, b, v, t, rfl, hx, ty, kn, q⟩
    · obtain ⟨t, bb, ty, kn, k, _, _⟩ := W.nuTy hv
      simp -dsimp [tSeq, tAsg, tRet, tIfS, tIf, tTest, tVar, tCons, tNil, tC, tOp, tUn, rI, rI0, rU, tCB, tLst_A, tTup_A, gName, L2.start, CMul, CPow, CDiv, tDrop, tBM, tBM0, tNext, tPar, gSub, rSetL, rIxL, rIxT, tChain, tB, tNot, tNotV, tAnd, tOr, tAndV, tOrV, tFld, tCall, rIxLH, rIxTH, atI, ixN, upd_same, cxK, ex2, ex3, ex3b, rIs1, rIs2, rNe2, tyN, kb1, kb2, kb3, kb4, kb5, kb6, rEq, rNe, scal, tMake_S, tMakeK_S, tMakeN_S]
      refine ⟨_, t, true, rfl, ty, kn, .inr ⟨rfl, _, _, a, b, c, d, rfl, hx, hv, hs, fun H' s' => ?_⟩⟩
      have e : decide (V.int (a * d - c * b) = V.int 0) = decide (a * d - c * b = 0) := by simp only [V.int.injEq]
      refine ⟨rfl, ?_⟩
      show Q (.bl (decide (V.int (a * d - c * b) = V.int 0))) H'
      rw [e]
      exact q H' s'
    · simp -dsimp [tSeq, tAsg, tRet, tIfS, tIf, tTest, tVar, tCons, tNil, tC, tOp, tUn, rI, rI0, rU, tCB, tLst_A, tTup_A, gName, L2.start, CMul, CPow, CDiv, tDrop, tBM, tBM0, tNext, tPar, gSub, rSetL, rIxL, rIxT, tChain, tB, tNot, tNotV, tAnd, tOr, tAndV, tOrV, tFld, tCall, rIxLH, rIxTH, atI, ixN, upd_same, cxK, ex2, ex3, ex3b, rIs1, rIs2, rNe2, tyN, kb1, kb2, kb3, kb4, kb5, kb6, rEq, rNe, scal, tMake_S, tMakeK_S, tMakeN_S]
      exact ⟨_, t, false, rfl, ty, kn, .inl ⟨rfl, q⟩⟩
end
/-! ### terms made -/
def tNo : TE := fun _ _ _ => False
theorem pe_no {X : Cx} {e : Expr} : PE X e tNo := ⟨fun _ _ _ _ _ _ h => h.elim⟩
def termO (C dx : Addr) (n t : V) : HO := .ins C dx [("number", n), ("times", t)]
section
variable {P : Program} {w : World} {K : PySem.W.Frag} {mg : Str → Option Value} {base : Heap}
theorem scTInit : FnScope ["self", "number", "times"] ["self", "number", "times"] d_Term_init.scope := ⟨rfl, rfl, rfl, by decide +kernel, rfl, by decide +kernel, by decide +kernel⟩
def spTInit (K : PySem.W.Frag) : Sp := fun vs H Q _ => ∃ (x dx : Addr) (n t : V), vs = [.ref x, n, t] ∧ H x = some (.ins (He.ga K "Term") dx []) ∧ Q .non (upd H x (termO (He.ga K "Term") dx n t))
theorem ok_tinit (W : Wd K mg) : ∃ fd, FnOk P w K mg base CX0 1 (He.ma K (He.ga K "Term") "__init__") fd ["self", "number", "times"] (spTInit K) ∧ Binds K fd ["self", "number", "times"] [] := by
  obtain ⟨fd, F⟩ := W.F_Term_init
  refine ⟨fd, F.ok scTInit (fun vs H Q E h => ?_) (fun cdv A outer s H vs Q E hr h => ?_), FunD.bindsN F fun _ _ _ _ _ _ us hl => match us, hl with | [_, _, _], _ => rfl⟩
  · obtain ⟨x, dx, n, t, rfl, _⟩ := h
    rfl
  · obtain ⟨x, dx, n, t, rfl, hx, q⟩ := h
    refine ⟨_, PSs.nox (pss_cons (ps_fld (pv 0) (pv 1) rfl) (pss_one (ps_fld (pv 0) (pv 2) rfl))), ?_⟩
    have pf : ∀ (u v : V), putF "times" v (putF "number" u []) = [(("number" : Str), u), (("times" : Str), v)] := fun u v => by
      show (if ("number" : Str) = "times" then [(("number" : Str), v)] else (("number" : Str), u) :: putF "times" v []) = _
      rw [if_neg (by decide +kernel)]
      rfl
    have pl : ∀ u : V, (putF "number" u []).length < 1000 := fun u => by
      show 1 < 1000
      decide
    simp -dsimp [tSeq, tAsg, tRet, tIfS, tIf, tTest, tVar, tCons, tNil, tC, tOp, tUn, rI, rI0, rU, tCB, tLst_A, tTup_A, gName, L2.start, CMul, CPow, CDiv, tDrop, tBM, tBM0, tNext, tPar, gSub, rSetL, rIxL, rIxT, tChain, tB, tNot, tNotV, tAnd, tOr, tAndV, tOrV, tFld, tCall, rIxLH, rIxTH, atI, ixN, upd_same, cxK, ex2, ex3, ex3b, rIs1, rIs2, rNe2, tyN, kb1, kb2, kb3, kb4, kb5, kb6, rEq, rNe, scal, tMake_S, tMakeK_S, tMakeN_S, sFld, hx, W.cls_Term, W.n_Term_number, W.n_Term_times, upd_upd, pf, pl]
    exact q
/-- a term is made of n and t -/
def MkT (K : PySem.W.Frag) (H : Hp) (vs : List V) (Q : V → Hp → Prop) (E : XK) (_ : Lk (Q, E) := ⟨⟩) : Prop :=
  ∀ x dx, H x = none → H dx = none → dx ≠ x → spTInit K (.ref x :: vs) (upd (upd H dx (.own x)) x (.ins (He.ga K "Term") dx [])) (fun v H2 => v = .non ∧ Q (.ref x) H2) E
theorem MkT.of {H : Hp} {vs : List V} {n t : V} {Q : V → Hp → Prop} {E : XK} (e : vs = [n, t]) (h : ∀ x dx H', H x = none → H' x = some (termO (He.ga K "Term") dx n t) → Same H H' → Q (.ref x) H') : MkT K H vs Q E := by
  intro x dx nx nd ne
  refine ⟨x, dx, n, t, by rw [e], upd_same, rfl, h x dx _ nx upd_same ?_⟩
  intro c o ec
  rw [upd_ne (ne_of_none ec nx), upd_ne (ne_of_none ec nx), upd_ne (ne_of_none ec nd)]
  exact ec
theorem tMake_T {E : XK} {t : TA} {σ : List (Option V)} {H : Hp} {Q : V → Hp → Prop} : tMake (He.ga K "Term") (spTInit K) [] E t σ H Q = t σ H fun vs H1 => MkT K H1 vs Q E := by
  show (t σ H fun vs H1 => MkT K H1 (vs ++ []) Q E) = _
  simp only [List.append_nil]
/-- a share: its two numbers as a pair -/
abbrev IsS (K : PySem.W.Frag) (H : Hp) (x : Addr) (p : Int × Int) : Prop := IsSh K H x p.1 p.2
/-- a term: its number and its multiples -/
def IsTm (K : PySem.W.Frag) (H : Hp) (x : Addr) (n t0 t1 t2 : Int × Int) : Prop := ∃ dx a tp a0 a1 a2, H x = some (termO (He.ga K "Term") dx (.ref a) (.ref tp)) ∧ IsS K H a n ∧ H tp = some (.tup [.ref a0, .ref a1, .ref a2]) ∧ IsS K H a0 t0 ∧ IsS K H a1 t1 ∧ IsS K H a2 t2
theorem IsTm.same {H H' : Hp} {x : Addr} {n t0 t1 t2 : Int × Int} (h : IsTm K H x n t0 t1 t2) (s : Same H H') : IsTm K H' x n t0 t1 t2 := by
  obtain ⟨dx, a, tp, a0, a1, a2, h1, h2, h3, h4, h5, h6⟩ := h
  exact ⟨dx, a, tp, a0, a1, a2, s _ _ h1, h2.same s, s _ _ h3, h4.same s, h5.same s, h6.same s⟩
theorem le3' : 3 ≤ sizeLine := by decide
theorem scConst : FnScope ["number"] ["number"] d_Term_constant.scope := ⟨rfl, rfl, rfl, by decide +kernel, rfl, by decide +kernel, by decide +kernel⟩
def spConst (K : PySem.W.Frag) : Sp := fun vs H Q _ => ∃ (v : V) (c d : Int), vs = [v] ∧ Nu K H v c d ∧ ∀ z H', Same H H' → IsTm K H' z (c, d) (0, 1) (0, 1) (0, 1) → Q (.ref z) H'
theorem zero_fd : (0 : Int).fdiv (side 0 1) = 0 ∧ (1 : Int).fdiv (side 0 1) = 1 := one_fd 0
theorem MkS.zero {H : Hp} {Q : V → Hp → Prop} {E : XK} (h : ∀ z H', Same H H' → IsSh K H' z 0 1 → Q (.ref z) H') : MkS K H [.int 0, .int 1] Q E := MkS.of rfl (by decide) (by decide +kernel) fun z H' _ i s' => h z H' s' (by
  rw [zero_fd.1, zero_fd.2] at i
  exact i)
theorem ok_const (W : Wd K mg) : ∃ fd, FnOk P w K mg base CX0 5 (He5.wf K (He.ga K "Term") "staticmethod" "constant") fd ["number"] (spConst K) ∧ Binds K fd ["number"] [] := by
  obtain ⟨fdH, GH, FH⟩ := ok_init (P := P) (w := w) (base := base) W
  obtain ⟨ds1, v1, b1⟩ := bind2 FH
  obtain ⟨fdO, GO, bO⟩ := ok_shareOf (P := P) (w := w) (base := base) W
  obtain ⟨fdT, GT, bT⟩ := ok_tinit (P := P) (w := w) (base := base) W
  have kO : PySem.W.keepIn K (.ref (He.ga K "share_of")) = true := by obtain ⟨fd, F⟩ := W.F_share_of; exact F.kp
  obtain ⟨fd, F⟩ := W.F_Term_constant
  refine ⟨fd, F.ok scConst (fun vs H Q E h => ?_) (fun cdv A outer s H vs Q E hr h => ?_), FunD.bindsN F fun _ _ _ _ _ _ us hl => match us, hl with | [_], _ => rfl⟩
  · obtain ⟨v, c, d, rfl, _⟩ := h
    rfl
  · obtain ⟨v, c, d, rfl, h, q⟩ := h
    have r3 : Room 3 _ := hr.mono (by decide)
    have r2 : Room 2 _ := hr.mono (by decide)
    refine ⟨_, PSs.nox (pss_one (ps_ret (pe_make W.mkr_Term GT r2 rfl W.g_Term bT .nil pass0 (pa_cons (pe_call GO hr rfl W.g_share_of kO bO .nil pass0 (pa_cons (pv 0) pa_nil))
      (pa_cons (pe_tup (pa_cons (pe_make W.mkr_Share GH r3 rfl W.g_Share b1 v1 pass0 (pa_cons pe_int pa_nil)) (pa_cons (pe_make W.mkr_Share GH r3 rfl W.g_Share b1 v1 pass0 (pa_cons pe_int pa_nil)) (pa_cons (pe_make W.mkr_Share GH r3 rfl W.g_Share b1 v1 pass0 (pa_cons pe_int pa_nil)) pa_nil)))) pa_nil))))), ?_⟩
    simp -dsimp [tSeq, tAsg, tRet, tIfS, tIf, tTest, tVar, tCons, tNil, tC, tOp, tUn, rI, rI0, rU, tCB, tLst_A, tTup_A, gName, L2.start, CMul, CPow, CDiv, tDrop, tBM, tBM0, tNext, tPar, gSub, rSetL, rIxL, rIxT, tChain, tB, tNot, tNotV, tAnd, tOr, tAndV, tOrV, tFld, tCall, rIxLH, rIxTH, atI, ixN, upd_same, cxK, ex2, ex3, ex3b, rIs1, rIs2, rNe2, tyN, kb1, kb2, kb3, kb4, kb5, kb6, rEq, rNe, scal, tMake_S, tMakeK_S, tMakeN_S, tMake_T]
    refine ⟨v, c, d, rfl, h, fun a H1 s1 i1 => ?_⟩
    refine MkS.zero fun a0 H2 s2 i2 => MkS.zero fun a1 H3 s3 i3 => MkS.zero fun a2 H4 s4 i4 => ⟨le3', Alloc.of fun tp H5 n5 e5 s5 => MkT.of rfl fun x dx H6 n6 e6 s6 => ?_⟩
    have s56 := s5.trans s6
    exact q x H6 ((((s1.trans s2).trans s3).trans s4).trans s56) ⟨dx, a, tp, a0, a1, a2, e6, i1.same (((s2.trans s3).trans s4).trans s56), s6 _ _ e5, i2.same ((s3.trans s4).trans s56), i3.same (s4.trans s56), i4.same s56⟩
theorem Wd.isTm (W : Wd K mg) {H : Hp} {x : Addr} {n t0 t1 t2 : Int × Int} (h : IsTm K H x n t0 t1 t2) : TyOf K H (.ref x) (.ref (He.ga K "Term")) := by
  obtain ⟨dx, a, tp, a0, a1, a2, h1, _⟩ := h
  exact .ins h1 W.cls_Term (He.eqO_ok (W.ex 5 rfl)) (He.eqO_ok (W.ex 1 rfl)) (of_decide_eq_true (W.ex 2 rfl)) (of_decide_eq_true (W.ex 6 rfl))
theorem scTEq : FnScope ["self", "other"] ["self", "other"] d_Term_eq.scope := ⟨rfl, rfl, rfl, by decide +kernel, rfl, by decide +kernel, by decide +kernel⟩
/-- term == x, x a thing that is no term -/
def spTEqNo (K : PySem.W.Frag) : Sp := fun vs H Q _ => ∃ (x : Addr) (v : V) (t : Value), vs = [.ref x, v] ∧ TyOf K H v t ∧ PySem.W.kitOne K t (.ref (He.ga K "Term")) = some false ∧ Q (.bl false) H
theorem ok_teqNo (W : Wd K mg) : ∃ fd, FnOk P w K mg base CX0 1 (He.ma K (He.ga K "Term") "__eq__") fd ["self", "other"] (spTEqNo K) ∧ Binds K fd ["self", "other"] [] := by
  obtain ⟨fd, F⟩ := W.F_Term_eq
  refine ⟨fd, F.ok scTEq (fun vs H Q E h => ?_) (fun cdv A outer s H vs Q E hr h => ?_), FunD.bindsN F fun _ _ _ _ _ _ us hl => match us, hl with | [_, _], _ => rfl⟩
  · obtain ⟨x, v, t, rfl, _⟩ := h
    rfl
  · obtain ⟨x, v, t, rfl, ty, k, q⟩ := h
    refine ⟨_, PSs.nox (pss_one (ps_ret (pe_and (pe_callB isi_G (by rfl) W.f_isinstance boot_isinstance (pa_cons (pv 1) (pa_cons (pe_glob (v := .ref (He.ga K "Term")) rfl W.g_Term rfl) pa_nil))) pe_no))), ?_⟩
    simp -dsimp [tSeq, tAsg, tRet, tIfS, tIf, tTest, tVar, tCons, tNil, tC, tOp, tUn, rI, rI0, rU, tCB, tLst_A, tTup_A, gName, L2.start, CMul, CPow, CDiv, tDrop, tBM, tBM0, tNext, tPar, gSub, rSetL, rIxL, rIxT, tChain, tB, tNot, tNotV, tAnd, tOr, tAndV, tOrV, tFld, tCall, rIxLH, rIxTH, atI, ixN, upd_same, cxK, ex2, ex3, ex3b, rIs1, rIs2, rNe2, tyN, kb1, kb2, kb3, kb4, kb5, kb6, rEq, rNe, scal, tMake_S, tMakeK_S, tMakeN_S, tNo]
    exact ⟨_, _, t, _, false, rfl, .own _, ty, k, rfl, q⟩
end
section
variable {P : Program} {w : World} {K : PySem.W.Frag} {mg : Str → Option Value} {base : Heap}
theorem scRatio : FnScope ["_law_draws", "_law_up", "_law_way", "_law_down"] ["_law_draws"] d_ratio.scope := ⟨rfl, rfl, rfl, by decide +kernel, rfl, by decide +kernel, by decide +kernel⟩
def spRatio (K : PySem.W.Frag) : Sp := fun vs H Q _ => ∃ (l : Addr) (d0 d1 d2 : Int), vs = [.ref l] ∧ H l = some (draws d0 d1 d2) ∧ ∀ (e0 e1 e2 : Int) (p : Addr) (H' : Hp) (v : V) (t : Addr) (c d : Int), Same (upd H l (draws e0 e1 e2)) H' →
  H' p = some (.tup [v, .ref t]) → H' t = some (.tup [.int c, .int d]) → Nu K H' v c d → Low c d → c.natAbs < 1000000000000 → d.natAbs < 1000000000000 → Q (.ref p) H'
theorem low_one (c : Int) : Low c 1 := ⟨by decide, Int.gcd_one⟩
theorem ok_ratio (W : Wd K mg) : ∃ fd, FnOk P w K mg base CX0 4 (He.ga K "_law_ratio") fd ["_law_draws"] (spRatio K) ∧ Binds K fd ["_law_draws"] [] := by
  obtain ⟨fdI, GI, bI⟩ := ok_integer (P := P) (w := w) (base := base) W
  obtain ⟨fdD, GD, bD⟩ := ok_draw (P := P) (w := w) (base := base) W
  obtain ⟨fdL, GL, bL⟩ := ok_lowest (P := P) (w := w) (base := base) W
  obtain ⟨fdH, GH, FH⟩ := ok_init (P := P) (w := w) (base := base) W
  have kI : PySem.W.keepIn K (.ref (He.ga K "_law_integer")) = true := by obtain ⟨fd, F⟩ := W.F_integer; exact F.kp
  have kD : PySem.W.keepIn K (.ref (He.ga K "_law_draw")) = true := by obtain ⟨fd, F⟩ := W.F_draw; exact F.kp
  have kL : PySem.W.keepIn K (.ref (He.ga K "_law_lowest")) = true := by obtain ⟨fd, F⟩ := W.F_lowest; exact F.kp
  obtain ⟨fd, F⟩ := W.F_ratio
  refine ⟨fd, F.ok scRatio (fun vs H Q E h => ?_) (fun cdv A outer s H vs Q E hr h => ?_), FunD.bindsN F fun _ _ _ _ _ _ us hl => match us, hl with | [_], _ => rfl⟩
  · obtain ⟨l, d0, d1, d2, rfl, _⟩ := h
    rfl
  · obtain ⟨l, d0, d1, d2, rfl, hl, q⟩ := h
    have r1 : Room 1 _ := hr.mono (by decide)
    have r2 : Room 2 _ := hr.mono (by decide)
    refine ⟨_, PSs.nox (pss_cons (ps_par (i := 1) (j := 2) rfl scRatio.nd rfl rfl (by decide) rfl rfl (pa_cons (pe_call GI r2 rfl W.g_law_integer kI bI .nil pass0 (pa_cons (pv 0) pa_nil)) (pa_cons (pe_call GD r1 rfl W.g_law_draw kD bD .nil pass0 (pa_cons (pv 0) (pa_cons pe_int pa_nil))) pa_nil)) rfl)
      (pss_cons (ps_if (pt_cmpR op_lt (pv 2) pe_int (nomark _)) (pss_one (ps_ret (pe_tup (pa_cons (pv 1) (pa_cons (pe_tup (pa_cons (pv 1) (pa_cons pe_int pa_nil))) pa_nil))))) pss_nil)
      (pss_cons (ps_set (i := 3) scRatio.nd rfl (Or.inl rfl) (pe_ifExp (pt_cmpR op_eq (pv 2) pe_int (nomark _)) (pe_op op_add pe_int (pe_call GD r1 rfl W.g_law_draw kD bD .nil pass0 (pa_cons (pv 0) (pa_cons pe_int pa_nil))))
        (pe_op op_sub (pe_un un_neg pe_int) (pe_call GD r1 rfl W.g_law_draw kD bD .nil pass0 (pa_cons (pv 0) (pa_cons (pe_op op_sub (pe_op op_pow pe_int pe_int) pe_int) pa_nil))))))
      (pss_one (ps_ret (pe_tup (pa_cons (pe_make W.mkr_Share GH hr rfl W.g_Share (bind3 FH) .nil pass0 (pa_cons (pv 1) (pa_cons (pv 3) pa_nil))) (pa_cons (pe_call GL r1 rfl W.g_law_lowest kL bL .nil pass0 (pa_cons (pv 1) (pa_cons (pv 3) pa_nil))) pa_nil)))))))), ?_⟩
    simp -dsimp [tSeq, tAsg, tRet, tIfS, tIf, tTest, tVar, tCons, tNil, tC, tOp, tUn, rI, rI0, rU, tCB, tLst_A, tTup_A, gName, L2.start, CMul, CPow, CDiv, tDrop, tBM, tBM0, tNext, tPar, gSub, rSetL, rIxL, rIxT, tChain, tB, tNot, tNotV, tAnd, tOr, tAndV, tOrV, tFld, tCall, rIxLH, rIxTH, atI, ixN, upd_same, cxK, ex2, ex3, ex3b, rIs1, rIs2, rNe2, tyN, kb1, kb2, kb3, kb4, kb5, kb6, rEq, rNe, scal, tMake_S, tMakeK_S, tMakeN_S]
    refine ⟨l, d0, d1, d2, rfl, hl, fun up f0 f1 f2 hup => ?_⟩
    refine ⟨l, f0, f1, f2, 4, rfl, upd_same, by decide, by decide, fun way g0 g1 g2 w0 w1 => ?_⟩
    rw [upd_upd]
    have fin : ∀ (dn k0 k1 k2 : Int), dn ≠ 0 → dn.natAbs < 1000000000000 → MkS K (upd H l (draws k0 k1 k2)) [.int up, .int dn] (fun x H1 => spLowest K [.int up, .int dn] H1 (fun y H2 => 2 ≤ sizeLine ∧ Alloc H2 (.tup [x, y]) Q) E0) E0 := by
      intro dn k0 k1 k2 n0 nb
      have bd : dn.natAbs < big9 := big_of (Nat.lt_trans nb (by decide))
      refine MkS.of rfl n0 bd fun x H1 n1 i1 s1 => ?_
      refine ⟨up, dn, rfl, n0, bd, fun t nt => ⟨le2, Alloc.of fun p H3 np hp s3 => ?_⟩⟩
      obtain ⟨sd1, sd2, sd3⟩ := side_facts up dn n0
      exact q k0 k1 k2 p H3 (.ref x) t _ _ ((s1.trans (same_upd nt)).trans s3) hp (s3 _ _ upd_same) (.inl ⟨x, rfl, (i1.same (same_upd nt)).same s3⟩) (low_lo n0)
        (Nat.lt_of_le_of_lt (fdiv_le sd1 sd3) hup) (Nat.lt_of_le_of_lt (fdiv_le sd2 sd3) nb)
    simp -dsimp [tSeq, tAsg, tRet, tIfS, tIf, tTest, tVar, tCons, tNil, tC, tOp, tUn, rI, rI0, rU, tCB, tLst_A, tTup_A, gName, L2.start, CMul, CPow, CDiv, tDrop, tBM, tBM0, tNext, tPar, gSub, rSetL, rIxL, rIxT, tChain, tB, tNot, tNotV, tAnd, tOr, tAndV, tOrV, tFld, tCall, rIxLH, rIxTH, atI, ixN, upd_same, cxK, ex2, ex3, ex3b, rIs1, rIs2, rNe2, tyN, kb1, kb2, kb3, kb4, kb5, kb6, rEq, rNe, scal, tMake_S, tMakeK_S, tMakeN_S]
    split
    · refine ⟨le2, Alloc.of fun t H1 n1 h1 s1 => ⟨le2, Alloc.of fun p H2 n2 h2 s2 => ?_⟩⟩
      exact q g0 g1 g2 p H2 (.int up) t up 1 (s1.trans s2) h2 (s2 _ _ h1) (.inr ⟨rfl, rfl⟩) (low_one up) hup (by decide)
    · split
      · refine ⟨l, g0, g1, g2, 12, rfl, upd_same, by decide, by decide, fun r k0 k1 k2 r0 r1' => ⟨_, rfl, ?_⟩⟩
        rw [upd_upd]
        exact fin _ _ _ _ (by omega) (by omega)
      · refine ⟨l, g0, g1, g2, 999999999999, rfl, upd_same, by decide, by decide, fun r k0 k1 k2 r0 r1' => ⟨_, rfl, ?_⟩⟩
        rw [upd_upd]
        exact fin _ _ _ _ (by omega) (by omega)
end
/-! ### shares' operators -/
section
variable {P : Program} {w : World} {K : PySem.W.Frag} {mg : Str → Option Value} {base : Heap}
/-- what an own def for an operator promises: f over g of the two numbers' parts -/
def spBin (K : PySem.W.Frag) (f g : Int → Int → Int → Int → Int) : Sp := fun vs H Q _ => ∃ (x : Addr) (v : V) (a b c d : Int), vs = [.ref x, v] ∧ IsSh K H x a b ∧ Nu K H v c d ∧ Sm a b c d ∧ g a b c d ≠ 0 ∧ Res K H (f a b c d) (g a b c d) Q
theorem spBin_len {K : PySem.W.Frag} {f g : Int → Int → Int → Int → Int} {vs : List V} {H : Hp} {Q : VK} {E : XK} (h : spBin K f g vs H Q E) : vs.length = 2 := by
  obtain ⟨x, v, a, b, c, d, rfl, _⟩ := h
  rfl
def fAdd (a b c d : Int) : Int := a * d + c * b
def fSub (a b c d : Int) : Int := a * d - c * b
def fMul (a _b c _d : Int) : Int := a * c
def gMul (_a b _c d : Int) : Int := b * d
theorem gMul9 {a b c d : Int} (h : Sm a b c d) : (b * d).natAbs < big9 := by
  have := mul_h h.2.1 h.2.2.2
  omega
theorem scAdd : FnScope ["self", "other", "top", "bottom"] ["self", "other"] d_Share_add.scope := ⟨rfl, rfl, rfl, by decide +kernel, rfl, by decide +kernel, by decide +kernel⟩
theorem ok_add (W : Wd K mg) : ∃ fd, FnOk P w K mg base CX0 4 (He.ma K (He.ga K "Share") "__add__") fd ["self", "other"] (spBin K fAdd gMul) ∧ Binds K fd ["self", "other"] [] := by
  obtain ⟨fdH, GH, FH⟩ := ok_init (P := P) (w := w) (base := base) W
  obtain ⟨fdN, GN, bN⟩ := ok_isNum (P := P) (w := w) (base := base) W
  obtain ⟨fdF, GF, bF⟩ := ok_frac (P := P) (w := w) (base := base) W
  have kN : PySem.W.keepIn K (.ref (He.ga K "is_number")) = true := by obtain ⟨fd, F⟩ := W.F_is_number; exact F.kp
  have kF : PySem.W.keepIn K (.ref (He.ga K "fraction")) = true := by obtain ⟨fd, F⟩ := W.F_fraction; exact F.kp
  obtain ⟨fd, F⟩ := W.F_Share_add
  refine ⟨fd, F.ok scAdd (fun vs H Q E h => spBin_len h) (fun cdv A outer s H vs Q E hr h => ?_), FunD.bindsN F fun _ _ _ _ _ _ us hl => match us, hl with | [_, _], _ => rfl⟩
  obtain ⟨x, v, a, b, c, d, rfl, hx, hv, hs, hz, q⟩ := h
  have hs' := hs
  obtain ⟨ha, hb, hc, hd⟩ := hs'
  have r1 : Room 1 _ := hr.mono (by decide)
  have r2 : Room 2 _ := hr.mono (by decide)
  refine ⟨_, PSs.nox (pss_cons (ps_if (pt_not (pt_val (pe_call GN r2 rfl W.g_is_number kN bN .nil pass0 (pa_cons (pv 1) pa_nil)))) pss_never pss_nil)
    (pss_cons (ps_asg (pe_call GF r1 rfl W.g_fraction kF bF .nil pass0 (pa_cons (pv 1) pa_nil)) (pg_tup rfl (pgs_cons (pg_name (i := 2) scAdd.nd rfl (Or.inl rfl)) (pgs_cons (pg_name (i := 3) scAdd.nd rfl (Or.inl rfl)) pgs_nil))))
    (pss_one (ps_ret (pe_make W.mkr_Share GH hr rfl W.g_Share (bind3 FH) .nil pass0 (pa_cons (pe_op op_add (pe_op op_mulX9 (pe_fld (pv 0) rfl) (pv 3)) (pe_op op_mulX9 (pv 2) (pe_fld (pv 0) rfl))) (pa_cons (pe_op op_mulX9 (pe_fld (pv 0) rfl) (pv 3)) pa_nil))))))), ?_⟩
  obtain ⟨tt, bb, ty, kn, kk, _, _⟩ := W.nuTy hv
  simp -dsimp [tSeq, tAsg, tRet, tIfS, tIf, tTest, tVar, tCons, tNil, tC, tOp, tUn, rI, rI0, rU, tCB, tLst_A, tTup_A, gName, L2.start, CMul, CPow, CDiv, tDrop, tBM, tBM0, tNext, tPar, gSub, rSetL, rIxL, rIxT, tChain, tB, tNot, tNotV, tAnd, tOr, tAndV, tOrV, tFld, tCall, rIxLH, rIxTH, atI, ixN, upd_same, cxK, ex2, ex3, ex3b, rIs1, rIs2, rNe2, tyN, kb1, kb2, kb3, kb4, kb5, kb6, rEq, rNe, scal, tMake_S, tMakeK_S, tMakeN_S]
  refine ⟨_, tt, true, rfl, ty, kn, .inr ⟨rfl, v, c, d, rfl, hv, fun p H1 np hp s1 => tup2 hp ?_⟩⟩
  obtain ⟨dx, hx1⟩ := hx.same s1
  simp -dsimp [tSeq, tAsg, tRet, tIfS, tIf, tTest, tVar, tCons, tNil, tC, tOp, tUn, rI, rI0, rU, tCB, tLst_A, tTup_A, gName, L2.start, CMul, CPow, CDiv, tDrop, tBM, tBM0, tNext, tPar, gSub, rSetL, rIxL, rIxT, tChain, tB, tNot, tNotV, tAnd, tOr, tAndV, tOrV, tFld, tCall, rIxLH, rIxTH, atI, ixN, upd_same, cxK, ex2, ex3, ex3b, rIs1, rIs2, rNe2, tyN, kb1, kb2, kb3, kb4, kb5, kb6, rEq, rNe, scal, tMake_S, tMakeK_S, tMakeN_S, hx1, shareO, W.cls_Share, W.n_Share_top, W.n_Share_bottom, look_top, look_bot, h_lt_M ha, h_lt_M hb, h_lt_M hc, h_lt_M hd]
  exact MkS.res s1 rfl hz (gMul9 hs) q
end
section
variable {P : Program} {w : World} {K : PySem.W.Frag} {mg : Str → Option Value} {base : Heap}
abbrev aS (K : PySem.W.Frag) (m : Str) : Addr := He.ma K (He.ga K "Share") m
abbrev aT (K : PySem.W.Frag) (m : Str) : Addr := He.ma K (He.ga K "Term") m
theorem Wd.opAdd (W : Wd K mg) : OpAt K (He.ga K "Share") "add" (aS K "__add__") (aS K "__radd__") :=
  ⟨W.e_firstShare, W.m_Share_add.at_, W.m_Share_add.fn, W.m_Share_radd.at_, W.m_Share_radd.fn, of_decide_eq_true W.e_notIntShare, of_decide_eq_true W.e_intNotShare, W.e_mro2Share, W.e_opShareadd, PySem.F.fills_int_add, OpX.dec_add⟩
theorem Wd.opSub (W : Wd K mg) : OpAt K (He.ga K "Share") "sub" (aS K "__sub__") (aS K "__rsub__") :=
  ⟨W.e_firstShare, W.m_Share_sub.at_, W.m_Share_sub.fn, W.m_Share_rsub.at_, W.m_Share_rsub.fn, of_decide_eq_true W.e_notIntShare, of_decide_eq_true W.e_intNotShare, W.e_mro2Share, W.e_opSharesub, PySem.F.fills_int_sub, OpX.dec_sub⟩
theorem Wd.opMul (W : Wd K mg) : OpAt K (He.ga K "Share") "mul" (aS K "__mul__") (aS K "__rmul__") :=
  ⟨W.e_firstShare, W.m_Share_mul.at_, W.m_Share_mul.fn, W.m_Share_rmul.at_, W.m_Share_rmul.fn, of_decide_eq_true W.e_notIntShare, of_decide_eq_true W.e_intNotShare, W.e_mro2Share, W.e_opSharemul, PySem.F.fills_int_mul, OpX.dec_mul⟩
theorem Wd.tpAdd (W : Wd K mg) : OpAt K (He.ga K "Term") "add" (aT K "__add__") (aT K "__radd__") :=
  ⟨W.e_firstTerm, W.m_Term_add.at_, W.m_Term_add.fn, W.m_Term_radd.at_, W.m_Term_radd.fn, of_decide_eq_true W.e_notIntTerm, of_decide_eq_true W.e_intNotTerm, W.e_mro2Term, W.e_opTermadd, PySem.F.fills_int_add, OpX.dec_add⟩
theorem Wd.tpSub (W : Wd K mg) : OpAt K (He.ga K "Term") "sub" (aT K "__sub__") (aT K "__rsub__") :=
  ⟨W.e_firstTerm, W.m_Term_sub.at_, W.m_Term_sub.fn, W.m_Term_rsub.at_, W.m_Term_rsub.fn, of_decide_eq_true W.e_notIntTerm, of_decide_eq_true W.e_intNotTerm, W.e_mro2Term, W.e_opTermsub, PySem.F.fills_int_sub, OpX.dec_sub⟩
theorem Wd.tpMul (W : Wd K mg) : OpAt K (He.ga K "Term") "mul" (aT K "__mul__") (aT K "__rmul__") :=
  ⟨W.e_firstTerm, W.m_Term_mul.at_, W.m_Term_mul.fn, W.m_Term_rmul.at_, W.m_Term_rmul.fn, of_decide_eq_true W.e_notIntTerm, of_decide_eq_true W.e_intNotTerm, W.e_mro2Term, W.e_opTermmul, PySem.F.fills_int_mul, OpX.dec_mul⟩
theorem Wd.neST (W : Wd K mg) : He.ga K "Share" ≠ He.ga K "Term" := fun e => by
  have h1 := of_decide_eq_true (W.ex 18 rfl)
  have h2 := of_decide_eq_true (W.ex 30 rfl)
  rw [e] at h1
  rw [h1] at h2
  cases h2
theorem Nu.ins {H : Hp} {v : V} {c d : Int} (h : Nu K H v c d) : (∃ (b dy : Addr) (gs : List (Str × V)), v = .ref b ∧ H b = some (.ins (He.ga K "Share") dy gs)) ∨ ∃ i : Int, v = .int i := by
  rcases h with ⟨y, e, dx, h⟩ | ⟨e, _⟩
  · exact .inl ⟨y, dx, _, e, h⟩
  · exact .inr ⟨c, e⟩
theorem scTwo {sc : Scope} {vs ps : List Str} (h : FnScope vs ps sc) : FnScope vs ps sc := h
theorem scRadd : FnScope ["self", "other"] ["self", "other"] d_Share_radd.scope := ⟨rfl, rfl, rfl, by decide +kernel, rfl, by decide +kernel, by decide +kernel⟩
theorem ok_radd (W : Wd K mg) : ∃ fd, FnOk P w K mg base CX0 5 (aS K "__radd__") fd ["self", "other"] (spBin K fAdd gMul) ∧ Binds K fd ["self", "other"] [] := by
  obtain ⟨fdA, GA, bA⟩ := ok_add (P := P) (w := w) (base := base) W
  obtain ⟨fdN, GN, bN⟩ := ok_isNum (P := P) (w := w) (base := base) W
  have kN : PySem.W.keepIn K (.ref (He.ga K "is_number")) = true := by obtain ⟨fd, F⟩ := W.F_is_number; exact F.kp
  obtain ⟨fd, F⟩ := W.F_Share_radd
  refine ⟨fd, F.ok scRadd (fun vs H Q E h => spBin_len h) (fun cdv A outer s H vs Q E hr h => ?_), FunD.bindsN F fun _ _ _ _ _ _ us hl => match us, hl with | [_, _], _ => rfl⟩
  obtain ⟨x, v, a, b, c, d, rfl, hx, hv, hs, hz, q⟩ := h
  have r2 : Room 2 _ := hr.mono (by decide)
  refine ⟨_, PSs.nox (pss_cons (ps_if (pt_not (pt_val (pe_call GN r2 rfl W.g_is_number kN bN .nil pass0 (pa_cons (pv 1) pa_nil)))) pss_never pss_nil)
    (pss_one (ps_ret (pe_op (op_L W.opAdd (FnOk.raw GA bA .nil) hr pass0) (pv 0) (pv 1))))), ?_⟩
  obtain ⟨tt, bb, ty, kn, kk, _, _⟩ := W.nuTy hv
  simp -dsimp [tSeq, tAsg, tRet, tIfS, tIf, tTest, tVar, tCons, tNil, tC, tOp, tUn, rI, rI0, rU, tCB, tLst_A, tTup_A, gName, L2.start, CMul, CPow, CDiv, tDrop, tBM, tBM0, tNext, tPar, gSub, rSetL, rIxL, rIxT, tChain, tB, tNot, tNotV, tAnd, tOr, tAndV, tOrV, tFld, tCall, rIxLH, rIxTH, atI, ixN, upd_same, cxK, ex2, ex3, ex3b, rIs1, rIs2, rNe2, tyN, kb1, kb2, kb3, kb4, kb5, kb6, rEq, rNe, scal, tMake_S, tMakeK_S, tMakeN_S]
  obtain ⟨dx, hd⟩ := id hx
  exact ⟨_, tt, true, rfl, ty, kn, .inr ⟨rfl, x, dx, _, rfl, hd, hv.ins, x, v, a, b, c, d, rfl, hx, hv, hs, hz, q⟩⟩
theorem scSub : FnScope ["self", "other"] ["self", "other"] d_Share_sub.scope := ⟨rfl, rfl, rfl, by decide +kernel, rfl, by decide +kernel, by decide +kernel⟩
theorem ok_sub (W : Wd K mg) : ∃ fd, FnOk P w K mg base CX0 4 (aS K "__sub__") fd ["self", "other"] (spBin K fSub gMul) ∧ Binds K fd ["self", "other"] [] := by
  obtain ⟨fdH, GH, FH⟩ := ok_init (P := P) (w := w) (base := base) W
  obtain ⟨fdN, GN, bN⟩ := ok_isNum (P := P) (w := w) (base := base) W
  obtain ⟨fdF, GF, bF⟩ := ok_frac (P := P) (w := w) (base := base) W
  obtain ⟨fdX, GX, bX⟩ := ok_excess (P := P) (w := w) (base := base) W
  have kN : PySem.W.keepIn K (.ref (He.ga K "is_number")) = true := by obtain ⟨fd, F⟩ := W.F_is_number; exact F.kp
  have kF : PySem.W.keepIn K (.ref (He.ga K "fraction")) = true := by obtain ⟨fd, F⟩ := W.F_fraction; exact F.kp
  have kX : PySem.W.keepIn K (.ref (He.ga K "excess")) = true := by obtain ⟨fd, F⟩ := W.F_excess; exact F.kp
  obtain ⟨fd, F⟩ := W.F_Share_sub
  refine ⟨fd, F.ok scSub (fun vs H Q E h => spBin_len h) (fun cdv A outer s H vs Q E hr h => ?_), FunD.bindsN F fun _ _ _ _ _ _ us hl => match us, hl with | [_, _], _ => rfl⟩
  obtain ⟨x, v, a, b, c, d, rfl, hx, hv, hs, hz, q⟩ := h
  have hs' := hs
  obtain ⟨ha, hb, hc, hd⟩ := hs'
  have r1 : Room 1 _ := hr.mono (by decide)
  have r2 : Room 2 _ := hr.mono (by decide)
  refine ⟨_, PSs.nox (pss_cons (ps_if (pt_not (pt_val (pe_call GN r2 rfl W.g_is_number kN bN .nil pass0 (pa_cons (pv 1) pa_nil)))) pss_never pss_nil)
    (pss_one (ps_ret (pe_make W.mkr_Share GH hr rfl W.g_Share (bind3 FH) .nil pass0 (pa_cons (pe_call GX r2 rfl W.g_excess kX bX .nil pass0 (pa_cons (pv 0) (pa_cons (pv 1) pa_nil)))
      (pa_cons (pe_op op_mulX9 (pe_fld (pv 0) rfl) (pe_ix ix_tupH (pe_call GF r1 rfl W.g_fraction kF bF .nil pass0 (pa_cons (pv 1) pa_nil)) pe_int (fun _ _ => rfl))) pa_nil)))))), ?_⟩
  obtain ⟨tt, bb, ty, kn, kk, _, _⟩ := W.nuTy hv
  simp -dsimp [tSeq, tAsg, tRet, tIfS, tIf, tTest, tVar, tCons, tNil, tC, tOp, tUn, rI, rI0, rU, tCB, tLst_A, tTup_A, gName, L2.start, CMul, CPow, CDiv, tDrop, tBM, tBM0, tNext, tPar, gSub, rSetL, rIxL, rIxT, tChain, tB, tNot, tNotV, tAnd, tOr, tAndV, tOrV, tFld, tCall, rIxLH, rIxTH, atI, ixN, upd_same, cxK, ex2, ex3, ex3b, rIs1, rIs2, rNe2, tyN, kb1, kb2, kb3, kb4, kb5, kb6, rEq, rNe, scal, tMake_S, tMakeK_S, tMakeN_S]
  refine ⟨_, tt, true, rfl, ty, kn, .inr ⟨rfl, x, v, a, b, c, d, rfl, hx, hv, hs, fun H1 s1 => ?_⟩⟩
  obtain ⟨dx, hx1⟩ := hx.same s1
  simp -dsimp [tSeq, tAsg, tRet, tIfS, tIf, tTest, tVar, tCons, tNil, tC, tOp, tUn, rI, rI0, rU, tCB, tLst_A, tTup_A, gName, L2.start, CMul, CPow, CDiv, tDrop, tBM, tBM0, tNext, tPar, gSub, rSetL, rIxL, rIxT, tChain, tB, tNot, tNotV, tAnd, tOr, tAndV, tOrV, tFld, tCall, rIxLH, rIxTH, atI, ixN, upd_same, cxK, ex2, ex3, ex3b, rIs1, rIs2, rNe2, tyN, kb1, kb2, kb3, kb4, kb5, kb6, rEq, rNe, scal, tMake_S, tMakeK_S, tMakeN_S, hx1, shareO, W.cls_Share, W.n_Share_top, W.n_Share_bottom, look_top, look_bot]
  refine ⟨v, c, d, rfl, hv.same s1, fun p H2 np hp s2 => ?_⟩
  simp -dsimp [tSeq, tAsg, tRet, tIfS, tIf, tTest, tVar, tCons, tNil, tC, tOp, tUn, rI, rI0, rU, tCB, tLst_A, tTup_A, gName, L2.start, CMul, CPow, CDiv, tDrop, tBM, tBM0, tNext, tPar, gSub, rSetL, rIxL, rIxT, tChain, tB, tNot, tNotV, tAnd, tOr, tAndV, tOrV, tFld, tCall, rIxLH, rIxTH, atI, ixN, upd_same, cxK, ex2, ex3, ex3b, rIs1, rIs2, rNe2, tyN, kb1, kb2, kb3, kb4, kb5, kb6, rEq, rNe, scal, tMake_S, tMakeK_S, tMakeN_S, hp, h_lt_M hb, h_lt_M hd]
  exact MkS.res (s1.trans s2) rfl hz (gMul9 hs) q
def fRsub (a b c d : Int) : Int := c * b - a * d
def gRev (_a b _c d : Int) : Int := d * b
theorem scRsub : FnScope ["self", "other"] ["self", "other"] d_Share_rsub.scope := ⟨rfl, rfl, rfl, by decide +kernel, rfl, by decide +kernel, by decide +kernel⟩
theorem Res.same {H H' : Hp} {p q : Int} {Q : V → Hp → Prop} (s : Same H H') (h : Res K H p q Q) : Res K H' p q Q := fun z H2 s2 i => h z H2 (s.trans s2) i
theorem ok_rsub (W : Wd K mg) : ∃ fd, FnOk P w K mg base CX0 5 (aS K "__rsub__") fd ["self", "other"] (spBin K fRsub gRev) ∧ Binds K fd ["self", "other"] [] := by
  obtain ⟨fdA, GA, bA⟩ := ok_sub (P := P) (w := w) (base := base) W
  obtain ⟨fdN, GN, bN⟩ := ok_isNum (P := P) (w := w) (base := base) W
  obtain ⟨fdS, GS, bS⟩ := ok_shareOf (P := P) (w := w) (base := base) W
  have kN : PySem.W.keepIn K (.ref (He.ga K "is_number")) = true := by obtain ⟨fd, F⟩ := W.F_is_number; exact F.kp
  have kS : PySem.W.keepIn K (.ref (He.ga K "share_of")) = true := by obtain ⟨fd, F⟩ := W.F_share_of; exact F.kp
  obtain ⟨fd, F⟩ := W.F_Share_rsub
  refine ⟨fd, F.ok scRsub (fun vs H Q E h => spBin_len h) (fun cdv A outer s H vs Q E hr h => ?_), FunD.bindsN F fun _ _ _ _ _ _ us hl => match us, hl with | [_, _], _ => rfl⟩
  obtain ⟨x, v, a, b, c, d, rfl, hx, hv, hs, hz, q⟩ := h
  obtain ⟨ha, hb, hc, hd⟩ := hs
  have r2 : Room 2 _ := hr.mono (by decide)
  refine ⟨_, PSs.nox (pss_cons (ps_if (pt_not (pt_val (pe_call GN r2 rfl W.g_is_number kN bN .nil pass0 (pa_cons (pv 1) pa_nil)))) pss_never pss_nil)
    (pss_one (ps_ret (pe_op (op_L W.opSub (FnOk.raw GA bA .nil) hr pass0) (pe_call GS hr rfl W.g_share_of kS bS .nil pass0 (pa_cons (pv 1) pa_nil)) (pv 0))))), ?_⟩
  obtain ⟨tt, bb, ty, kn, kk, _, _⟩ := W.nuTy hv
  simp -dsimp [tSeq, tAsg, tRet, tIfS, tIf, tTest, tVar, tCons, tNil, tC, tOp, tUn, rI, rI0, rU, tCB, tLst_A, tTup_A, gName, L2.start, CMul, CPow, CDiv, tDrop, tBM, tBM0, tNext, tPar, gSub, rSetL, rIxL, rIxT, tChain, tB, tNot, tNotV, tAnd, tOr, tAndV, tOrV, tFld, tCall, rIxLH, rIxTH, atI, ixN, upd_same, cxK, ex2, ex3, ex3b, rIs1, rIs2, rNe2, tyN, kb1, kb2, kb3, kb4, kb5, kb6, rEq, rNe, scal, tMake_S, tMakeK_S, tMakeN_S]
  refine ⟨_, tt, true, rfl, ty, kn, .inr ⟨rfl, v, c, d, rfl, hv, fun z H1 s1 hz1 => ?_⟩⟩
  have hx1 := hx.same s1
  obtain ⟨dz, hzd⟩ := id hz1
  simp -dsimp [tSeq, tAsg, tRet, tIfS, tIf, tTest, tVar, tCons, tNil, tC, tOp, tUn, rI, rI0, rU, tCB, tLst_A, tTup_A, gName, L2.start, CMul, CPow, CDiv, tDrop, tBM, tBM0, tNext, tPar, gSub, rSetL, rIxL, rIxT, tChain, tB, tNot, tNotV, tAnd, tOr, tAndV, tOrV, tFld, tCall, rIxLH, rIxTH, atI, ixN, upd_same, cxK, ex2, ex3, ex3b, rIs1, rIs2, rNe2, tyN, kb1, kb2, kb3, kb4, kb5, kb6, rEq, rNe, scal, tMake_S, tMakeK_S, tMakeN_S]
  exact ⟨z, dz, _, rfl, hzd, (Nu.ins (.inl ⟨x, rfl, hx1⟩)), z, .ref x, c, d, a, b, rfl, hz1, .inl ⟨x, rfl, hx1⟩, ⟨hc, hd, ha, hb⟩, hz, q.same s1⟩
theorem scMul : FnScope ["self", "other", "top", "bottom"] ["self", "other"] d_Share_mul.scope := ⟨rfl, rfl, rfl, by decide +kernel, rfl, by decide +kernel, by decide +kernel⟩
theorem ok_mul (W : Wd K mg) : ∃ fd, FnOk P w K mg base CX0 4 (aS K "__mul__") fd ["self", "other"] (spBin K fMul gMul) ∧ Binds K fd ["self", "other"] [] := by
  obtain ⟨fdH, GH, FH⟩ := ok_init (P := P) (w := w) (base := base) W
  obtain ⟨fdN, GN, bN⟩ := ok_isNum (P := P) (w := w) (base := base) W
  obtain ⟨fdF, GF, bF⟩ := ok_frac (P := P) (w := w) (base := base) W
  have kN : PySem.W.keepIn K (.ref (He.ga K "is_number")) = true := by obtain ⟨fd, F⟩ := W.F_is_number; exact F.kp
  have kF : PySem.W.keepIn K (.ref (He.ga K "fraction")) = true := by obtain ⟨fd, F⟩ := W.F_fraction; exact F.kp
  obtain ⟨fd, F⟩ := W.F_Share_mul
  refine ⟨fd, F.ok scMul (fun vs H Q E h => spBin_len h) (fun cdv A outer s H vs Q E hr h => ?_), FunD.bindsN F fun _ _ _ _ _ _ us hl => match us, hl with | [_, _], _ => rfl⟩
  obtain ⟨x, v, a, b, c, d, rfl, hx, hv, hs, hz, q⟩ := h
  have hs' := hs
  obtain ⟨ha, hb, hc, hd⟩ := hs'
  have r1 : Room 1 _ := hr.mono (by decide)
  have r2 : Room 2 _ := hr.mono (by decide)
  refine ⟨_, PSs.nox (pss_cons (ps_if (pt_not (pt_val (pe_call GN r2 rfl W.g_is_number kN bN .nil pass0 (pa_cons (pv 1) pa_nil)))) pss_never pss_nil)
    (pss_cons (ps_asg (pe_call GF r1 rfl W.g_fraction kF bF .nil pass0 (pa_cons (pv 1) pa_nil)) (pg_tup rfl (pgs_cons (pg_name (i := 2) scMul.nd rfl (Or.inl rfl)) (pgs_cons (pg_name (i := 3) scMul.nd rfl (Or.inl rfl)) pgs_nil))))
    (pss_one (ps_ret (pe_make W.mkr_Share GH hr rfl W.g_Share (bind3 FH) .nil pass0 (pa_cons (pe_op op_mulX9 (pe_fld (pv 0) rfl) (pv 2)) (pa_cons (pe_op op_mulX9 (pe_fld (pv 0) rfl) (pv 3)) pa_nil))))))), ?_⟩
  obtain ⟨tt, bb, ty, kn, kk, _, _⟩ := W.nuTy hv
  simp -dsimp [tSeq, tAsg, tRet, tIfS, tIf, tTest, tVar, tCons, tNil, tC, tOp, tUn, rI, rI0, rU, tCB, tLst_A, tTup_A, gName, L2.start, CMul, CPow, CDiv, tDrop, tBM, tBM0, tNext, tPar, gSub, rSetL, rIxL, rIxT, tChain, tB, tNot, tNotV, tAnd, tOr, tAndV, tOrV, tFld, tCall, rIxLH, rIxTH, atI, ixN, upd_same, cxK, ex2, ex3, ex3b, rIs1, rIs2, rNe2, tyN, kb1, kb2, kb3, kb4, kb5, kb6, rEq, rNe, scal, tMake_S, tMakeK_S, tMakeN_S]
  refine ⟨_, tt, true, rfl, ty, kn, .inr ⟨rfl, v, c, d, rfl, hv, fun p H1 np hp s1 => tup2 hp ?_⟩⟩
  obtain ⟨dx, hx1⟩ := hx.same s1
  simp -dsimp [tSeq, tAsg, tRet, tIfS, tIf, tTest, tVar, tCons, tNil, tC, tOp, tUn, rI, rI0, rU, tCB, tLst_A, tTup_A, gName, L2.start, CMul, CPow, CDiv, tDrop, tBM, tBM0, tNext, tPar, gSub, rSetL, rIxL, rIxT, tChain, tB, tNot, tNotV, tAnd, tOr, tAndV, tOrV, tFld, tCall, rIxLH, rIxTH, atI, ixN, upd_same, cxK, ex2, ex3, ex3b, rIs1, rIs2, rNe2, tyN, kb1, kb2, kb3, kb4, kb5, kb6, rEq, rNe, scal, tMake_S, tMakeK_S, tMakeN_S, hx1, shareO, W.cls_Share, W.n_Share_top, W.n_Share_bottom, look_top, look_bot, h_lt_M ha, h_lt_M hb, h_lt_M hc, h_lt_M hd]
  exact MkS.res s1 rfl hz (gMul9 hs) q
theorem scRmul : FnScope ["self", "other"] ["self", "other"] d_Share_rmul.scope := ⟨rfl, rfl, rfl, by decide +kernel, rfl, by decide +kernel, by decide +kernel⟩
theorem ok_rmul (W : Wd K mg) : ∃ fd, FnOk P w K mg base CX0 5 (aS K "__rmul__") fd ["self", "other"] (spBin K fMul gMul) ∧ Binds K fd ["self", "other"] [] := by
  obtain ⟨fdA, GA, bA⟩ := ok_mul (P := P) (w := w) (base := base) W
  obtain ⟨fdN, GN, bN⟩ := ok_isNum (P := P) (w := w) (base := base) W
  have kN : PySem.W.keepIn K (.ref (He.ga K "is_number")) = true := by obtain ⟨fd, F⟩ := W.F_is_number; exact F.kp
  obtain ⟨fd, F⟩ := W.F_Share_rmul
  refine ⟨fd, F.ok scRmul (fun vs H Q E h => spBin_len h) (fun cdv A outer s H vs Q E hr h => ?_), FunD.bindsN F fun _ _ _ _ _ _ us hl => match us, hl with | [_, _], _ => rfl⟩
  obtain ⟨x, v, a, b, c, d, rfl, hx, hv, hs, hz, q⟩ := h
  have r2 : Room 2 _ := hr.mono (by decide)
  refine ⟨_, PSs.nox (pss_cons (ps_if (pt_not (pt_val (pe_call GN r2 rfl W.g_is_number kN bN .nil pass0 (pa_cons (pv 1) pa_nil)))) pss_never pss_nil)
    (pss_one (ps_ret (pe_op (op_L W.opMul (FnOk.raw GA bA .nil) hr pass0) (pv 0) (pv 1))))), ?_⟩
  obtain ⟨tt, bb, ty, kn, kk, _, _⟩ := W.nuTy hv
  simp -dsimp [tSeq, tAsg, tRet, tIfS, tIf, tTest, tVar, tCons, tNil, tC, tOp, tUn, rI, rI0, rU, tCB, tLst_A, tTup_A, gName, L2.start, CMul, CPow, CDiv, tDrop, tBM, tBM0, tNext, tPar, gSub, rSetL, rIxL, rIxT, tChain, tB, tNot, tNotV, tAnd, tOr, tAndV, tOrV, tFld, tCall, rIxLH, rIxTH, atI, ixN, upd_same, cxK, ex2, ex3, ex3b, rIs1, rIs2, rNe2, tyN, kb1, kb2, kb3, kb4, kb5, kb6, rEq, rNe, scal, tMake_S, tMakeK_S, tMakeN_S]
  obtain ⟨dx, hd⟩ := id hx
  exact ⟨_, tt, true, rfl, ty, kn, .inr ⟨rfl, x, dx, _, rfl, hd, hv.ins, x, v, a, b, c, d, rfl, hx, hv, hs, hz, q⟩⟩
end
section
variable {P : Program} {w : World} {K : PySem.W.Frag} {mg : Str → Option Value} {base : Heap}
theorem scNeg : FnScope ["self"] ["self"] d_Share_neg.scope := ⟨rfl, rfl, rfl, by decide +kernel, rfl, by decide +kernel, by decide +kernel⟩
/-- what -x and abs(x) promise -/
def spUn (K : PySem.W.Frag) (f : Int → Int) : Sp := fun vs H Q _ => ∃ (x : Addr) (a b : Int), vs = [.ref x] ∧ IsSh K H x a b ∧ b ≠ 0 ∧ b.natAbs < big9 ∧ Res K H (f a) b Q
def fNeg (a : Int) : Int := -a
def fAbs (a : Int) : Int := if a < 0 then -a else a
theorem ok_neg (W : Wd K mg) : ∃ fd, FnOk P w K mg base CX0 4 (aS K "__neg__") fd ["self"] (spUn K fNeg) ∧ Binds K fd ["self"] [] := by
  obtain ⟨fdH, GH, FH⟩ := ok_init (P := P) (w := w) (base := base) W
  obtain ⟨fd, F⟩ := W.F_Share_neg
  refine ⟨fd, F.ok scNeg (fun vs H Q E h => ?_) (fun cdv A outer s H vs Q E hr h => ?_), FunD.bindsN F fun _ _ _ _ _ _ us hl => match us, hl with | [_], _ => rfl⟩
  · obtain ⟨x, a, b, rfl, _⟩ := h
    rfl
  · obtain ⟨x, a, b, rfl, hx, hb, hbb, q⟩ := h
    refine ⟨_, PSs.nox (pss_one (ps_ret (pe_make W.mkr_Share GH hr rfl W.g_Share (bind3 FH) .nil pass0 (pa_cons (pe_un un_neg (pe_fld (pv 0) rfl)) (pa_cons (pe_fld (pv 0) rfl) pa_nil))))), ?_⟩
    obtain ⟨dx, hd⟩ := id hx
    simp -dsimp [tSeq, tAsg, tRet, tIfS, tIf, tTest, tVar, tCons, tNil, tC, tOp, tUn, rI, rI0, rU, tCB, tLst_A, tTup_A, gName, L2.start, CMul, CPow, CDiv, tDrop, tBM, tBM0, tNext, tPar, gSub, rSetL, rIxL, rIxT, tChain, tB, tNot, tNotV, tAnd, tOr, tAndV, tOrV, tFld, tCall, rIxLH, rIxTH, atI, ixN, upd_same, cxK, ex2, ex3, ex3b, rIs1, rIs2, rNe2, tyN, kb1, kb2, kb3, kb4, kb5, kb6, rEq, rNe, scal, tMake_S, tMakeK_S, tMakeN_S, hd, shareO, W.cls_Share, W.n_Share_top, W.n_Share_bottom, look_top, look_bot]
    exact MkS.res (Same.refl _) rfl hb hbb q
end
section
variable {P : Program} {w : World} {K : PySem.W.Frag} {mg : Str → Option Value} {base : Heap}
def gDiv (_a b c _d : Int) : Int := b * c
def fDiv (a _b _c d : Int) : Int := a * d
theorem gDiv9 {a b c d : Int} (h : Sm a b c d) : (b * c).natAbs < big9 := by
  have := mul_h h.2.1 h.2.2.1
  omega
theorem scOver : FnScope ["self", "number", "top", "bottom"] ["self", "number"] d_Share_over.scope := ⟨rfl, rfl, rfl, by decide +kernel, rfl, by decide +kernel, by decide +kernel⟩
theorem ok_over (W : Wd K mg) : ∃ fd, FnOk P w K mg base CX0 4 (aS K "over") fd ["self", "number"] (spBin K fDiv gDiv) ∧ Binds K fd ["self", "number"] [] := by
  obtain ⟨fdH, GH, FH⟩ := ok_init (P := P) (w := w) (base := base) W
  obtain ⟨fdF, GF, bF⟩ := ok_frac (P := P) (w := w) (base := base) W
  have kF : PySem.W.keepIn K (.ref (He.ga K "fraction")) = true := by obtain ⟨fd, F⟩ := W.F_fraction; exact F.kp
  obtain ⟨fd, F⟩ := W.F_Share_over
  refine ⟨fd, F.ok scOver (fun vs H Q E h => spBin_len h) (fun cdv A outer s H vs Q E hr h => ?_), FunD.bindsN F fun _ _ _ _ _ _ us hl => match us, hl with | [_, _], _ => rfl⟩
  obtain ⟨x, v, a, b, c, d, rfl, hx, hv, hs, hz, q⟩ := h
  have hs' := hs
  obtain ⟨ha, hb, hc, hd⟩ := hs'
  have hc0 : ¬ c = 0 := fun e => hz (by unfold gDiv; rw [e, Int.mul_zero])
  have r1 : Room 1 _ := hr.mono (by decide)
  refine ⟨_, PSs.nox (pss_cons (ps_asg (pe_call GF r1 rfl W.g_fraction kF bF .nil pass0 (pa_cons (pv 1) pa_nil)) (pg_tup rfl (pgs_cons (pg_name (i := 2) scOver.nd rfl (Or.inl rfl)) (pgs_cons (pg_name (i := 3) scOver.nd rfl (Or.inl rfl)) pgs_nil))))
    (pss_cons (ps_if (pt_cmpR op_eq (pv 2) pe_int (nomark _)) pss_never pss_nil)
    (pss_one (ps_ret (pe_make W.mkr_Share GH hr rfl W.g_Share (bind3 FH) .nil pass0 (pa_cons (pe_op op_mulX9 (pe_fld (pv 0) rfl) (pv 3)) (pa_cons (pe_op op_mulX9 (pe_fld (pv 0) rfl) (pv 2)) pa_nil))))))), ?_⟩
  simp -dsimp [tSeq, tAsg, tRet, tIfS, tIf, tTest, tVar, tCons, tNil, tC, tOp, tUn, rI, rI0, rU, tCB, tLst_A, tTup_A, gName, L2.start, CMul, CPow, CDiv, tDrop, tBM, tBM0, tNext, tPar, gSub, rSetL, rIxL, rIxT, tChain, tB, tNot, tNotV, tAnd, tOr, tAndV, tOrV, tFld, tCall, rIxLH, rIxTH, atI, ixN, upd_same, cxK, ex2, ex3, ex3b, rIs1, rIs2, rNe2, tyN, kb1, kb2, kb3, kb4, kb5, kb6, rEq, rNe, scal, tMake_S, tMakeK_S, tMakeN_S]
  refine ⟨v, c, d, rfl, hv, fun p H1 np hp s1 => tup2 hp ?_⟩
  obtain ⟨dx, hx1⟩ := hx.same s1
  simp -dsimp [tSeq, tAsg, tRet, tIfS, tIf, tTest, tVar, tCons, tNil, tC, tOp, tUn, rI, rI0, rU, tCB, tLst_A, tTup_A, gName, L2.start, CMul, CPow, CDiv, tDrop, tBM, tBM0, tNext, tPar, gSub, rSetL, rIxL, rIxT, tChain, tB, tNot, tNotV, tAnd, tOr, tAndV, tOrV, tFld, tCall, rIxLH, rIxTH, atI, ixN, upd_same, cxK, ex2, ex3, ex3b, rIs1, rIs2, rNe2, tyN, kb1, kb2, kb3, kb4, kb5, kb6, rEq, rNe, scal, tMake_S, tMakeK_S, tMakeN_S, hc0, hx1, shareO, W.cls_Share, W.n_Share_top, W.n_Share_bottom, look_top, look_bot, h_lt_M ha, h_lt_M hb, h_lt_M hc, h_lt_M hd]
  exact MkS.res s1 rfl hz (gDiv9 hs) q
end
/-! ### the six comparisons -/
section
variable {P : Program} {w : World} {K : PySem.W.Frag} {mg : Str → Option Value} {base : Heap}
def spNum2 (K : PySem.W.Frag) (f : Int → Bool) : R2 := fun x y H Q => ∃ (a b c d : Int), Nu K H x a b ∧ Nu K H y c d ∧ Sm a b c d ∧ ((∃ z, x = .ref z) ∨ ∃ z, y = .ref z) ∧ ∀ H', Same H H' → Q (.bl (f (a * d - c * b))) H'
theorem sm_swap {a b c d : Int} (h : Sm a b c d) : Sm c d a b := ⟨h.2.2.1, h.2.2.2, h.1, h.2.1⟩
theorem sub_flip (a b c d : Int) : c * b - a * d = -(a * d - c * b) := by omega
section
variable {X : Cx} {fd : FuncData} {ps : List Str}
theorem op_num {op : CmpOp} {f g : Int → Bool} {af ag : Addr} (W : Wd X.K X.mg) (hc : ∀ a b, compareOp op a b = richCompare op a b) (dc : CmX.DcI op) (hfg : ∀ z, g (-z) = f z)
    (hs : PySem.W.findIn X.K (.ref (He.ga X.K "Share")) (cmpInfo op).2.1 = some (some (.ref af))) (hf : PySem.W.isFn X.K (.ref af) = true) (hs2 : PySem.W.findIn X.K (.ref (He.ga X.K "Share")) (cmpInfo op).2.2 = some (some (.ref ag))) (hg : PySem.W.isFn X.K (.ref ag) = true)
    (F : FnR X.prog X.w X.K X.mg X.base CX0 3 af (spCmp X.K f)) (G : FnR X.prog X.w X.K X.mg X.base CX0 3 ag (spCmp X.K g)) (hr : Room 3 X.A) (hu : X.A.units < cLine) : OpR X (compareOp op) (spNum2 X.K f) := by
  intro pins s σ H x y v u Q I rx ry h
  obtain ⟨a, b, c, d, hx, hy, sm, hz, q⟩ := h
  rcases hx with ⟨zx, rfl, ix⟩ | ⟨rfl, rfl⟩
  · obtain ⟨t, bb, ty, kn, k, bs, _⟩ := W.nuTy hy
    obtain ⟨dx, hd⟩ := id ix
    exact CmX.op_cmpL (E := E0) hc hs hf F hr hu pass0 pins s σ H _ y v u Q I rx ry ⟨zx, dx, _, t, rfl, hd, ty, bs, zx, y, a, b, c, d, rfl, ix, hy, sm, q⟩
  · obtain ⟨zy, rfl⟩ : ∃ z, y = .ref z := by
      rcases hz with ⟨z, e⟩ | e
      · cases e
      · exact e
    have iy : IsSh X.K H zy c d := by
      rcases hy with ⟨z, e, i⟩ | ⟨e, _⟩
      · cases e
        exact i
      · cases e
    obtain ⟨dy, hd⟩ := id iy
    refine CmX.op_cmpI (E := E0) hc W.cmp dc hs2 hg G hr hu pass0 pins s σ H _ _ v u Q I rx ry ⟨a, zy, dy, _, rfl, rfl, hd, zy, .int a, c, d, a, 1, rfl, iy, .inr ⟨rfl, rfl⟩, sm_swap sm, fun H' s' => ?_⟩
    have e := hfg (a * d - c * 1)
    rw [← sub_flip] at e
    rw [e]
    exact q H' s'
end
theorem raw0 {CX : CXT} {k : Nat} {f : Addr} {fd : FuncData} {ps : List Str} {sp : Sp} (F : FnOk P w K mg base CX k f fd ps sp) (hb : Binds K fd ps []) : FnR P w K mg base CX k f sp :=
  (FnOk.raw F hb .nil).imp fun vs H Q E h => by
    rw [List.append_nil]
    exact h
theorem Wd.opEq {X : Cx} (W : Wd X.K X.mg) (hr : Room 3 X.A) : OpR X (compareOp .Eq) (spNum2 X.K fun z => decide (z = 0)) := by
  obtain ⟨f1, G1, b1⟩ := ok_eq (P := X.prog) (w := X.w) (base := X.base) W
  have G := (raw0 G1 b1).imp (sp' := spCmp X.K fun z => decide (z = 0)) fun vs H Q E h => .inl h
  exact op_num (f := fun z => decide (z = 0)) (g := fun z => decide (z = 0)) W (fun _ _ => rfl) CmX.dc_eq (fun z => by
    have e : (-z = 0) = (z = 0) := propext ⟨fun h => by omega, fun h => by omega⟩
    simp only [e]) W.m_Share_eq.at_ W.m_Share_eq.fn W.m_Share_eq.at_ W.m_Share_eq.fn G G hr hr.units0
theorem Wd.opNe {X : Cx} (W : Wd X.K X.mg) (hr : Room 4 X.A) : OpR X (compareOp .NotEq) (spNum2 X.K fun z => !decide (z = 0)) := by
  obtain ⟨f1, G1, b1⟩ := ok_eq (P := X.prog) (w := X.w) (base := X.base) W
  have G := (raw0 G1 b1).imp (sp' := spCmp X.K fun z => decide (z = 0)) fun vs H Q E h => .inl h
  intro pins s σ H x y v u Q I rx ry h
  obtain ⟨a, b, c, d, hx, hy, sm, hz, q⟩ := h
  rcases hx with ⟨zx, rfl, ix⟩ | ⟨rfl, rfl⟩
  · obtain ⟨t, bb, ty, kn, k, bs, _⟩ := W.nuTy hy
    obtain ⟨dx, hd⟩ := id ix
    exact CmX.op_neL (E := E0) W.cmp W.m_Share_eq.at_ W.m_Share_eq.fn G hr (hu_of hr) pass0 pins s σ H _ y v u Q I rx ry ⟨zx, dx, _, t, rfl, hd, ty, bs, zx, y, a, b, c, d, rfl, ix, hy, sm, fun H' s' => ⟨_, rfl, q H' s'⟩⟩
  · obtain ⟨zy, rfl⟩ : ∃ z, y = .ref z := by
      rcases hz with ⟨z, e⟩ | e
      · cases e
      · exact e
    have iy : IsSh X.K H zy c d := by
      rcases hy with ⟨z, e, i⟩ | ⟨e, _⟩
      · cases e
        exact i
      · cases e
    obtain ⟨dy, hd⟩ := id iy
    refine CmX.op_neI (E := E0) W.cmp W.m_Share_eq.at_ W.m_Share_eq.fn G hr (hu_of hr) pass0 pins s σ H _ _ v u Q I rx ry ⟨a, zy, dy, _, rfl, rfl, hd, zy, .int a, c, d, a, 1, rfl, iy, .inr ⟨rfl, rfl⟩, sm_swap sm, fun H' s' => ⟨_, rfl, ?_⟩⟩
    have e : decide (c * 1 - a * d = 0) = decide (a * d - c * 1 = 0) := by
      have e : (c * 1 - a * d = 0) = (a * d - c * 1 = 0) := propext ⟨fun h => by omega, fun h => by omega⟩
      simp only [e]
    show Q (.bl !decide (c * 1 - a * d = 0)) H'
    rw [e]
    exact q H' s'
end
/-! ### tuples of three shares compared -/
def eqP (p q : Int × Int) : Bool := decide (p.1 * q.2 - q.1 * p.2 = 0)
def SmP (p q : Int × Int) : Prop := Sm p.1 p.2 q.1 q.2
def rT3 (K : PySem.W.Frag) : R2 := fun x y H Q => ∃ (p q a0 a1 a2 b0 b1 b2 : Addr) (m0 m1 m2 n0 n1 n2 : Int × Int), x = .ref p ∧ y = .ref q ∧ H p = some (.tup [.ref a0, .ref a1, .ref a2]) ∧ H q = some (.tup [.ref b0, .ref b1, .ref b2]) ∧
  IsS K H a0 m0 ∧ IsS K H a1 m1 ∧ IsS K H a2 m2 ∧ IsS K H b0 n0 ∧ IsS K H b1 n1 ∧ IsS K H b2 n2 ∧ SmP m0 n0 ∧ SmP m1 n1 ∧ SmP m2 n2 ∧ ∀ H', Same H H' → Q (.bl (eqP m0 n0 && (eqP m1 n1 && eqP m2 n2))) H'
theorem isS_one {K : PySem.W.Frag} {H : Hp} {a : Addr} {m n : Int × Int} (h : IsS K H a m) (k : IsS K H a n) : m = n := by
  obtain ⟨dx, h⟩ := h
  obtain ⟨dy, k⟩ := k
  rw [h] at k
  simp [shareO] at k
  exact Prod.ext k.2.1 k.2.2
theorem eqP_self (m : Int × Int) : eqP m m = true := by
  unfold eqP
  rw [Int.sub_self]
  rfl
section
variable {X : Cx}
theorem Wd.eq1S (W : Wd X.K X.mg) : T3X.Eq1 X 3 (He.ga X.K "Share") (spCmp X.K fun z => decide (z = 0)) E0 := by
  obtain ⟨f1, G1, b1⟩ := ok_eq (P := X.prog) (w := X.w) (base := X.base) W
  exact T3X.eq1_own (sp := spCmp X.K fun z => decide (z = 0)) W.m_Share_eq.at_ W.m_Share_eq.fn ((FnOk.raw G1 b1 .nil).imp fun vs H Q E h => by rw [List.append_nil]; exact .inl h) pass0
theorem Wd.eqShare (W : Wd X.K X.mg) {A : Around} {pins : List (Addr × Obj)} {s : Shared} {σ : L2.St} {H : Hp} {a b : Addr} {m n : Int × Int} {Q : Bool → Hp → Prop} (hr : Room 3 A) (e0 : Env0 X.prog X.w X.K X.mg X.base A X.stack s H) (I : Inv X pins σ H s) (ha : IsS X.K H a m) (hb : IsS X.K H b n) (sm : SmP m n)
    (q : ∀ H', Same H H' → Q (eqP m n) H') : wpAny (model X.prog X.w) A (eqBool (.ref a) (.ref b)) (fun r s' => ∃ H', Inv X pins σ H' s' ∧ Q r H') X.xe s := by
  obtain ⟨da, ha'⟩ := id ha
  obtain ⟨db, hb'⟩ := id hb
  refine W.eq1S A pins s σ H a b da db _ _ Q hr hr.units0 e0 I ha' hb' (fun e => ?_) ⟨a, .ref b, m.1, m.2, n.1, n.2, rfl, ha, .inl ⟨b, rfl, hb⟩, sm, fun H' s' => ⟨_, rfl, q H' s'⟩⟩
  subst e
  rw [isS_one ha hb] at q
  have := q H (Same.refl _)
  rw [eqP_self] at this
  exact this
theorem Wd.opEqT (W : Wd X.K X.mg) (hr : Room 4 X.A) : OpR X (compareOp .Eq) (rT3 X.K) := by
  intro pins s σ H x y v u Q I rx ry h
  obtain ⟨p, q, a0, a1, a2, b0, b1, b2, m0, m1, m2, n0, n1, n2, rfl, rfl, hp, hq, h0, h1, h2, k0, k1, k2, s0, s1, s2, k⟩ := h
  cases (show v = Value.ref p from rx)
  cases (show u = Value.ref q from ry)
  obtain ⟨its, rv, ⟨⟨cls, dd, data, sl⟩, ho, hc, n, hd⟩, _⟩ := I.tuple (SqT.of hp)
  obtain ⟨its2, rv2, ⟨⟨cls2, dd2, data2, sl2⟩, ho2, hc2, n2', hd2⟩, _⟩ := I.tuple (SqT.of hq)
  simp only at hc hd hc2 hd2
  subst hc hd hc2 hd2
  have e1 : its = [.ref a0, .ref a1, .ref a2] := by
    cases rv with
    | cons r1 rv =>
      cases rv with
      | cons r2 rv =>
        cases rv with
        | cons r3 rv =>
          cases rv
          cases r1
          cases r2
          cases r3
          rfl
  have e2 : its2 = [.ref b0, .ref b1, .ref b2] := by
    cases rv2 with
    | cons r1 rv =>
      cases rv with
      | cons r2 rv =>
        cases rv with
        | cons r3 rv =>
          cases rv
          cases r1
          cases r2
          cases r3
          rfl
  subst e1 e2
  have hu : X.A.units < cLine := hr.units0
  refine wpAny_richCompare_same_room (op := .Eq) ⟨_, ho, rfl⟩ ⟨_, ho2, rfl⟩ F.slot_tuple_eq (GQ.call_here F.slot_tuple_eq ⟨_, ho, rfl⟩ F.entry_tuple_eq (F.args_tuple_eq_2 _ _) ?_) hu
  refine wpAny_mono (T3X.tup3 (R := wants (fun v s' => v ≠ .notImplemented ∧ EP X pins σ Q v s') X.xe) ho ho2 ?_) (fun fin s' z => ?_) fun _ _ x => x
  · have fin : ∀ (r : Bool) (s' : Shared) (H' : Hp), Inv X pins σ H' s' → Q (.bl r) H' → wants (fun v s' => v ≠ .notImplemented ∧ EP X pins σ Q v s') X.xe (.ok (.ret (.bool r))) s' := fun r s' H' I' q => ⟨(fun x => nomatch x), .bl r, H', I', rfl, q⟩
    have r3 : Room 3 X.A.in1 := hr.in1
    refine wpAny_mono (W.eqShare (Q := fun r H' => Same H H' ∧ r = eqP m0 n0) r3 I.env0.in1 I h0 k0 s0 fun H' s' => ⟨s', rfl⟩) (fun r t1 z => ?_) fun _ _ x => x
    obtain ⟨H1, I1, u1, er⟩ := z
    rw [er]
    cases hA : eqP m0 n0 with
    | false =>
      have kk := k H1 u1
      rw [hA, Bool.false_and] at kk
      exact fin _ _ _ I1 kk
    | true =>
      rw [if_pos rfl]
      refine wpAny_mono (W.eqShare (Q := fun r H' => Same H1 H' ∧ r = eqP m1 n1) r3 I1.env0.in1 I1 (h1.same u1) (k1.same u1) s1 fun H' s' => ⟨s', rfl⟩) (fun r t2 z => ?_) fun _ _ x => x
      obtain ⟨H2, I2, u2, er⟩ := z
      rw [er]
      cases hB : eqP m1 n1 with
      | false =>
        have kk := k H2 (u1.trans u2)
        rw [hA, hB, Bool.false_and, Bool.and_false] at kk
        exact fin _ _ _ I2 kk
      | true =>
        rw [if_pos rfl]
        refine wpAny_mono (W.eqShare (Q := fun r H' => Same H2 H' ∧ r = eqP m2 n2) r3 I2.env0.in1 I2 (h2.same (u1.trans u2)) (k2.same (u1.trans u2)) s2 fun H' s' => ⟨s', rfl⟩) (fun r t3 z => ?_) fun _ _ x => x
        obtain ⟨H3, I3, u3, er⟩ := z
        have kk := k H3 ((u1.trans u2).trans u3)
        rw [hA, hB, Bool.true_and, Bool.true_and] at kk
        rw [er]
        exact fin _ _ _ I3 kk
  · obtain ⟨v, rfl, z⟩ := z
    exact z
end
/-! ### terms compared -/
section
variable {P : Program} {w : World} {K : PySem.W.Frag} {mg : Str → Option Value} {base : Heap}
def eqT (m t0 t1 t2 n u0 u1 u2 : Int × Int) : Bool := eqP m n && (eqP t0 u0 && (eqP t1 u1 && eqP t2 u2))
theorem look_num (n t : V) : List.lookup ("number" : Str) [(("number" : Str), n), (("times" : Str), t)] = some n := rfl
theorem look_tim (n t : V) : List.lookup ("times" : Str) [(("number" : Str), n), (("times" : Str), t)] = some t := rfl
/-- term == v -/
def spTEq (K : PySem.W.Frag) : Sp := fun vs H Q _ => ∃ (x : Addr) (v : V), vs = [.ref x, v] ∧ ((∃ t, TyOf K H v t ∧ PySem.W.kitOne K t (.ref (He.ga K "Term")) = some false ∧ Q (.bl false) H) ∨
  ∃ (y : Addr) (m t0 t1 t2 n u0 u1 u2 : Int × Int), v = .ref y ∧ IsTm K H x m t0 t1 t2 ∧ IsTm K H y n u0 u1 u2 ∧ SmP m n ∧ SmP t0 u0 ∧ SmP t1 u1 ∧ SmP t2 u2 ∧ ∀ H', Same H H' → Q (.bl (eqT m t0 t1 t2 n u0 u1 u2)) H')
theorem ok_teq (W : Wd K mg) : ∃ fd, FnOk P w K mg base CX0 5 (He.ma K (He.ga K "Term") "__eq__") fd ["self", "other"] (spTEq K) ∧ Binds K fd ["self", "other"] [] := by
  obtain ⟨fd, F⟩ := W.F_Term_eq
  refine ⟨fd, F.ok scTEq (fun vs H Q E h => ?_) (fun cdv A outer s H vs Q E hr h => ?_), FunD.bindsN F fun _ _ _ _ _ _ us hl => match us, hl with | [_, _], _ => rfl⟩
  · obtain ⟨x, v, rfl, _⟩ := h
    rfl
  · obtain ⟨x, v, rfl, h⟩ := h
    have r3 : Room 3 _ := hr.mono (by decide)
    refine ⟨_, PSs.nox (pss_one (ps_ret (pe_and (pe_callB isi_G (by rfl) W.f_isinstance boot_isinstance (pa_cons (pv 1) (pa_cons (pe_glob (v := .ref (He.ga K "Term")) rfl W.g_Term rfl) pa_nil)))
      (pe_and (pe_cmpR (W.opEq r3) (pe_fld (pv 0) rfl) (pe_fld (pv 1) rfl) (nomark _)) (pe_one (pe_cmpR (W.opEqT hr) (pe_fld (pv 0) rfl) (pe_fld (pv 1) rfl) (nomark _))))))), ?_⟩
    simp -dsimp [tSeq, tAsg, tRet, tIfS, tIf, tTest, tVar, tCons, tNil, tC, tOp, tUn, rI, rI0, rU, tCB, tLst_A, tTup_A, gName, L2.start, CMul, CPow, CDiv, tDrop, tBM, tBM0, tNext, tPar, gSub, rSetL, rIxL, rIxT, tChain, tB, tNot, tNotV, tAnd, tOr, tAndV, tOrV, tFld, tCall, rIxLH, rIxTH, atI, ixN, upd_same, cxK, ex2, ex3, ex3b, rIs1, rIs2, rNe2, tyN, kb1, kb2, kb3, kb4, kb5, kb6, rEq, rNe, scal, tMake_S, tMakeK_S, tMakeN_S]
    rcases h with ⟨t, ty, k, q⟩ | ⟨y, m, t0, t1, t2, n, u0, u1, u2, rfl, hx, hy, s0, s1, s2, s3, q⟩
    · exact ⟨_, _, t, _, false, rfl, .own _, ty, k, .inl ⟨rfl, q⟩⟩
    · refine ⟨_, _, _, _, true, rfl, .own _, W.isTm hy, of_decide_eq_true (W.ex 30 rfl), .inr ⟨rfl, ?_⟩⟩
      obtain ⟨dx, a, tp, a0, a1, a2, e1, e2, e3, e4, e5, e6⟩ := id hx
      obtain ⟨dy, b, tq, b0, b1, b2, f1, f2, f3, f4, f5, f6⟩ := id hy
      simp -dsimp [tSeq, tAsg, tRet, tIfS, tIf, tTest, tVar, tCons, tNil, tC, tOp, tUn, rI, rI0, rU, tCB, tLst_A, tTup_A, gName, L2.start, CMul, CPow, CDiv, tDrop, tBM, tBM0, tNext, tPar, gSub, rSetL, rIxL, rIxT, tChain, tB, tNot, tNotV, tAnd, tOr, tAndV, tOrV, tFld, tCall, rIxLH, rIxTH, atI, ixN, upd_same, cxK, ex2, ex3, ex3b, rIs1, rIs2, rNe2, tyN, kb1, kb2, kb3, kb4, kb5, kb6, rEq, rNe, scal, tMake_S, tMakeK_S, tMakeN_S, e1, f1, termO, W.cls_Term, W.n_Term_number, W.n_Term_times, look_num, look_tim]
      refine ⟨m.1, m.2, n.1, n.2, .inl ⟨a, rfl, e2⟩, .inl ⟨b, rfl, f2⟩, s0, .inl ⟨a, rfl⟩, fun H1 s' => ?_⟩
      cases hA : eqP m n with
      | false =>
        have k := q H1 s'
        unfold eqT at k
        rw [hA, Bool.false_and] at k
        exact .inl ⟨congrArg V.bl hA, k⟩
      | true =>
        refine .inr ⟨congrArg V.bl hA, _, dx, _, s' _ _ e1, W.cls_Term, W.n_Term_times, _, rfl, _, dy, _, s' _ _ f1, W.cls_Term, W.n_Term_times, _, rfl, tp, tq, a0, a1, a2, b0, b1, b2, t0, t1, t2, u0, u1, u2, rfl, rfl, s' _ _ e3, s' _ _ f3, e4.same s', e5.same s', e6.same s', f4.same s', f5.same s', f6.same s', s1, s2, s3, fun H2 s2' => ?_⟩
        have k := q H2 (s'.trans s2')
        unfold eqT at k
        rw [hA, Bool.true_and] at k
        exact k
end
section
variable {X : Cx}
theorem Wd.cmpT (W : Wd X.K X.mg) : CmX.CmpC X.K (He.ga X.K "Term") := CmX.cmpB_ok (W.ex 22 rfl)
/-- what is compared with a term -/
def TmOr (K : PySem.W.Frag) (H : Hp) (x : Addr) (v : V) (R : Bool → Hp → Prop) : Prop := (∃ t, TyOf K H v t ∧ PySem.W.kitOne K t (.ref (He.ga K "Term")) = some false ∧ CmX.Beside K (He.ga K "Term") t ∧ R false H) ∨
  ∃ (y : Addr) (m t0 t1 t2 n u0 u1 u2 : Int × Int), v = .ref y ∧ IsTm K H x m t0 t1 t2 ∧ IsTm K H y n u0 u1 u2 ∧ SmP m n ∧ SmP t0 u0 ∧ SmP t1 u1 ∧ SmP t2 u2 ∧ ∀ H', Same H H' → R (eqT m t0 t1 t2 n u0 u1 u2) H'
def rTE (K : PySem.W.Frag) (f : Bool → Bool) : R2 := fun x y H Q => ∃ (z : Addr) (m t0 t1 t2 : Int × Int), x = .ref z ∧ IsTm K H z m t0 t1 t2 ∧ TmOr K H z y (fun b H' => Q (.bl (f b)) H')
theorem TmOr.sp {K : PySem.W.Frag} {H : Hp} {x : Addr} {v : V} {R : Bool → Hp → Prop} {Q : VK} {E : XK} (h : TmOr K H x v R) (k : ∀ b H', R b H' → Q (.bl b) H') : spTEq K [.ref x, v] H Q E := by
  rcases h with ⟨t, ty, kt, _, r⟩ | ⟨y, m, t0, t1, t2, n, u0, u1, u2, e, hx, hy, s0, s1, s2, s3, r⟩
  · exact ⟨x, v, rfl, .inl ⟨t, ty, kt, k _ _ r⟩⟩
  · exact ⟨x, v, rfl, .inr ⟨y, m, t0, t1, t2, n, u0, u1, u2, e, hx, hy, s0, s1, s2, s3, fun H' s' => k _ _ (r H' s')⟩⟩
theorem TmOr.ty {K : PySem.W.Frag} {mg : Str → Option Value} (W : Wd K mg) {H : Hp} {x : Addr} {v : V} {R : Bool → Hp → Prop} (h : TmOr K H x v R) : ∃ t, TyOf K H v t ∧ CmX.Beside K (He.ga K "Term") t := by
  rcases h with ⟨t, ty, kt, b, r⟩ | ⟨y, m, t0, t1, t2, n, u0, u1, u2, rfl, hx, hy, s0, s1, s2, s3, r⟩
  · exact ⟨t, ty, b⟩
  · exact ⟨_, W.isTm hy, .inl rfl⟩
theorem Wd.opTEq (W : Wd X.K X.mg) (hr : Room 5 X.A) : OpR X (compareOp .Eq) (rTE X.K id) := by
  obtain ⟨f1, G1, b1⟩ := ok_teq (P := X.prog) (w := X.w) (base := X.base) W
  intro pins s σ H x y v u Q I rx ry h
  obtain ⟨z, m, t0, t1, t2, rfl, hz, h⟩ := h
  obtain ⟨t, ty, bs⟩ := h.ty W
  obtain ⟨dx, a, tp, a0, a1, a2, e1, _⟩ := id hz
  exact CmX.op_cmpL (E := E0) (fun _ _ => rfl) W.m_Term_eq.at_ W.m_Term_eq.fn (raw0 G1 b1) hr hr.units0 pass0 pins s σ H _ y v u Q I rx ry ⟨z, dx, _, t, rfl, e1, ty, bs, h.sp fun b H' r => r⟩
theorem Wd.opTNe (W : Wd X.K X.mg) (hr : Room 6 X.A) : OpR X (compareOp .NotEq) (rTE X.K not) := by
  obtain ⟨f1, G1, b1⟩ := ok_teq (P := X.prog) (w := X.w) (base := X.base) W
  intro pins s σ H x y v u Q I rx ry h
  obtain ⟨z, m, t0, t1, t2, rfl, hz, h⟩ := h
  obtain ⟨t, ty, bs⟩ := h.ty W
  obtain ⟨dx, a, tp, a0, a1, a2, e1, _⟩ := id hz
  exact CmX.op_neL (E := E0) W.cmpT W.m_Term_eq.at_ W.m_Term_eq.fn (raw0 G1 b1) hr (hu_of hr) pass0 pins s σ H _ y v u Q I rx ry ⟨z, dx, _, t, rfl, e1, ty, bs, h.sp fun b H' r => ⟨b, rfl, r⟩⟩
end
/-! ### Term.unknown -/
section
variable {P : Program} {w : World} {K : PySem.W.Frag} {mg : Str → Option Value} {base : Heap} {fd : FuncData}
theorem Wd.g_UNKNOWNS (W : Wd K mg) : ∃ t, mg "UNKNOWNS" = some (.int 3 t) := by
  obtain ⟨h0, X, G⟩ := W.X
  exact He.int_ok X G (W.c.fact 35 rfl)
theorem Wd.sm_constant (W : Wd K mg) : StX.SMet K (He.ga K "Term") "constant" (He.ma K (He.ga K "Term") "constant") (He5.wf K (He.ga K "Term") "staticmethod" "constant") := StX.smB_ok (W.ex 17 rfl)
theorem Wd.sm_unknown (W : Wd K mg) : StX.SMet K (He.ga K "Term") "unknown" (He.ma K (He.ga K "Term") "unknown") (He5.wf K (He.ga K "Term") "staticmethod" "unknown") := StX.smB_ok (W.ex 28 rfl)
theorem ok_nounknown (W : Wd K mg) (hP : SupX.PrgOk P) : ∃ fd, FnOk P w K mg base CX0 1 (He.ma K (He.ga K "NoUnknown") "__init__") fd ["self", "k"] (SupX.spExc (He.ga K "NoUnknown") "k") ∧ Binds K fd ["self", "k"] [] := by
  obtain ⟨cc, cda, T⟩ := SupX.supC_of hP (W.sup 0 rfl) (W.ex 23 rfl) (W.ex 24 rfl)
  exact SupX.exc_init T (NdefX.nscope_by (by decide +kernel)) W.n_NoUnknown_k (by decide +kernel) (fun _ _ _ _ us hl => match us, hl with | [_, _], _ => rfl) rfl rfl (fun env h => rfl) (fun env h => rfl) (fun env h => by unfold interactive; rw [h]; rfl) (fun env h => rfl) rfl rfl
theorem scUnk : FnScope ["k", "at"] ["k"] d_Term_unknown.scope := ⟨rfl, rfl, rfl, by decide +kernel, rfl, by decide +kernel, by decide +kernel⟩
/-- 1 at k, else 0 -/
def dl (k i : Int) : Int × Int := (if i = k then 1 else 0, 1)
def spUnk (K : PySem.W.Frag) : Sp := fun vs H Q _ => ∃ (k : Int), vs = [.int k] ∧ 0 ≤ k ∧ k < 3 ∧ ∀ z H', Same H H' → IsTm K H' z (0, 1) (dl k 0) (dl k 1) (dl k 2) → Q (.ref z) H'
theorem MkS.one {H : Hp} {b : Int} {Q : V → Hp → Prop} {E : XK} (h : ∀ z H', H z = none → Same H H' → IsSh K H' z b 1 → Q (.ref z) H') : MkS K H [.int b, .int 1] Q E := MkS.of rfl (by decide) (by decide +kernel) fun z H' n i s' => h z H' n s' (by
  rw [(one_fd b).1, (one_fd b).2] at i
  exact i)
theorem ok_unk (W : Wd K mg) : ∃ fd, FnOk P w K mg base CX0 5 (He5.wf K (He.ga K "Term") "staticmethod" "unknown") fd ["k"] (spUnk K) ∧ Binds K fd ["k"] [] := by
  obtain ⟨fdH, GH, FH⟩ := ok_init (P := P) (w := w) (base := base) W
  obtain ⟨ds1, v1, b1⟩ := bind2 FH
  obtain ⟨fdT, GT, bT⟩ := ok_tinit (P := P) (w := w) (base := base) W
  obtain ⟨fdI, GI, bI⟩ := ok_isInt (P := P) (w := w) (base := base) W
  have kI : PySem.W.keepIn K (.ref (He.ga K "is_integer")) = true := by obtain ⟨fd, F⟩ := W.F_is_integer; exact F.kp
  obtain ⟨tu, mU⟩ := W.g_UNKNOWNS
  obtain ⟨fd, F⟩ := W.F_Term_unknown
  refine ⟨fd, F.ok scUnk (fun vs H Q E h => ?_) (fun cdv A outer s H vs Q E hr h => ?_), FunD.bindsN F fun _ _ _ _ _ _ us hl => match us, hl with | [_], _ => rfl⟩
  · obtain ⟨k, rfl, _⟩ := h
    rfl
  · obtain ⟨k, rfl, k0, k1, q⟩ := h
    have r3 : Room 3 _ := hr.mono (by decide)
    have r2 : Room 2 _ := hr.mono (by decide)
    have r1 : Room 1 _ := hr.mono (by decide)
    refine ⟨_, PSs.nox (pss_cons (ps_if (PW.pt (pw_or (pt_not (pt_val (pe_call GI r1 rfl W.g_is_integer kI bI .nil pass0 (pa_cons (pv 0) pa_nil)))) (pw_or (pt_cmpR op_lt (pv 0) pe_int (nomark _)) (pw_or1 (pt_cmpR op_ge (pv 0) (pe_glob (v := .int 3) rfl mU ⟨_, rfl⟩) (nomark _)))))) pss_never pss_nil)
      (pss_one (ps_ret (pe_make W.mkr_Term GT r2 rfl W.g_Term bT .nil pass0 (pa_cons (pe_make W.mkr_Share GH r3 rfl W.g_Share b1 v1 pass0 (pa_cons pe_int pa_nil)) (pa_cons (pe_callTy call_tuple_of (by rfl) W.f_tuple (by decide +kernel) (pa_cons
        (pe_lc (own := [("at", 1)]) (g := gName 1) (tt := tYes) rfl scUnk.nd (pi_range1 rfl W.f_range (pa_cons (pe_glob (v := .int 3) rfl mU ⟨_, rfl⟩) pa_nil)) (blkOk_by (N := ["k", "at"]) (sc := defScope s_Term_unknown) (by decide +kernel))
          (fun _ _ _ _ _ => pg_name (i := 1) scUnk.nd rfl (Or.inl rfl)) (fun _ _ _ _ _ => pts_nil)
          (fun _ _ _ _ _ => pe_make W.mkr_Share GH r3 rfl W.g_Share b1 v1 pass0 (pa_cons (pe_ifExp (pt_cmpR op_eq (pv 1) (pv 0) (nomark _)) pe_int pe_int) pa_nil))) pa_nil)) pa_nil)))))), ?_⟩
    simp -dsimp [tSeq, tAsg, tRet, tIfS, tIf, tTest, tVar, tCons, tNil, tC, tOp, tUn, rI, rI0, rU, tCB, tLst_A, tTup_A, gName, L2.start, CMul, CPow, CDiv, tDrop, tBM, tBM0, tNext, tPar, gSub, rSetL, rIxL, rIxT, tChain, tB, tNot, tNotV, tAnd, tOr, tAndV, tOrV, tFld, tCall, rIxLH, rIxTH, atI, ixN, upd_same, cxK, ex2, ex3, ex3b, rIs1, rIs2, rNe2, tyN, kb1, kb2, kb3, kb4, kb5, kb6, rEq, rNe, scal, tMake_S, tMakeK_S, tMakeN_S, tMake_T]
    refine ⟨.int k, .type "int", true, rfl, .int k, ⟨true, false, kit_ty kb4, kit_ty kb3, rfl⟩, .inr ⟨rfl, ?_⟩⟩
    rw [if_neg (by omega), if_neg (by omega)]
    refine MkS.zero fun z1 H1 s1 i1 => ⟨3, rfl, by decide, by decide, fun D hD => ?_⟩
    have nD : ∀ {b : Addr} {o : HO}, H1 b = some o → b ≠ D := fun e => ne_of_none e hD
    refine lc_it (walk_range (lo := 0) (n := 3)) (fun i H' => Same H1 H' ∧ ∃ ss : List Addr, ss.length = i ∧ H' D = some (.lst (ss.map V.ref)) ∧ ∀ (j : Nat) (a : Addr), ss[j]? = some a → IsS K H' a (dl k j)) ⟨same_upd hD, [], rfl, upd_same, fun j a e => by simp at e⟩ (fun _ _ _ _ => True.intro) ?_ ?_
    · rintro i x H' H'' hi ⟨sm, ss, hl, hD', hs⟩ ⟨rfl, rfl⟩
      refine ⟨rfl, ?_⟩
      simp only [tYes, if_true]
      simp -dsimp [tSeq, tAsg, tRet, tIfS, tIf, tTest, tVar, tCons, tNil, tC, tOp, tUn, rI, rI0, rU, tCB, tLst_A, tTup_A, gName, L2.start, CMul, CPow, CDiv, tDrop, tBM, tBM0, tNext, tPar, gSub, rSetL, rIxL, rIxT, tChain, tB, tNot, tNotV, tAnd, tOr, tAndV, tOrV, tFld, tCall, rIxLH, rIxTH, atI, ixN, upd_same, cxK, ex2, ex3, ex3b, rIs1, rIs2, rNe2, tyN, kb1, kb2, kb3, kb4, kb5, kb6, rEq, rNe, scal, tMake_S, tMakeK_S, tMakeN_S, gName, wipe]
      have dD : H'' D = some (.lst (ss.map V.ref)) := hD'
      have fin : ∀ b : Int, dl k i = (b, 1) → MkS K H'' [V.int b, V.int 1] (fun y H4 => ∃ acc, H4 D = some (HO.lst acc) ∧ acc.length < sizeLine ∧ Same H1 (upd H4 D (HO.lst (acc ++ [y]))) ∧ ∃ ss : List Addr, ss.length = i + 1 ∧ acc ++ [y] = List.map V.ref ss ∧ ∀ (j : Nat) (a : Addr), ss[j]? = some a → IsS K (upd H4 D (HO.lst (acc ++ [y]))) a (dl k ↑j)) E0 := by
        intro b e
        refine MkS.one fun a H4 na s4 ia => ⟨ss.map V.ref, s4 _ _ dD, ?_, fun c o ec => ?_, ss ++ [a], by simp [hl], by simp, fun j c hj => ?_⟩
        · rw [List.length_map]
          exact small1000 (by omega)
        · rw [upd_ne (nD ec)]
          exact s4 _ _ (sm _ _ ec)
        · have hc : IsS K H4 c (dl k j) := by
            by_cases hji : j < ss.length
            · rw [List.getElem?_append_left hji] at hj
              exact (hs j c hj).same s4
            · rw [List.getElem?_append_right (by omega)] at hj
              have ej : j - ss.length = 0 := by
                rcases Nat.eq_zero_or_pos (j - ss.length) with h | h
                · exact h
                · rw [List.getElem?_eq_none (by simp; omega)] at hj
                  cases hj
              rw [ej] at hj
              cases hj
              have : j = i := by omega
              subst this
              rw [e]
              exact ia
          obtain ⟨dc, hc⟩ := hc
          refine ⟨dc, ?_⟩
          rw [upd_ne]
          · exact hc
          · intro ecD
            subst ecD
            rw [s4 _ _ dD] at hc
            cases hc
      split
      · rename_i hik
        exact fin 1 (by unfold dl; rw [if_pos hik])
      · rename_i hik
        exact fin 0 (by unfold dl; rw [if_neg hik])
    · rintro H' ⟨sm, ss, hl, hD', hs⟩
      match ss, hl with
      | [a0, a1, a2], _ =>
        have h0 := hs 0 a0 rfl
        have h1 := hs 1 a1 rfl
        have h2 := hs 2 a2 rfl
        refine ⟨D, rfl, _, .inl ⟨SqL.of hD', fun l hl => MkT.of rfl fun x dx H4 n4 e4 s4 => ?_⟩⟩
        have sl := same_upd hl (o := HO.tup ([a0, a1, a2].map V.ref))
        exact q x H4 (((s1.trans sm).trans sl).trans s4) ⟨dx, z1, l, a0, a1, a2, e4, (((show IsS K H1 z1 (0, 1) from i1).same sm).same sl).same s4, s4 _ _ upd_same, (h0.same sl).same s4, (h1.same sl).same s4, (h2.same sl).same s4⟩
end
/-! ### same, of things of every sort -/
/-- lists of two truths are equal -/
def rEq2 : R2 := fun x y H Q => ∃ (p q : Addr) (a b c d : Bool), x = .ref p ∧ y = .ref q ∧ H p = some (.lst [.bl a, .bl b]) ∧ H q = some (.lst [.bl c, .bl d]) ∧ Q (.bl (a == c && b == d)) H
/-- isinstance of two kinds, of a thing of a known class -/
def rIs2G (K : PySem.W.Frag) : List V → Hp → VK → Prop := fun xs H Q => ∃ (x : V) (tp : Addr) (T1 T2 : String) (t : Value) (b1 b2 : Bool), xs = [x, .ref tp] ∧ H tp = some (.tup [.ty T1, .ty T2]) ∧ TyOf K H x t ∧ PySem.W.kitOne K t (.type T1) = some b1 ∧ PySem.W.kitOne K t (.type T2) = some b2 ∧ Q (.bl (b1 || b2)) H
/-- neither list, tuple, truth nor int -/
def Plain (K : PySem.W.Frag) (t : Value) : Prop := PySem.W.kitOne K t (.type "list") = some false ∧ PySem.W.kitOne K t (.type "tuple") = some false ∧ PySem.W.kitOne K t (.type "bool") = some false ∧ PySem.W.kitOne K t (.type "int") = some false
def h60 (a b : Int) : Prop := a.natAbs < bigH ∧ b.natAbs < bigH
/-- what same compares by == at once -/
inductive Thp (K : PySem.W.Frag) (H : Hp) : V → Prop where
  | non : Thp K H .non
  | str (x : Str) : Thp K H (.str x)
  | dK {a : Addr} (e : H a = some (.dK [])) : Thp K H (.ref a)
  | sh {x : Addr} {a b : Int} (h : IsSh K H x a b) (m : h60 a b) : Thp K H (.ref x)
theorem Thp.same {K : PySem.W.Frag} {H H' : Hp} {v : V} (h : Thp K H v) (s : Same H H') : Thp K H' v := by
  cases h with
  | non => exact .non
  | str x => exact .str x
  | dK e => exact .dK (s _ _ e)
  | sh h m => exact .sh (h.same s) m
/-- things that same says True of, n deep -/
inductive SmV (K : PySem.W.Frag) (H : Hp) : Nat → V → V → Prop where
  | int (n : Nat) (i : Int) : SmV K H n (.int i) (.int i)
  | bl (n : Nat) (i : Bool) : SmV K H n (.bl i) (.bl i)
  | thp (n : Nat) {v : V} (h : Thp K H v) : SmV K H n v v
  | lst (n : Nat) {p q : Addr} {xs ys : List V} (hp : H p = some (.lst xs)) (hq : H q = some (.lst ys)) (hl : xs.length = ys.length) (hb : xs.length ≤ 100) (h : ∀ (i : Nat) (x y : V), xs[i]? = some x → ys[i]? = some y → SmV K H n x y) : SmV K H (n + 1) (.ref p) (.ref q)
  | tup (n : Nat) {p q : Addr} {xs ys : List V} (hp : H p = some (.tup xs)) (hq : H q = some (.tup ys)) (hl : xs.length = ys.length) (hb : xs.length ≤ 100) (h : ∀ (i : Nat) (x y : V), xs[i]? = some x → ys[i]? = some y → SmV K H n x y) : SmV K H (n + 1) (.ref p) (.ref q)
theorem SmV.same {K : PySem.W.Frag} {H H' : Hp} {n : Nat} {u v : V} (h : SmV K H n u v) (s : Same H H') : SmV K H' n u v := by
  induction h with
  | int n i => exact .int n i
  | bl n i => exact .bl n i
  | thp n h => exact .thp n (h.same s)
  | lst n hp hq hl hb h ih => exact .lst n (s _ _ hp) (s _ _ hq) hl hb ih
  | tup n hp hq hl hb h ih => exact .tup n (s _ _ hp) (s _ _ hq) hl hb ih
theorem SmV.up {K : PySem.W.Frag} {H : Hp} {n : Nat} {u v : V} (h : SmV K H n u v) : SmV K H (n + 1) u v := by
  induction h with
  | int n i => exact .int _ i
  | bl n i => exact .bl _ i
  | thp n h => exact .thp _ h
  | lst n hp hq hl hb h ih => exact .lst _ hp hq hl hb ih
  | tup n hp hq hl hb h ih => exact .tup _ hp hq hl hb ih
def rThp (K : PySem.W.Frag) : R2 := fun x y H Q => x = y ∧ Thp K H x ∧ ∀ H', Same H H' → Q (.bl true) H'
section
variable {X : Cx}
theorem op_eq2 (hu : X.A.units + 64 < cLine) : OpR X (compareOp .Eq) rEq2 := by
  intro pins s σ H x y v u Q I rx ry h
  obtain ⟨p, q, a, b, c, d, e1, e2, hp, hq, k⟩ := h
  refine op_eqD hu pins s σ H x y v u Q I rx ry ⟨.list [.bool a, .bool b], .list [.bool c, .bool d], ?_, ?_, ?_, ?_, ?_⟩
  · rw [e1]
    exact .lst (SqL.of hp) (.cons (.bl _) (.cons (.bl _) .nil))
  · rw [e2]
    exact .lst (SqL.of hq) (.cons (.bl _) (.cons (.bl _) .nil))
  · cases a <;> cases b <;> decide +kernel
  · cases c <;> cases d <;> decide +kernel
  · have e : PyData.eqv (.list [.bool a, .bool b]) (.list [.bool c, .bool d]) = (a == c && b == d) := by
      show ((a == c) && ((b == d) && true)) = _
      rw [Bool.and_true]
    rw [e]
    exact k
theorem isi_2G : CallR X (.builtin "isinstance") (rIs2G X.K) := by
  intro pins s σ H xs us Q I r h
  obtain ⟨x, tp, T1, T2, t, b1, b2, e, hT, ty, k1, k2, q⟩ := h
  refine call_isiT pins s σ H xs us Q I r ⟨x, tp, _, t, [.type T1, .type T2], b1 || b2, e, hT, .cons (.ty T1) (.cons (.ty T2) .nil), .base ty, ?_, q⟩
  refine kitAny_cons k1 (fun f => ?_) (fun f => by rw [f]; rfl)
  rw [f]
  refine kitAny_cons k2 (fun f => ?_) (fun f => by rw [f]; rfl)
  rw [f]
  exact kitAny_nil
theorem Wd.opThp (W : Wd X.K X.mg) (hr : Room 3 X.A) : OpR X (compareOp .Eq) (rThp X.K) := by
  intro pins s σ H x y v u Q I rx ry h
  obtain ⟨rfl, t, q⟩ := h
  cases t with
  | non => exact op_eq pins s σ H _ _ v u Q I rx ry ⟨rfl, q H (Same.refl _)⟩
  | str x => exact op_eq pins s σ H _ _ v u Q I rx ry ⟨rfl, by
      have e : decide (V.str x = V.str x) = true := by simp only [decide_true]
      rw [e]
      exact q H (Same.refl _)⟩
  | @dK a e => exact op_eq_dict hr.units0 pins s σ H _ _ v u Q I rx ry ⟨a, a, [], rfl, rfl, e, e, List.nodup_nil, (fun p hp => by cases hp), q H (Same.refl _)⟩
  | @sh x a b h m => exact W.opEq hr pins s σ H _ _ v u Q I rx ry ⟨a, b, a, b, .inl ⟨x, rfl, h⟩, .inl ⟨x, rfl, h⟩, ⟨m.1, m.2, m.1, m.2⟩, .inl ⟨x, rfl⟩, fun H' s' => by
      rw [Int.sub_self]
      exact q H' s'⟩
end
section
variable {P : Program} {w : World} {K : PySem.W.Frag} {mg : Str → Option Value} {base : Heap}
theorem Wd.thpTy (W : Wd K mg) {H : Hp} {v : V} (h : Thp K H v) : ∃ t, TyOf K H v t ∧ Plain K t := by
  cases h with
  | non => exact ⟨_, .non, kit_ty (by decide +kernel), kit_ty (by decide +kernel), kit_ty (by decide +kernel), kit_ty (by decide +kernel)⟩
  | str x => exact ⟨_, .str x, kit_ty (by decide +kernel), kit_ty (by decide +kernel), kit_ty (by decide +kernel), kit_ty (by decide +kernel)⟩
  | dK e => exact ⟨_, .dK e, kit_ty (by decide +kernel), kit_ty (by decide +kernel), kit_ty (by decide +kernel), kit_ty (by decide +kernel)⟩
  | sh h m =>
    have f := List.all_eq_true.mp (W.ex 31 rfl)
    exact ⟨_, W.isSh h, of_decide_eq_true (f "list" (by decide)), of_decide_eq_true (f "tuple" (by decide)), of_decide_eq_true (f "bool" (by decide)), of_decide_eq_true (f "int" (by decide))⟩
def spSame (K : PySem.W.Frag) (n : Nat) : Sp := fun vs H Q _ => ∃ (u v : V), vs = [u, v] ∧ SmV K H n u v ∧ ∀ H', Same H H' → Q (.bl true) H'
theorem kb7 : kitB "bool" "list" = some false := by decide +kernel
theorem kb8 : kitB "bool" "tuple" = some false := by decide +kernel
theorem kb9 : kitB "bool" "bool" = some true := by decide +kernel
theorem kb10 : kitB "bool" "int" = some true := by decide +kernel
theorem kb11 : kitB "list" "list" = some true := by decide +kernel
theorem kb12 : kitB "list" "tuple" = some false := by decide +kernel
theorem ok_same0 (W : Wd K mg) (n : Nat) (deep : n = 0 ∨ ∃ (m : Nat) (fd : FuncData), n = m + 1 ∧ FnOk P w K mg base CX0 (m + 4) (He.ga K "_law_same") fd ["_law_found", "_law_due"] (spSame K m) ∧ Binds K fd ["_law_found", "_law_due"] []) :
    ∃ fd, FnOk P w K mg base CX0 (n + 4) (He.ga K "_law_same") fd ["_law_found", "_law_due"] (spSame K n) ∧ Binds K fd ["_law_found", "_law_due"] [] := by
  obtain ⟨fd, F⟩ := W.F_same
  refine ⟨fd, F.ok scSame (fun vs H Q E h => ?_) (fun cdv A outer s H vs Q E hr h => ?_), FunD.bindsN F fun _ _ _ _ _ _ us hl => match us, hl with | [_, _], _ => rfl⟩
  · obtain ⟨u, v, rfl, _⟩ := h
    rfl
  · obtain ⟨u, v, rfl, h, k⟩ := h
    have r3 : Room 3 _ := hr.mono (by omega)
    cases h with
    | int n i =>
      refine ⟨_, PSs.nox (pss_cons (ps_set (i := 2) scSame.nd rfl (Or.inl rfl) (pe_lst (pa_cons (pe_callB isi_1 (by rfl) W.f_isinstance boot_isinstance (pa_cons (pv 0) (pa_cons (pe_bltn (v := .ty "list") (by rfl) W.f_list (by decide +kernel) rfl) pa_nil))) (pa_cons (pe_callB isi_1 (by rfl) W.f_isinstance boot_isinstance (pa_cons (pv 0) (pa_cons (pe_bltn (v := .ty "tuple") (by rfl) W.f_tuple (by decide +kernel) rfl) pa_nil))) pa_nil))))
    (pss_cons (ps_if (pt_val (pe_callB isi_2 (by rfl) W.f_isinstance boot_isinstance (pa_cons (pv 1) (pa_cons (pe_tup (pa_cons (pe_bltn (v := .ty "list") (by rfl) W.f_list (by decide +kernel) rfl) (pa_cons (pe_bltn (v := .ty "tuple") (by rfl) W.f_tuple (by decide +kernel) rfl) pa_nil))) pa_nil)))) pss_never pss_nil)
    (pss_cons (ps_if (pt_val (pe_callB isi_2 (by rfl) W.f_isinstance boot_isinstance (pa_cons (pv 1) (pa_cons (pe_tup (pa_cons (pe_bltn (v := .ty "bool") (by rfl) W.f_bool (by decide +kernel) rfl) (pa_cons (pe_bltn (v := .ty "int") (by rfl) W.f_int (by decide +kernel) rfl) pa_nil))) pa_nil)))) (pss_one (ps_ret (pe_and (pe_callB isi_1 (by rfl) W.f_isinstance boot_isinstance (pa_cons (pv 0) (pa_cons (pe_bltn (v := .ty "int") (by rfl) W.f_int (by decide +kernel) rfl) pa_nil))) (pe_and (pe_cmpR op_eq (pe_callB isi_1 (by rfl) W.f_isinstance boot_isinstance (pa_cons (pv 0) (pa_cons (pe_bltn (v := .ty "bool") (by rfl) W.f_bool (by decide +kernel) rfl) pa_nil))) (pe_callB isi_1 (by rfl) W.f_isinstance boot_isinstance (pa_cons (pv 1) (pa_cons (pe_bltn (v := .ty "bool") (by rfl) W.f_bool (by decide +kernel) rfl) pa_nil))) (nomark _)) (pe_one (pe_cmpR op_eq (pv 0) (pv 1) (nomark _))))))) pss_nil)
    pss_never))), ?_⟩
      simp -dsimp [tSeq, tAsg, tRet, tIfS, tIf, tTest, tVar, tCons, tNil, tC, tOp, tUn, rI, rI0, rU, tCB, tLst_A, tTup_A, gName, L2.start, CMul, CPow, CDiv, tDrop, tBM, tBM0, tNext, tPar, gSub, rSetL, rIxL, rIxT, tChain, tB, tNot, tNotV, tAnd, tOr, tAndV, tOrV, tFld, tCall, rIxLH, rIxTH, atI, ixN, upd_same, cxK, ex2, ex3, ex3b, rIs1, rIs2, rNe2, tyN, kb1, kb2, kb3, kb4, kb5, kb6, rEq, rNe, scal, tMake_S, tMakeK_S, tMakeN_S]
      refine ⟨le2, Alloc.of fun p1 H1 n1 e1 s1 => ?_⟩
      try simp -dsimp [tSeq, tAsg, tRet, tIfS, tIf, tTest, tVar, tCons, tNil, tC, tOp, tUn, rI, rI0, rU, tCB, tLst_A, tTup_A, gName, L2.start, CMul, CPow, CDiv, tDrop, tBM, tBM0, tNext, tPar, gSub, rSetL, rIxL, rIxT, tChain, tB, tNot, tNotV, tAnd, tOr, tAndV, tOrV, tFld, tCall, rIxLH, rIxTH, atI, ixN, upd_same, cxK, ex2, ex3, ex3b, rIs1, rIs2, rNe2, tyN, kb1, kb2, kb3, kb4, kb5, kb6, rEq, rNe, scal, tMake_S, tMakeK_S, tMakeN_S]
      refine ⟨le2, Alloc.of fun p2 H2 n2 e2 s2 => ?_⟩
      simp -dsimp [tSeq, tAsg, tRet, tIfS, tIf, tTest, tVar, tCons, tNil, tC, tOp, tUn, rI, rI0, rU, tCB, tLst_A, tTup_A, gName, L2.start, CMul, CPow, CDiv, tDrop, tBM, tBM0, tNext, tPar, gSub, rSetL, rIxL, rIxT, tChain, tB, tNot, tNotV, tAnd, tOr, tAndV, tOrV, tFld, tCall, rIxLH, rIxTH, atI, ixN, upd_same, cxK, ex2, ex3, ex3b, rIs1, rIs2, rNe2, tyN, kb1, kb2, kb3, kb4, kb5, kb6, rEq, rNe, scal, tMake_S, tMakeK_S, tMakeN_S, e2]
      refine ⟨le2, Alloc.of fun p3 H3 n3 e3 s3 => ?_⟩
      simp -dsimp [tSeq, tAsg, tRet, tIfS, tIf, tTest, tVar, tCons, tNil, tC, tOp, tUn, rI, rI0, rU, tCB, tLst_A, tTup_A, gName, L2.start, CMul, CPow, CDiv, tDrop, tBM, tBM0, tNext, tPar, gSub, rSetL, rIxL, rIxT, tChain, tB, tNot, tNotV, tAnd, tOr, tAndV, tOrV, tFld, tCall, rIxLH, rIxTH, atI, ixN, upd_same, cxK, ex2, ex3, ex3b, rIs1, rIs2, rNe2, tyN, kb1, kb2, kb3, kb4, kb5, kb6, rEq, rNe, scal, tMake_S, tMakeK_S, tMakeN_S, e3]
      exact k _ ((s1.trans s2).trans s3)
    | bl n i =>
      refine ⟨_, PSs.nox (pss_cons (ps_set (i := 2) scSame.nd rfl (Or.inl rfl) (pe_lst (pa_cons (pe_callB isi_1 (by rfl) W.f_isinstance boot_isinstance (pa_cons (pv 0) (pa_cons (pe_bltn (v := .ty "list") (by rfl) W.f_list (by decide +kernel) rfl) pa_nil))) (pa_cons (pe_callB isi_1 (by rfl) W.f_isinstance boot_isinstance (pa_cons (pv 0) (pa_cons (pe_bltn (v := .ty "tuple") (by rfl) W.f_tuple (by decide +kernel) rfl) pa_nil))) pa_nil))))
    (pss_cons (ps_if (pt_val (pe_callB isi_2 (by rfl) W.f_isinstance boot_isinstance (pa_cons (pv 1) (pa_cons (pe_tup (pa_cons (pe_bltn (v := .ty "list") (by rfl) W.f_list (by decide +kernel) rfl) (pa_cons (pe_bltn (v := .ty "tuple") (by rfl) W.f_tuple (by decide +kernel) rfl) pa_nil))) pa_nil)))) pss_never pss_nil)
    (pss_cons (ps_if (pt_val (pe_callB isi_2 (by rfl) W.f_isinstance boot_isinstance (pa_cons (pv 1) (pa_cons (pe_tup (pa_cons (pe_bltn (v := .ty "bool") (by rfl) W.f_bool (by decide +kernel) rfl) (pa_cons (pe_bltn (v := .ty "int") (by rfl) W.f_int (by decide +kernel) rfl) pa_nil))) pa_nil)))) (pss_one (ps_ret (pe_and (pe_callB isi_1 (by rfl) W.f_isinstance boot_isinstance (pa_cons (pv 0) (pa_cons (pe_bltn (v := .ty "int") (by rfl) W.f_int (by decide +kernel) rfl) pa_nil))) (pe_and (pe_cmpR op_eq (pe_callB isi_1 (by rfl) W.f_isinstance boot_isinstance (pa_cons (pv 0) (pa_cons (pe_bltn (v := .ty "bool") (by rfl) W.f_bool (by decide +kernel) rfl) pa_nil))) (pe_callB isi_1 (by rfl) W.f_isinstance boot_isinstance (pa_cons (pv 1) (pa_cons (pe_bltn (v := .ty "bool") (by rfl) W.f_bool (by decide +kernel) rfl) pa_nil))) (nomark _)) (pe_one (pe_cmpR op_eq (pv 0) (pv 1) (nomark _))))))) pss_nil)
    pss_never))), ?_⟩
      simp -dsimp [tSeq, tAsg, tRet, tIfS, tIf, tTest, tVar, tCons, tNil, tC, tOp, tUn, rI, rI0, rU, tCB, tLst_A, tTup_A, gName, L2.start, CMul, CPow, CDiv, tDrop, tBM, tBM0, tNext, tPar, gSub, rSetL, rIxL, rIxT, tChain, tB, tNot, tNotV, tAnd, tOr, tAndV, tOrV, tFld, tCall, rIxLH, rIxTH, atI, ixN, upd_same, cxK, ex2, ex3, ex3b, rIs1, rIs2, rNe2, tyN, kb1, kb2, kb3, kb4, kb5, kb6, rEq, rNe, scal, tMake_S, tMakeK_S, tMakeN_S, kb7, kb8, kb9, kb10]
      refine ⟨le2, Alloc.of fun p1 H1 n1 e1 s1 => ?_⟩
      try simp -dsimp [tSeq, tAsg, tRet, tIfS, tIf, tTest, tVar, tCons, tNil, tC, tOp, tUn, rI, rI0, rU, tCB, tLst_A, tTup_A, gName, L2.start, CMul, CPow, CDiv, tDrop, tBM, tBM0, tNext, tPar, gSub, rSetL, rIxL, rIxT, tChain, tB, tNot, tNotV, tAnd, tOr, tAndV, tOrV, tFld, tCall, rIxLH, rIxTH, atI, ixN, upd_same, cxK, ex2, ex3, ex3b, rIs1, rIs2, rNe2, tyN, kb1, kb2, kb3, kb4, kb5, kb6, rEq, rNe, scal, tMake_S, tMakeK_S, tMakeN_S, kb7, kb8, kb9, kb10]
      refine ⟨le2, Alloc.of fun p2 H2 n2 e2 s2 => ?_⟩
      simp -dsimp [tSeq, tAsg, tRet, tIfS, tIf, tTest, tVar, tCons, tNil, tC, tOp, tUn, rI, rI0, rU, tCB, tLst_A, tTup_A, gName, L2.start, CMul, CPow, CDiv, tDrop, tBM, tBM0, tNext, tPar, gSub, rSetL, rIxL, rIxT, tChain, tB, tNot, tNotV, tAnd, tOr, tAndV, tOrV, tFld, tCall, rIxLH, rIxTH, atI, ixN, upd_same, cxK, ex2, ex3, ex3b, rIs1, rIs2, rNe2, tyN, kb1, kb2, kb3, kb4, kb5, kb6, rEq, rNe, scal, tMake_S, tMakeK_S, tMakeN_S, kb7, kb8, kb9, kb10, e2]
      refine ⟨le2, Alloc.of fun p3 H3 n3 e3 s3 => ?_⟩
      simp -dsimp [tSeq, tAsg, tRet, tIfS, tIf, tTest, tVar, tCons, tNil, tC, tOp, tUn, rI, rI0, rU, tCB, tLst_A, tTup_A, gName, L2.start, CMul, CPow, CDiv, tDrop, tBM, tBM0, tNext, tPar, gSub, rSetL, rIxL, rIxT, tChain, tB, tNot, tNotV, tAnd, tOr, tAndV, tOrV, tFld, tCall, rIxLH, rIxTH, atI, ixN, upd_same, cxK, ex2, ex3, ex3b, rIs1, rIs2, rNe2, tyN, kb1, kb2, kb3, kb4, kb5, kb6, rEq, rNe, scal, tMake_S, tMakeK_S, tMakeN_S, kb7, kb8, kb9, kb10, e3]
      exact k _ ((s1.trans s2).trans s3)
    | thp n h =>
      obtain ⟨t, ty, k1, k2, k3, k4⟩ := W.thpTy h
      refine ⟨_, PSs.nox (pss_cons (ps_set (i := 2) scSame.nd rfl (Or.inl rfl) (pe_lst (pa_cons (pe_callB isi_G (by rfl) W.f_isinstance boot_isinstance (pa_cons (pv 0) (pa_cons (pe_bltn (v := .ty "list") (by rfl) W.f_list (by decide +kernel) rfl) pa_nil))) (pa_cons (pe_callB isi_G (by rfl) W.f_isinstance boot_isinstance (pa_cons (pv 0) (pa_cons (pe_bltn (v := .ty "tuple") (by rfl) W.f_tuple (by decide +kernel) rfl) pa_nil))) pa_nil))))
    (pss_cons (ps_if (pt_val (pe_callB isi_2G (by rfl) W.f_isinstance boot_isinstance (pa_cons (pv 1) (pa_cons (pe_tup (pa_cons (pe_bltn (v := .ty "list") (by rfl) W.f_list (by decide +kernel) rfl) (pa_cons (pe_bltn (v := .ty "tuple") (by rfl) W.f_tuple (by decide +kernel) rfl) pa_nil))) pa_nil)))) pss_never pss_nil)
    (pss_cons (ps_if (pt_val (pe_callB isi_2G (by rfl) W.f_isinstance boot_isinstance (pa_cons (pv 1) (pa_cons (pe_tup (pa_cons (pe_bltn (v := .ty "bool") (by rfl) W.f_bool (by decide +kernel) rfl) (pa_cons (pe_bltn (v := .ty "int") (by rfl) W.f_int (by decide +kernel) rfl) pa_nil))) pa_nil)))) pss_never pss_nil)
    (pss_one (ps_ret (pe_and (pe_cmpR (op_eq2 hr.units) (pv 2) (pe_lst (pa_cons pe_bl (pa_cons pe_bl pa_nil))) (nomark _)) (pe_and (pe_not (pe_callB isi_2G (by rfl) W.f_isinstance boot_isinstance (pa_cons (pv 0) (pa_cons (pe_tup (pa_cons (pe_bltn (v := .ty "bool") (by rfl) W.f_bool (by decide +kernel) rfl) (pa_cons (pe_bltn (v := .ty "int") (by rfl) W.f_int (by decide +kernel) rfl) pa_nil))) pa_nil)))) (pe_one (pe_cmpR (W.opThp r3) (pv 0) (pv 1) (nomark _)))))))))), ?_⟩
      simp -dsimp [tSeq, tAsg, tRet, tIfS, tIf, tTest, tVar, tCons, tNil, tC, tOp, tUn, rI, rI0, rU, tCB, tLst_A, tTup_A, gName, L2.start, CMul, CPow, CDiv, tDrop, tBM, tBM0, tNext, tPar, gSub, rSetL, rIxL, rIxT, tChain, tB, tNot, tNotV, tAnd, tOr, tAndV, tOrV, tFld, tCall, rIxLH, rIxTH, atI, ixN, upd_same, cxK, ex2, ex3, ex3b, rIs1, rIs2, rNe2, tyN, kb1, kb2, kb3, kb4, kb5, kb6, rEq, rNe, scal, tMake_S, tMakeK_S, tMakeN_S]
      refine ⟨u, _, t, _, false, rfl, .ty "list", ty, k1, u, _, t, _, false, rfl, .ty "tuple", ty, k2, le2, Alloc.of fun p1 H1 n1 e1 s1 => ⟨le2, Alloc.of fun p2 H2 n2 e2 s2 => ?_⟩⟩
      have s12 := s1.trans s2
      obtain ⟨t2, ty2, k12, k22, k32, k42⟩ := W.thpTy (h.same s12)
      refine ⟨u, p2, _, _, t2, false, false, rfl, e2, ty2, k12, k22, .inl ⟨rfl, le2, Alloc.of fun p3 H3 n3 e3 s3 => ?_⟩⟩
      have s13 := s12.trans s3
      obtain ⟨t3, ty3, k13, k23, k33, k43⟩ := W.thpTy (h.same s13)
      refine ⟨u, p3, _, _, t3, false, false, rfl, e3, ty3, k33, k43, .inl ⟨rfl, le2, Alloc.of fun p4 H4 n4 e4 s4 => ?_⟩⟩
      refine ⟨p1, p4, false, false, false, false, rfl, rfl, s4 _ _ (s3 _ _ (s2 _ _ e1)), e4, .inr ⟨rfl, le2, Alloc.of fun p5 H5 n5 e5 s5 => ?_⟩⟩
      have s15 := (s13.trans s4).trans s5
      obtain ⟨t5, ty5, k15, k25, k35, k45⟩ := W.thpTy (h.same s15)
      exact ⟨u, p5, _, _, t5, false, false, rfl, e5, ty5, k35, k45, .inl ⟨rfl, rfl, h.same s15, fun H' s' => k _ (s15.trans s')⟩⟩
    | @lst m p q xs ys hp hq hl hb h =>
      obtain ⟨fdI, GI, bI⟩ : ∃ fdI, FnOk P w K mg base CX0 (m + 4) (He.ga K "_law_same") fdI ["_law_found", "_law_due"] (spSame K m) ∧ Binds K fdI ["_law_found", "_law_due"] [] := by
        rcases deep with e | ⟨m', fd', e, G, b⟩
        · cases e
        · cases e
          exact ⟨fd', G, b⟩
      have hI : Room (m + 4) _ := hr.mono (by omega)
      refine ⟨_, PSs.nox (pss_cons (ps_set (i := 2) scSame.nd rfl (Or.inl rfl) (pe_lst (pa_cons (pe_callB isi_1 (by rfl) W.f_isinstance boot_isinstance (pa_cons (pv 0) (pa_cons (pe_bltn (v := .ty "list") (by rfl) W.f_list (by decide +kernel) rfl) pa_nil))) (pa_cons (pe_callB isi_1 (by rfl) W.f_isinstance boot_isinstance (pa_cons (pv 0) (pa_cons (pe_bltn (v := .ty "tuple") (by rfl) W.f_tuple (by decide +kernel) rfl) pa_nil))) pa_nil))))
    (pss_cons (ps_if (pt_val (pe_callB isi_2 (by rfl) W.f_isinstance boot_isinstance (pa_cons (pv 1) (pa_cons (pe_tup (pa_cons (pe_bltn (v := .ty "list") (by rfl) W.f_list (by decide +kernel) rfl) (pa_cons (pe_bltn (v := .ty "tuple") (by rfl) W.f_tuple (by decide +kernel) rfl) pa_nil))) pa_nil)))) (pss_cons (ps_if (PW.pt (pw_or (pt_cmpR (op_ne2 hr.units) (pv 2) (pe_lst (pa_cons (pe_callB isi_1 (by rfl) W.f_isinstance boot_isinstance (pa_cons (pv 1) (pa_cons (pe_bltn (v := .ty "list") (by rfl) W.f_list (by decide +kernel) rfl) pa_nil))) (pa_cons (pe_callB isi_1 (by rfl) W.f_isinstance boot_isinstance (pa_cons (pv 1) (pa_cons (pe_bltn (v := .ty "tuple") (by rfl) W.f_tuple (by decide +kernel) rfl) pa_nil))) pa_nil))) (nomark _)) (pw_or1 (pt_cmpR op_ne (pe_callB len_lstH (by rfl) W.f_len boot_len (pa_cons (pv 0) pa_nil)) (pe_callB len_lstH (by rfl) W.f_len boot_len (pa_cons (pv 1) pa_nil)) (nomark _))))) (pss_one (ps_ret pe_bl)) pss_nil)
    (pss_one (ps_ret (pe_callB (cr_all rfl) (by rfl) W.f_all boot_all (pa_cons (pe_lc (own := [("_law_left", 3), ("_law_right", 4)]) (g := gTup K 2 (gCons (gName 3) (gCons (gName 4) gNil))) (tt := tYes) rfl scSame.nd (RZ.pi_zipA (by rfl) W.f_zip (pa_cons (pv 0) (pa_cons (pv 1) pa_nil))) (blkOk_by (N := ["_law_found", "_law_due", "_law_kinds", "_law_left", "_law_right"]) (sc := defScope s_same) (by decide +kernel))
            (fun _ _ _ _ _ => (pg_tup rfl (pgs_cons (pg_name (i := 3) scSame.nd rfl (Or.inl rfl)) (pgs_cons (pg_name (i := 4) scSame.nd rfl (Or.inl rfl)) pgs_nil)))) (fun _ _ _ _ _ => pts_nil)
            (fun _ _ _ _ _ => (pe_call GI hI rfl W.g_law_same F.kp bI .nil pass0 (pa_cons (pv 3) (pa_cons (pv 4) pa_nil))))) pa_nil))))) pss_nil)
    pss_never)), ?_⟩
      simp -dsimp [tSeq, tAsg, tRet, tIfS, tIf, tTest, tVar, tCons, tNil, tC, tOp, tUn, rI, rI0, rU, tCB, tLst_A, tTup_A, gName, L2.start, CMul, CPow, CDiv, tDrop, tBM, tBM0, tNext, tPar, gSub, rSetL, rIxL, rIxT, tChain, tB, tNot, tNotV, tAnd, tOr, tAndV, tOrV, tFld, tCall, rIxLH, rIxTH, atI, ixN, upd_same, cxK, ex2, ex3, ex3b, rIs1, rIs2, rNe2, tyN, kb1, kb2, kb3, kb4, kb5, kb6, rEq, rNe, scal, tMake_S, tMakeK_S, tMakeN_S, kb11, kb12, hp, hq, hl]
      refine ⟨le2, Alloc.of fun p1 H1 n1 e1 s1 => ?_⟩
      have hp1 := s1 _ _ hp
      have hq1 := s1 _ _ hq
      try simp -dsimp [tSeq, tAsg, tRet, tIfS, tIf, tTest, tVar, tCons, tNil, tC, tOp, tUn, rI, rI0, rU, tCB, tLst_A, tTup_A, gName, L2.start, CMul, CPow, CDiv, tDrop, tBM, tBM0, tNext, tPar, gSub, rSetL, rIxL, rIxT, tChain, tB, tNot, tNotV, tAnd, tOr, tAndV, tOrV, tFld, tCall, rIxLH, rIxTH, atI, ixN, upd_same, cxK, ex2, ex3, ex3b, rIs1, rIs2, rNe2, tyN, kb1, kb2, kb3, kb4, kb5, kb6, rEq, rNe, scal, tMake_S, tMakeK_S, tMakeN_S]
      refine ⟨le2, Alloc.of fun p2 H2 n2 e2 s2 => ?_⟩
      have hp2 := s2 _ _ hp1
      have hq2 := s2 _ _ hq1
      have e12 := s2 _ _ e1
      simp -dsimp [tSeq, tAsg, tRet, tIfS, tIf, tTest, tVar, tCons, tNil, tC, tOp, tUn, rI, rI0, rU, tCB, tLst_A, tTup_A, gName, L2.start, CMul, CPow, CDiv, tDrop, tBM, tBM0, tNext, tPar, gSub, rSetL, rIxL, rIxT, tChain, tB, tNot, tNotV, tAnd, tOr, tAndV, tOrV, tFld, tCall, rIxLH, rIxTH, atI, ixN, upd_same, cxK, ex2, ex3, ex3b, rIs1, rIs2, rNe2, tyN, kb1, kb2, kb3, kb4, kb5, kb6, rEq, rNe, scal, tMake_S, tMakeK_S, tMakeN_S, kb11, kb12, e2, hp2, hq2]
      refine ⟨le2, Alloc.of fun p3 H3 n3 e3 s3 => ?_⟩
      have hp3 := s3 _ _ hp2
      have hq3 := s3 _ _ hq2
      have e13 := s3 _ _ e12
      simp -dsimp [tSeq, tAsg, tRet, tIfS, tIf, tTest, tVar, tCons, tNil, tC, tOp, tUn, rI, rI0, rU, tCB, tLst_A, tTup_A, gName, L2.start, CMul, CPow, CDiv, tDrop, tBM, tBM0, tNext, tPar, gSub, rSetL, rIxL, rIxT, tChain, tB, tNot, tNotV, tAnd, tOr, tAndV, tOrV, tFld, tCall, rIxLH, rIxTH, atI, ixN, upd_same, cxK, ex2, ex3, ex3b, rIs1, rIs2, rNe2, tyN, kb1, kb2, kb3, kb4, kb5, kb6, rEq, rNe, scal, tMake_S, tMakeK_S, tMakeN_S, kb11, kb12, e3, hp3, hq3, e13, hl]
      refine ⟨_, rfl, _, rfl, p, q, _, _, rfl, .inl ⟨SqL.of hp3, SqL.of hq3, fun D hD => ?_⟩⟩
      have nD : ∀ {b : Addr} {o : HO}, H3 b = some o → b ≠ D := fun e => ne_of_none e hD
      refine lc_it (walk_zip (xs := xs) (ys := ys) (n := xs.length) (by omega)) (fun i H' => Same H3 H' ∧ H' D = some (.lst (List.replicate i (.bl true)))) ⟨same_upd hD, upd_same⟩ (fun i H' _ h => ⟨SqL.of (h.1 _ _ hp3), SqL.of (h.1 _ _ hq3)⟩) ?_ ?_
      · rintro i x H' H'' hi ⟨sm, hD'⟩ ⟨T, x', y', rfl, hT, rfl, fx, fy⟩
        have hz := ((h i x' y' fx fy).same (((s1.trans s2).trans s3).trans sm)).same (same_upd hT (o := HO.tup [x', y']))
        refine ⟨T, _, rfl, SqT.of upd_same, rfl, _, _, rfl, _, _, rfl, rfl, rfl, ?_⟩
        simp only [tYes, if_true]
        refine ⟨_, rfl, _, rfl, x', y', rfl, hz, fun H4 s4 => ⟨List.replicate i (.bl true), ?_, ?_, ?_, ?_⟩⟩
        · exact s4 _ _ (by rw [upd_ne (ne_of_none hD' hT)]; exact hD')
        · rw [List.length_replicate]
          exact small1000 (by omega)
        · intro b' o e
          rw [upd_ne (nD e)]
          exact s4 _ _ (same_upd hT _ _ (sm _ _ e))
        · rw [upd_same, ← List.replicate_succ']
      · rintro H' ⟨sm, hD'⟩
        refine ⟨D, List.replicate xs.length true, rfl, ?_, ?_⟩
        · rw [List.map_replicate]
          exact SqL.of hD'
        · have e : (List.replicate xs.length true).all id = true := by
            rw [List.all_eq_true]
            intro x hx
            exact (List.eq_of_mem_replicate hx)
          rw [e]
          exact k _ (((s1.trans s2).trans s3).trans sm)
    | @tup m p q xs ys hp hq hl hb h =>
      obtain ⟨fdI, GI, bI⟩ : ∃ fdI, FnOk P w K mg base CX0 (m + 4) (He.ga K "_law_same") fdI ["_law_found", "_law_due"] (spSame K m) ∧ Binds K fdI ["_law_found", "_law_due"] [] := by
        rcases deep with e | ⟨m', fd', e, G, b⟩
        · cases e
        · cases e
          exact ⟨fd', G, b⟩
      have hI : Room (m + 4) _ := hr.mono (by omega)
      refine ⟨_, PSs.nox (pss_cons (ps_set (i := 2) scSame.nd rfl (Or.inl rfl) (pe_lst (pa_cons (pe_callB isi_1 (by rfl) W.f_isinstance boot_isinstance (pa_cons (pv 0) (pa_cons (pe_bltn (v := .ty "list") (by rfl) W.f_list (by decide +kernel) rfl) pa_nil))) (pa_cons (pe_callB isi_1 (by rfl) W.f_isinstance boot_isinstance (pa_cons (pv 0) (pa_cons (pe_bltn (v := .ty "tuple") (by rfl) W.f_tuple (by decide +kernel) rfl) pa_nil))) pa_nil))))
    (pss_cons (ps_if (pt_val (pe_callB isi_2 (by rfl) W.f_isinstance boot_isinstance (pa_cons (pv 1) (pa_cons (pe_tup (pa_cons (pe_bltn (v := .ty "list") (by rfl) W.f_list (by decide +kernel) rfl) (pa_cons (pe_bltn (v := .ty "tuple") (by rfl) W.f_tuple (by decide +kernel) rfl) pa_nil))) pa_nil)))) (pss_cons (ps_if (PW.pt (pw_or (pt_cmpR (op_ne2 hr.units) (pv 2) (pe_lst (pa_cons (pe_callB isi_1 (by rfl) W.f_isinstance boot_isinstance (pa_cons (pv 1) (pa_cons (pe_bltn (v := .ty "list") (by rfl) W.f_list (by decide +kernel) rfl) pa_nil))) (pa_cons (pe_callB isi_1 (by rfl) W.f_isinstance boot_isinstance (pa_cons (pv 1) (pa_cons (pe_bltn (v := .ty "tuple") (by rfl) W.f_tuple (by decide +kernel) rfl) pa_nil))) pa_nil))) (nomark _)) (pw_or1 (pt_cmpR op_ne (pe_callB len_tupH (by rfl) W.f_len boot_len (pa_cons (pv 0) pa_nil)) (pe_callB len_tupH (by rfl) W.f_len boot_len (pa_cons (pv 1) pa_nil)) (nomark _))))) (pss_one (ps_ret pe_bl)) pss_nil)
    (pss_one (ps_ret (pe_callB (cr_all rfl) (by rfl) W.f_all boot_all (pa_cons (pe_lc (own := [("_law_left", 3), ("_law_right", 4)]) (g := gTup K 2 (gCons (gName 3) (gCons (gName 4) gNil))) (tt := tYes) rfl scSame.nd (RZ.pi_zipA (by rfl) W.f_zip (pa_cons (pv 0) (pa_cons (pv 1) pa_nil))) (blkOk_by (N := ["_law_found", "_law_due", "_law_kinds", "_law_left", "_law_right"]) (sc := defScope s_same) (by decide +kernel))
            (fun _ _ _ _ _ => (pg_tup rfl (pgs_cons (pg_name (i := 3) scSame.nd rfl (Or.inl rfl)) (pgs_cons (pg_name (i := 4) scSame.nd rfl (Or.inl rfl)) pgs_nil)))) (fun _ _ _ _ _ => pts_nil)
            (fun _ _ _ _ _ => (pe_call GI hI rfl W.g_law_same F.kp bI .nil pass0 (pa_cons (pv 3) (pa_cons (pv 4) pa_nil))))) pa_nil))))) pss_nil)
    pss_never)), ?_⟩
      simp -dsimp [tSeq, tAsg, tRet, tIfS, tIf, tTest, tVar, tCons, tNil, tC, tOp, tUn, rI, rI0, rU, tCB, tLst_A, tTup_A, gName, L2.start, CMul, CPow, CDiv, tDrop, tBM, tBM0, tNext, tPar, gSub, rSetL, rIxL, rIxT, tChain, tB, tNot, tNotV, tAnd, tOr, tAndV, tOrV, tFld, tCall, rIxLH, rIxTH, atI, ixN, upd_same, cxK, ex2, ex3, ex3b, rIs1, rIs2, rNe2, tyN, kb1, kb2, kb3, kb4, kb5, kb6, rEq, rNe, scal, tMake_S, tMakeK_S, tMakeN_S, kb5, kb6, hp, hq, hl]
      refine ⟨le2, Alloc.of fun p1 H1 n1 e1 s1 => ?_⟩
      have hp1 := s1 _ _ hp
      have hq1 := s1 _ _ hq
      try simp -dsimp [tSeq, tAsg, tRet, tIfS, tIf, tTest, tVar, tCons, tNil, tC, tOp, tUn, rI, rI0, rU, tCB, tLst_A, tTup_A, gName, L2.start, CMul, CPow, CDiv, tDrop, tBM, tBM0, tNext, tPar, gSub, rSetL, rIxL, rIxT, tChain, tB, tNot, tNotV, tAnd, tOr, tAndV, tOrV, tFld, tCall, rIxLH, rIxTH, atI, ixN, upd_same, cxK, ex2, ex3, ex3b, rIs1, rIs2, rNe2, tyN, kb1, kb2, kb3, kb4, kb5, kb6, rEq, rNe, scal, tMake_S, tMakeK_S, tMakeN_S]
      refine ⟨le2, Alloc.of fun p2 H2 n2 e2 s2 => ?_⟩
      have hp2 := s2 _ _ hp1
      have hq2 := s2 _ _ hq1
      have e12 := s2 _ _ e1
      simp -dsimp [tSeq, tAsg, tRet, tIfS, tIf, tTest, tVar, tCons, tNil, tC, tOp, tUn, rI, rI0, rU, tCB, tLst_A, tTup_A, gName, L2.start, CMul, CPow, CDiv, tDrop, tBM, tBM0, tNext, tPar, gSub, rSetL, rIxL, rIxT, tChain, tB, tNot, tNotV, tAnd, tOr, tAndV, tOrV, tFld, tCall, rIxLH, rIxTH, atI, ixN, upd_same, cxK, ex2, ex3, ex3b, rIs1, rIs2, rNe2, tyN, kb1, kb2, kb3, kb4, kb5, kb6, rEq, rNe, scal, tMake_S, tMakeK_S, tMakeN_S, kb5, kb6, e2, hp2, hq2]
      refine ⟨le2, Alloc.of fun p3 H3 n3 e3 s3 => ?_⟩
      have hp3 := s3 _ _ hp2
      have hq3 := s3 _ _ hq2
      have e13 := s3 _ _ e12
      simp -dsimp [tSeq, tAsg, tRet, tIfS, tIf, tTest, tVar, tCons, tNil, tC, tOp, tUn, rI, rI0, rU, tCB, tLst_A, tTup_A, gName, L2.start, CMul, CPow, CDiv, tDrop, tBM, tBM0, tNext, tPar, gSub, rSetL, rIxL, rIxT, tChain, tB, tNot, tNotV, tAnd, tOr, tAndV, tOrV, tFld, tCall, rIxLH, rIxTH, atI, ixN, upd_same, cxK, ex2, ex3, ex3b, rIs1, rIs2, rNe2, tyN, kb1, kb2, kb3, kb4, kb5, kb6, rEq, rNe, scal, tMake_S, tMakeK_S, tMakeN_S, kb5, kb6, e3, hp3, hq3, e13, hl]
      refine ⟨_, rfl, _, rfl, p, q, _, _, rfl, .inr ⟨SqT.of hp3, SqT.of hq3, fun D hD => ?_⟩⟩
      have nD : ∀ {b : Addr} {o : HO}, H3 b = some o → b ≠ D := fun e => ne_of_none e hD
      refine lc_it (walk_zipT (xs := xs) (ys := ys) (n := xs.length) rfl hl.symm) (fun i H' => Same H3 H' ∧ H' D = some (.lst (List.replicate i (.bl true)))) ⟨same_upd hD, upd_same⟩ (fun i H' _ h => ⟨SqT.of (h.1 _ _ hp3), SqT.of (h.1 _ _ hq3)⟩) ?_ ?_
      · rintro i x H' H'' hi ⟨sm, hD'⟩ ⟨T, x', y', rfl, hT, rfl, fx, fy⟩
        have hz := ((h i x' y' fx fy).same (((s1.trans s2).trans s3).trans sm)).same (same_upd hT (o := HO.tup [x', y']))
        refine ⟨T, _, rfl, SqT.of upd_same, rfl, _, _, rfl, _, _, rfl, rfl, rfl, ?_⟩
        simp only [tYes, if_true]
        refine ⟨_, rfl, _, rfl, x', y', rfl, hz, fun H4 s4 => ⟨List.replicate i (.bl true), ?_, ?_, ?_, ?_⟩⟩
        · exact s4 _ _ (by rw [upd_ne (ne_of_none hD' hT)]; exact hD')
        · rw [List.length_replicate]
          exact small1000 (by omega)
        · intro b' o e
          rw [upd_ne (nD e)]
          exact s4 _ _ (same_upd hT _ _ (sm _ _ e))
        · rw [upd_same, ← List.replicate_succ']
      · rintro H' ⟨sm, hD'⟩
        refine ⟨D, List.replicate xs.length true, rfl, ?_, ?_⟩
        · rw [List.map_replicate]
          exact SqL.of hD'
        · have e : (List.replicate xs.length true).all id = true := by
            rw [List.all_eq_true]
            intro x hx
            exact (List.eq_of_mem_replicate hx)
          rw [e]
          exact k _ (((s1.trans s2).trans s3).trans sm)
theorem ok_same (W : Wd K mg) (n : Nat) : ∃ fd, FnOk P w K mg base CX0 (n + 4) (He.ga K "_law_same") fd ["_law_found", "_law_due"] (spSame K n) ∧ Binds K fd ["_law_found", "_law_due"] [] := by
  induction n with
  | zero => exact ok_same0 W 0 (.inl rfl)
  | succ n ih =>
    obtain ⟨fd, G, b⟩ := ih
    exact ok_same0 W (n + 1) (.inr ⟨n, fd, rfl, G, b⟩)
end
/-! ### comprehensions whose items keep what is there -/
/-- all but what stands at l is kept -/
def SameN (l : Addr) (H H' : Hp) : Prop := ∀ b o, b ≠ l → H b = some o → H' b = some o
theorem SameN.of {l : Addr} {H H' : Hp} (h : Same H H') : SameN l H H' := fun b o _ e => h b o e
theorem SameN.trans {l : Addr} {H1 H2 H3 : Hp} (h : SameN l H1 H2) (k : SameN l H2 H3) : SameN l H1 H3 := fun b o n e => k b o n (h b o n e)
theorem SameN.upd {l : Addr} {H : Hp} {o : HO} : SameN l H (upd H l o) := fun b u n e => by rw [upd_ne n]; exact e
/-- what a list at D doesn't matter to -/
def Mono (P : V → Hp → Prop) : Prop := ∀ (D : Addr) (xs : List V) (v : V) (H H' : Hp), H D = some (.lst xs) → SameN D H H' → P v H → P v H'
/-- one item more -/
theorem lc_step {P : Nat → V → Hp → Prop} {D : Addr} {H H' : Hp} {i : Nat} {vs : List V} {R : Hp → Prop} (mono : ∀ j, Mono (P j)) (sm : Same H H') (hD : H D = none) (hl : vs.length = i) (hi : i < 1000) (dD : H' D = some (.lst vs)) (hs : ∀ (j : Nat) (v : V), vs[j]? = some v → P j v H')
    (k : ∀ H2, (Same H H2 ∧ ∃ vs : List V, vs.length = i + 1 ∧ H2 D = some (.lst vs) ∧ ∀ (j : Nat) (v : V), vs[j]? = some v → P j v H2) → R H2) (y : V) (H4 : Hp) (s4 : Same H' H4) (py : P i y H4) : ∃ acc, H4 D = some (.lst acc) ∧ acc.length < sizeLine ∧ R (upd H4 D (.lst (acc ++ [y]))) := by
  have d4 := s4 _ _ dD
  refine ⟨vs, d4, small1000 (by omega), k _ ⟨fun b o e => ?_, vs ++ [y], by simp [hl], upd_same, fun j v hj => ?_⟩⟩
  · rw [upd_ne (ne_of_none e hD)]
    exact s4 _ _ (sm _ _ e)
  · by_cases hji : j < vs.length
    · rw [List.getElem?_append_left hji] at hj
      exact mono j D vs v _ _ d4 .upd (mono j D vs v _ _ dD (.of s4) (hs j v hj))
    · rw [List.getElem?_append_right (by omega)] at hj
      have ej : j - vs.length = 0 := by
        rcases Nat.eq_zero_or_pos (j - vs.length) with h | h
        · exact h
        · rw [List.getElem?_eq_none (by simp; omega)] at hj
          cases hj
      rw [ej] at hj
      cases hj
      have : j = i := by omega
      subst this
      exact mono j D vs _ _ _ d4 .upd py
theorem lc_rng {n i0 : Nat} {te : TE} {σ : List (Option V)} {H : Hp} {Q : V → Hp → Prop} (P : Nat → V → Hp → Prop) (hn : n < 1000) (mono : ∀ j, Mono (P j)) (hw : ∀ x : V, wipe ((wipe σ [i0]).set i0 (some x)) [i0] = wipe σ [i0])
    (he : ∀ (j : Nat) (H' : Hp) (R : V → Hp → Prop), j < n → Same H H' → (∀ y H4, Same H' H4 → P j y H4 → R y H4) → te ((wipe σ [i0]).set i0 (some (.int (j : Int)))) H' R)
    (hq : ∀ (D : Addr) (H' : Hp) (vs : List V), Same H H' → vs.length = n → H' D = some (.lst vs) → (∀ (j : Nat) (v : V), vs[j]? = some v → P j v H') → Q (.ref D) H') : tLc (iRng1 (tCons (tC (V.int (n : Int))) tNil)) (gName i0) tYes te [i0] σ H Q := by
  refine ⟨(n : Int), rfl, by omega, by omega, fun D hD => ?_⟩
  rw [Int.toNat_natCast]
  refine lc_it (walk_range (lo := 0) (n := n)) (fun i H' => Same H H' ∧ ∃ vs : List V, vs.length = i ∧ H' D = some (.lst vs) ∧ ∀ (j : Nat) (v : V), vs[j]? = some v → P j v H') ⟨same_upd hD, [], rfl, upd_same, fun j a e => by simp at e⟩ (fun _ _ _ _ => True.intro) ?_ ?_
  · rintro i x H' H'' hi ⟨sm, vs, hl, dD, hs⟩ ⟨rfl, rfl⟩
    refine ⟨hw _, ?_⟩
    simp only [tYes, if_true]
    rw [Int.zero_add]
    exact he i H'' _ hi sm (lc_step mono sm hD hl (by omega) dD hs fun _ h => h)
  · rintro H' ⟨sm, vs, hl, dD, hs⟩
    exact hq D H' vs sm hl dD hs
/-- over the list at a -/
theorem lc_lst {K : PySem.W.Frag} {i0 : Nat} {tl : TE} {te : TE} {σ : List (Option V)} {H : Hp} {Q : V → Hp → Prop} (a : Addr) (xs : List V) (P : Nat → V → Hp → Prop) (hn : xs.length < 1000) (mono : ∀ j, Mono (P j)) (hw : ∀ x : V, wipe ((wipe σ [i0]).set i0 (some x)) [i0] = wipe σ [i0])
    (ha : H a = some (.lst xs)) (htl : ∀ R : V → Hp → Prop, R (.ref a) H → tl σ H R)
    (he : ∀ (j : Nat) (x : V) (H' : Hp) (R : V → Hp → Prop), xs[j]? = some x → Same H H' → (∀ y H4, Same H' H4 → P j y H4 → R y H4) → te ((wipe σ [i0]).set i0 (some x)) H' R)
    (hq : ∀ (D : Addr) (H' : Hp) (vs : List V), Same H H' → vs.length = xs.length → H' D = some (.lst vs) → (∀ (j : Nat) (v : V), vs[j]? = some v → P j v H') → Q (.ref D) H') : tLc (iList K tl) (gName i0) tYes te [i0] σ H Q := by
  refine htl _ ⟨a, rfl, ⟨xs, SqL.of ha⟩, fun D hD => ?_⟩
  refine lc_it (walk_list (K := K) (a := a) (xs := xs)) (fun i H' => Same H H' ∧ ∃ vs : List V, vs.length = i ∧ H' D = some (.lst vs) ∧ ∀ (j : Nat) (v : V), vs[j]? = some v → P j v H') ⟨same_upd hD, [], rfl, upd_same, fun j a e => by simp at e⟩ (fun _ _ _ h => SqL.of (h.1 _ _ ha)) ?_ ?_
  · rintro i x H' H'' hi ⟨sm, vs, hl, dD, hs⟩ ⟨rfl, fx⟩
    refine ⟨hw _, ?_⟩
    simp only [tYes, if_true]
    exact he i x _ _ fx sm (lc_step mono sm hD hl (by omega) dD hs fun _ h => h)
  · rintro H' ⟨sm, vs, hl, dD, hs⟩
    exact hq D H' vs sm hl dD hs
/-- over two tuples side by side -/
theorem lc_zip2 {K : PySem.W.Frag} {i0 i1 : Nat} {ta : TA} {te : TE} {σ : List (Option V)} {H : Hp} {Q : V → Hp → Prop} (a b : Addr) (xs ys : List V) (P : Nat → V → Hp → Prop) (hl : xs.length = ys.length) (hn : xs.length < 1000) (mono : ∀ j, Mono (P j))
    (hw : ∀ x y : V, wipe (((wipe σ [i0, i1]).set i0 (some x)).set i1 (some y)) [i0, i1] = wipe σ [i0, i1]) (ha : H a = some (.tup xs)) (hb : H b = some (.tup ys)) (hta : ∀ R : List V → Hp → Prop, R [.ref a, .ref b] H → ta σ H R)
    (he : ∀ (j : Nat) (x y : V) (H' : Hp) (R : V → Hp → Prop), xs[j]? = some x → ys[j]? = some y → Same H H' → (∀ v H4, Same H' H4 → P j v H4 → R v H4) → te (((wipe σ [i0, i1]).set i0 (some x)).set i1 (some y)) H' R)
    (hq : ∀ (D : Addr) (H' : Hp) (vs : List V), Same H H' → vs.length = xs.length → H' D = some (.lst vs) → (∀ (j : Nat) (v : V), vs[j]? = some v → P j v H') → Q (.ref D) H') : tLc (RZ.iZipA K ta) (gTup K 2 (gCons (gName i0) (gCons (gName i1) gNil))) tYes te [i0, i1] σ H Q := by
  refine hta _ ⟨a, b, xs, ys, rfl, .inr ⟨SqT.of ha, SqT.of hb, fun D hD => ?_⟩⟩
  refine lc_it (walk_zipT (K := K) (a := a) (b := b) (xs := xs) (ys := ys) (n := xs.length) rfl hl.symm) (fun i H' => Same H H' ∧ ∃ vs : List V, vs.length = i ∧ H' D = some (.lst vs) ∧ ∀ (j : Nat) (v : V), vs[j]? = some v → P j v H') ⟨same_upd hD, [], rfl, upd_same, fun j a e => by simp at e⟩ (fun _ _ _ h => ⟨SqT.of (h.1 _ _ ha), SqT.of (h.1 _ _ hb)⟩) ?_ ?_
  · rintro i x H' H'' hi ⟨sm, vs, hl, dD, hs⟩ ⟨T, x', y', rfl, hT, rfl, fx, fy⟩
    refine ⟨T, _, rfl, SqT.of upd_same, rfl, _, _, rfl, _, _, rfl, rfl, hw _ _, ?_⟩
    simp only [tYes, if_true]
    have sT : Same H' (upd H' T (HO.tup [x', y'])) := same_upd hT
    exact he i x' y' _ _ fx fy (sm.trans sT) fun v H4 s4 p => lc_step mono sm hD hl (by omega) dD hs (fun _ h => h) v H4 (sT.trans s4) p
  · rintro H' ⟨sm, vs, hl, dD, hs⟩
    exact hq D H' vs sm hl dD hs
/-- over the tuple at a -/
theorem lc_tup {K : PySem.W.Frag} {i0 : Nat} {tl : TE} {te : TE} {σ : List (Option V)} {H : Hp} {Q : V → Hp → Prop} (a : Addr) (xs : List V) (P : Nat → V → Hp → Prop) (hn : xs.length < 1000) (mono : ∀ j, Mono (P j)) (hw : ∀ x : V, wipe ((wipe σ [i0]).set i0 (some x)) [i0] = wipe σ [i0])
    (ha : H a = some (.tup xs)) (htl : ∀ R : V → Hp → Prop, R (.ref a) H → tl σ H R)
    (he : ∀ (j : Nat) (x : V) (H' : Hp) (R : V → Hp → Prop), xs[j]? = some x → Same H H' → (∀ y H4, Same H' H4 → P j y H4 → R y H4) → te ((wipe σ [i0]).set i0 (some x)) H' R)
    (hq : ∀ (D : Addr) (H' : Hp) (vs : List V), Same H H' → vs.length = xs.length → H' D = some (.lst vs) → (∀ (j : Nat) (v : V), vs[j]? = some v → P j v H') → Q (.ref D) H') : tLc (iTup K tl) (gName i0) tYes te [i0] σ H Q := by
  refine htl _ ⟨a, rfl, ⟨xs, SqT.of ha⟩, fun D hD => ?_⟩
  refine lc_it (walk_tup (K := K) (a := a) (xs := xs)) (fun i H' => Same H H' ∧ ∃ vs : List V, vs.length = i ∧ H' D = some (.lst vs) ∧ ∀ (j : Nat) (v : V), vs[j]? = some v → P j v H') ⟨same_upd hD, [], rfl, upd_same, fun j a e => by simp at e⟩ (fun _ _ _ h => SqT.of (h.1 _ _ ha)) ?_ ?_
  · rintro i x H' H'' hi ⟨sm, vs, hl, dD, hs⟩ ⟨rfl, fx⟩
    refine ⟨hw _, ?_⟩
    simp only [tYes, if_true]
    exact he i x _ _ fx sm (lc_step mono sm hD hl (by omega) dD hs fun _ h => h)
  · rintro H' ⟨sm, vs, hl, dD, hs⟩
    exact hq D H' vs sm hl dD hs
/-! ### numbers as pairs -/
theorem h_of {n : Nat} (h : n < 10 ^ 60) : n < bigH := Nat.lt_of_lt_of_le h (by unfold bigH; exact Nat.le_trans (by decide : (10 : Nat) ^ 60 ≤ 2 ^ 200) (Nat.pow_le_pow_right (by decide) (by decide)))
def lo (x y : Int) : Int × Int := (x.fdiv (side x y), y.fdiv (side x y))
def pAdd (p q : Int × Int) : Int × Int := lo (fAdd p.1 p.2 q.1 q.2) (gMul p.1 p.2 q.1 q.2)
def pSub (p q : Int × Int) : Int × Int := lo (fSub p.1 p.2 q.1 q.2) (gMul p.1 p.2 q.1 q.2)
def pMul (p q : Int × Int) : Int × Int := lo (fMul p.1 p.2 q.1 q.2) (gMul p.1 p.2 q.1 q.2)
def pDiv (p q : Int × Int) : Int × Int := lo (fDiv p.1 p.2 q.1 q.2) (gDiv p.1 p.2 q.1 q.2)
/-- two numbers that may be reckoned with -/
def Ok2 (p q : Int × Int) : Prop := SmP p q ∧ p.2 ≠ 0 ∧ q.2 ≠ 0
theorem Ok2.nz {p q : Int × Int} (h : Ok2 p q) : gMul p.1 p.2 q.1 q.2 ≠ 0 := Int.mul_ne_zero h.2.1 h.2.2
theorem Ok2.swap {p q : Int × Int} (h : Ok2 p q) : Ok2 q p := ⟨sm_swap h.1, h.2.2, h.2.1⟩
/-- x op y, x a share -/
def rS (K : PySem.W.Frag) (f : Int × Int → Int × Int → Int × Int) : R2 := fun x y H Q => ∃ (z : Addr) (p q : Int × Int), x = .ref z ∧ IsS K H z p ∧ Nu K H y q.1 q.2 ∧ Ok2 p q ∧ ∀ (z' : Addr) (H' : Hp), Same H H' → IsS K H' z' (f p q) → Q (.ref z') H'
section
variable {X : Cx}
theorem Wd.sAdd (W : Wd X.K X.mg) (hr : Room 4 X.A) : OpR X (binaryOp .Add) (rS X.K pAdd) := by
  obtain ⟨f1, G1, b1⟩ := ok_add (P := X.prog) (w := X.w) (base := X.base) W
  intro pins s σ H x y v u Q I rx ry h
  obtain ⟨z, p, q, rfl, hz, hy, ok, k⟩ := h
  obtain ⟨dx, hd⟩ := id hz
  exact op_L W.opAdd (raw0 G1 b1) hr pass0 pins s σ H _ _ v u Q I rx ry ⟨z, dx, _, rfl, hd, hy.ins, z, y, p.1, p.2, q.1, q.2, rfl, hz, hy, ok.1, ok.nz, fun z' H' s' i => k z' H' s' i⟩
theorem Wd.sSub (W : Wd X.K X.mg) (hr : Room 4 X.A) : OpR X (binaryOp .Sub) (rS X.K pSub) := by
  obtain ⟨f1, G1, b1⟩ := ok_sub (P := X.prog) (w := X.w) (base := X.base) W
  intro pins s σ H x y v u Q I rx ry h
  obtain ⟨z, p, q, rfl, hz, hy, ok, k⟩ := h
  obtain ⟨dx, hd⟩ := id hz
  exact op_L W.opSub (raw0 G1 b1) hr pass0 pins s σ H _ _ v u Q I rx ry ⟨z, dx, _, rfl, hd, hy.ins, z, y, p.1, p.2, q.1, q.2, rfl, hz, hy, ok.1, ok.nz, fun z' H' s' i => k z' H' s' i⟩
theorem Wd.sMul (W : Wd X.K X.mg) (hr : Room 4 X.A) : OpR X (binaryOp .Mult) (rS X.K pMul) := by
  obtain ⟨f1, G1, b1⟩ := ok_mul (P := X.prog) (w := X.w) (base := X.base) W
  intro pins s σ H x y v u Q I rx ry h
  obtain ⟨z, p, q, rfl, hz, hy, ok, k⟩ := h
  obtain ⟨dx, hd⟩ := id hz
  exact op_L W.opMul (raw0 G1 b1) hr pass0 pins s σ H _ _ v u Q I rx ry ⟨z, dx, _, rfl, hd, hy.ins, z, y, p.1, p.2, q.1, q.2, rfl, hz, hy, ok.1, ok.nz, fun z' H' s' i => k z' H' s' i⟩
end
/-- three shares -/
def three (p0 p1 p2 : Int × Int) (j : Nat) : Int × Int := match j with
  | 0 => p0
  | 1 => p1
  | _ => p2
def IsAt (K : PySem.W.Frag) (g : Nat → Int × Int) (j : Nat) (v : V) (H : Hp) : Prop := ∃ y, v = .ref y ∧ IsS K H y (g j)
theorem mono_S (K : PySem.W.Frag) (g : Nat → Int × Int) (j : Nat) : Mono (IsAt K g j) := fun D xs v H H' hD s ⟨y, e, dx, h⟩ => ⟨y, e, dx, s _ _ (fun e' => by rw [e', hD] at h; cases h) h⟩
/-! ### what is a term of; sums and differences of terms -/
/-- a term or a number, as a term -/
def TN (K : PySem.W.Frag) (H : Hp) (v : V) (n u0 u1 u2 : Int × Int) : Prop := (∃ y, v = .ref y ∧ IsTm K H y n u0 u1 u2) ∨ (Nu K H v n.1 n.2 ∧ u0 = (0, 1) ∧ u1 = (0, 1) ∧ u2 = (0, 1))
theorem TN.same {K : PySem.W.Frag} {H H' : Hp} {v : V} {n u0 u1 u2 : Int × Int} (h : TN K H v n u0 u1 u2) (s : Same H H') : TN K H' v n u0 u1 u2 := by
  rcases h with ⟨y, e, h⟩ | ⟨h, e⟩
  · exact .inl ⟨y, e, h.same s⟩
  · exact .inr ⟨h.same s, e⟩
section
variable {P : Program} {w : World} {K : PySem.W.Frag} {mg : Str → Option Value} {base : Heap} {fd : FuncData}
theorem Wd.nuTm (W : Wd K mg) {H : Hp} {v : V} {c d : Int} (h : Nu K H v c d) : ∃ t, TyOf K H v t ∧ NuX.KN K t true ∧ PySem.W.kitOne K t (.ref (He.ga K "Term")) = some false ∧ CmX.Beside K (He.ga K "Term") t := by
  rcases h with ⟨z, rfl, h⟩ | ⟨rfl, _⟩
  · exact ⟨_, W.isSh h, W.knS, of_decide_eq_true (W.ex 18 rfl), .inr (of_decide_eq_true (W.ex 20 rfl))⟩
  · have kT := List.all_eq_true.mp (W.ex 29 rfl)
    have cT : CmX.CmpC K (He.ga K "Term") := CmX.cmpB_ok (W.ex 22 rfl)
    exact ⟨_, .int _, W.knI, of_decide_eq_true (kT "int" (by decide)), .inr (cT.no "int" (by decide)).1⟩
def spTermOf (K : PySem.W.Frag) : Sp := fun vs H Q _ => ∃ (v : V) (n u0 u1 u2 : Int × Int), vs = [v] ∧ TN K H v n u0 u1 u2 ∧ ∀ z H', Same H H' → IsTm K H' z n u0 u1 u2 → Q (.ref z) H'
/-- a term and a term or number -/
def spT2 (K : PySem.W.Frag) (f : Int × Int → Int × Int → Int × Int) : Sp := fun vs H Q _ => ∃ (x : Addr) (v : V) (m t0 t1 t2 n u0 u1 u2 : Int × Int), vs = [.ref x, v] ∧ IsTm K H x m t0 t1 t2 ∧ TN K H v n u0 u1 u2 ∧ Ok2 m n ∧ Ok2 t0 u0 ∧ Ok2 t1 u1 ∧ Ok2 t2 u2 ∧ ∀ z H', Same H H' → IsTm K H' z (f m n) (f t0 u0) (f t1 u1) (f t2 u2) → Q (.ref z) H'
theorem spT2_len {K : PySem.W.Frag} {f : Int × Int → Int × Int → Int × Int} {vs : List V} {H : Hp} {Q : VK} {E : XK} (h : spT2 K f vs H Q E) : vs.length = 2 := by
  obtain ⟨x, v, _, _, _, _, _, _, _, _, rfl, _⟩ := h
  rfl
theorem scTermOf : FnScope ["thing"] ["thing"] d_term_of.scope := ⟨rfl, rfl, rfl, by decide +kernel, rfl, by decide +kernel, by decide +kernel⟩
theorem ok_termOf (W : Wd K mg) : ∃ fd, FnOk P w K mg base CX0 6 (He.ga K "term_of") fd ["thing"] (spTermOf K) ∧ Binds K fd ["thing"] [] := by
  obtain ⟨fd_isNum, G_isNum, b_isNum⟩ := ok_isNum (P := P) (w := w) (base := base) W
  have k_isNum : PySem.W.keepIn K (.ref (He.ga K "is_number")) = true := by obtain ⟨fd, F⟩ := W.F_is_number; exact F.kp
  obtain ⟨fd_const, G_const, b_const⟩ := ok_const (P := P) (w := w) (base := base) W
  obtain ⟨fd, F⟩ := W.F_term_of
  refine ⟨fd, F.ok scTermOf (fun vs H Q E h => ?_) (fun cdv A outer s H vs Q E hr h => ?_), FunD.bindsN F fun _ _ _ _ _ _ us hl => match us, hl with | [_], _ => rfl⟩
  · obtain ⟨v, n, u0, u1, u2, rfl, _⟩ := h
    rfl
  · obtain ⟨v, n, u0, u1, u2, rfl, h, q⟩ := h
    have r1 : Room 1 _ := hr.mono (by decide)
    have r2 : Room 2 _ := hr.mono (by decide)
    have r3 : Room 3 _ := hr.mono (by decide)
    have r4 : Room 4 _ := hr.mono (by decide)
    have r5 : Room 5 _ := hr.mono (by decide)
    refine ⟨_, PSs.nox (pss_cons (ps_if (pt_val (pe_callB isi_G (by rfl) W.f_isinstance boot_isinstance (pa_cons (pv 0) (pa_cons (pe_glob (v := .ref (He.ga K "Term")) rfl W.g_Term rfl) pa_nil)))) (pss_one (ps_ret (pv 0))) pss_nil)
    (pss_cons (ps_if (pt_val (pe_call G_isNum r2 rfl W.g_is_number k_isNum b_isNum .nil pass0 (pa_cons (pv 0) pa_nil))) (pss_one (ps_ret (StX.pe_smeth (pe_glob (v := .ref (He.ga K "Term")) rfl W.g_Term rfl) W.sm_constant G_const r5 b_const .nil pass0 (pa_cons (pv 0) pa_nil)))) pss_nil)
    (pss_one (ps_ret pe_non)))), ?_⟩
    simp -dsimp [tSeq, tAsg, tRet, tIfS, tIf, tTest, tVar, tCons, tNil, tC, tOp, tUn, rI, rI0, rU, tCB, tLst_A, tTup_A, gName, L2.start, CMul, CPow, CDiv, tDrop, tBM, tBM0, tNext, tPar, gSub, rSetL, rIxL, rIxT, tChain, tB, tNot, tNotV, tAnd, tOr, tAndV, tOrV, tFld, tCall, rIxLH, rIxTH, atI, ixN, upd_same, cxK, ex2, ex3, ex3b, rIs1, rIs2, rNe2, tyN, kb1, kb2, kb3, kb4, kb5, kb6, rEq, rNe, scal, tMake_S, tMakeK_S, tMakeN_S, StX.tSMeth]
    rcases h with ⟨y, rfl, hy⟩ | ⟨hn, rfl, rfl, rfl⟩
    · exact ⟨_, _, _, _, true, rfl, .own _, W.isTm hy, of_decide_eq_true (W.ex 30 rfl), .inr ⟨rfl, q y H (Same.refl _) hy⟩⟩
    · obtain ⟨t, ty, kn, kt, _⟩ := W.nuTm hn
      exact ⟨_, _, t, _, false, rfl, .own _, ty, kt, .inl ⟨rfl, _, t, true, rfl, ty, kn, .inr ⟨rfl, v, n.1, n.2, rfl, hn, q⟩⟩⟩
theorem scTermAdd : FnScope ["self", "other", "right", "a", "b"] ["self", "other"] d_Term_add.scope := ⟨rfl, rfl, rfl, by decide +kernel, rfl, by decide +kernel, by decide +kernel⟩
theorem ok_tadd (W : Wd K mg) : ∃ fd, FnOk P w K mg base CX0 7 (aT K "__add__") fd ["self", "other"] (spT2 K pAdd) ∧ Binds K fd ["self", "other"] [] := by
  obtain ⟨fd_tinit, G_tinit, b_tinit⟩ := ok_tinit (P := P) (w := w) (base := base) W
  obtain ⟨fd_termOf, G_termOf, b_termOf⟩ := ok_termOf (P := P) (w := w) (base := base) W
  have k_termOf : PySem.W.keepIn K (.ref (He.ga K "term_of")) = true := by obtain ⟨fd, F⟩ := W.F_term_of; exact F.kp
  obtain ⟨fd, F⟩ := W.F_Term_add
  refine ⟨fd, F.ok scTermAdd (fun vs H Q E h => ?_) (fun cdv A outer s H vs Q E hr h => ?_), FunD.bindsN F fun _ _ _ _ _ _ us hl => match us, hl with | [_, _], _ => rfl⟩
  · obtain ⟨x, v, _, _, _, _, _, _, _, _, rfl, _⟩ := h
    rfl
  · obtain ⟨x, v, m, t0, t1, t2, n, u0, u1, u2, rfl, hx, hv, ok, ok0, ok1, ok2, q⟩ := h
    have r1 : Room 1 _ := hr.mono (by decide)
    have r2 : Room 2 _ := hr.mono (by decide)
    have r3 : Room 3 _ := hr.mono (by decide)
    have r4 : Room 4 _ := hr.mono (by decide)
    have r5 : Room 5 _ := hr.mono (by decide)
    have r6 : Room 6 _ := hr.mono (by decide)
    refine ⟨_, PSs.nox (pss_cons (ps_set (i := 2) scTermAdd.nd rfl (Or.inl rfl) (pe_call G_termOf r6 rfl W.g_term_of k_termOf b_termOf .nil pass0 (pa_cons (pv 1) pa_nil)))
    (pss_cons (ps_if (pt_cmpR op_isN (pv 2) pe_non (nomark _)) pss_never pss_nil)
    (pss_one (ps_ret (pe_make W.mkr_Term G_tinit r2 rfl W.g_Term b_tinit .nil pass0 (pa_cons (pe_op (W.sAdd r4) (pe_fld (pv 0) rfl) (pe_fld (pv 2) rfl)) (pa_cons (pe_callTy call_tuple_of (by rfl) W.f_tuple (by decide +kernel) (pa_cons (pe_lc (own := [("a", 3), ("b", 4)]) (g := gTup K 2 (gCons (gName 3) (gCons (gName 4) gNil))) (tt := tYes) rfl scTermAdd.nd (RZ.pi_zipA (by rfl) W.f_zip (pa_cons (pe_fld (pv 0) rfl) (pa_cons (pe_fld (pv 2) rfl) pa_nil))) (blkOk_by (N := ["self", "other", "right", "a", "b"]) (sc := defScope s_Term_add) (by decide +kernel))
            (fun _ _ _ _ _ => (pg_tup rfl (pgs_cons (pg_name (i := 3) scTermAdd.nd rfl (Or.inl rfl)) (pgs_cons (pg_name (i := 4) scTermAdd.nd rfl (Or.inl rfl)) pgs_nil)))) (fun _ _ _ _ _ => pts_nil)
            (fun _ _ _ _ _ => (pe_op (show OpR _ _ (rS K pAdd) from W.sAdd r4) (pv 3) (pv 4)))) pa_nil)) pa_nil))))))), ?_⟩
    obtain ⟨dx, a, tp, a0, a1, a2, e1, e2, e3, e4, e5, e6⟩ := id hx
    simp -dsimp [tSeq, tAsg, tRet, tIfS, tIf, tTest, tVar, tCons, tNil, tC, tOp, tUn, rI, rI0, rU, tCB, tLst_A, tTup_A, gName, L2.start, CMul, CPow, CDiv, tDrop, tBM, tBM0, tNext, tPar, gSub, rSetL, rIxL, rIxT, tChain, tB, tNot, tNotV, tAnd, tOr, tAndV, tOrV, tFld, tCall, rIxLH, rIxTH, atI, ixN, upd_same, cxK, ex2, ex3, ex3b, rIs1, rIs2, rNe2, tyN, kb1, kb2, kb3, kb4, kb5, kb6, rEq, rNe, scal, tMake_S, tMakeK_S, tMakeN_S, tMake_T]
    refine ⟨v, n, u0, u1, u2, rfl, hv, fun z H1 s1 iz => ?_⟩
    obtain ⟨dz, b, tq, b0, b1, b2, f1, f2, f3, f4, f5, f6⟩ := id iz
    have g1 := s1 _ _ e1
    have g3 := s1 _ _ e3
    generalize hte : tOp (rS K pAdd) (tVar 3) (tVar 4) = te
    simp -dsimp [tSeq, tAsg, tRet, tIfS, tIf, tTest, tVar, tCons, tNil, tC, tOp, tUn, rI, rI0, rU, tCB, tLst_A, tTup_A, gName, L2.start, CMul, CPow, CDiv, tDrop, tBM, tBM0, tNext, tPar, gSub, rSetL, rIxL, rIxT, tChain, tB, tNot, tNotV, tAnd, tOr, tAndV, tOrV, tFld, tCall, rIxLH, rIxTH, atI, ixN, upd_same, cxK, ex2, ex3, ex3b, rIs1, rIs2, rNe2, tyN, kb1, kb2, kb3, kb4, kb5, kb6, rEq, rNe, scal, tMake_S, tMakeK_S, tMakeN_S, g1, f1, termO, W.cls_Term, W.n_Term_number, W.n_Term_times, look_num, look_tim]
    refine ⟨a, m, n, rfl, e2.same s1, .inl ⟨b, rfl, f2⟩, ok, fun c H2 s2 ic => ?_⟩
    have g1' := s2 _ _ g1
    have f1' := s2 _ _ f1
    refine lc_zip2 tp tq [.ref a0, .ref a1, .ref a2] [.ref b0, .ref b1, .ref b2] (IsAt K (three (pAdd t0 u0) (pAdd t1 u1) (pAdd t2 u2))) rfl (by show 3 < 1000; decide) (mono_S K _) (fun x y => rfl) (s2 _ _ g3) (s2 _ _ f3) (fun R h => by
      simp -dsimp [tSeq, tAsg, tRet, tIfS, tIf, tTest, tVar, tCons, tNil, tC, tOp, tUn, rI, rI0, rU, tCB, tLst_A, tTup_A, gName, L2.start, CMul, CPow, CDiv, tDrop, tBM, tBM0, tNext, tPar, gSub, rSetL, rIxL, rIxT, tChain, tB, tNot, tNotV, tAnd, tOr, tAndV, tOrV, tFld, tCall, rIxLH, rIxTH, atI, ixN, upd_same, cxK, ex2, ex3, ex3b, rIs1, rIs2, rNe2, tyN, kb1, kb2, kb3, kb4, kb5, kb6, rEq, rNe, scal, tMake_S, tMakeK_S, tMakeN_S, g1', f1', termO, W.cls_Term, W.n_Term_times, look_tim]
      exact h) (fun j x' y' H' R hx' hy' s' r => ?_) (fun D H3 vs s3 hl hD hs => ?_)
    · subst hte
      simp -dsimp [tSeq, tAsg, tRet, tIfS, tIf, tTest, tVar, tCons, tNil, tC, tOp, tUn, rI, rI0, rU, tCB, tLst_A, tTup_A, gName, L2.start, CMul, CPow, CDiv, tDrop, tBM, tBM0, tNext, tPar, gSub, rSetL, rIxL, rIxT, tChain, tB, tNot, tNotV, tAnd, tOr, tAndV, tOrV, tFld, tCall, rIxLH, rIxTH, atI, ixN, upd_same, cxK, ex2, ex3, ex3b, rIs1, rIs2, rNe2, tyN, kb1, kb2, kb3, kb4, kb5, kb6, rEq, rNe, scal, tMake_S, tMakeK_S, tMakeN_S, wipe]
      have s12 := s1.trans (s2.trans s')
      have s22 := s2.trans s'
      match j, hx', hy' with
      | 0, hx', hy' => cases hx'; cases hy'; exact ⟨a0, t0, u0, rfl, e4.same s12, .inl ⟨b0, rfl, f4.same s22⟩, ok0, fun y H4 s4 i4 => r _ _ s4 ⟨y, rfl, i4⟩⟩
      | 1, hx', hy' => cases hx'; cases hy'; exact ⟨a1, t1, u1, rfl, e5.same s12, .inl ⟨b1, rfl, f5.same s22⟩, ok1, fun y H4 s4 i4 => r _ _ s4 ⟨y, rfl, i4⟩⟩
      | 2, hx', hy' => cases hx'; cases hy'; exact ⟨a2, t2, u2, rfl, e6.same s12, .inl ⟨b2, rfl, f6.same s22⟩, ok2, fun y H4 s4 i4 => r _ _ s4 ⟨y, rfl, i4⟩⟩
    · match vs, hl with
      | [v0, v1, v2], _ =>
      obtain ⟨y0, rfl, h0⟩ := hs 0 v0 rfl
      obtain ⟨y1, rfl, h1⟩ := hs 1 v1 rfl
      obtain ⟨y2, rfl, h2⟩ := hs 2 v2 rfl
      refine ⟨D, rfl, _, .inl ⟨SqL.of hD, fun l nl => MkT.of rfl fun x' dx' H4 n4 e4' s4 => ?_⟩⟩
      have sl := same_upd nl (o := HO.tup [V.ref y0, V.ref y1, V.ref y2])
      exact q x' H4 (((s1.trans s2).trans s3).trans (sl.trans s4)) ⟨dx', c, l, y0, y1, y2, e4', ic.same (s3.trans (sl.trans s4)), s4 _ _ upd_same, h0.same (sl.trans s4), h1.same (sl.trans s4), h2.same (sl.trans s4)⟩
theorem scTermSub : FnScope ["self", "other", "right", "a", "b"] ["self", "other"] d_Term_sub.scope := ⟨rfl, rfl, rfl, by decide +kernel, rfl, by decide +kernel, by decide +kernel⟩
theorem ok_tsub (W : Wd K mg) : ∃ fd, FnOk P w K mg base CX0 7 (aT K "__sub__") fd ["self", "other"] (spT2 K pSub) ∧ Binds K fd ["self", "other"] [] := by
  obtain ⟨fd_tinit, G_tinit, b_tinit⟩ := ok_tinit (P := P) (w := w) (base := base) W
  obtain ⟨fd_termOf, G_termOf, b_termOf⟩ := ok_termOf (P := P) (w := w) (base := base) W
  have k_termOf : PySem.W.keepIn K (.ref (He.ga K "term_of")) = true := by obtain ⟨fd, F⟩ := W.F_term_of; exact F.kp
  obtain ⟨fd, F⟩ := W.F_Term_sub
  refine ⟨fd, F.ok scTermSub (fun vs H Q E h => ?_) (fun cdv A outer s H vs Q E hr h => ?_), FunD.bindsN F fun _ _ _ _ _ _ us hl => match us, hl with | [_, _], _ => rfl⟩
  · obtain ⟨x, v, _, _, _, _, _, _, _, _, rfl, _⟩ := h
    rfl
  · obtain ⟨x, v, m, t0, t1, t2, n, u0, u1, u2, rfl, hx, hv, ok, ok0, ok1, ok2, q⟩ := h
    have r1 : Room 1 _ := hr.mono (by decide)
    have r2 : Room 2 _ := hr.mono (by decide)
    have r3 : Room 3 _ := hr.mono (by decide)
    have r4 : Room 4 _ := hr.mono (by decide)
    have r5 : Room 5 _ := hr.mono (by decide)
    have r6 : Room 6 _ := hr.mono (by decide)
    refine ⟨_, PSs.nox (pss_cons (ps_set (i := 2) scTermSub.nd rfl (Or.inl rfl) (pe_call G_termOf r6 rfl W.g_term_of k_termOf b_termOf .nil pass0 (pa_cons (pv 1) pa_nil)))
    (pss_cons (ps_if (pt_cmpR op_isN (pv 2) pe_non (nomark _)) pss_never pss_nil)
    (pss_one (ps_ret (pe_make W.mkr_Term G_tinit r2 rfl W.g_Term b_tinit .nil pass0 (pa_cons (pe_op (W.sSub r4) (pe_fld (pv 0) rfl) (pe_fld (pv 2) rfl)) (pa_cons (pe_callTy call_tuple_of (by rfl) W.f_tuple (by decide +kernel) (pa_cons (pe_lc (own := [("a", 3), ("b", 4)]) (g := gTup K 2 (gCons (gName 3) (gCons (gName 4) gNil))) (tt := tYes) rfl scTermSub.nd (RZ.pi_zipA (by rfl) W.f_zip (pa_cons (pe_fld (pv 0) rfl) (pa_cons (pe_fld (pv 2) rfl) pa_nil))) (blkOk_by (N := ["self", "other", "right", "a", "b"]) (sc := defScope s_Term_sub) (by decide +kernel))
            (fun _ _ _ _ _ => (pg_tup rfl (pgs_cons (pg_name (i := 3) scTermSub.nd rfl (Or.inl rfl)) (pgs_cons (pg_name (i := 4) scTermSub.nd rfl (Or.inl rfl)) pgs_nil)))) (fun _ _ _ _ _ => pts_nil)
            (fun _ _ _ _ _ => (pe_op (show OpR _ _ (rS K pSub) from W.sSub r4) (pv 3) (pv 4)))) pa_nil)) pa_nil))))))), ?_⟩
    obtain ⟨dx, a, tp, a0, a1, a2, e1, e2, e3, e4, e5, e6⟩ := id hx
    simp -dsimp [tSeq, tAsg, tRet, tIfS, tIf, tTest, tVar, tCons, tNil, tC, tOp, tUn, rI, rI0, rU, tCB, tLst_A, tTup_A, gName, L2.start, CMul, CPow, CDiv, tDrop, tBM, tBM0, tNext, tPar, gSub, rSetL, rIxL, rIxT, tChain, tB, tNot, tNotV, tAnd, tOr, tAndV, tOrV, tFld, tCall, rIxLH, rIxTH, atI, ixN, upd_same, cxK, ex2, ex3, ex3b, rIs1, rIs2, rNe2, tyN, kb1, kb2, kb3, kb4, kb5, kb6, rEq, rNe, scal, tMake_S, tMakeK_S, tMakeN_S, tMake_T]
    refine ⟨v, n, u0, u1, u2, rfl, hv, fun z H1 s1 iz => ?_⟩
    obtain ⟨dz, b, tq, b0, b1, b2, f1, f2, f3, f4, f5, f6⟩ := id iz
    have g1 := s1 _ _ e1
    have g3 := s1 _ _ e3
    generalize hte : tOp (rS K pSub) (tVar 3) (tVar 4) = te
    simp -dsimp [tSeq, tAsg, tRet, tIfS, tIf, tTest, tVar, tCons, tNil, tC, tOp, tUn, rI, rI0, rU, tCB, tLst_A, tTup_A, gName, L2.start, CMul, CPow, CDiv, tDrop, tBM, tBM0, tNext, tPar, gSub, rSetL, rIxL, rIxT, tChain, tB, tNot, tNotV, tAnd, tOr, tAndV, tOrV, tFld, tCall, rIxLH, rIxTH, atI, ixN, upd_same, cxK, ex2, ex3, ex3b, rIs1, rIs2, rNe2, tyN, kb1, kb2, kb3, kb4, kb5, kb6, rEq, rNe, scal, tMake_S, tMakeK_S, tMakeN_S, g1, f1, termO, W.cls_Term, W.n_Term_number, W.n_Term_times, look_num, look_tim]
    refine ⟨a, m, n, rfl, e2.same s1, .inl ⟨b, rfl, f2⟩, ok, fun c H2 s2 ic => ?_⟩
    have g1' := s2 _ _ g1
    have f1' := s2 _ _ f1
    refine lc_zip2 tp tq [.ref a0, .ref a1, .ref a2] [.ref b0, .ref b1, .ref b2] (IsAt K (three (pSub t0 u0) (pSub t1 u1) (pSub t2 u2))) rfl (by show 3 < 1000; decide) (mono_S K _) (fun x y => rfl) (s2 _ _ g3) (s2 _ _ f3) (fun R h => by
      simp -dsimp [tSeq, tAsg, tRet, tIfS, tIf, tTest, tVar, tCons, tNil, tC, tOp, tUn, rI, rI0, rU, tCB, tLst_A, tTup_A, gName, L2.start, CMul, CPow, CDiv, tDrop, tBM, tBM0, tNext, tPar, gSub, rSetL, rIxL, rIxT, tChain, tB, tNot, tNotV, tAnd, tOr, tAndV, tOrV, tFld, tCall, rIxLH, rIxTH, atI, ixN, upd_same, cxK, ex2, ex3, ex3b, rIs1, rIs2, rNe2, tyN, kb1, kb2, kb3, kb4, kb5, kb6, rEq, rNe, scal, tMake_S, tMakeK_S, tMakeN_S, g1', f1', termO, W.cls_Term, W.n_Term_times, look_tim]
      exact h) (fun j x' y' H' R hx' hy' s' r => ?_) (fun D H3 vs s3 hl hD hs => ?_)
    · subst hte
      simp -dsimp [tSeq, tAsg, tRet, tIfS, tIf, tTest, tVar, tCons, tNil, tC, tOp, tUn, rI, rI0, rU, tCB, tLst_A, tTup_A, gName, L2.start, CMul, CPow, CDiv, tDrop, tBM, tBM0, tNext, tPar, gSub, rSetL, rIxL, rIxT, tChain, tB, tNot, tNotV, tAnd, tOr, tAndV, tOrV, tFld, tCall, rIxLH, rIxTH, atI, ixN, upd_same, cxK, ex2, ex3, ex3b, rIs1, rIs2, rNe2, tyN, kb1, kb2, kb3, kb4, kb5, kb6, rEq, rNe, scal, tMake_S, tMakeK_S, tMakeN_S, wipe]
      have s12 := s1.trans (s2.trans s')
      have s22 := s2.trans s'
      match j, hx', hy' with
      | 0, hx', hy' => cases hx'; cases hy'; exact ⟨a0, t0, u0, rfl, e4.same s12, .inl ⟨b0, rfl, f4.same s22⟩, ok0, fun y H4 s4 i4 => r _ _ s4 ⟨y, rfl, i4⟩⟩
      | 1, hx', hy' => cases hx'; cases hy'; exact ⟨a1, t1, u1, rfl, e5.same s12, .inl ⟨b1, rfl, f5.same s22⟩, ok1, fun y H4 s4 i4 => r _ _ s4 ⟨y, rfl, i4⟩⟩
      | 2, hx', hy' => cases hx'; cases hy'; exact ⟨a2, t2, u2, rfl, e6.same s12, .inl ⟨b2, rfl, f6.same s22⟩, ok2, fun y H4 s4 i4 => r _ _ s4 ⟨y, rfl, i4⟩⟩
    · match vs, hl with
      | [v0, v1, v2], _ =>
      obtain ⟨y0, rfl, h0⟩ := hs 0 v0 rfl
      obtain ⟨y1, rfl, h1⟩ := hs 1 v1 rfl
      obtain ⟨y2, rfl, h2⟩ := hs 2 v2 rfl
      refine ⟨D, rfl, _, .inl ⟨SqL.of hD, fun l nl => MkT.of rfl fun x' dx' H4 n4 e4' s4 => ?_⟩⟩
      have sl := same_upd nl (o := HO.tup [V.ref y0, V.ref y1, V.ref y2])
      exact q x' H4 (((s1.trans s2).trans s3).trans (sl.trans s4)) ⟨dx', c, l, y0, y1, y2, e4', ic.same (s3.trans (sl.trans s4)), s4 _ _ upd_same, h0.same (sl.trans s4), h1.same (sl.trans s4), h2.same (sl.trans s4)⟩
end
/-! ### multiples of terms -/
section
variable {P : Program} {w : World} {K : PySem.W.Frag} {mg : Str → Option Value} {base : Heap} {fd : FuncData}
/-- a term times a number -/
def spTM (K : PySem.W.Frag) : Sp := fun vs H Q _ => ∃ (x : Addr) (v : V) (m t0 t1 t2 n : Int × Int), vs = [.ref x, v] ∧ IsTm K H x m t0 t1 t2 ∧ Nu K H v n.1 n.2 ∧ Ok2 m n ∧ Ok2 t0 n ∧ Ok2 t1 n ∧ Ok2 t2 n ∧ ∀ z H', Same H H' → IsTm K H' z (pMul m n) (pMul t0 n) (pMul t1 n) (pMul t2 n) → Q (.ref z) H'
theorem scTermMul : FnScope ["self", "other", "times"] ["self", "other"] d_Term_mul.scope := ⟨rfl, rfl, rfl, by decide +kernel, rfl, by decide +kernel, by decide +kernel⟩
theorem ok_tmul (W : Wd K mg) : ∃ fd, FnOk P w K mg base CX0 5 (aT K "__mul__") fd ["self", "other"] (spTM K) ∧ Binds K fd ["self", "other"] [] := by
  obtain ⟨fd_tinit, G_tinit, b_tinit⟩ := ok_tinit (P := P) (w := w) (base := base) W
  obtain ⟨fd_isNum, G_isNum, b_isNum⟩ := ok_isNum (P := P) (w := w) (base := base) W
  have k_isNum : PySem.W.keepIn K (.ref (He.ga K "is_number")) = true := by obtain ⟨fd, F⟩ := W.F_is_number; exact F.kp
  obtain ⟨fd, F⟩ := W.F_Term_mul
  refine ⟨fd, F.ok scTermMul (fun vs H Q E h => ?_) (fun cdv A outer s H vs Q E hr h => ?_), FunD.bindsN F fun _ _ _ _ _ _ us hl => match us, hl with | [_, _], _ => rfl⟩
  · obtain ⟨x, v, _, _, _, _, _, rfl, _⟩ := h
    rfl
  · obtain ⟨x, v, m, t0, t1, t2, n, rfl, hx, hn, ok, ok0, ok1, ok2, q⟩ := h
    have r1 : Room 1 _ := hr.mono (by decide)
    have r2 : Room 2 _ := hr.mono (by decide)
    have r3 : Room 3 _ := hr.mono (by decide)
    have r4 : Room 4 _ := hr.mono (by decide)
    refine ⟨_, PSs.nox (pss_cons (ps_if (pt_val (pe_callB isi_G (by rfl) W.f_isinstance boot_isinstance (pa_cons (pv 1) (pa_cons (pe_glob (v := .ref (He.ga K "Term")) rfl W.g_Term rfl) pa_nil)))) pss_never pss_nil)
    (pss_cons (ps_if (pt_not (pt_val (pe_call G_isNum r2 rfl W.g_is_number k_isNum b_isNum .nil pass0 (pa_cons (pv 1) pa_nil)))) pss_never pss_nil)
    (pss_one (ps_ret (pe_make W.mkr_Term G_tinit r2 rfl W.g_Term b_tinit .nil pass0 (pa_cons (pe_op (W.sMul hr) (pe_fld (pv 0) rfl) (pv 1)) (pa_cons (pe_callTy call_tuple_of (by rfl) W.f_tuple (by decide +kernel) (pa_cons (pe_lc (own := [("times", 2)]) (g := gName 2) (tt := tYes) rfl scTermMul.nd (pi_tup (pe_fld (pv 0) rfl)) (blkOk_by (N := ["self", "other", "times"]) (sc := defScope s_Term_mul) (by decide +kernel))
            (fun _ _ _ _ _ => (pg_name (i := 2) scTermMul.nd rfl (Or.inl rfl))) (fun _ _ _ _ _ => pts_nil)
            (fun _ _ _ _ _ => (pe_op (show OpR _ _ (rS K pMul) from W.sMul hr) (pv 2) (pv 1)))) pa_nil)) pa_nil))))))), ?_⟩
    obtain ⟨dx, a, tp, a0, a1, a2, e1, e2, e3, e4, e5, e6⟩ := id hx
    obtain ⟨t, ty, kn, kt, _⟩ := W.nuTm hn
    generalize hte : tOp (rS K pMul) (tVar 2) (tVar 1) = te
    simp -dsimp [tSeq, tAsg, tRet, tIfS, tIf, tTest, tVar, tCons, tNil, tC, tOp, tUn, rI, rI0, rU, tCB, tLst_A, tTup_A, gName, L2.start, CMul, CPow, CDiv, tDrop, tBM, tBM0, tNext, tPar, gSub, rSetL, rIxL, rIxT, tChain, tB, tNot, tNotV, tAnd, tOr, tAndV, tOrV, tFld, tCall, rIxLH, rIxTH, atI, ixN, upd_same, cxK, ex2, ex3, ex3b, rIs1, rIs2, rNe2, tyN, kb1, kb2, kb3, kb4, kb5, kb6, rEq, rNe, scal, tMake_S, tMakeK_S, tMakeN_S, tMake_T]
    refine ⟨_, _, t, _, false, rfl, .own _, ty, kt, .inl ⟨rfl, _, t, true, rfl, ty, kn, .inr ⟨rfl, ?_⟩⟩⟩
    simp -dsimp [tSeq, tAsg, tRet, tIfS, tIf, tTest, tVar, tCons, tNil, tC, tOp, tUn, rI, rI0, rU, tCB, tLst_A, tTup_A, gName, L2.start, CMul, CPow, CDiv, tDrop, tBM, tBM0, tNext, tPar, gSub, rSetL, rIxL, rIxT, tChain, tB, tNot, tNotV, tAnd, tOr, tAndV, tOrV, tFld, tCall, rIxLH, rIxTH, atI, ixN, upd_same, cxK, ex2, ex3, ex3b, rIs1, rIs2, rNe2, tyN, kb1, kb2, kb3, kb4, kb5, kb6, rEq, rNe, scal, tMake_S, tMakeK_S, tMakeN_S, e1, termO, W.cls_Term, W.n_Term_number, W.n_Term_times, look_num, look_tim]
    refine ⟨a, m, n, rfl, e2, hn, ok, fun c H2 s2 ic => ?_⟩
    have e1' := s2 _ _ e1
    refine lc_tup (K := K) tp [.ref a0, .ref a1, .ref a2] (IsAt K (three (pMul t0 n) (pMul t1 n) (pMul t2 n))) (by show 3 < 1000; decide) (mono_S K _) (fun x => rfl) (s2 _ _ e3) (fun R h => by
      simp -dsimp [tSeq, tAsg, tRet, tIfS, tIf, tTest, tVar, tCons, tNil, tC, tOp, tUn, rI, rI0, rU, tCB, tLst_A, tTup_A, gName, L2.start, CMul, CPow, CDiv, tDrop, tBM, tBM0, tNext, tPar, gSub, rSetL, rIxL, rIxT, tChain, tB, tNot, tNotV, tAnd, tOr, tAndV, tOrV, tFld, tCall, rIxLH, rIxTH, atI, ixN, upd_same, cxK, ex2, ex3, ex3b, rIs1, rIs2, rNe2, tyN, kb1, kb2, kb3, kb4, kb5, kb6, rEq, rNe, scal, tMake_S, tMakeK_S, tMakeN_S, e1', termO, W.cls_Term, W.n_Term_times, look_tim]
      exact h) (fun j x' H' R hx' s' r => ?_) (fun D H3 vs s3 hl hD hs => ?_)
    · subst hte
      simp -dsimp [tSeq, tAsg, tRet, tIfS, tIf, tTest, tVar, tCons, tNil, tC, tOp, tUn, rI, rI0, rU, tCB, tLst_A, tTup_A, gName, L2.start, CMul, CPow, CDiv, tDrop, tBM, tBM0, tNext, tPar, gSub, rSetL, rIxL, rIxT, tChain, tB, tNot, tNotV, tAnd, tOr, tAndV, tOrV, tFld, tCall, rIxLH, rIxTH, atI, ixN, upd_same, cxK, ex2, ex3, ex3b, rIs1, rIs2, rNe2, tyN, kb1, kb2, kb3, kb4, kb5, kb6, rEq, rNe, scal, tMake_S, tMakeK_S, tMakeN_S, wipe]
      have s12 := s2.trans s'
      match j, hx' with
      | 0, hx' => cases hx'; exact ⟨a0, t0, n, rfl, e4.same s12, hn.same s12, ok0, fun y H4 s4 i4 => r _ _ s4 ⟨y, rfl, i4⟩⟩
      | 1, hx' => cases hx'; exact ⟨a1, t1, n, rfl, e5.same s12, hn.same s12, ok1, fun y H4 s4 i4 => r _ _ s4 ⟨y, rfl, i4⟩⟩
      | 2, hx' => cases hx'; exact ⟨a2, t2, n, rfl, e6.same s12, hn.same s12, ok2, fun y H4 s4 i4 => r _ _ s4 ⟨y, rfl, i4⟩⟩
    · match vs, hl with
      | [v0, v1, v2], _ =>
      obtain ⟨y0, rfl, h0⟩ := hs 0 v0 rfl
      obtain ⟨y1, rfl, h1⟩ := hs 1 v1 rfl
      obtain ⟨y2, rfl, h2⟩ := hs 2 v2 rfl
      refine ⟨D, rfl, _, .inl ⟨SqL.of hD, fun l nl => MkT.of rfl fun x' dx' H4 n4 e4' s4 => ?_⟩⟩
      have sl := same_upd nl (o := HO.tup [V.ref y0, V.ref y1, V.ref y2])
      exact q x' H4 ((s2.trans s3).trans (sl.trans s4)) ⟨dx', c, l, y0, y1, y2, e4', ic.same (s3.trans (sl.trans s4)), s4 _ _ upd_same, h0.same (sl.trans s4), h1.same (sl.trans s4), h2.same (sl.trans s4)⟩
/-- x op y of a term and a number -/
def rTM (K : PySem.W.Frag) : R2 := fun x y H Q => ∃ (m t0 t1 t2 n : Int × Int) (z : Addr), x = .ref z ∧ IsTm K H z m t0 t1 t2 ∧ Nu K H y n.1 n.2 ∧ Ok2 m n ∧ Ok2 t0 n ∧ Ok2 t1 n ∧ Ok2 t2 n ∧ ∀ z H', Same H H' → IsTm K H' z (pMul m n) (pMul t0 n) (pMul t1 n) (pMul t2 n) → Q (.ref z) H'
def rNM (K : PySem.W.Frag) : R2 := fun y x H Q => rTM K x y H Q
theorem IsTm.ins {H : Hp} {x : Addr} {m t0 t1 t2 : Int × Int} (h : IsTm K H x m t0 t1 t2) : ∃ (dx : Addr) (fs : List (Str × V)), H x = some (.ins (He.ga K "Term") dx fs) := by
  obtain ⟨dx, a, tp, a0, a1, a2, e1, _⟩ := h
  exact ⟨dx, _, e1⟩
end
section
variable {X : Cx}
theorem Wd.tMulN (W : Wd X.K X.mg) (hr : Room 5 X.A) : OpR X (binaryOp .Mult) (rTM X.K) := by
  obtain ⟨f1, G1, b1⟩ := ok_tmul (P := X.prog) (w := X.w) (base := X.base) W
  intro pins s σ H x y v u Q I rx ry h
  obtain ⟨m, t0, t1, t2, n, z, rfl, hz, hn, ok, ok0, ok1, ok2, q⟩ := h
  obtain ⟨dx, fs, hd⟩ := hz.ins
  rcases id hn with ⟨zy, rfl, dy, hy⟩ | ⟨rfl, _⟩
  · exact op_mixL W.tpMul W.opMul W.neST.symm (of_decide_eq_true (W.ex 20 rfl)) (raw0 G1 b1) hr pass0 pins s σ H _ _ v u Q I rx ry ⟨z, dx, zy, dy, fs, _, rfl, hd, rfl, hy, z, _, m, t0, t1, t2, n, rfl, hz, hn, ok, ok0, ok1, ok2, q⟩
  · exact op_L W.tpMul (raw0 G1 b1) hr pass0 pins s σ H _ _ v u Q I rx ry ⟨z, dx, fs, rfl, hd, .inr ⟨_, rfl⟩, z, _, m, t0, t1, t2, n, rfl, hz, hn, ok, ok0, ok1, ok2, q⟩
end
section
variable {P : Program} {w : World} {K : PySem.W.Frag} {mg : Str → Option Value} {base : Heap} {fd : FuncData}
theorem scTermRmul : FnScope ["self", "other"] ["self", "other"] d_Term_rmul.scope := ⟨rfl, rfl, rfl, by decide +kernel, rfl, by decide +kernel, by decide +kernel⟩
theorem ok_trmul (W : Wd K mg) : ∃ fd, FnOk P w K mg base CX0 6 (aT K "__rmul__") fd ["self", "other"] (spTM K) ∧ Binds K fd ["self", "other"] [] := by
  obtain ⟨fd_isNum, G_isNum, b_isNum⟩ := ok_isNum (P := P) (w := w) (base := base) W
  have k_isNum : PySem.W.keepIn K (.ref (He.ga K "is_number")) = true := by obtain ⟨fd, F⟩ := W.F_is_number; exact F.kp
  obtain ⟨fd, F⟩ := W.F_Term_rmul
  refine ⟨fd, F.ok scTermRmul (fun vs H Q E h => ?_) (fun cdv A outer s H vs Q E hr h => ?_), FunD.bindsN F fun _ _ _ _ _ _ us hl => match us, hl with | [_, _], _ => rfl⟩
  · obtain ⟨x, v, _, _, _, _, _, rfl, _⟩ := h
    rfl
  · obtain ⟨x, v, m, t0, t1, t2, n, rfl, hx, hn, ok, ok0, ok1, ok2, q⟩ := h
    have r1 : Room 1 _ := hr.mono (by decide)
    have r2 : Room 2 _ := hr.mono (by decide)
    have r3 : Room 3 _ := hr.mono (by decide)
    have r4 : Room 4 _ := hr.mono (by decide)
    have r5 : Room 5 _ := hr.mono (by decide)
    refine ⟨_, PSs.nox (pss_cons (ps_if (pt_not (pt_val (pe_call G_isNum r2 rfl W.g_is_number k_isNum b_isNum .nil pass0 (pa_cons (pv 1) pa_nil)))) pss_never pss_nil)
    (pss_one (ps_ret (pe_op (W.tMulN hr) (pv 0) (pv 1))))), ?_⟩
    obtain ⟨t, ty, kn, kt, _⟩ := W.nuTm hn
    simp -dsimp [tSeq, tAsg, tRet, tIfS, tIf, tTest, tVar, tCons, tNil, tC, tOp, tUn, rI, rI0, rU, tCB, tLst_A, tTup_A, gName, L2.start, CMul, CPow, CDiv, tDrop, tBM, tBM0, tNext, tPar, gSub, rSetL, rIxL, rIxT, tChain, tB, tNot, tNotV, tAnd, tOr, tAndV, tOrV, tFld, tCall, rIxLH, rIxTH, atI, ixN, upd_same, cxK, ex2, ex3, ex3b, rIs1, rIs2, rNe2, tyN, kb1, kb2, kb3, kb4, kb5, kb6, rEq, rNe, scal, tMake_S, tMakeK_S, tMakeN_S]
    exact ⟨_, t, true, rfl, ty, kn, .inr ⟨rfl, m, t0, t1, t2, n, x, rfl, hx, hn, ok, ok0, ok1, ok2, q⟩⟩
/-- what a share's own def declines -/
def spNI (K : PySem.W.Frag) : List V → Hp → (Hp → Prop) → Prop := fun vs H R => ∃ (x v : V) (t : Value), vs = [x, v] ∧ TyOf K H v t ∧ NuX.KN K t false ∧ R H
theorem ni_add (W : Wd K mg) : NiX.FnN P w K mg base 3 (aS K "__add__") (spNI K) := by
  obtain ⟨fdN, GN, bN⟩ := ok_isNum (P := P) (w := w) (base := base) W
  have kN : PySem.W.keepIn K (.ref (He.ga K "is_number")) = true := by obtain ⟨fd, F⟩ := W.F_is_number; exact F.kp
  obtain ⟨fd, F⟩ := W.F_Share_add
  refine NiX.fnN (N := _) (ps := ["self", "other"]) F scAdd (by decide +kernel) (fun _ _ _ _ _ _ us hl => match us, hl with | [_, _], _ => rfl) rfl (fun _ _ _ => rfl) W.f_NotImplemented (fun vs H R h => by
    obtain ⟨x, v, t, rfl, _⟩ := h
    rfl) (fun cdv A outer s H vs R hr h => ?_)
  obtain ⟨x, v, t, rfl, ty, kn, r⟩ := h
  refine ⟨_, pt_not (pt_val (pe_call GN hr rfl W.g_is_number kN bN .nil pass0 (pa_cons (pv 1) pa_nil))), ?_⟩
  simp -dsimp [tSeq, tAsg, tRet, tIfS, tIf, tTest, tVar, tCons, tNil, tC, tOp, tUn, rI, rI0, rU, tCB, tLst_A, tTup_A, gName, L2.start, CMul, CPow, CDiv, tDrop, tBM, tBM0, tNext, tPar, gSub, rSetL, rIxL, rIxT, tChain, tB, tNot, tNotV, tAnd, tOr, tAndV, tOrV, tFld, tCall, rIxLH, rIxTH, atI, ixN, upd_same, cxK, ex2, ex3, ex3b, rIs1, rIs2, rNe2, tyN, kb1, kb2, kb3, kb4, kb5, kb6, rEq, rNe, scal, tMake_S, tMakeK_S, tMakeN_S]
  exact ⟨_, t, false, rfl, ty, kn, rfl, r⟩
theorem ni_sub (W : Wd K mg) : NiX.FnN P w K mg base 3 (aS K "__sub__") (spNI K) := by
  obtain ⟨fdN, GN, bN⟩ := ok_isNum (P := P) (w := w) (base := base) W
  have kN : PySem.W.keepIn K (.ref (He.ga K "is_number")) = true := by obtain ⟨fd, F⟩ := W.F_is_number; exact F.kp
  obtain ⟨fd, F⟩ := W.F_Share_sub
  refine NiX.fnN (N := _) (ps := ["self", "other"]) F scSub (by decide +kernel) (fun _ _ _ _ _ _ us hl => match us, hl with | [_, _], _ => rfl) rfl (fun _ _ _ => rfl) W.f_NotImplemented (fun vs H R h => by
    obtain ⟨x, v, t, rfl, _⟩ := h
    rfl) (fun cdv A outer s H vs R hr h => ?_)
  obtain ⟨x, v, t, rfl, ty, kn, r⟩ := h
  refine ⟨_, pt_not (pt_val (pe_call GN hr rfl W.g_is_number kN bN .nil pass0 (pa_cons (pv 1) pa_nil))), ?_⟩
  simp -dsimp [tSeq, tAsg, tRet, tIfS, tIf, tTest, tVar, tCons, tNil, tC, tOp, tUn, rI, rI0, rU, tCB, tLst_A, tTup_A, gName, L2.start, CMul, CPow, CDiv, tDrop, tBM, tBM0, tNext, tPar, gSub, rSetL, rIxL, rIxT, tChain, tB, tNot, tNotV, tAnd, tOr, tAndV, tOrV, tFld, tCall, rIxLH, rIxTH, atI, ixN, upd_same, cxK, ex2, ex3, ex3b, rIs1, rIs2, rNe2, tyN, kb1, kb2, kb3, kb4, kb5, kb6, rEq, rNe, scal, tMake_S, tMakeK_S, tMakeN_S]
  exact ⟨_, t, false, rfl, ty, kn, rfl, r⟩
theorem ni_mul (W : Wd K mg) : NiX.FnN P w K mg base 3 (aS K "__mul__") (spNI K) := by
  obtain ⟨fdN, GN, bN⟩ := ok_isNum (P := P) (w := w) (base := base) W
  have kN : PySem.W.keepIn K (.ref (He.ga K "is_number")) = true := by obtain ⟨fd, F⟩ := W.F_is_number; exact F.kp
  obtain ⟨fd, F⟩ := W.F_Share_mul
  refine NiX.fnN (N := _) (ps := ["self", "other"]) F scMul (by decide +kernel) (fun _ _ _ _ _ _ us hl => match us, hl with | [_, _], _ => rfl) rfl (fun _ _ _ => rfl) W.f_NotImplemented (fun vs H R h => by
    obtain ⟨x, v, t, rfl, _⟩ := h
    rfl) (fun cdv A outer s H vs R hr h => ?_)
  obtain ⟨x, v, t, rfl, ty, kn, r⟩ := h
  refine ⟨_, pt_not (pt_val (pe_call GN hr rfl W.g_is_number kN bN .nil pass0 (pa_cons (pv 1) pa_nil))), ?_⟩
  simp -dsimp [tSeq, tAsg, tRet, tIfS, tIf, tTest, tVar, tCons, tNil, tC, tOp, tUn, rI, rI0, rU, tCB, tLst_A, tTup_A, gName, L2.start, CMul, CPow, CDiv, tDrop, tBM, tBM0, tNext, tPar, gSub, rSetL, rIxL, rIxT, tChain, tB, tNot, tNotV, tAnd, tOr, tAndV, tOrV, tFld, tCall, rIxLH, rIxTH, atI, ixN, upd_same, cxK, ex2, ex3, ex3b, rIs1, rIs2, rNe2, tyN, kb1, kb2, kb3, kb4, kb5, kb6, rEq, rNe, scal, tMake_S, tMakeK_S, tMakeN_S]
  exact ⟨_, t, false, rfl, ty, kn, rfl, r⟩
end
section
variable {X : Cx}
theorem Wd.nMulT (W : Wd X.K X.mg) (hr : Room 6 X.A) : OpR X (binaryOp .Mult) (rNM X.K) := by
  obtain ⟨f1, G1, b1⟩ := ok_trmul (P := X.prog) (w := X.w) (base := X.base) W
  have r3 : Room 3 X.A := hr.mono (by decide)
  intro pins s σ H x y v u Q I rx ry h
  obtain ⟨m, t0, t1, t2, n, z, rfl, hz, hn, ok, ok0, ok1, ok2, q⟩ := h
  obtain ⟨dx, fs, hd⟩ := hz.ins
  rcases id hn with ⟨zy, rfl, dy, hy⟩ | ⟨rfl, _⟩
  · exact op_mixR W.opMul W.tpMul W.neST (of_decide_eq_true (W.ex 19 rfl)) (ni_mul W) (raw0 G1 b1) r3 hr pass0 pins s σ H _ _ v u Q I rx ry ⟨zy, z, rfl, rfl, ⟨dy, _, hy⟩, ⟨dx, fs, hd⟩, _, _, _, rfl, W.isTm hz, W.knT, ⟨dy, _, hy⟩, ⟨dx, fs, hd⟩, z, _, m, t0, t1, t2, n, rfl, hz, hn, ok, ok0, ok1, ok2, q⟩
  · exact op_Rt W.tpMul (raw0 G1 b1) hr pass0 pins s σ H _ _ v u Q I rx ry ⟨_, z, dx, fs, rfl, rfl, hd, z, _, m, t0, t1, t2, n, rfl, hz, hn, ok, ok0, ok1, ok2, q⟩
end
/-! ### sums and differences -/
/-- x op y, x a term, y a term or a number -/
def rTT (K : PySem.W.Frag) (f : Int × Int → Int × Int → Int × Int) : R2 := fun x y H Q => ∃ (m t0 t1 t2 n u0 u1 u2 : Int × Int) (z : Addr), x = .ref z ∧ IsTm K H z m t0 t1 t2 ∧ TN K H y n u0 u1 u2 ∧ Ok2 m n ∧ Ok2 t0 u0 ∧ Ok2 t1 u1 ∧ Ok2 t2 u2 ∧ ∀ z H', Same H H' → IsTm K H' z (f m n) (f t0 u0) (f t1 u1) (f t2 u2) → Q (.ref z) H'
/-- x a number, y a term -/
def rNT (K : PySem.W.Frag) (f : Int × Int → Int × Int → Int × Int) : R2 := fun x y H Q => ∃ (m t0 t1 t2 n : Int × Int) (z : Addr), y = .ref z ∧ IsTm K H z m t0 t1 t2 ∧ Nu K H x n.1 n.2 ∧ Ok2 m n ∧ Ok2 t0 (0, 1) ∧ Ok2 t1 (0, 1) ∧ Ok2 t2 (0, 1) ∧ ∀ z H', Same H H' → IsTm K H' z (f n m) (f (0, 1) t0) (f (0, 1) t1) (f (0, 1) t2) → Q (.ref z) H'
section
variable {X : Cx}
theorem Wd.tAddT (W : Wd X.K X.mg) (hr : Room 7 X.A) : OpR X (binaryOp .Add) (rTT X.K pAdd) := by
  obtain ⟨f1, G1, b1⟩ := ok_tadd (P := X.prog) (w := X.w) (base := X.base) W
  intro pins s σ H x y v u Q I rx ry h
  obtain ⟨m, t0, t1, t2, n, u0, u1, u2, z, rfl, hz, hn, ok, ok0, ok1, ok2, q⟩ := h
  obtain ⟨dx, fs, hd⟩ := hz.ins
  rcases id hn with ⟨zy, rfl, hy⟩ | ⟨⟨zy, rfl, dy, hy⟩ | ⟨rfl, _⟩, _⟩
  · obtain ⟨dy, gs, hdy⟩ := hy.ins
    exact op_L W.tpAdd (raw0 G1 b1) hr pass0 pins s σ H _ _ v u Q I rx ry ⟨z, dx, fs, rfl, hd, .inl ⟨zy, dy, gs, rfl, hdy⟩, z, _, m, t0, t1, t2, n, u0, u1, u2, rfl, hz, hn, ok, ok0, ok1, ok2, q⟩
  · exact op_mixL W.tpAdd W.opAdd W.neST.symm (of_decide_eq_true (W.ex 20 rfl)) (raw0 G1 b1) hr pass0 pins s σ H _ _ v u Q I rx ry ⟨z, dx, zy, dy, fs, _, rfl, hd, rfl, hy, z, _, m, t0, t1, t2, n, u0, u1, u2, rfl, hz, hn, ok, ok0, ok1, ok2, q⟩
  · exact op_L W.tpAdd (raw0 G1 b1) hr pass0 pins s σ H _ _ v u Q I rx ry ⟨z, dx, fs, rfl, hd, .inr ⟨_, rfl⟩, z, _, m, t0, t1, t2, n, u0, u1, u2, rfl, hz, hn, ok, ok0, ok1, ok2, q⟩
end
section
variable {P : Program} {w : World} {K : PySem.W.Frag} {mg : Str → Option Value} {base : Heap} {fd : FuncData}
theorem scTermRadd : FnScope ["self", "other", "left"] ["self", "other"] d_Term_radd.scope := ⟨rfl, rfl, rfl, by decide +kernel, rfl, by decide +kernel, by decide +kernel⟩
theorem ok_tradd (W : Wd K mg) : ∃ fd, FnOk P w K mg base CX0 8 (aT K "__radd__") fd ["self", "other"] (spT2 K fun p q => pAdd q p) ∧ Binds K fd ["self", "other"] [] := by
  obtain ⟨fd_termOf, G_termOf, b_termOf⟩ := ok_termOf (P := P) (w := w) (base := base) W
  have k_termOf : PySem.W.keepIn K (.ref (He.ga K "term_of")) = true := by obtain ⟨fd, F⟩ := W.F_term_of; exact F.kp
  obtain ⟨fd, F⟩ := W.F_Term_radd
  refine ⟨fd, F.ok scTermRadd (fun vs H Q E h => ?_) (fun cdv A outer s H vs Q E hr h => ?_), FunD.bindsN F fun _ _ _ _ _ _ us hl => match us, hl with | [_, _], _ => rfl⟩
  · obtain ⟨x, v, _, _, _, _, _, _, _, _, rfl, _⟩ := h
    rfl
  · obtain ⟨x, v, m, t0, t1, t2, n, u0, u1, u2, rfl, hx, hv, ok, ok0, ok1, ok2, q⟩ := h
    have r1 : Room 1 _ := hr.mono (by decide)
    have r2 : Room 2 _ := hr.mono (by decide)
    have r3 : Room 3 _ := hr.mono (by decide)
    have r4 : Room 4 _ := hr.mono (by decide)
    have r5 : Room 5 _ := hr.mono (by decide)
    have r6 : Room 6 _ := hr.mono (by decide)
    have r7 : Room 7 _ := hr.mono (by decide)
    refine ⟨_, PSs.nox (pss_cons (ps_set (i := 2) scTermRadd.nd rfl (Or.inl rfl) (pe_call G_termOf r6 rfl W.g_term_of k_termOf b_termOf .nil pass0 (pa_cons (pv 1) pa_nil)))
    (pss_cons (ps_if (pt_cmpR op_isN (pv 2) pe_non (nomark _)) pss_never pss_nil)
    (pss_one (ps_ret (pe_op (W.tAddT hr) (pv 2) (pv 0)))))), ?_⟩
    simp -dsimp [tSeq, tAsg, tRet, tIfS, tIf, tTest, tVar, tCons, tNil, tC, tOp, tUn, rI, rI0, rU, tCB, tLst_A, tTup_A, gName, L2.start, CMul, CPow, CDiv, tDrop, tBM, tBM0, tNext, tPar, gSub, rSetL, rIxL, rIxT, tChain, tB, tNot, tNotV, tAnd, tOr, tAndV, tOrV, tFld, tCall, rIxLH, rIxTH, atI, ixN, upd_same, cxK, ex2, ex3, ex3b, rIs1, rIs2, rNe2, tyN, kb1, kb2, kb3, kb4, kb5, kb6, rEq, rNe, scal, tMake_S, tMakeK_S, tMakeN_S]
    refine ⟨v, n, u0, u1, u2, rfl, hv, fun z H1 s1 iz => ?_⟩
    simp -dsimp [tSeq, tAsg, tRet, tIfS, tIf, tTest, tVar, tCons, tNil, tC, tOp, tUn, rI, rI0, rU, tCB, tLst_A, tTup_A, gName, L2.start, CMul, CPow, CDiv, tDrop, tBM, tBM0, tNext, tPar, gSub, rSetL, rIxL, rIxT, tChain, tB, tNot, tNotV, tAnd, tOr, tAndV, tOrV, tFld, tCall, rIxLH, rIxTH, atI, ixN, upd_same, cxK, ex2, ex3, ex3b, rIs1, rIs2, rNe2, tyN, kb1, kb2, kb3, kb4, kb5, kb6, rEq, rNe, scal, tMake_S, tMakeK_S, tMakeN_S]
    exact ⟨n, u0, u1, u2, m, t0, t1, t2, z, rfl, iz, .inl ⟨x, rfl, hx.same s1⟩, ok.swap, ok0.swap, ok1.swap, ok2.swap, fun z' H' s' i' => q z' H' (s1.trans s') i'⟩
end
section
variable {X : Cx}
theorem Wd.nAddT (W : Wd X.K X.mg) (hr : Room 8 X.A) : OpR X (binaryOp .Add) (rNT X.K pAdd) := by
  obtain ⟨f1, G1, b1⟩ := ok_tradd (P := X.prog) (w := X.w) (base := X.base) W
  have r3 : Room 3 X.A := hr.mono (by decide)
  intro pins s σ H x y v u Q I rx ry h
  obtain ⟨m, t0, t1, t2, n, z, rfl, hz, hn, ok, ok0, ok1, ok2, q⟩ := h
  obtain ⟨dx, fs, hd⟩ := hz.ins
  have tn : TN X.K H x n (0, 1) (0, 1) (0, 1) := .inr ⟨hn, rfl, rfl, rfl⟩
  rcases id hn with ⟨zy, rfl, dy, hy⟩ | ⟨rfl, _⟩
  · exact op_mixR W.opAdd W.tpAdd W.neST (of_decide_eq_true (W.ex 19 rfl)) (ni_add W) (raw0 G1 b1) r3 hr pass0 pins s σ H _ _ v u Q I rx ry ⟨zy, z, rfl, rfl, ⟨dy, _, hy⟩, ⟨dx, fs, hd⟩, _, _, _, rfl, W.isTm hz, W.knT, ⟨dy, _, hy⟩, ⟨dx, fs, hd⟩, z, _, m, t0, t1, t2, n, _, _, _, rfl, hz, tn, ok, ok0, ok1, ok2, q⟩
  · exact op_Rt W.tpAdd (raw0 G1 b1) hr pass0 pins s σ H _ _ v u Q I rx ry ⟨_, z, dx, fs, rfl, rfl, hd, z, _, m, t0, t1, t2, n, _, _, _, rfl, hz, tn, ok, ok0, ok1, ok2, q⟩
end
section
variable {X : Cx}
theorem Wd.tSubT (W : Wd X.K X.mg) (hr : Room 7 X.A) : OpR X (binaryOp .Sub) (rTT X.K pSub) := by
  obtain ⟨f1, G1, b1⟩ := ok_tsub (P := X.prog) (w := X.w) (base := X.base) W
  intro pins s σ H x y v u Q I rx ry h
  obtain ⟨m, t0, t1, t2, n, u0, u1, u2, z, rfl, hz, hn, ok, ok0, ok1, ok2, q⟩ := h
  obtain ⟨dx, fs, hd⟩ := hz.ins
  rcases id hn with ⟨zy, rfl, hy⟩ | ⟨⟨zy, rfl, dy, hy⟩ | ⟨rfl, _⟩, _⟩
  · obtain ⟨dy, gs, hdy⟩ := hy.ins
    exact op_L W.tpSub (raw0 G1 b1) hr pass0 pins s σ H _ _ v u Q I rx ry ⟨z, dx, fs, rfl, hd, .inl ⟨zy, dy, gs, rfl, hdy⟩, z, _, m, t0, t1, t2, n, u0, u1, u2, rfl, hz, hn, ok, ok0, ok1, ok2, q⟩
  · exact op_mixL W.tpSub W.opSub W.neST.symm (of_decide_eq_true (W.ex 20 rfl)) (raw0 G1 b1) hr pass0 pins s σ H _ _ v u Q I rx ry ⟨z, dx, zy, dy, fs, _, rfl, hd, rfl, hy, z, _, m, t0, t1, t2, n, u0, u1, u2, rfl, hz, hn, ok, ok0, ok1, ok2, q⟩
  · exact op_L W.tpSub (raw0 G1 b1) hr pass0 pins s σ H _ _ v u Q I rx ry ⟨z, dx, fs, rfl, hd, .inr ⟨_, rfl⟩, z, _, m, t0, t1, t2, n, u0, u1, u2, rfl, hz, hn, ok, ok0, ok1, ok2, q⟩
end
section
variable {P : Program} {w : World} {K : PySem.W.Frag} {mg : Str → Option Value} {base : Heap} {fd : FuncData}
theorem scTermRsub : FnScope ["self", "other", "left"] ["self", "other"] d_Term_rsub.scope := ⟨rfl, rfl, rfl, by decide +kernel, rfl, by decide +kernel, by decide +kernel⟩
theorem ok_trsub (W : Wd K mg) : ∃ fd, FnOk P w K mg base CX0 8 (aT K "__rsub__") fd ["self", "other"] (spT2 K fun p q => pSub q p) ∧ Binds K fd ["self", "other"] [] := by
  obtain ⟨fd_termOf, G_termOf, b_termOf⟩ := ok_termOf (P := P) (w := w) (base := base) W
  have k_termOf : PySem.W.keepIn K (.ref (He.ga K "term_of")) = true := by obtain ⟨fd, F⟩ := W.F_term_of; exact F.kp
  obtain ⟨fd, F⟩ := W.F_Term_rsub
  refine ⟨fd, F.ok scTermRsub (fun vs H Q E h => ?_) (fun cdv A outer s H vs Q E hr h => ?_), FunD.bindsN F fun _ _ _ _ _ _ us hl => match us, hl with | [_, _], _ => rfl⟩
  · obtain ⟨x, v, _, _, _, _, _, _, _, _, rfl, _⟩ := h
    rfl
  · obtain ⟨x, v, m, t0, t1, t2, n, u0, u1, u2, rfl, hx, hv, ok, ok0, ok1, ok2, q⟩ := h
    have r1 : Room 1 _ := hr.mono (by decide)
    have r2 : Room 2 _ := hr.mono (by decide)
    have r3 : Room 3 _ := hr.mono (by decide)
    have r4 : Room 4 _ := hr.mono (by decide)
    have r5 : Room 5 _ := hr.mono (by decide)
    have r6 : Room 6 _ := hr.mono (by decide)
    have r7 : Room 7 _ := hr.mono (by decide)
    refine ⟨_, PSs.nox (pss_cons (ps_set (i := 2) scTermRsub.nd rfl (Or.inl rfl) (pe_call G_termOf r6 rfl W.g_term_of k_termOf b_termOf .nil pass0 (pa_cons (pv 1) pa_nil)))
    (pss_cons (ps_if (pt_cmpR op_isN (pv 2) pe_non (nomark _)) pss_never pss_nil)
    (pss_one (ps_ret (pe_op (W.tSubT hr) (pv 2) (pv 0)))))), ?_⟩
    simp -dsimp [tSeq, tAsg, tRet, tIfS, tIf, tTest, tVar, tCons, tNil, tC, tOp, tUn, rI, rI0, rU, tCB, tLst_A, tTup_A, gName, L2.start, CMul, CPow, CDiv, tDrop, tBM, tBM0, tNext, tPar, gSub, rSetL, rIxL, rIxT, tChain, tB, tNot, tNotV, tAnd, tOr, tAndV, tOrV, tFld, tCall, rIxLH, rIxTH, atI, ixN, upd_same, cxK, ex2, ex3, ex3b, rIs1, rIs2, rNe2, tyN, kb1, kb2, kb3, kb4, kb5, kb6, rEq, rNe, scal, tMake_S, tMakeK_S, tMakeN_S]
    refine ⟨v, n, u0, u1, u2, rfl, hv, fun z H1 s1 iz => ?_⟩
    simp -dsimp [tSeq, tAsg, tRet, tIfS, tIf, tTest, tVar, tCons, tNil, tC, tOp, tUn, rI, rI0, rU, tCB, tLst_A, tTup_A, gName, L2.start, CMul, CPow, CDiv, tDrop, tBM, tBM0, tNext, tPar, gSub, rSetL, rIxL, rIxT, tChain, tB, tNot, tNotV, tAnd, tOr, tAndV, tOrV, tFld, tCall, rIxLH, rIxTH, atI, ixN, upd_same, cxK, ex2, ex3, ex3b, rIs1, rIs2, rNe2, tyN, kb1, kb2, kb3, kb4, kb5, kb6, rEq, rNe, scal, tMake_S, tMakeK_S, tMakeN_S]
    exact ⟨n, u0, u1, u2, m, t0, t1, t2, z, rfl, iz, .inl ⟨x, rfl, hx.same s1⟩, ok.swap, ok0.swap, ok1.swap, ok2.swap, fun z' H' s' i' => q z' H' (s1.trans s') i'⟩
end
section
variable {X : Cx}
theorem Wd.nSubT (W : Wd X.K X.mg) (hr : Room 8 X.A) : OpR X (binaryOp .Sub) (rNT X.K pSub) := by
  obtain ⟨f1, G1, b1⟩ := ok_trsub (P := X.prog) (w := X.w) (base := X.base) W
  have r3 : Room 3 X.A := hr.mono (by decide)
  intro pins s σ H x y v u Q I rx ry h
  obtain ⟨m, t0, t1, t2, n, z, rfl, hz, hn, ok, ok0, ok1, ok2, q⟩ := h
  obtain ⟨dx, fs, hd⟩ := hz.ins
  have tn : TN X.K H x n (0, 1) (0, 1) (0, 1) := .inr ⟨hn, rfl, rfl, rfl⟩
  rcases id hn with ⟨zy, rfl, dy, hy⟩ | ⟨rfl, _⟩
  · exact op_mixR W.opSub W.tpSub W.neST (of_decide_eq_true (W.ex 19 rfl)) (ni_sub W) (raw0 G1 b1) r3 hr pass0 pins s σ H _ _ v u Q I rx ry ⟨zy, z, rfl, rfl, ⟨dy, _, hy⟩, ⟨dx, fs, hd⟩, _, _, _, rfl, W.isTm hz, W.knT, ⟨dy, _, hy⟩, ⟨dx, fs, hd⟩, z, _, m, t0, t1, t2, n, _, _, _, rfl, hz, tn, ok, ok0, ok1, ok2, q⟩
  · exact op_Rt W.tpSub (raw0 G1 b1) hr pass0 pins s σ H _ _ v u Q I rx ry ⟨_, z, dx, fs, rfl, rfl, hd, z, _, m, t0, t1, t2, n, _, _, _, rfl, hz, tn, ok, ok0, ok1, ok2, q⟩
end
/-! ### an own exception with two fields -/
namespace SupX
section
variable {P : Program} {w : World} {K : PySem.W.Frag} {mg : Str → Option Value} {base : Heap} {CX : CXT} {k : Nat} {C f cc cda : Addr} {name qual : Str} {st : Stmt} {par fld par2 fld2 : Str}
/-- the promise of such an __init__ of two parameters -/
def spExc2 (C : Addr) (f1 f2 : Str) : Sp := fun vs H Q _ => ∃ (a : Addr) (v v' : V), vs = [.ref a, v, v'] ∧ H a = some (exo a C none) ∧ ∀ dx, H dx = none → dx ≠ a → Q .non (upd (upd H dx (exd dx [(f2, v'), (f1, v)])) a (exo a C (some dx)))
theorem exc_init2 (T : SupC P K C f cc cda name qual st) (S : NdefX.NScope ["self", par, par2, "__class__"] ["self", par, par2] ["__class__"] (defScope st)) (hno : PySem.W.findIn K (.ref C) fld = some none) (hno2 : PySem.W.findIn K (.ref C) fld2 = some none)
    (hks : (defScope st).names.lookup ("super" : Str) = some .globalImplicit)
    (hb : ∀ (doc pm ct : Value) (an : Option Addr) (us : List Value), us.length = 3 → bindArgs (PySem.W.ksFn name qual (defArgs st) (defBody st) (defScope st) .none .none doc pm an (.ref cda) ct cc) ⟨us, []⟩ = pure ((["self", par, par2] : List Str).zip us))
    (hp : ((defArgs st).posonlyargs ++ (defArgs st).args).head?.map (·.arg) = some ("self" : Str))
    {p0 p1 p2 p3 p4 p5 p6 p7 p8 p9 p6' p7' p8' p9' : Pos} {msg : Str} {j : Nat}
    (hbody : defBody st = [.Expr (.Call (.Attribute (.Call (.Name "super" p0) [] [] p1) "__init__" p2) [.Constant (.str msg) j p3] [] p4) p5, .Assign [.Attribute (.Name "self" p6) fld p7] (.Name par p8) p9, .Assign [.Attribute (.Name "self" p6') fld2 p7'] (.Name par2 p8') p9'])
    {pl : Env → Sem Bool}
    (he : ∀ env : Env, env.scope = defScope st → eval (.Call (.Attribute (.Call (.Name "super" p0) [] [] p1) "__init__" p2) [.Constant (.str msg) j p3] [] p4) env = (do
      let ov ← attributeBase (.Call (.Name "super" p0) [] [] p1) "__init__" env (eval (.Call (.Name "super" p0) [] [] p1) env)
      standAt p2.atName
      let (f, first) ← holding [ov] (getMethod ov "__init__" (pl env))
      callWith p4 f first (backTo p4 (starEach [.Constant (.str msg) j p3] env)) []))
    (hsw : ∀ env : Env, env.scope = defScope st → swapsWith (.Call (.Attribute (.Call (.Name "super" p0) [] [] p1) "__init__" p2) [.Constant (.str msg) j p3] [] p4) none p5.line env = pure false) (hi : ∀ env : Env, env.scope = defScope st → interactive env = false)
    (hsw2 : ∀ env : Env, env.scope = defScope st → swapsWith (.Name par p8) (some (.Attribute (.Name "self" p6) fld p7)) p9.line env = pure false) (hsw3 : ∀ env : Env, env.scope = defScope st → swapsWith (.Name par2 p8') (some (.Attribute (.Name "self" p6') fld2 p7')) p9'.line env = pure false) (hd1 : (par == ("__debug__" : Str)) = false) (hd2 : (par == ("__classdict__" : Str)) = false) (hd1' : (par2 == ("__debug__" : Str)) = false) (hd2' : (par2 == ("__classdict__" : Str)) = false) :
    ∃ fd, FnOk P w K mg base CX (k + 1) f fd ["self", par, par2] (spExc2 C fld fld2) ∧ Binds K fd ["self", par, par2] [] := by
  obtain ⟨oc, od, doc, pm, an, ct, osl, lk⟩ := id T.lk
  obtain ⟨cl, cld, csl, lcc⟩ := id T.cell
  refine ⟨_, ⟨fun vs H Q E h => ?_, fun A outer s H args us vs Q E hr e0 hbd r hsp => ?_⟩, .all (hb doc pm ct an)⟩
  · obtain ⟨a, v, v', rfl, _⟩ := h
    rfl
  · have KX : K.In s.heap := e0.mod.kin.keeps fun b o e => (e0.bs b o e).1
    have lim : s.heap.NoLimit := e0.mod.nolimit.keeps fun b o e => (e0.bs b o e).1
    obtain ⟨a, v, v', rfl, ha, q⟩ := hsp
    refine PySem.ks_codeAny_call_defAt (fd := PySem.W.ksFn name qual (defArgs st) (defBody st) (defScope st) .none .none doc pm an (.ref cda) ct cc) (body := defBody st) (binds := (["self", par, par2] : List Str).zip us) hr.depth (KX _ _ lk) rfl lim (PySem.W.codeRec_of KX T.code) rfl hbd S.nocell (fun ⟨n, _⟩ hy => S.par n (List.of_mem_zip hy).1) (fun h₁ hns hk₁ => ?_) S.co S.gen S.kind
    have hl : us.length = 3 := r.length.symm
    have CA : NdefX.CellsAt [("__class__", cc)] ["__class__"] [none] s.heap H := by
      have one : ∀ (y : Str) (c : Addr), ([(("__class__" : Str), cc)] : List (Str × Addr)).lookup y = some c → y = "__class__" ∧ c = cc := fun y c e => by
        by_cases hy : y = "__class__"
        · subst hy
          exact ⟨rfl, (Option.some.inj (show some cc = some c from e)).symm⟩
        · have hy2 : (y == ("__class__" : Str)) = false := by simpa using hy
          rw [List.lookup_cons, hy2] at e
          cases e
      refine ⟨rfl, fun y c e => ?_, fun x y c e1 e2 => (one x c e1).1.trans (one y c e2).1.symm, fun i y hi => ?_⟩
      · obtain ⟨_, rfl⟩ := one y c e
        exact ⟨(e0.bs c _ (e0.mod.kin _ _ lcc)).2, _, _, KX _ _ lcc, rfl⟩
      · match i, hi with
        | 0, hi =>
          cases hi
          exact ⟨cc, rfl, fun v e => by cases e⟩
    have I := NdefX.inv_startN (CX := CX) (mg := mg) (E := E) (F := nfOf name qual st cc cda) (f := f) (tk := s.toks + ((["self", par, par2] : List Str).zip us).length) S hr.hd e0 rfl r CA hns hk₁
    have hself : (defScope st).names.lookup ("self" : Str) = some .local := S.par _ (List.mem_cons_self ..)
    have hpar : (defScope st).names.lookup par = some .local := S.par _ (List.mem_cons_of_mem _ (List.mem_cons_self ..))
    have hpar2 : (defScope st).names.lookup par2 = some .local := S.par _ (List.mem_cons_of_mem _ (List.mem_cons_of_mem _ (List.mem_cons_self ..)))
    have hcls : (defScope st).names.lookup ("__class__" : Str) = some .free := S.frk _ (List.mem_cons_self ..)
    have hstep : _root_.PySem.wpAt (model P w) (NdefX.ncx CX P w K mg base ["self", par, par2, "__class__"] (nfOf name qual st cc cda) f A outer s H E).A (.func (defBody st) (NdefX.envF (nfOf name qual st cc cda) f s.heap.objs.size)) (execs (defBody st) (NdefX.envF (nfOf name qual st cc cda) f s.heap.objs.size))
        (fun fl s' => CR CX outer P w H s Q E (.ok (.ret (match fl with | .ret v => v | _ => .none))) s') (NdefX.ncx CX P w K mg base ["self", par, par2, "__class__"] (nfOf name qual st cc cda) f A outer s H E).xe
        { s with heap := h₁, toks := s.toks + ((["self", par, par2] : List Str).zip us).length } := by
      have eb : execs (defBody st) (NdefX.envF (nfOf name qual st cc cda) f s.heap.objs.size) = execs [.Expr (.Call (.Attribute (.Call (.Name "super" p0) [] [] p1) "__init__" p2) [.Constant (.str msg) j p3] [] p4) p5, .Assign [.Attribute (.Name "self" p6) fld p7] (.Name par p8) p9, .Assign [.Attribute (.Name "self" p6') fld2 p7'] (.Name par2 p8') p9'] (NdefX.envF (nfOf name qual st cc cda) f s.heap.objs.size) := by rw [hbody]
      rw [eb]
      refine PySem.ks_wpAt_execs_cons (super_stmt (X := NdefX.ncx CX P w K mg base ["self", par, par2, "__class__"] (nfOf name qual st cc cda) f A outer s H E) T rfl rfl hks hcls hself S.kind hp (he _ rfl) (hsw _ rfl) (hi _ rfl) (σ := NdefX.startF ["self", par, par2, "__class__"] [.ref a, v, v'] [none]) rfl I ha (fun s' I' => ?_))
      have d2 : PSs (NdefX.ncx CX P w K mg base ["self", par, par2, "__class__"] (nfOf name qual st cc cda) f A outer s H E) [.Assign [.Attribute (.Name "self" p6) fld p7] (.Name par p8) p9, .Assign [.Attribute (.Name "self" p6') fld2 p7'] (.Name par2 p8') p9'] _ := pss_cons (ps_ost (pe_var (i := 0) rfl (.inl hself)) (pe_var (i := 1) rfl (.inl hpar) hd1 hd2) (hsw2 _ rfl)) (pss_one (ps_ost (pe_var (i := 0) rfl (.inl hself)) (pe_var (i := 2) rfl (.inl hpar2) hd1' hd2') (hsw3 _ rfl)))
      refine wpAt_of_wpAny (wpAny_mono (d2.run [] s' _ H { nx := fun _ H' => Q .non H', rt := Q } I' ⟨v, rfl, .ref a, rfl, a, C, rfl, T.oex, hno, .inl ⟨ha, fun dx n ne => ⟨v', rfl, .ref a, rfl, a, C, rfl, T.oex, hno2, .inr ⟨dx, [(fld, v)], upd_same, by rw [upd_ne ne, upd_same], (by show 1 ≤ 900; decide), by
        have e : upd (upd (upd H dx (exd dx [(fld, v)])) a (exo a C (some dx))) dx (exd dx [(fld2, v'), (fld, v)]) = upd (upd H dx (exd dx [(fld2, v'), (fld, v)])) a (exo a C (some dx)) := by
          funext b
          by_cases hb : b = dx
          · subst hb
            rw [upd_same, upd_ne ne, upd_same]
          · rw [upd_ne hb]
            by_cases hc : b = a
            · subst hc
              rw [upd_same, upd_same]
            · rw [upd_ne hc, upd_ne hc, upd_ne hb, upd_ne hb]
        show Q .non _
        rw [e]
        exact q dx n ne⟩⟩⟩⟩) (fun fl s'' hs => ?_) fun e s'' hs => hs)
      cases fl with
      | ret u =>
        obtain ⟨v', σ', H', J, rv, q'⟩ := hs
        exact ⟨v', H', J.os, J.bare, J.base, J.hok, rv, q'⟩
      | next =>
        obtain ⟨σ', H', J, q'⟩ := hs
        exact ⟨.non, H', J.os, J.bare, J.base, J.hok, rfl, q'⟩
      | brk =>
        obtain ⟨_, _, _, q'⟩ := hs
        exact False.elim q'
      | cont =>
        obtain ⟨_, _, _, q'⟩ := hs
        exact False.elim q'
    exact hstep
end
end SupX
/-! ### refusals of terms -/
/-- as Passes, of what is wished at all slots of the right length -/
theorem passLen {X : Cx} {W : WX} (n : Nat) (hn : X.N.length = n) (tk : Takes X W) : Passes (L2.CX X.prog X.w) X (fun c d H => ∀ σ : List (Option V), σ.length = n → W c d σ H) := fun pins σ H s e s' I c => by
  obtain ⟨a, B, H', cls, d, e1, e2, e3, e4, e5, e6, e7, z⟩ := c
  exact passAt tk σ pins H s e s' I ⟨a, B, H', cls, d, e1, e2, e3, e4, e5, e6, e7, z σ (I.len.trans hn)⟩
section
variable {P : Program} {w : World} {K : PySem.W.Frag} {mg : Str → Option Value} {base : Heap} {fd : FuncData}
theorem ok_noshare (W : Wd K mg) (hP : SupX.PrgOk P) : ∃ fd, FnOk P w K mg base CX0 1 (He.ma K (He.ga K "NoShare") "__init__") fd ["self", "top"] (SupX.spExc (He.ga K "NoShare") "top") ∧ Binds K fd ["self", "top"] [] := by
  obtain ⟨cc, cda, T⟩ := SupX.supC_of hP (W.sup 1 rfl) W.e_oexNoShare W.e_supNoShare
  exact SupX.exc_init T (NdefX.nscope_by (by decide +kernel)) W.n_NoShare_top (by decide +kernel) (fun _ _ _ _ us hl => match us, hl with | [_, _], _ => rfl) rfl rfl (fun env h => rfl) (fun env h => rfl) (fun env h => by unfold interactive; rw [h]; rfl) (fun env h => rfl) rfl rfl
theorem ok_notstraight (W : Wd K mg) (hP : SupX.PrgOk P) : ∃ fd, FnOk P w K mg base CX0 1 (He.ma K (He.ga K "NotStraight") "__init__") fd ["self", "left", "right"] (SupX.spExc2 (He.ga K "NotStraight") "left" "right") ∧ Binds K fd ["self", "left", "right"] [] := by
  obtain ⟨cc, cda, T⟩ := SupX.supC_of hP (W.sup 2 rfl) W.e_oexNotStraight W.e_supNotStraight
  exact SupX.exc_init2 T (NdefX.nscope_by (by decide +kernel)) W.n_NotStraight_left W.n_NotStraight_right (by decide +kernel) (fun _ _ _ _ us hl => match us, hl with | [_, _, _], _ => rfl) rfl rfl (fun env h => rfl) (fun env h => rfl) (fun env h => by unfold interactive; rw [h]; rfl) (fun env h => rfl) (fun env h => rfl) rfl rfl rfl rfl
/-- an exception made and raised: its fields stand alone -/
theorem xd_made {H : Hp} {a1 dx C : Addr} {fs : List (Str × V)} (n1 : H a1 = none) : upd (del (upd (upd (upd H a1 (exo a1 C none)) dx (exd dx fs)) a1 (exo a1 C (some dx))) a1) dx (.xd fs) = upd H dx (.xd fs) := by
  funext b
  by_cases hb : b = dx
  · subst hb
    rw [upd_same, upd_same]
  · rw [upd_ne hb, upd_ne hb]
    by_cases hc : b = a1
    · subst hc
      rw [del_same, n1]
    · rw [del_ne hc, upd_ne hc, upd_ne hb, upd_ne hc]
def spMulX (K : PySem.W.Frag) : Sp := fun vs H _ E => ∃ (x y : Addr) (n u0 u1 u2 : Int × Int), vs = [.ref x, .ref y] ∧ IsTm K H y n u0 u1 u2 ∧ ∀ d, H d = none → E (.ref (He.ga K "NotStraight")) (some d) (upd H d (.xd [("right", .ref y), ("left", .ref x)]))
theorem ok_tmulX (W : Wd K mg) (hP : SupX.PrgOk P) : ∃ fd, FnOk P w K mg base (L2.CX P w) 3 (aT K "__mul__") fd ["self", "other"] (spMulX K) ∧ Binds K fd ["self", "other"] [] := by
  obtain ⟨fdN, GN, bN⟩ := ok_notstraight (P := P) (w := w) (base := base) W hP
  have f8 := He.ba W.e_iniNotStraight
  obtain ⟨fd, F⟩ := W.F_Term_mul
  refine ⟨fd, F.ok scTermMul (fun vs H Q E h => ?_) (fun cdv A outer s H vs Q E hr h => ?_), FunD.bindsN F fun _ _ _ _ _ _ us hl => match us, hl with | [_, _], _ => rfl⟩
  · obtain ⟨x, y, _, _, _, _, rfl, _⟩ := h
    rfl
  · obtain ⟨x, y, n, u0, u1, u2, rfl, hy, q⟩ := h
    refine ⟨_, (pss_cons (ps_if (pt_val (pe_callB isi_G (by rfl) W.f_isinstance boot_isinstance (pa_cons (pv 1) (pa_cons (pe_glob (v := .ref (He.ga K "Term")) rfl W.g_Term rfl) pa_nil)))) (pss_one (ps_raise rfl (takes_of rfl rfl rfl rfl) (pmk_oex (SupX.oexB_ok W.e_oexNotStraight) (He.eqO_ok f8.1) (of_decide_eq_true f8.2) GN hr bN .nil pass0 rfl W.g_NotStraight (pa_cons (pv 0) (pa_cons (pv 1) pa_nil))))) pss_nil)
    pss_never), ?_⟩
    simp -dsimp [tSeq, tAsg, tRet, tIfS, tIf, tTest, tVar, tCons, tNil, tC, tOp, tUn, rI, rI0, rU, tCB, tLst_A, tTup_A, gName, L2.start, CMul, CPow, CDiv, tDrop, tBM, tBM0, tNext, tPar, gSub, rSetL, rIxL, rIxT, tChain, tB, tNot, tNotV, tAnd, tOr, tAndV, tOrV, tFld, tCall, rIxLH, rIxTH, atI, ixN, upd_same, cxK, ex2, ex3, ex3b, rIs1, rIs2, rNe2, tyN, kb1, kb2, kb3, kb4, kb5, kb6, rEq, rNe, scal, tMake_S, tMakeK_S, tMakeN_S, tMkO]
    refine ⟨_, _, _, _, true, rfl, .own _, W.isTm hy, of_decide_eq_true (W.ex 30 rfl), .inr ⟨rfl, fun a1 n1 => ⟨a1, _, _, rfl, upd_same, fun dx nd ne => ?_⟩⟩⟩
    rw [upd_ne ne] at nd
    refine ⟨rfl, dx, upd_same, _, by rw [upd_ne ne, upd_same], nd, ?_⟩
    rw [xd_made n1]
    exact q dx nd
/-- number == 0 -/
def rN0 (K : PySem.W.Frag) : R2 := fun x y H Q => ∃ (c d : Int), Nu K H x c d ∧ c.natAbs < bigH ∧ d.natAbs < bigH ∧ y = .int 0 ∧ ∀ H', Same H H' → Q (.bl (decide (c = 0))) H'
end
section
variable {X : Cx}
theorem Wd.opN0 (W : Wd X.K X.mg) (hr : Room 3 X.A) : OpR X (compareOp .Eq) (rN0 X.K) := by
  intro pins s σ H x y v u Q I rx ry h
  obtain ⟨c, d, hn, hc, hd, rfl, q⟩ := h
  rcases id hn with ⟨z, rfl, hz⟩ | ⟨rfl, rfl⟩
  · refine W.opEq hr pins s σ H _ _ v u Q I rx ry ⟨c, d, 0, 1, hn, .inr ⟨rfl, rfl⟩, ⟨hc, hd, h_of (by decide), h_of (by decide)⟩, .inl ⟨z, rfl⟩, fun H' s' => ?_⟩
    have e : (c * 1 - 0 * d) = c := by omega
    rw [e]
    exact q H' s'
  · refine op_eq pins s σ H _ _ v u Q I rx ry ⟨rfl, ?_⟩
    have e : decide (V.int c = V.int 0) = decide (c = 0) := by simp only [V.int.injEq]
    rw [e]
    exact q H (Same.refl _)
end
section
variable {P : Program} {w : World} {K : PySem.W.Frag} {mg : Str → Option Value} {base : Heap} {fd : FuncData}
/-- a term over a number -/
def spTOver (K : PySem.W.Frag) : Sp := fun vs H Q _ => ∃ (x : Addr) (v : V) (m t0 t1 t2 n : Int × Int), vs = [.ref x, v] ∧ IsTm K H x m t0 t1 t2 ∧ Nu K H v n.1 n.2 ∧ n.1 ≠ 0 ∧ Ok2 (1, 1) n ∧ Ok2 m (pDiv (1, 1) n) ∧ Ok2 t0 (pDiv (1, 1) n) ∧ Ok2 t1 (pDiv (1, 1) n) ∧ Ok2 t2 (pDiv (1, 1) n) ∧
  ∀ z H', Same H H' → IsTm K H' z (pMul m (pDiv (1, 1) n)) (pMul t0 (pDiv (1, 1) n)) (pMul t1 (pDiv (1, 1) n)) (pMul t2 (pDiv (1, 1) n)) → Q (.ref z) H'
theorem scTermOver : FnScope ["self", "number"] ["self", "number"] d_Term_over.scope := ⟨rfl, rfl, rfl, by decide +kernel, rfl, by decide +kernel, by decide +kernel⟩
theorem ok_tover (W : Wd K mg) : ∃ fd, FnOk P w K mg base CX0 6 (aT K "over") fd ["self", "number"] (spTOver K) ∧ Binds K fd ["self", "number"] [] := by
  obtain ⟨fd_init, G_init, F_init⟩ := ok_init (P := P) (w := w) (base := base) W
  obtain ⟨ds_init1, v_init1, b_init1⟩ := bind2 F_init
  obtain ⟨fd_over, G_over, b_over⟩ := ok_over (P := P) (w := w) (base := base) W
  obtain ⟨fd, F⟩ := W.F_Term_over
  refine ⟨fd, F.ok scTermOver (fun vs H Q E h => ?_) (fun cdv A outer s H vs Q E hr h => ?_), FunD.bindsN F fun _ _ _ _ _ _ us hl => match us, hl with | [_, _], _ => rfl⟩
  · obtain ⟨x, v, _, _, _, _, _, rfl, _⟩ := h
    rfl
  · obtain ⟨x, v, m, t0, t1, t2, n, rfl, hx, hn, n0, k0, ok, ok0, ok1, ok2, q⟩ := h
    have r1 : Room 1 _ := hr.mono (by decide)
    have r2 : Room 2 _ := hr.mono (by decide)
    have r3 : Room 3 _ := hr.mono (by decide)
    have r4 : Room 4 _ := hr.mono (by decide)
    have r5 : Room 5 _ := hr.mono (by decide)
    refine ⟨_, PSs.nox (pss_cons (ps_if (pt_cmpR (W.opN0 r3) (pv 1) pe_int (nomark _)) pss_never pss_nil)
    (pss_one (ps_ret (pe_op (W.tMulN hr) (pv 0) (pe_meth (pe_make W.mkr_Share G_init r3 rfl W.g_Share b_init1 v_init1 pass0 (pa_cons pe_int pa_nil)) W.cls_Share W.m_Share_over G_over r4 b_over .nil pass0 (pa_cons (pv 1) pa_nil)))))), ?_⟩
    simp -dsimp [tSeq, tAsg, tRet, tIfS, tIf, tTest, tVar, tCons, tNil, tC, tOp, tUn, rI, rI0, rU, tCB, tLst_A, tTup_A, gName, L2.start, CMul, CPow, CDiv, tDrop, tBM, tBM0, tNext, tPar, gSub, rSetL, rIxL, rIxT, tChain, tB, tNot, tNotV, tAnd, tOr, tAndV, tOrV, tFld, tCall, rIxLH, rIxTH, atI, ixN, upd_same, cxK, ex2, ex3, ex3b, rIs1, rIs2, rNe2, tyN, kb1, kb2, kb3, kb4, kb5, kb6, rEq, rNe, scal, tMake_S, tMakeK_S, tMakeN_S]
    refine ⟨n.1, n.2, hn, k0.1.2.2.1, k0.1.2.2.2, rfl, fun H1 s1 => ?_⟩
    simp -dsimp [tSeq, tAsg, tRet, tIfS, tIf, tTest, tVar, tCons, tNil, tC, tOp, tUn, rI, rI0, rU, tCB, tLst_A, tTup_A, gName, L2.start, CMul, CPow, CDiv, tDrop, tBM, tBM0, tNext, tPar, gSub, rSetL, rIxL, rIxT, tChain, tB, tNot, tNotV, tAnd, tOr, tAndV, tOrV, tFld, tCall, rIxLH, rIxTH, atI, ixN, upd_same, cxK, ex2, ex3, ex3b, rIs1, rIs2, rNe2, tyN, kb1, kb2, kb3, kb4, kb5, kb6, rEq, rNe, scal, tMake_S, tMakeK_S, tMakeN_S, n0, tMeth]
    refine MkS.one fun z1 H2 n2 s2 i2 => ?_
    obtain ⟨dz, hz⟩ := id i2
    have s12 := s1.trans s2
    refine ⟨z1, rfl, dz, _, hz, fun a b h e => ?_, ?_⟩
    · subst e
      rcases List.mem_cons.mp h with h | h
      · exact absurd (show ("over" : Str) = "top" from congrArg Prod.fst h) (by decide +kernel)
      · rcases List.mem_cons.mp h with h | h
        · exact absurd (show ("over" : Str) = "bottom" from congrArg Prod.fst h) (by decide +kernel)
        · cases h
    refine ⟨z1, v, 1, 1, n.1, n.2, rfl, i2, hn.same s12, k0.1, Int.mul_ne_zero (by decide) n0, fun z2 H3 s3 i3 => ?_⟩
    exact ⟨m, t0, t1, t2, pDiv (1, 1) n, x, rfl, hx.same (s12.trans s3), .inl ⟨z2, rfl, i3⟩, ok, ok0, ok1, ok2, fun z H' s' i => q z H' ((s12.trans s3).trans s') i⟩
/-- a term over 0 -/
def spTOverX (K : PySem.W.Frag) : Sp := fun vs H _ E => ∃ (x v : V) (d : Int), vs = [x, v] ∧ Nu K H v 0 d ∧ d.natAbs < bigH ∧ ∀ e H', Same H H' → H' e = none → E (.ref (He.ga K "NoShare")) (some e) (upd H' e (.xd [("top", .int 0)]))
theorem ok_toverX (W : Wd K mg) (hP : SupX.PrgOk P) : ∃ fd, FnOk P w K mg base (L2.CX P w) 4 (aT K "over") fd ["self", "number"] (spTOverX K) ∧ Binds K fd ["self", "number"] [] := by
  obtain ⟨fdN, GN, bN⟩ := ok_noshare (P := P) (w := w) (base := base) W hP
  have f8 := He.ba W.e_iniNoShare
  obtain ⟨fd, F⟩ := W.F_Term_over
  refine ⟨fd, F.ok scTermOver (fun vs H Q E h => ?_) (fun cdv A outer s H vs Q E hr h => ?_), FunD.bindsN F fun _ _ _ _ _ _ us hl => match us, hl with | [_, _], _ => rfl⟩
  · obtain ⟨x, v, d, rfl, _⟩ := h
    rfl
  · obtain ⟨x, v, d, rfl, hv, hd, q⟩ := h
    have r2 : Room 2 _ := hr.mono (by decide)
    refine ⟨_, (pss_cons (ps_if (pt_cmpR (W.opN0 hr) (pv 1) pe_int (nomark _)) (pss_one (ps_raise rfl (takes_of rfl rfl rfl rfl) (pmk_oex (SupX.oexB_ok W.e_oexNoShare) (He.eqO_ok f8.1) (of_decide_eq_true f8.2) GN r2 bN .nil pass0 rfl W.g_NoShare (pa_cons pe_int pa_nil)))) pss_nil)
    pss_never), ?_⟩
    simp -dsimp [tSeq, tAsg, tRet, tIfS, tIf, tTest, tVar, tCons, tNil, tC, tOp, tUn, rI, rI0, rU, tCB, tLst_A, tTup_A, gName, L2.start, CMul, CPow, CDiv, tDrop, tBM, tBM0, tNext, tPar, gSub, rSetL, rIxL, rIxT, tChain, tB, tNot, tNotV, tAnd, tOr, tAndV, tOrV, tFld, tCall, rIxLH, rIxTH, atI, ixN, upd_same, cxK, ex2, ex3, ex3b, rIs1, rIs2, rNe2, tyN, kb1, kb2, kb3, kb4, kb5, kb6, rEq, rNe, scal, tMake_S, tMakeK_S, tMakeN_S, tMkO]
    refine ⟨0, d, hv, by decide +kernel, hd, rfl, fun H1 s1 => .inr ⟨rfl, fun a1 n1 => ⟨a1, _, rfl, upd_same, fun dx nd ne => ?_⟩⟩⟩
    rw [upd_ne ne] at nd
    refine ⟨rfl, dx, upd_same, _, by rw [upd_ne ne, upd_same], nd, ?_⟩
    rw [xd_made n1]
    exact q dx H1 s1 nd
end
/-! ### terms drawn -/
/-- all but lists is kept -/
def KeepL (H H' : Hp) : Prop := ∀ b o, H b = some o → (∀ xs, o ≠ .lst xs) → H' b = some o
theorem KeepL.of {H H' : Hp} (h : Same H H') : KeepL H H' := fun b o e _ => h b o e
theorem KeepL.trans {H1 H2 H3 : Hp} (h : KeepL H1 H2) (k : KeepL H2 H3) : KeepL H1 H3 := fun b o e n => k b o (h b o e n) n
theorem KeepL.sameN {l : Addr} {xs : List V} {H H' : Hp} (hl : H l = some (.lst xs)) (s : SameN l H H') : KeepL H H' := fun b o e n => s b o (fun eb => by
  subst eb
  rw [hl] at e
  cases e
  exact n _ rfl) e
theorem IsSh.keepL {K : PySem.W.Frag} {H H' : Hp} {x : Addr} {a b : Int} (h : IsSh K H x a b) (k : KeepL H H') : IsSh K H' x a b := by
  obtain ⟨dx, h⟩ := h
  exact ⟨dx, k _ _ h (fun xs e => by cases e)⟩
theorem IsTm.keepL {K : PySem.W.Frag} {H H' : Hp} {x : Addr} {n t0 t1 t2 : Int × Int} (h : IsTm K H x n t0 t1 t2) (k : KeepL H H') : IsTm K H' x n t0 t1 t2 := by
  obtain ⟨dx, a, tp, a0, a1, a2, h1, h2, h3, h4, h5, h6⟩ := h
  exact ⟨dx, a, tp, a0, a1, a2, k _ _ h1 (fun xs e => by cases e), IsSh.keepL h2 k, k _ _ h3 (fun xs e => by cases e), IsSh.keepL h4 k, IsSh.keepL h5 k, IsSh.keepL h6 k⟩
theorem Nu.keepL {K : PySem.W.Frag} {H H' : Hp} {v : V} {c d : Int} (h : Nu K H v c d) (k : KeepL H H') : Nu K H' v c d := by
  rcases h with ⟨y, e, h⟩ | h
  · exact .inl ⟨y, e, IsSh.keepL h k⟩
  · exact .inr h
theorem dl_pair (k i : Int) : ∃ b : Int, dl k i = (b, 1) ∧ (b = 0 ∨ b = 1) := by
  unfold dl
  split
  · exact ⟨1, rfl, .inr rfl⟩
  · exact ⟨0, rfl, .inl rfl⟩
theorem lo_low' {p : Int × Int} (h : Low p.1 p.2) : lo p.1 p.2 = p := Prod.ext (lo_low h).1 (lo_low h).2
theorem lo_int (a : Int) : lo a 1 = (a, 1) := Prod.ext (one_fd a).1 (one_fd a).2
theorem pAdd_int (a b : Int) : pAdd (a, 1) (b, 1) = (a + b, 1) := by
  show lo (a * 1 + b * 1) (1 * 1) = _
  rw [Int.mul_one, Int.mul_one, Int.mul_one, lo_int]
theorem pMul_int (a b : Int) : pMul (a, 1) (b, 1) = (a * b, 1) := by
  show lo (a * b) (1 * 1) = _
  rw [Int.mul_one, lo_int]
theorem pAdd_zero {p : Int × Int} (h : Low p.1 p.2) : pAdd p (0, 1) = p := by
  show lo (p.1 * 1 + 0 * p.2) (p.2 * 1) = _
  rw [Int.mul_one, Int.mul_one, Int.zero_mul, Int.add_zero, lo_low' h]
/-- a number in lowest terms, not too great -/
structure Gd (n : Nat) (p : Int × Int) : Prop where
  low : Low p.1 p.2
  n1 : p.1.natAbs < 10 ^ n
  n2 : p.2.natAbs < 10 ^ n
theorem Gd.ne {n : Nat} {p : Int × Int} (h : Gd n p) : p.2 ≠ 0 := Int.ne_of_gt h.low.1
theorem p10 {n : Nat} (h : n ≤ 60) {x : Nat} (hx : x < 10 ^ n) : x < bigH := h_of (Nat.lt_of_lt_of_le hx (Nat.pow_le_pow_right (by decide) h))
theorem Gd.ok {m n : Nat} {p q : Int × Int} (h : Gd m p) (k : Gd n q) (hm : m ≤ 60 := by decide) (hn : n ≤ 60 := by decide) : Ok2 p q := ⟨⟨p10 hm h.n1, p10 hm h.n2, p10 hn k.n1, p10 hn k.n2⟩, h.ne, k.ne⟩
theorem Gd.int {n : Nat} {a : Int} (h : a.natAbs < 10 ^ (n + 1)) : Gd (n + 1) (a, 1) := ⟨low_one a, h, Nat.lt_of_lt_of_le (by decide : (1 : Nat) < 10 ^ 1) (Nat.pow_le_pow_right (by decide) (by omega))⟩
theorem Gd.dl (k i : Int) : Gd 1 (dl k i) := by
  unfold LW.dl
  split
  · exact ⟨low_one 1, by decide, by decide⟩
  · exact ⟨low_one 0, by decide, by decide⟩
theorem lo_gd {n : Nat} {x y : Int} (hy : y ≠ 0) (h1 : x.natAbs < 10 ^ n) (h2 : y.natAbs < 10 ^ n) : Gd n (lo x y) := by
  obtain ⟨d1, d2, d3⟩ := side_facts x y hy
  exact ⟨low_lo hy, Nat.lt_of_le_of_lt (fdiv_le d1 d3) h1, Nat.lt_of_le_of_lt (fdiv_le d2 d3) h2⟩
theorem mul10 {a b : Int} {m n : Nat} (ha : a.natAbs < 10 ^ m) (hb : b.natAbs < 10 ^ n) : (a * b).natAbs < 10 ^ (m + n) := by
  rw [Int.natAbs_mul, Nat.pow_add]
  exact Nat.mul_lt_mul'' ha hb
theorem Gd.mul {m n : Nat} {p q : Int × Int} (h : Gd m p) (k : Gd n q) : Gd (m + n) (pMul p q) := lo_gd (Int.mul_ne_zero h.ne k.ne) (mul10 h.n1 k.n1) (mul10 h.n2 k.n2)
theorem Gd.add {m n : Nat} {p q : Int × Int} (h : Gd m p) (k : Gd n q) : Gd (m + n + 1) (pAdd p q) := by
  refine lo_gd (Int.mul_ne_zero h.ne k.ne) ?_ (Nat.lt_of_lt_of_le (mul10 h.n2 k.n2) (Nat.pow_le_pow_right (by decide) (by omega)))
  have h1 := mul10 h.n1 k.n2
  have h2 := mul10 k.n1 h.n2
  rw [Nat.add_comm n m] at h2
  have : (p.1 * q.2 + q.1 * p.2).natAbs ≤ (p.1 * q.2).natAbs + (q.1 * p.2).natAbs := Int.natAbs_add_le _ _
  show (p.1 * q.2 + q.1 * p.2).natAbs < 10 ^ (m + n + 1)
  rw [Nat.pow_succ]
  omega
theorem Gd.sub {m n : Nat} {p q : Int × Int} (h : Gd m p) (k : Gd n q) : Gd (m + n + 1) (pSub p q) := by
  refine lo_gd (Int.mul_ne_zero h.ne k.ne) ?_ (Nat.lt_of_lt_of_le (mul10 h.n2 k.n2) (Nat.pow_le_pow_right (by decide) (by omega)))
  have h1 := mul10 h.n1 k.n2
  have h2 := mul10 k.n1 h.n2
  rw [Nat.add_comm n m] at h2
  have : (p.1 * q.2 - q.1 * p.2).natAbs ≤ (p.1 * q.2).natAbs + (q.1 * p.2).natAbs := by
    rw [Int.sub_eq_add_neg]
    refine Nat.le_trans (Int.natAbs_add_le _ _) ?_
    rw [Int.natAbs_neg]
    exact Nat.le_refl _
  show (p.1 * q.2 - q.1 * p.2).natAbs < 10 ^ (m + n + 1)
  rw [Nat.pow_succ]
  omega
theorem Gd.mono {m n : Nat} {p : Int × Int} (h : Gd m p) (k : m ≤ n) : Gd n p := ⟨h.low, Nat.lt_of_lt_of_le h.n1 (Nat.pow_le_pow_right (by decide) k), Nat.lt_of_lt_of_le h.n2 (Nat.pow_le_pow_right (by decide) k)⟩
section
variable {P : Program} {w : World} {K : PySem.W.Frag} {mg : Str → Option Value} {base : Heap} {fd : FuncData}
/-- a term drawn: whole multiples -/
def spDrawn (K : PySem.W.Frag) : Sp := fun vs H Q _ => ∃ (l : Addr) (d0 d1 d2 : Int), vs = [.ref l] ∧ H l = some (draws d0 d1 d2) ∧ ∀ (e0 e1 e2 : Int) (z : Addr) (H' : Hp) (m : Int × Int) (i0 i1 i2 : Int), H' l = some (draws e0 e1 e2) → SameN l H H' → IsTm K H' z m (i0, 1) (i1, 1) (i2, 1) → Gd 12 m → i0.natAbs < 100 → i1.natAbs < 100 → i2.natAbs < 100 → Q (.ref z) H'
theorem scDrawn : FnScope ["_law_draws", "_law_number", "_law_part", "_law_term", "_law_k"] ["_law_draws"] d_drawn.scope := ⟨rfl, rfl, rfl, by decide +kernel, rfl, by decide +kernel, by decide +kernel⟩
theorem ok_drawn (W : Wd K mg) : ∃ fd, FnOk P w K mg base CX0 8 (He.ga K "_law_drawn") fd ["_law_draws"] (spDrawn K) ∧ Binds K fd ["_law_draws"] [] := by
  obtain ⟨fd_ratio, G_ratio, b_ratio⟩ := ok_ratio (P := P) (w := w) (base := base) W
  have k_ratio : PySem.W.keepIn K (.ref (He.ga K "_law_ratio")) = true := by obtain ⟨fd, F⟩ := W.F_ratio; exact F.kp
  obtain ⟨fd_const, G_const, b_const⟩ := ok_const (P := P) (w := w) (base := base) W
  obtain ⟨fd_draw, G_draw, b_draw⟩ := ok_draw (P := P) (w := w) (base := base) W
  have k_draw : PySem.W.keepIn K (.ref (He.ga K "_law_draw")) = true := by obtain ⟨fd, F⟩ := W.F_draw; exact F.kp
  obtain ⟨fd_unk, G_unk, b_unk⟩ := ok_unk (P := P) (w := w) (base := base) W
  obtain ⟨fd, F⟩ := W.F_drawn
  refine ⟨fd, F.ok scDrawn (fun vs H Q E h => ?_) (fun cdv A outer s H vs Q E hr h => ?_), FunD.bindsN F fun _ _ _ _ _ _ us hl => match us, hl with | [_], _ => rfl⟩
  · obtain ⟨l, d0, d1, d2, rfl, _⟩ := h
    rfl
  · obtain ⟨l, d0, d1, d2, rfl, hl, q⟩ := h
    have r1 : Room 1 _ := hr.mono (by decide)
    have r2 : Room 2 _ := hr.mono (by decide)
    have r3 : Room 3 _ := hr.mono (by decide)
    have r4 : Room 4 _ := hr.mono (by decide)
    have r5 : Room 5 _ := hr.mono (by decide)
    have r6 : Room 6 _ := hr.mono (by decide)
    have r7 : Room 7 _ := hr.mono (by decide)
    refine ⟨_, PSs.nox (pss_cons (ps_asg (pe_call G_ratio r4 rfl W.g_law_ratio k_ratio b_ratio .nil pass0 (pa_cons (pv 0) pa_nil)) (pg_tup rfl (pgs_cons (pg_name (i := 1) scDrawn.nd rfl (Or.inl rfl)) (pgs_cons (pg_name (i := 2) scDrawn.nd rfl (Or.inl rfl)) pgs_nil))))
    (pss_cons (ps_set (i := 3) scDrawn.nd rfl (Or.inl rfl) (StX.pe_smeth (pe_glob (v := .ref (He.ga K "Term")) rfl W.g_Term rfl) W.sm_constant G_const r5 b_const .nil pass0 (pa_cons (pv 1) pa_nil)))
    (pss_cons (ps_for PassesOwn.never rfl (pi_range1 rfl W.f_range (pa_cons pe_int pa_nil)) (pg_name (i := 4) scDrawn.nd rfl (Or.inl rfl)) (pss_one (ps_if (pt_cmpR op_eq (pe_call G_draw r1 rfl W.g_law_draw k_draw b_draw .nil pass0 (pa_cons (pv 0) (pa_cons pe_int pa_nil))) pe_int (nomark _)) (pss_one (ps_set (i := 3) scDrawn.nd rfl (Or.inl rfl) (pe_op (W.tAddT r7) (pv 3) (pe_op (W.nMulT r6) (pe_call G_draw r1 rfl W.g_law_draw k_draw b_draw .nil pass0 (pa_cons (pv 0) (pa_cons pe_int pa_nil))) (StX.pe_smeth (pe_glob (v := .ref (He.ga K "Term")) rfl W.g_Term rfl) W.sm_unknown G_unk r5 b_unk .nil pass0 (pa_cons (pv 4) pa_nil)))))) pss_nil)))
    (pss_one (ps_ret (pv 3)))))), ?_⟩
    simp -dsimp [tSeq, tAsg, tRet, tIfS, tIf, tTest, tVar, tCons, tNil, tC, tOp, tUn, rI, rI0, rU, tCB, tLst_A, tTup_A, gName, L2.start, CMul, CPow, CDiv, tDrop, tBM, tBM0, tNext, tPar, gSub, rSetL, rIxL, rIxT, tChain, tB, tNot, tNotV, tAnd, tOr, tAndV, tOrV, tFld, tCall, rIxLH, rIxTH, atI, ixN, upd_same, cxK, ex2, ex3, ex3b, rIs1, rIs2, rNe2, tyN, kb1, kb2, kb3, kb4, kb5, kb6, rEq, rNe, scal, tMake_S, tMakeK_S, tMakeN_S, StX.tSMeth]
    refine ⟨l, d0, d1, d2, rfl, hl, fun e0 e1 e2 p H1 v t c d s1 hp ht hn low bc bd => tup2 hp ?_⟩
    have hl1 : H1 l = some (draws e0 e1 e2) := s1 _ _ upd_same
    have N1 : SameN l H H1 := SameN.upd.trans (.of s1)
    simp -dsimp [tSeq, tAsg, tRet, tIfS, tIf, tTest, tVar, tCons, tNil, tC, tOp, tUn, rI, rI0, rU, tCB, tLst_A, tTup_A, gName, L2.start, CMul, CPow, CDiv, tDrop, tBM, tBM0, tNext, tPar, gSub, rSetL, rIxL, rIxT, tChain, tB, tNot, tNotV, tAnd, tOr, tAndV, tOrV, tFld, tCall, rIxLH, rIxTH, atI, ixN, upd_same, cxK, ex2, ex3, ex3b, rIs1, rIs2, rNe2, tyN, kb1, kb2, kb3, kb4, kb5, kb6, rEq, rNe, scal, tMake_S, tMakeK_S, tMakeN_S, StX.tSMeth]
    refine ⟨v, c, d, rfl, hn, fun z H2 s2 iz => ?_⟩
    have gm : Gd 12 (c, d) := ⟨low, bc, bd⟩
    refine ⟨3, rfl, by decide, by decide, for_range (n := 3) (fun i σ H' => ∃ (z : Addr) (v4 : Option V) (i0 i1 i2 f0 f1 f2 : Int), σ = [some (.ref l), some v, some (.ref t), some (.ref z), v4] ∧ SameN l H H' ∧ H' l = some (draws f0 f1 f2) ∧ IsTm K H' z (c, d) (i0, 1) (i1, 1) (i2, 1) ∧ i0.natAbs ≤ 9 * i ∧ i1.natAbs ≤ 9 * i ∧ i2.natAbs ≤ 9 * i) ⟨z, none, 0, 0, 0, e0, e1, e2, rfl, N1.trans (.of s2), s2 _ _ hl1, iz, by decide, by decide, by decide⟩ ?_ ?_⟩
    · rintro i σ H3 hi ⟨z, v4, i0, i1, i2, f0, f1, f2, rfl, N3, hl3, iz3, b0, b1, b2⟩
      simp -dsimp [tSeq, tAsg, tRet, tIfS, tIf, tTest, tVar, tCons, tNil, tC, tOp, tUn, rI, rI0, rU, tCB, tLst_A, tTup_A, gName, L2.start, CMul, CPow, CDiv, tDrop, tBM, tBM0, tNext, tPar, gSub, rSetL, rIxL, rIxT, tChain, tB, tNot, tNotV, tAnd, tOr, tAndV, tOrV, tFld, tCall, rIxLH, rIxTH, atI, ixN, upd_same, cxK, ex2, ex3, ex3b, rIs1, rIs2, rNe2, tyN, kb1, kb2, kb3, kb4, kb5, kb6, rEq, rNe, scal, tMake_S, tMakeK_S, tMakeN_S]
      refine ⟨l, f0, f1, f2, 2, rfl, hl3, by decide, by decide, fun r g0 g1 g2 r0 r1 => ?_⟩
      have N4 : SameN l H (upd H3 l (draws g0 g1 g2)) := N3.trans .upd
      have iz4 : IsTm K (upd H3 l (draws g0 g1 g2)) z (c, d) (i0, 1) (i1, 1) (i2, 1) := iz3.keepL (KeepL.sameN hl3 .upd)
      refine ⟨rfl, ?_⟩
      simp -dsimp [tSeq, tAsg, tRet, tIfS, tIf, tTest, tVar, tCons, tNil, tC, tOp, tUn, rI, rI0, rU, tCB, tLst_A, tTup_A, gName, L2.start, CMul, CPow, CDiv, tDrop, tBM, tBM0, tNext, tPar, gSub, rSetL, rIxL, rIxT, tChain, tB, tNot, tNotV, tAnd, tOr, tAndV, tOrV, tFld, tCall, rIxLH, rIxTH, atI, ixN, upd_same, cxK, ex2, ex3, ex3b, rIs1, rIs2, rNe2, tyN, kb1, kb2, kb3, kb4, kb5, kb6, rEq, rNe, scal, tMake_S, tMakeK_S, tMakeN_S, StX.tSMeth]
      split
      · rename_i hr0
        refine ⟨l, g0, g1, g2, 9, rfl, upd_same, by decide, by decide, fun r2 k0 k1 k2 q0 q1 => ?_⟩
        rw [upd_upd]
        have iz5 : IsTm K (upd H3 l (draws k0 k1 k2)) z (c, d) (i0, 1) (i1, 1) (i2, 1) := iz3.keepL (KeepL.sameN hl3 .upd)
        have N5 : SameN l H (upd H3 l (draws k0 k1 k2)) := N3.trans .upd
        refine ⟨i, rfl, by omega, by omega, fun u H4 s4 iu => ?_⟩
        obtain ⟨d0, ed0, hd0⟩ := dl_pair (i : Int) 0
        obtain ⟨d1, ed1, hd1⟩ := dl_pair (i : Int) 1
        obtain ⟨d2, ed2, hd2⟩ := dl_pair (i : Int) 2
        rw [ed0, ed1, ed2] at iu
        have gi : ∀ {a : Int}, a.natAbs < 1000 → Gd 3 (a, 1) := fun h => Gd.int h
        have gr : Gd 3 (r2, 1) := gi (by omega)
        refine ⟨(0, 1), (d0, 1), (d1, 1), (d2, 1), (r2, 1), u, rfl, iu, .inr ⟨rfl, rfl⟩, (gi (by decide)).ok gr, (gi (by omega)).ok gr, (gi (by omega)).ok gr, (gi (by omega)).ok gr, fun y H5 s5 iy => ?_⟩
        rw [pMul_int, pMul_int, pMul_int, pMul_int, Int.zero_mul] at iy
        have bd : ∀ {δ : Int}, (δ = 0 ∨ δ = 1) → (δ * r2).natAbs ≤ 8 := fun h => by rcases h with rfl | rfl <;> omega
        have c0 := bd hd0
        have c1 := bd hd1
        have c2 := bd hd2
        have s45 := s4.trans s5
        refine ⟨(c, d), (i0, 1), (i1, 1), (i2, 1), (0, 1), _, _, _, z, rfl, iz5.same s45, .inl ⟨y, rfl, iy⟩, gm.ok (gi (by decide)), (gi (by omega)).ok (gi (by omega)), (gi (by omega)).ok (gi (by omega)), (gi (by omega)).ok (gi (by omega)), fun z' H6 s6 iz6 => ?_⟩
        rw [pAdd_zero gm.low, pAdd_int, pAdd_int, pAdd_int] at iz6
        have s46 := s45.trans s6
        exact ⟨z', rfl, N5.trans (.of s46), ⟨_, _, _, s46 _ _ upd_same⟩, _, _, _, iz6, by omega, by omega, by omega⟩
      · exact ⟨N4, ⟨_, _, _, rfl⟩, _, _, _, iz4, by omega, by omega, by omega⟩
    · rintro σ H3 ⟨z, v4, i0, i1, i2, f0, f1, f2, rfl, N3, hl3, iz3, b0, b1, b2⟩
      exact ⟨_, rfl, q f0 f1 f2 z H3 (c, d) i0 i1 i2 hl3 N3 iz3 gm (by omega) (by omega) (by omega)⟩
end
/-! ### o.m(e, ..) where what is raised is wished for at the caller's slots -/
def tMethX (C : Addr) (m : Str) (sp : Sp) (E : List (Option V) → XK) (ta : TE) (t : TA) : TE := fun σ H Q => ta σ H fun x H1 => ∃ (a dx : Addr) (fs : List (Str × V)), x = .ref a ∧ H1 a = some (.ins C dx fs) ∧ fs.lookup m = none ∧ t σ H1 fun vs H2 => sp (x :: vs) H2 Q (E σ)
section
variable {X : Cx} {CX : CXT} {k : Nat} {f C : Addr} {fd : FuncData} {ps : List Str} {sp : Sp} {E : List (Option V) → XK} {m : Str} {pos apos : Pos} {o e : Expr} {es : List Expr} {ta : TE} {t : TA} {pl : Sem Bool}
theorem pe_methX (he : PE X o ta) (c : Cls X.K C) (hm : Meth X.K C m f) (F : FnOk X.prog X.w X.K X.mg X.base CX k f fd ps sp) (hr : Room k X.A) (hb : Binds X.K fd ps []) (hx : ∀ σ, PassesAt CX X σ (E σ)) (ha : PA X (e :: es) t)
    (hst : starEach (e :: es) X.env = (false, eval e X.env) :: starEach es X.env := by rfl) (hpl : (backTo pos (starEach es X.env)).any (·.1) = false := by rfl)
    (ht : eval (.Call (.Attribute o m apos) (e :: es) [] pos) X.env = (eval o X.env >>= fun ov => standAt apos.atName >>= fun _ => holding [ov] (getMethod ov m pl) >>= fun p => callWith pos p.1 p.2 (backTo pos (starEach (e :: es) X.env)) (backToKw pos (keywordEach [] X.env))) := by rfl) :
    PE X (.Call (.Attribute o m apos) (e :: es) [] pos) (tMethX C m sp E ta t) := by
  refine ⟨fun pins s σ H Q I h => ?_⟩
  refine PySem.W.methodCall_KW (pl := pl) (thn (he.run pins s σ H _ I h) fun u s1 hz => ?_) ht
  obtain ⟨x, H1, I1, rx, a, dx, fs, ex, ea, l, q⟩ := hz
  subst ex
  obtain rfl : u = Value.ref a := rx
  refine getmeth_ok I1 ea c hm l (PySem.W.callWith_K (first := [.ref a]) (h₀ := X.base) I.ok.mod.kin hm.kp (thn (ha.run pos pins s1 σ H1 _ I1 q) fun us s2 hz2 => ?_) hst hpl)
  obtain ⟨vs, H2, I2, r, q2⟩ := hz2
  exact ⟨I2.kIn, run_fnS (us := .ref a :: us) (vs := .ref a :: vs) F hr hb (hx σ) I2 (.cons rfl r) q2⟩
end
section
variable {P : Program} {w : World} {K : PySem.W.Frag} {mg : Str → Option Value} {base : Heap} {fd : FuncData}
def spTimes (K : PySem.W.Frag) : Sp := fun vs H Q _ => ∃ (x y : Addr) (b : Bool) (m t0 t1 t2 n u0 u1 u2 : Int × Int), vs = [.ref x, .ref y, .bl b] ∧ IsTm K H x m t0 t1 t2 ∧ IsTm K H y n u0 u1 u2 ∧ ∀ p H', H' p = some (.lst [.ref x, .ref y]) → Same H H' → Q (.ref p) H'
theorem scTimes : FnScope ["_law_left", "_law_right", "_law_in_place", "_law_found", "e"] ["_law_left", "_law_right", "_law_in_place"] d_times.scope := ⟨rfl, rfl, rfl, by decide +kernel, rfl, by decide +kernel, by decide +kernel⟩
theorem ok_times (W : Wd K mg) (hP : SupX.PrgOk P) : ∃ fd, FnOk P w K mg base CX0 5 (He.ga K "_law_times") fd ["_law_left", "_law_right", "_law_in_place"] (spTimes K) ∧ Binds K fd ["_law_left", "_law_right", "_law_in_place"] [] := by
  obtain ⟨fdM, GM, bM⟩ := ok_tmulX (P := P) (w := w) (base := base) W hP
  obtain ⟨fd, F⟩ := W.F_times
  refine ⟨fd, F.ok scTimes (fun vs H Q E h => ?_) (fun cdv A outer s H vs Q E hr h => ?_), FunD.bindsN F fun _ _ _ _ _ _ us hl => match us, hl with | [_, _, _], _ => rfl⟩
  · obtain ⟨x, y, b, _, _, _, _, _, _, _, _, rfl, _⟩ := h
    rfl
  · obtain ⟨x, y, b, m, t0, t1, t2, n, u0, u1, u2, rfl, hx, hy, q⟩ := h
    have r3 : Room 3 _ := hr.mono (by decide)
    refine ⟨_, pss_cons (ps_set (i := 3) scTimes.nd rfl (Or.inl rfl) (pe_lst pa_nil))
      (pss_cons (ps_try_as (i := 4) rfl rfl scTimes.nd rfl rfl ⟨rfl, by decide, .inl W.g_NotStraight⟩ takes0
        (fun W' pn xe tk _ => pss_one (ps_if (pt_val (pv 2)) (pss_one (ps_aug (i := 0) scTimes.nd rfl (Or.inl rfl) (pv 1) (ip_L W.tpMul (raw0 GM bM) r3 (passLen 5 rfl tk))))
          (pss_one (ps_expr (show PE _ _ (tBM K "list" rAppend (tVar 3) (tCons (tOp (rBinL (He.ga K "Term") (spMulX K) (fun c d H => ∀ σ : List (Option V), σ.length = 5 → W' c d σ H)) (tVar 0) (tVar 1)) tNil)) from
            pe_bm PySem.F.plainAttrs_list PySem.F.slot_list_append PySem.F.type_list_append mt_append (pv 3) (pa_cons (pe_op (op_L W.tpMul (raw0 GM bM) r3 (passLen 5 rfl tk)) (pv 0) (pv 1)) pa_nil))))))
        (fun a' oe cls d pn hz hf => pss_one (ps_set (i := 3) scTimes.nd rfl (Or.inl rfl) (pe_lst (pa_cons (pe_xf (xfB_ok W.e_xfNotStraight) W.n_NotStraight_left hz hf (pv 4)) (pa_cons (pe_xf (xfB_ok W.e_xfNotStraight) W.n_NotStraight_right hz hf (pv 4)) pa_nil))))))
      (pss_one (ps_ret (pv 3)))), ?_⟩
    refine ⟨by decide, fun p0 n0 => ?_⟩
    obtain ⟨dx, fs, hdx⟩ := hx.ins
    obtain ⟨dy, gs, hdy⟩ := hy.ins
    have s0 : Same H (upd H p0 (HO.lst [])) := same_upd n0
    have go : ∀ {E' : XK} {Q' : VK}, (∀ d, (upd H p0 (HO.lst [])) d = none → E' (.ref (He.ga K "NotStraight")) (some d) (upd (upd H p0 (HO.lst [])) d (.xd [("right", .ref y), ("left", .ref x)]))) → rBinL (He.ga K "Term") (spMulX K) E' (.ref x) (.ref y) (upd H p0 (HO.lst [])) Q' :=
      fun h => ⟨x, dx, fs, rfl, s0 _ _ hdx, .inl ⟨y, dy, gs, rfl, s0 _ _ hdy⟩, x, y, n, u0, u1, u2, rfl, hy.same s0, h⟩
    have fin : ∀ (d : Addr), (upd H p0 (HO.lst [])) d = none → ∀ p, (upd (upd H p0 (HO.lst [])) d (.xd [("right", V.ref y), ("left", V.ref x)])) p = none → Q (.ref p) (upd (upd (upd H p0 (HO.lst [])) d (.xd [("right", V.ref y), ("left", V.ref x)])) p (.lst [.ref x, .ref y])) := fun d hd p np => q p _ upd_same ((s0.trans (same_upd hd)).trans (same_upd np))
    cases b with
    | true =>
      simp -dsimp [tSeq, tAsg, tRet, tIfS, tIf, tTest, tVar, tCons, tNil, tC, tOp, tUn, rI, rI0, rU, tCB, tLst_A, tTup_A, gName, L2.start, CMul, CPow, CDiv, tDrop, tBM, tBM0, tNext, tPar, gSub, rSetL, rIxL, rIxT, tChain, tB, tNot, tNotV, tAnd, tOr, tAndV, tOrV, tFld, tCall, rIxLH, rIxTH, atI, ixN, upd_same, cxK, ex2, ex3, ex3b, rIs1, rIs2, rNe2, tyN, kb1, kb2, kb3, kb4, kb5, kb6, rEq, rNe, scal, tMake_S, tMakeK_S, tMakeN_S, tAug]
      refine go fun d hd σ hσ => ?_
      match σ, hσ with
      | [s0', s1', s2', s3', s4'], _ =>
      refine ⟨true, of_decide_eq_true W.e_exmNotStraight, fun _ ae he => ?_, fun z => nomatch z⟩
      refine ⟨_, rfl, rfl, rfl, d, [("right", .ref y), ("left", .ref x)], .ref x, rfl, upd_same, rfl, _, rfl, rfl, rfl, d, [("right", .ref y), ("left", .ref x)], .ref y, rfl, upd_same, rfl, le2, fun p np => ?_⟩
      exact ⟨_, rfl, fin d hd p np⟩
    | false =>
      simp -dsimp [tSeq, tAsg, tRet, tIfS, tIf, tTest, tVar, tCons, tNil, tC, tOp, tUn, rI, rI0, rU, tCB, tLst_A, tTup_A, gName, L2.start, CMul, CPow, CDiv, tDrop, tBM, tBM0, tNext, tPar, gSub, rSetL, rIxL, rIxT, tChain, tB, tNot, tNotV, tAnd, tOr, tAndV, tOrV, tFld, tCall, rIxLH, rIxTH, atI, ixN, upd_same, cxK, ex2, ex3, ex3b, rIs1, rIs2, rNe2, tyN, kb1, kb2, kb3, kb4, kb5, kb6, rEq, rNe, scal, tMake_S, tMakeK_S, tMakeN_S]
      refine ⟨.inl ⟨rfl, _, SqL.of upd_same⟩, go fun d hd σ hσ => ?_⟩
      match σ, hσ with
      | [s0', s1', s2', s3', s4'], _ =>
      refine ⟨true, of_decide_eq_true W.e_exmNotStraight, fun _ ae he => ?_, fun z => nomatch z⟩
      refine ⟨_, rfl, rfl, rfl, d, [("right", .ref y), ("left", .ref x)], .ref x, rfl, upd_same, rfl, _, rfl, rfl, rfl, d, [("right", .ref y), ("left", .ref x)], .ref y, rfl, upd_same, rfl, le2, fun p np => ?_⟩
      exact ⟨_, rfl, fin d hd p np⟩
/-! over 0 -/
def spLOver (K : PySem.W.Frag) : Sp := fun vs H Q _ => ∃ (x : Addr) (v : V) (m t0 t1 t2 : Int × Int) (d : Int), vs = [.ref x, v] ∧ IsTm K H x m t0 t1 t2 ∧ Nu K H v 0 d ∧ d.natAbs < bigH ∧ ∀ H', Same H H' → Q (.int 0) H'
theorem scLOver : FnScope ["_law_term", "_law_number", "_law_found", "e"] ["_law_term", "_law_number"] d_over.scope := ⟨rfl, rfl, rfl, by decide +kernel, rfl, by decide +kernel, by decide +kernel⟩
theorem ok_lover (W : Wd K mg) (hP : SupX.PrgOk P) : ∃ fd, FnOk P w K mg base CX0 6 (He.ga K "_law_over") fd ["_law_term", "_law_number"] (spLOver K) ∧ Binds K fd ["_law_term", "_law_number"] [] := by
  obtain ⟨fdO, GO, bO⟩ := ok_toverX (P := P) (w := w) (base := base) W hP
  obtain ⟨fd, F⟩ := W.F_over
  refine ⟨fd, F.ok scLOver (fun vs H Q E h => ?_) (fun cdv A outer s H vs Q E hr h => ?_), FunD.bindsN F fun _ _ _ _ _ _ us hl => match us, hl with | [_, _], _ => rfl⟩
  · obtain ⟨x, v, _, _, _, _, d, rfl, _⟩ := h
    rfl
  · obtain ⟨x, v, m, t0, t1, t2, d0, rfl, hx, hv, hd0, q⟩ := h
    have r4 : Room 4 _ := hr.mono (by decide)
    refine ⟨_, pss_cons (ps_set (i := 2) scLOver.nd rfl (Or.inl rfl) pe_str)
      (pss_cons (ps_try_as (i := 3) rfl rfl scLOver.nd rfl rfl ⟨rfl, by decide, .inl W.g_NoShare⟩ takes0
        (fun W' pn xe tk _ => pss_one (ps_expr (pe_methX (pv 0) W.cls_Term W.m_Term_over GO r4 bO (fun σ => passAt tk σ) (pa_cons (pv 1) pa_nil))))
        (fun a' oe cls d pn hz hf => pss_one (ps_set (i := 2) scLOver.nd rfl (Or.inl rfl) (pe_xf (xfB_ok W.e_xfNoShare) W.n_NoShare_top hz hf (pv 3)))))
      (pss_one (ps_ret (pv 2)))), ?_⟩
    obtain ⟨dx, fs, hdx⟩ := hx.ins
    obtain ⟨dx', a, tp, a0, a1, a2, e1, _⟩ := id hx
    refine ⟨_, rfl, x, dx', _, rfl, e1, rfl, _, rfl, .ref x, v, d0, rfl, hv, hd0, fun d H1 s1 hd => ?_⟩
    refine ⟨true, of_decide_eq_true W.e_exmNoShare, fun _ ae he => ?_, fun z => nomatch z⟩
    refine ⟨_, rfl, rfl, rfl, d, [("top", .int 0)], .int 0, rfl, upd_same, rfl, ?_⟩
    exact ⟨_, rfl, q _ (s1.trans (same_upd hd))⟩
end
/-! ### the law -/
theorem eqP_iff {p q : Int × Int} (h : p.1 * q.2 = q.1 * p.2) : eqP p q = true := by
  unfold eqP
  rw [h, Int.sub_self]
  rfl
/-- lowest terms of x over y have the worth of z over w -/
theorem lo_w {x y : Int} {p : Int × Int} (hy : y ≠ 0) (h : x * p.2 = p.1 * y) : eqP (lo x y) p = true := by
  refine eqP_iff (Int.eq_of_mul_eq_mul_right hy ?_)
  have c := lo_cross (x := x) hy
  show x.fdiv (side x y) * p.2 * y = p.1 * y.fdiv (side x y) * y
  calc x.fdiv (side x y) * p.2 * y = x.fdiv (side x y) * y * p.2 := by rw [Int.mul_right_comm]
    _ = x * y.fdiv (side x y) * p.2 := by rw [c]
    _ = x * p.2 * y.fdiv (side x y) := by rw [Int.mul_right_comm]
    _ = p.1 * y * y.fdiv (side x y) := by rw [h]
    _ = p.1 * y.fdiv (side x y) * y := by rw [Int.mul_right_comm]
theorem eqP_comm' {p q : Int × Int} (h : eqP p q = true) : p.1 * q.2 = q.1 * p.2 := by
  unfold eqP at h
  have := of_decide_eq_true h
  omega
/-- twice is the sum with itself -/
theorem dbl {n : Nat} {p : Int × Int} (g : Gd n p) : eqP (pMul p (2, 1)) (pAdd p p) = true := by
  have h1 : p.2 * 1 ≠ 0 := by have := g.ne; omega
  refine lo_w h1 ?_
  have c := lo_cross (x := p.1 * p.2 + p.1 * p.2) (y := p.2 * p.2) (Int.mul_ne_zero g.ne g.ne)
  have e : (pAdd p p).1 * (p.2 * p.2) = (p.1 * p.2 + p.1 * p.2) * (pAdd p p).2 := c
  show p.1 * 2 * (pAdd p p).2 = (pAdd p p).1 * (p.2 * 1)
  refine Int.eq_of_mul_eq_mul_right g.ne ?_
  grind
/-- half and half -/
theorem half {n : Nat} {p : Int × Int} (g : Gd n p) : eqP (pAdd (pMul p (1, 2)) (pMul p (1, 2))) p = true := by
  have h2 : p.2 * 2 ≠ 0 := by have := g.ne; omega
  have c := lo_cross (x := p.1 * 1) (y := p.2 * 2) h2
  have e : (pMul p (1, 2)).1 * (p.2 * 2) = (p.1 * 1) * (pMul p (1, 2)).2 := c
  have nz : (pMul p (1, 2)).2 ≠ 0 := Int.ne_of_gt (low_lo (x := p.1 * 1) h2).1
  refine lo_w (Int.mul_ne_zero nz nz) ?_
  show ((pMul p (1, 2)).1 * (pMul p (1, 2)).2 + (pMul p (1, 2)).1 * (pMul p (1, 2)).2) * p.2 = p.1 * ((pMul p (1, 2)).2 * (pMul p (1, 2)).2)
  grind
theorem pDiv_two : pDiv (1, 1) (2, 1) = (1, 2) := lo_low' (p := (1, 2)) ⟨by decide, by decide⟩
theorem Gd.sm {m n : Nat} {p q : Int × Int} (h : Gd m p) (k : Gd n q) (hm : m ≤ 60 := by decide) (hn : n ≤ 60 := by decide) : SmP p q := (h.ok k hm hn).1
/-- terms that are equal are not unequal -/
theorem neEq {K : PySem.W.Frag} {G : Hp} {R : VK} {z z' : Addr} {p t0 t1 t2 q u0 u1 u2 : Int × Int} (h : IsTm K G z p t0 t1 t2) (h' : IsTm K G z' q u0 u1 u2) (s : SmP p q) (s0 : SmP t0 u0) (s1 : SmP t1 u1) (s2 : SmP t2 u2) (e : eqP p q = true) (e0 : eqP t0 u0 = true) (e1 : eqP t1 u1 = true) (e2 : eqP t2 u2 = true)
    (r : ∀ G', Same G G' → R (.bl false) G') : rTE K not (.ref z) (.ref z') G R := ⟨z, p, t0, t1, t2, rfl, h, .inr ⟨z', p, t0, t1, t2, q, u0, u1, u2, rfl, h, h', s, s0, s1, s2, fun G' s' => by
  have e' : eqT p t0 t1 t2 q u0 u1 u2 = true := by
    unfold eqT
    rw [e, e0, e1, e2]
    rfl
  rw [e']
  exact r G' s'⟩⟩
theorem neSame {K : PySem.W.Frag} {G : Hp} {R : VK} {z z' : Addr} {p t0 t1 t2 : Int × Int} {n : Nat} (h : IsTm K G z p t0 t1 t2) (h' : IsTm K G z' p t0 t1 t2) (s : Gd n p) (s0 : Gd n t0) (s1 : Gd n t1) (s2 : Gd n t2) (hn : n ≤ 60) (r : ∀ G', Same G G' → R (.bl false) G') : rTE K not (.ref z) (.ref z') G R :=
  neEq h h' (s.sm s hn hn) (s0.sm s0 hn hn) (s1.sm s1 hn hn) (s2.sm s2 hn hn) (eqP_self _) (eqP_self _) (eqP_self _) (eqP_self _) r
section
variable {P : Program} {w : World} {K : PySem.W.Frag} {mg : Str → Option Value} {base : Heap}
abbrev CXL (_ : Program) (_ : World) : CXT := CX0
def lawK : Nat := 10
def spLaw (K : PySem.W.Frag) : Sp := fun vs H Q _ => ∃ (a : Addr) (ns : List Int), vs = [.ref a] ∧ SqL K H a (ns.map V.int) ∧ ns.length ≤ 63 ∧ ∀ H', Q (.bl true) H'
theorem hCX {P : Program} {w : World} : ∀ (H : Hp) (s : Shared) (e : Value) (s' : Shared), CXL P w [] H s (fun _ _ _ => False) e s' → False := fun _ _ _ _ z => z
theorem scLaw : FnScope ["_law_script", "_law_turn", "_law_draws", "_law_left", "_law_right", "_law_kept", "_law_in_place", "_law_told", "_law_number"] ["_law_script"] d_law.scope := ⟨rfl, rfl, rfl, by decide +kernel, rfl, by decide +kernel, by decide +kernel⟩
theorem ok_law (W : Wd K mg) (hP : SupX.PrgOk P) {fd : FuncData} (F : FunD K d_law.name d_law.qual d_law.params d_law.body d_law.scope (d_law.dvs K) (d_law.kws K) (He.fAd K d_law.at_) fd) : FnOk P w K mg base (CXL P w) lawK (He.ga K "law") fd ["_law_script"] (spLaw K) := by
  obtain ⟨fd_init, G_init, F_init⟩ := ok_init (P := P) (w := w) (base := base) W
  obtain ⟨ds_init1, v_init1, b_init1⟩ := bind2 F_init
  obtain ⟨fd_source, G_source, b_source⟩ := ok_source (P := P) (w := w) (base := base) W
  have k_source : PySem.W.keepIn K (.ref (He.ga K "_law_source")) = true := by obtain ⟨fd, F⟩ := W.F_source; exact F.kp
  obtain ⟨fd_drawn, G_drawn, b_drawn⟩ := ok_drawn (P := P) (w := w) (base := base) W
  have k_drawn : PySem.W.keepIn K (.ref (He.ga K "_law_drawn")) = true := by obtain ⟨fd, F⟩ := W.F_drawn; exact F.kp
  obtain ⟨fd_draw, G_draw, b_draw⟩ := ok_draw (P := P) (w := w) (base := base) W
  have k_draw : PySem.W.keepIn K (.ref (He.ga K "_law_draw")) = true := by obtain ⟨fd, F⟩ := W.F_draw; exact F.kp
  obtain ⟨fd_times, G_times, b_times⟩ := ok_times (P := P) (w := w) (base := base) W hP
  have k_times : PySem.W.keepIn K (.ref (He.ga K "_law_times")) = true := by obtain ⟨fd, F⟩ := W.F_times; exact F.kp
  obtain ⟨fd_same, G_same, b_same⟩ := ok_same (P := P) (w := w) (base := base) W 0
  have k_same : PySem.W.keepIn K (.ref (He.ga K "_law_same")) = true := by obtain ⟨fd, F⟩ := W.F_same; exact F.kp
  obtain ⟨fd_lover, G_lover, b_lover⟩ := ok_lover (P := P) (w := w) (base := base) W hP
  have k_lover : PySem.W.keepIn K (.ref (He.ga K "_law_over")) = true := by obtain ⟨fd, F⟩ := W.F_over; exact F.kp
  obtain ⟨fd_tover, G_tover, b_tover⟩ := ok_tover (P := P) (w := w) (base := base) W
  refine F.ok scLaw (fun vs H Q E h => ?_) (fun cdv A outer s H vs Q E hr h => ?_)
  · obtain ⟨a, ns, rfl, _⟩ := h
    rfl
  · obtain ⟨a, ns, rfl, hS, hlen, q⟩ := h
    have r1 : Room 1 _ := hr.mono (by decide)
    have r2 : Room 2 _ := hr.mono (by decide)
    have r3 : Room 3 _ := hr.mono (by decide)
    have r4 : Room 4 _ := hr.mono (by decide)
    have r5 : Room 5 _ := hr.mono (by decide)
    have r6 : Room 6 _ := hr.mono (by decide)
    have r7 : Room 7 _ := hr.mono (by decide)
    have r8 : Room 8 _ := hr.mono (by decide)
    have r9 : Room 9 _ := hr.mono (by decide)
    refine ⟨_, PSs.nox (pss_cons (ps_for PassesOwn.never rfl (pi_range1 rfl W.f_range (pa_cons pe_int pa_nil)) (pg_name (i := 1) scLaw.nd rfl (Or.inl rfl)) (pss_cons (ps_set (i := 2) scLaw.nd rfl (Or.inl rfl) (pe_call G_source r1 rfl W.g_law_source k_source b_source .nil pass0 (pa_cons (pv 0) (pa_cons (pv 1) pa_nil))))
    (pss_cons (ps_par (i := 3) (j := 4) rfl scLaw.nd rfl rfl (by decide) rfl rfl (pa_cons (pe_call G_drawn r8 rfl W.g_law_drawn k_drawn b_drawn .nil pass0 (pa_cons (pv 2) pa_nil)) (pa_cons (pe_call G_drawn r8 rfl W.g_law_drawn k_drawn b_drawn .nil pass0 (pa_cons (pv 2) pa_nil)) pa_nil)) rfl)
    (C8.pss_cut (ps_if (pt_cmpR op_eq (pe_call G_draw r1 rfl W.g_law_draw k_draw b_draw .nil pass0 (pa_cons (pv 2) (pa_cons pe_int pa_nil))) pe_int (nomark _)) (pss_one (ps_set (i := 4) scLaw.nd rfl (Or.inl rfl) (pv 3))) pss_nil)
    (pss_cons (ps_set (i := 5) scLaw.nd rfl (Or.inl rfl) (pe_lst (pa_cons (pe_op (W.tAddT r7) (pv 3) pe_int) (pa_cons (pe_op (W.tAddT r7) (pv 4) pe_int) pa_nil))))
    (pss_cons (ps_for PassesOwn.never rfl (pi_list (pe_lst (pa_cons pe_bl (pa_cons pe_bl pa_nil)))) (pg_name (i := 6) scLaw.nd rfl (Or.inl rfl)) (pss_cons (ps_set (i := 7) scLaw.nd rfl (Or.inl rfl) (pe_call G_times r5 rfl W.g_law_times k_times b_times .nil pass0 (pa_cons (pv 3) (pa_cons (pv 4) (pa_cons (pv 6) pa_nil)))))
    (pss_one (ps_if (PW.pt (pw_or (pt_cmpR op_ne (pe_callB len_lstH (by rfl) W.f_len boot_len (pa_cons (pv 7) pa_nil)) pe_int (nomark _)) (pw_or (pt_cmpR (W.opTNe r6) (pe_ix ix_lstH (pv 7) pe_int (fun _ _ => rfl)) (pv 3) (nomark _)) (pw_or (pt_cmpR (W.opTNe r6) (pe_ix ix_lstH (pv 7) pe_int (fun _ _ => rfl)) (pv 4) (nomark _)) (pw_or (pt_cmpR (W.opTNe r6) (pv 3) (pe_ix ix_lstH (pv 5) pe_int (fun _ _ => rfl)) (nomark _)) (pw_or1 (pt_cmpR (W.opTNe r6) (pv 4) (pe_ix ix_lstH (pv 5) pe_int (fun _ _ => rfl)) (nomark _)))))))) (pss_one (ps_ret pe_bl)) pss_nil))))
    (pss_cons (ps_for PassesOwn.never rfl (pi_list (pe_lst (pa_cons pe_int (pa_cons (pe_make W.mkr_Share G_init r3 rfl W.g_Share b_init1 v_init1 pass0 (pa_cons pe_int pa_nil)) (pa_cons (pe_make W.mkr_Share G_init r3 rfl W.g_Share (bind3 F_init) .nil pass0 (pa_cons pe_int (pa_cons (pe_op op_add pe_int (pv 1)) pa_nil))) (pa_cons (pe_op op_sub pe_int pe_int) pa_nil)))))) (pg_name (i := 8) scLaw.nd rfl (Or.inl rfl)) (pss_one (ps_if (PW.pt (pw_or (pt_not (pt_val (pe_call G_same r4 rfl W.g_law_same k_same b_same .nil pass0 (pa_cons (pe_call G_lover r6 rfl W.g_law_over k_lover b_lover .nil pass0 (pa_cons (pv 3) (pa_cons (pv 8) pa_nil))) (pa_cons pe_int pa_nil))))) (pw_or1 (pt_cmpR (W.opTNe r6) (pv 3) (pe_ix ix_lstH (pv 5) pe_int (fun _ _ => rfl)) (nomark _))))) (pss_one (ps_ret pe_bl)) pss_nil)))
    (pss_one (ps_if (PW.pt (pw_or (pt_cmpR (W.opTNe r6) (pe_op (W.tMulN r5) (pv 3) pe_int) (pe_op (W.tAddT r7) (pv 3) (pv 3)) (nomark _)) (pw_or1 (pt_cmpR (W.opTNe r6) (pe_op (W.tAddT r7) (pe_op (W.nMulT r6) (pe_make W.mkr_Share G_init r3 rfl W.g_Share (bind3 F_init) .nil pass0 (pa_cons pe_int (pa_cons pe_int pa_nil))) (pv 4)) (pe_meth (pv 4) W.cls_Term W.m_Term_over G_tover r6 b_tover .nil pass0 (pa_cons pe_int pa_nil))) (pe_ix ix_lstH (pv 5) pe_int (fun _ _ => rfl)) (nomark _))))) (pss_one (ps_ret pe_bl)) pss_nil)))))))))
    (pss_one (ps_ret pe_bl))), ?_⟩
    refine ⟨6, rfl, by decide, by decide, for_range (n := 6) (fun i σ H' => ∃ v1 v2 v3 v4 v5 v6 v7 v8 : Option V, σ = [some (.ref a), v1, v2, v3, v4, v5, v6, v7, v8] ∧ Same H H') ⟨_, _, _, _, _, _, _, _, rfl, Same.refl _⟩ ?_ ?_⟩
    · rintro i σ H1 hi ⟨v1, v2, v3, v4, v5, v6, v7, v8, rfl, z1⟩
      simp -dsimp [tSeq, tAsg, tRet, tIfS, tIf, tTest, tVar, tCons, tNil, tC, tOp, tUn, rI, rI0, rU, tCB, tLst_A, tTup_A, gName, L2.start, CMul, CPow, CDiv, tDrop, tBM, tBM0, tNext, tPar, gSub, rSetL, rIxL, rIxT, tChain, tB, tNot, tNotV, tAnd, tOr, tAndV, tOrV, tFld, tCall, rIxLH, rIxTH, atI, ixN, upd_same, cxK, ex2, ex3, ex3b, rIs1, rIs2, rNe2, tyN, kb1, kb2, kb3, kb4, kb5, kb6, rEq, rNe, scal, tMake_S, tMakeK_S, tMakeN_S]
      refine ⟨a, ns, i, rfl, z1.seq hS, by omega, fun d0 d1 l nl => ?_⟩
      refine ⟨l, d0, d1, 0, rfl, upd_same, fun e0 e1 e2 x H2 m i0 i1 i2 hl2 N2 ix gm b0 b1 b2 => ?_⟩
      refine ⟨l, e0, e1, e2, rfl, hl2, fun f0 f1 f2 y H3 n j0 j1 j2 hl3 N3 iy gn c0 c1 c2 => ?_⟩
      have SE : ∀ {G : Hp}, SameN l H1 G → Same H G := fun z b o e => z b o (ne_of_none (z1 _ _ e) nl) (z1 _ _ e)
      have ix3 := ix.keepL (KeepL.sameN hl2 N3)
      have N13 : SameN l H1 H3 := (SameN.upd.trans N2).trans N3
      have gI : ∀ {c : Int}, c.natAbs < 100 → Gd 12 (c, 1) := fun h => Gd.int (Nat.lt_trans h (by decide))
      refine ⟨fun σ' G => ∃ (y : Addr) (n : Int × Int) (j0 j1 j2 : Int), σ' = [some (.ref a), some (.int i), some (.ref l), some (.ref x), some (.ref y), v5, v6, v7, v8] ∧ Same H G ∧ IsTm K G x m (i0, 1) (i1, 1) (i2, 1) ∧ IsTm K G y n (j0, 1) (j1, 1) (j2, 1) ∧ Gd 12 n ∧ Gd 12 (j0, 1) ∧ Gd 12 (j1, 1) ∧ Gd 12 (j2, 1), ?_, ?_⟩
      · refine ⟨_, rfl, l, f0, f1, f2, 4, rfl, hl3, by decide, by decide, fun r k0 k1 k2 _ _ => ⟨rfl, ?_⟩⟩
        have N4 : SameN l H1 (upd H3 l (draws k0 k1 k2)) := N13.trans .upd
        have K4 : KeepL H3 (upd H3 l (draws k0 k1 k2)) := KeepL.sameN hl3 .upd
        simp -dsimp [tSeq, tAsg, tRet, tIfS, tIf, tTest, tVar, tCons, tNil, tC, tOp, tUn, rI, rI0, rU, tCB, tLst_A, tTup_A, gName, L2.start, CMul, CPow, CDiv, tDrop, tBM, tBM0, tNext, tPar, gSub, rSetL, rIxL, rIxT, tChain, tB, tNot, tNotV, tAnd, tOr, tAndV, tOrV, tFld, tCall, rIxLH, rIxTH, atI, ixN, upd_same, cxK, ex2, ex3, ex3b, rIs1, rIs2, rNe2, tyN, kb1, kb2, kb3, kb4, kb5, kb6, rEq, rNe, scal, tMake_S, tMakeK_S, tMakeN_S]
        split
        · exact ⟨SE N4, ix3.keepL K4, m.1, m.2, i0, i1, i2, ix3.keepL K4, gm, gI b0, gI b1, gI b2⟩
        · exact ⟨SE N4, ix3.keepL K4, n.1, n.2, j0, j1, j2, iy.keepL K4, gn, gI c0, gI c1, gI c2⟩
      · rintro σ' G ⟨y, n, j0, j1, j2, rfl, sG, ix, iy, gn, h0, h1, h2⟩
        have g0 := gI b0
        have g1 := gI b1
        have g2 := gI b2
        have gz : Gd 12 (0, 1) := gI (by decide)
        have tz : ∀ {G : Hp}, TN K G (.int 0) (0, 1) (0, 1) (0, 1) (0, 1) := .inr ⟨.inr ⟨rfl, rfl⟩, rfl, rfl, rfl⟩
        simp -dsimp [tSeq, tAsg, tRet, tIfS, tIf, tTest, tVar, tCons, tNil, tC, tOp, tUn, rI, rI0, rU, tCB, tLst_A, tTup_A, gName, L2.start, CMul, CPow, CDiv, tDrop, tBM, tBM0, tNext, tPar, gSub, rSetL, rIxL, rIxT, tChain, tB, tNot, tNotV, tAnd, tOr, tAndV, tOrV, tFld, tCall, rIxLH, rIxTH, atI, ixN, upd_same, cxK, ex2, ex3, ex3b, rIs1, rIs2, rNe2, tyN, kb1, kb2, kb3, kb4, kb5, kb6, rEq, rNe, scal, tMake_S, tMakeK_S, tMakeN_S]
        refine ⟨m, (i0, 1), (i1, 1), (i2, 1), (0, 1), (0, 1), (0, 1), (0, 1), x, rfl, ix, tz, gm.ok gz, g0.ok gz, g1.ok gz, g2.ok gz, fun ka Ga sa ika => ?_⟩
        rw [pAdd_zero gm.low, pAdd_int, pAdd_int, pAdd_int, Int.add_zero, Int.add_zero, Int.add_zero] at ika
        refine ⟨n, (j0, 1), (j1, 1), (j2, 1), (0, 1), (0, 1), (0, 1), (0, 1), y, rfl, iy.same sa, tz, gn.ok gz, h0.ok gz, h1.ok gz, h2.ok gz, fun kb Gb sb ikb => ?_⟩
        rw [pAdd_zero gn.low, pAdd_int, pAdd_int, pAdd_int, Int.add_zero, Int.add_zero, Int.add_zero] at ikb
        refine ⟨le2, Alloc.of fun kp Gc nc ec sc => ?_⟩
        have sab := (sa.trans sb).trans sc
        have zc := sG.trans sab
        have xc := ix.same sab
        have yc := iy.same sab
        have kac := ika.same (sb.trans sc)
        have kbc := ikb.same sc
        clear ix iy ika ikb sab sa sb sc
        simp -dsimp [tSeq, tAsg, tRet, tIfS, tIf, tTest, tVar, tCons, tNil, tC, tOp, tUn, rI, rI0, rU, tCB, tLst_A, tTup_A, gName, L2.start, CMul, CPow, CDiv, tDrop, tBM, tBM0, tNext, tPar, gSub, rSetL, rIxL, rIxT, tChain, tB, tNot, tNotV, tAnd, tOr, tAndV, tOrV, tFld, tCall, rIxLH, rIxTH, atI, ixN, upd_same, cxK, ex2, ex3, ex3b, rIs1, rIs2, rNe2, tyN, kb1, kb2, kb3, kb4, kb5, kb6, rEq, rNe, scal, tMake_S, tMakeK_S, tMakeN_S, tFor_iL]
        refine ⟨le2, Alloc.of fun pf Gd1 nd ed sd => ⟨pf, rfl, ⟨_, SqL.of ed⟩, ?_⟩⟩
        unfold ForW
        refine for_list (K := K) (a := pf) (xs := _) (fun j σ' H' => ∃ v6' v7' : Option V, σ' = [some (.ref a), some (.int i), some (.ref l), some (.ref x), some (.ref y), some (.ref kp), v6', v7', v8] ∧ Same Gd1 H') ⟨v6, v7, rfl, Same.refl _⟩ (fun j σ' H' _ ⟨_, _, _, s⟩ => SqL.of (s _ _ ed)) ?_ ?_
        · rintro j bv σ' G1 hj ⟨v6', v7', rfl, s1⟩
          have hb : ∃ b : Bool, bv = .bl b := by
            match j, hj with
            | 0, hj => cases hj; exact ⟨false, rfl⟩
            | 1, hj => cases hj; exact ⟨true, rfl⟩
          obtain ⟨b, rfl⟩ := hb
          have sd1 := sd.trans s1
          simp -dsimp [tSeq, tAsg, tRet, tIfS, tIf, tTest, tVar, tCons, tNil, tC, tOp, tUn, rI, rI0, rU, tCB, tLst_A, tTup_A, gName, L2.start, CMul, CPow, CDiv, tDrop, tBM, tBM0, tNext, tPar, gSub, rSetL, rIxL, rIxT, tChain, tB, tNot, tNotV, tAnd, tOr, tAndV, tOrV, tFld, tCall, rIxLH, rIxTH, atI, ixN, upd_same, cxK, ex2, ex3, ex3b, rIs1, rIs2, rNe2, tyN, kb1, kb2, kb3, kb4, kb5, kb6, rEq, rNe, scal, tMake_S, tMakeK_S, tMakeN_S]
          refine ⟨x, y, b, m, _, _, _, n, _, _, _, rfl, xc.same sd1, yc.same sd1, fun pt G2 ht s2 => ?_⟩
          have sd2 := sd1.trans s2
          have ek := sd2 _ _ ec
          simp -dsimp [tSeq, tAsg, tRet, tIfS, tIf, tTest, tVar, tCons, tNil, tC, tOp, tUn, rI, rI0, rU, tCB, tLst_A, tTup_A, gName, L2.start, CMul, CPow, CDiv, tDrop, tBM, tBM0, tNext, tPar, gSub, rSetL, rIxL, rIxT, tChain, tB, tNot, tNotV, tAnd, tOr, tAndV, tOrV, tFld, tCall, rIxLH, rIxTH, atI, ixN, upd_same, cxK, ex2, ex3, ex3b, rIs1, rIs2, rNe2, tyN, kb1, kb2, kb3, kb4, kb5, kb6, rEq, rNe, scal, tMake_S, tMakeK_S, tMakeN_S, ht, ek]
          refine neSame (xc.same sd2) (xc.same sd2) gm g0 g1 g2 (by decide) fun G3 s3 => .inl ⟨rfl, ?_⟩
          have sd3 := sd2.trans s3
          simp -dsimp [tSeq, tAsg, tRet, tIfS, tIf, tTest, tVar, tCons, tNil, tC, tOp, tUn, rI, rI0, rU, tCB, tLst_A, tTup_A, gName, L2.start, CMul, CPow, CDiv, tDrop, tBM, tBM0, tNext, tPar, gSub, rSetL, rIxL, rIxT, tChain, tB, tNot, tNotV, tAnd, tOr, tAndV, tOrV, tFld, tCall, rIxLH, rIxTH, atI, ixN, upd_same, cxK, ex2, ex3, ex3b, rIs1, rIs2, rNe2, tyN, kb1, kb2, kb3, kb4, kb5, kb6, rEq, rNe, scal, tMake_S, tMakeK_S, tMakeN_S, s3 _ _ ht, sd3 _ _ ec]
          refine neSame (yc.same sd3) (yc.same sd3) gn h0 h1 h2 (by decide) fun G4 s4 => .inl ⟨rfl, ?_⟩
          have sd4 := sd3.trans s4
          simp -dsimp [tSeq, tAsg, tRet, tIfS, tIf, tTest, tVar, tCons, tNil, tC, tOp, tUn, rI, rI0, rU, tCB, tLst_A, tTup_A, gName, L2.start, CMul, CPow, CDiv, tDrop, tBM, tBM0, tNext, tPar, gSub, rSetL, rIxL, rIxT, tChain, tB, tNot, tNotV, tAnd, tOr, tAndV, tOrV, tFld, tCall, rIxLH, rIxTH, atI, ixN, upd_same, cxK, ex2, ex3, ex3b, rIs1, rIs2, rNe2, tyN, kb1, kb2, kb3, kb4, kb5, kb6, rEq, rNe, scal, tMake_S, tMakeK_S, tMakeN_S, sd4 _ _ ec]
          refine neSame (xc.same sd4) (kac.same sd4) gm g0 g1 g2 (by decide) fun G5 s5 => .inl ⟨rfl, ?_⟩
          have sd5 := sd4.trans s5
          simp -dsimp [tSeq, tAsg, tRet, tIfS, tIf, tTest, tVar, tCons, tNil, tC, tOp, tUn, rI, rI0, rU, tCB, tLst_A, tTup_A, gName, L2.start, CMul, CPow, CDiv, tDrop, tBM, tBM0, tNext, tPar, gSub, rSetL, rIxL, rIxT, tChain, tB, tNot, tNotV, tAnd, tOr, tAndV, tOrV, tFld, tCall, rIxLH, rIxTH, atI, ixN, upd_same, cxK, ex2, ex3, ex3b, rIs1, rIs2, rNe2, tyN, kb1, kb2, kb3, kb4, kb5, kb6, rEq, rNe, scal, tMake_S, tMakeK_S, tMakeN_S, sd5 _ _ ec]
          refine neSame (yc.same sd5) (kbc.same sd5) gn h0 h1 h2 (by decide) fun G6 s6 => .inl ⟨rfl, ?_⟩
          exact ((((s1.trans s2).trans s3).trans s4).trans s5).trans s6
        · rintro σ' G1 ⟨v6', v7', rfl, s1⟩
          have sc1 := sd.trans s1
          simp -dsimp [tSeq, tAsg, tRet, tIfS, tIf, tTest, tVar, tCons, tNil, tC, tOp, tUn, rI, rI0, rU, tCB, tLst_A, tTup_A, gName, L2.start, CMul, CPow, CDiv, tDrop, tBM, tBM0, tNext, tPar, gSub, rSetL, rIxL, rIxT, tChain, tB, tNot, tNotV, tAnd, tOr, tAndV, tOrV, tFld, tCall, rIxLH, rIxTH, atI, ixN, upd_same, cxK, ex2, ex3, ex3b, rIs1, rIs2, rNe2, tyN, kb1, kb2, kb3, kb4, kb5, kb6, rEq, rNe, scal, tMake_S, tMakeK_S, tMakeN_S, tFor_iL]
          refine MkS.zero fun sz G2 s2 isz => ?_
          refine MkS.of rfl (by omega) (big_of (by omega)) fun sq G3 n3 isq s3 => ?_
          rw [Int.zero_fdiv] at isq
          have hq0 : ((3 + (i : Int)).fdiv (side 0 (3 + (i : Int)))).natAbs < bigH := by
            obtain ⟨sd1, sd2, sd3⟩ := side_facts 0 (3 + (i : Int)) (by omega)
            exact h_of (Nat.lt_of_le_of_lt (fdiv_le sd2 sd3) (by omega))
          have h1n : (1 : Int).natAbs < bigH := h_of (by decide)
          refine ⟨by decide, Alloc.of fun pg G4 n4 e4 s4 => ⟨pg, rfl, ⟨_, SqL.of e4⟩, ?_⟩⟩
          have zs : ∀ y' ∈ [V.int 0, V.ref sz, V.ref sq, V.int 0], ∃ d : Int, Nu K G4 y' 0 d ∧ d.natAbs < bigH := by
            intro y' hy'
            simp only [List.mem_cons, List.not_mem_nil, or_false] at hy'
            rcases hy' with rfl | rfl | rfl | rfl
            · exact ⟨1, .inr ⟨rfl, rfl⟩, h1n⟩
            · exact ⟨1, .inl ⟨sz, rfl, isz.same (s3.trans s4)⟩, h1n⟩
            · exact ⟨_, .inl ⟨sq, rfl, isq.same s4⟩, hq0⟩
            · exact ⟨1, .inr ⟨rfl, rfl⟩, h1n⟩
          have sc4 := ((sc1.trans s2).trans s3).trans s4
          unfold ForW
          refine for_list (K := K) (a := pg) (xs := _) (fun j σ' H' => ∃ v8' : Option V, σ' = [some (.ref a), some (.int i), some (.ref l), some (.ref x), some (.ref y), some (.ref kp), v6', v7', v8'] ∧ Same G4 H') ⟨v8, rfl, Same.refl _⟩ (fun j σ' H' _ ⟨_, _, s⟩ => SqL.of (s _ _ e4)) ?_ ?_
          · rintro j nv σ' G5 hj ⟨v8', rfl, s5⟩
            obtain ⟨d, hn, hd⟩ := zs nv (List.mem_of_getElem? hj)
            have sc5 := sc4.trans s5
            simp -dsimp [tSeq, tAsg, tRet, tIfS, tIf, tTest, tVar, tCons, tNil, tC, tOp, tUn, rI, rI0, rU, tCB, tLst_A, tTup_A, gName, L2.start, CMul, CPow, CDiv, tDrop, tBM, tBM0, tNext, tPar, gSub, rSetL, rIxL, rIxT, tChain, tB, tNot, tNotV, tAnd, tOr, tAndV, tOrV, tFld, tCall, rIxLH, rIxTH, atI, ixN, upd_same, cxK, ex2, ex3, ex3b, rIs1, rIs2, rNe2, tyN, kb1, kb2, kb3, kb4, kb5, kb6, rEq, rNe, scal, tMake_S, tMakeK_S, tMakeN_S]
            refine ⟨x, nv, m, _, _, _, d, rfl, xc.same sc5, hn.same s5, hd, fun G6 s6 => ⟨_, _, rfl, .int 0 0, fun G7 s7 => .inr ⟨rfl, ?_⟩⟩⟩
            have sc7 := (sc5.trans s6).trans s7
            simp -dsimp [tSeq, tAsg, tRet, tIfS, tIf, tTest, tVar, tCons, tNil, tC, tOp, tUn, rI, rI0, rU, tCB, tLst_A, tTup_A, gName, L2.start, CMul, CPow, CDiv, tDrop, tBM, tBM0, tNext, tPar, gSub, rSetL, rIxL, rIxT, tChain, tB, tNot, tNotV, tAnd, tOr, tAndV, tOrV, tFld, tCall, rIxLH, rIxTH, atI, ixN, upd_same, cxK, ex2, ex3, ex3b, rIs1, rIs2, rNe2, tyN, kb1, kb2, kb3, kb4, kb5, kb6, rEq, rNe, scal, tMake_S, tMakeK_S, tMakeN_S, sc7 _ _ ec]
            refine neSame (xc.same sc7) (kac.same sc7) gm g0 g1 g2 (by decide) fun G8 s8 => .inl ⟨rfl, ?_⟩
            exact ((s5.trans s6).trans s7).trans s8
          · rintro σ' G5 ⟨v8', rfl, s5⟩
            have sc5 := sc4.trans s5
            simp -dsimp [tSeq, tAsg, tRet, tIfS, tIf, tTest, tVar, tCons, tNil, tC, tOp, tUn, rI, rI0, rU, tCB, tLst_A, tTup_A, gName, L2.start, CMul, CPow, CDiv, tDrop, tBM, tBM0, tNext, tPar, gSub, rSetL, rIxL, rIxT, tChain, tB, tNot, tNotV, tAnd, tOr, tAndV, tOrV, tFld, tCall, rIxLH, rIxTH, atI, ixN, upd_same, cxK, ex2, ex3, ex3b, rIs1, rIs2, rNe2, tyN, kb1, kb2, kb3, kb4, kb5, kb6, rEq, rNe, scal, tMake_S, tMakeK_S, tMakeN_S]
            have gt : Gd 1 (2, 1) := Gd.int (by decide)
            have gh : Gd 1 (1, 2) := ⟨⟨by decide, by decide⟩, by decide, by decide⟩
            refine ⟨m, (i0, 1), (i1, 1), (i2, 1), (2, 1), x, rfl, xc.same sc5, .inr ⟨rfl, rfl⟩, gm.ok gt, g0.ok gt, g1.ok gt, g2.ok gt, fun p1 G6 s6 ip1 => ?_⟩
            have sc6 := sc5.trans s6
            refine ⟨m, (i0, 1), (i1, 1), (i2, 1), m, (i0, 1), (i1, 1), (i2, 1), x, rfl, xc.same sc6, .inl ⟨x, rfl, xc.same sc6⟩, gm.ok gm, g0.ok g0, g1.ok g1, g2.ok g2, fun p2 G7 s7 ip2 => ?_⟩
            refine neEq (ip1.same s7) ip2 ((gm.mul gt).sm (gm.add gm)) ((g0.mul gt).sm (g0.add g0)) ((g1.mul gt).sm (g1.add g1)) ((g2.mul gt).sm (g2.add g2)) (dbl gm) (dbl g0) (dbl g1) (dbl g2) fun G8 s8 => .inl ⟨rfl, ?_⟩
            have sc8 := (sc6.trans s7).trans s8
            refine MkS.of rfl (by decide) (big_of (by decide)) fun sh G9 n9 is9 s9 => ?_
            have lw : Low 1 2 := ⟨by decide, by decide⟩
            rw [(lo_low lw).1, (lo_low lw).2] at is9
            have sc9 := sc8.trans s9
            refine ⟨n, (j0, 1), (j1, 1), (j2, 1), (1, 2), y, rfl, yc.same sc9, .inl ⟨sh, rfl, is9⟩, gn.ok gh, h0.ok gh, h1.ok gh, h2.ok gh, fun p3 G10 s10 ip3 => ?_⟩
            have sc10 := sc9.trans s10
            have y10 := yc.same sc10
            obtain ⟨dy, yb, tq, yb0, yb1, yb2, hy10, _⟩ := id y10
            refine ⟨_, rfl, y, dy, _, rfl, hy10, rfl, ?_⟩
            have g11 : Gd 1 (1, 1) := Gd.int (by decide)
            refine ⟨y, .int 2, n, (j0, 1), (j1, 1), (j2, 1), (2, 1), rfl, y10, .inr ⟨rfl, rfl⟩, by decide, g11.ok gt, by rw [pDiv_two]; exact gn.ok gh, by rw [pDiv_two]; exact h0.ok gh, by rw [pDiv_two]; exact h1.ok gh, by rw [pDiv_two]; exact h2.ok gh, fun p4 G11 s11 ip4 => ?_⟩
            rw [pDiv_two] at ip4
            have sc11 := sc10.trans s11
            refine ⟨pMul n (1, 2), pMul (j0, 1) (1, 2), pMul (j1, 1) (1, 2), pMul (j2, 1) (1, 2), pMul n (1, 2), pMul (j0, 1) (1, 2), pMul (j1, 1) (1, 2), pMul (j2, 1) (1, 2), p3, rfl, ip3.same s11, .inl ⟨p4, rfl, ip4⟩, (gn.mul gh).ok (gn.mul gh), (h0.mul gh).ok (h0.mul gh), (h1.mul gh).ok (h1.mul gh), (h2.mul gh).ok (h2.mul gh), fun p5 G12 s12 ip5 => ⟨_, (sc11.trans s12) _ _ ec, _, rfl, ?_⟩⟩
            have sc12 := sc11.trans s12
            refine neEq ip5 (kbc.same sc12) (((gn.mul gh).add (gn.mul gh)).sm gn) (((h0.mul gh).add (h0.mul gh)).sm h0) (((h1.mul gh).add (h1.mul gh)).sm h1) (((h2.mul gh).add (h2.mul gh)).sm h2) (half gn) (half h0) (half h1) (half h2) fun G13 s13 => .inl ⟨rfl, ?_⟩
            exact (zc.trans sc12).trans s13
    · rintro σ H1 ⟨v1, v2, v3, v4, v5, v6, v7, v8, rfl, z1⟩
      exact q _
end
theorem facts {P : Program} {w : World} {K : PySem.W.Frag} {h : Heap} {mg : Str → Option Value} {f : Addr} (X : K.In h) (G : h.Ns mainGlobals mg) (hfa : mg ("law" : Str) = some (.ref f)) (c : SaysX fa fn sups extra stats K) (hP : SupX.PrgOk P) :
    ∃ fd : FuncData, (∀ (s : Shared) (v : Value), BindsTo s fd ⟨[v], []⟩ [("_law_script", v)]) ∧ ∀ base : Heap, K.In base → base.Ns mainGlobals mg → FnOk P w K mg base (CXL P w) lawK f fd ["_law_script"] (spLaw K) := by
  have Wq : Wd K mg := ⟨c, h, X, G⟩
  have e := hfa.symm.trans (Wq.g_law)
  cases e
  obtain ⟨fd, F⟩ := Wq.F_law
  have b := FunD.bindsA (ps := ["_law_script"]) F fun _ _ _ _ _ _ us hl => match us, hl with | [_], _ => rfl
  exact ⟨fd, fun s v => b s [v] rfl, fun base _ _ => ok_law Wq hP F⟩
theorem walk {l : PySem.W.OpenLaw} {q : Program} {loose : List Str} {XP : (Str → Option Value) → Heap → Prop} {YP : World → Heap → Prop} {d : DefRec} {K : Params → PySem.W.Frag} (hn : l.most = some 63) (hdf : d.params.defaults = []) (hdn : d.name = "law")
    (hY : ∀ (w : World) (h : Heap), YP w h → (K w.params).In h) (hS : ∀ w : World, SaysX fa fn sups extra stats (K w.params)) (hP : SupX.PrgOk l.prog) :
    PySem.W.WalkO q loose XP YP l.row.toRowW d [] (fun f vs => PySem.call f vs) :=
  L2.walk_of (n := 63) (k := lawK) (x := "_law_script") (CX := fun w => CXL l.prog w) (sp := fun w => spLaw (K w.params)) hn (by decide) hdf ⟨rfl, by decide, by decide⟩ hY
    (fun w mg fa h KX G hmg => facts KX G (by rw [hdn] at hmg; exact hmg) (hS w) hP) (fun _ _ a ns hl _ hS => ⟨a, ns, rfl, hS, hl, fun _ => rfl⟩) fun _ H s e s' z => hCX H s e s' z
end LW
open PySem PySem.W PyProof.Rows
set_option maxRecDepth 100000 in
set_option maxHeartbeats 0 in
theorem PySem.Challenge.cw_lessways_k36_terms_refused_holds : PySem.Challenge.rw_lessways_k36_terms_refused.Holds := by
  w_on; o_law; k_head; (case hw => w_witness2)
  k_fill
  exact LW.walk (l := PySem.Challenge.rw_lessways_k36_terms_refused) rfl rfl rfl (fun w h Y => PySem.W.kIn_of Y) (fun w => by unfold LW.SaysX; kernel_rfl) ⟨by kernel_rfl, by kernel_rfl⟩
#print axioms PySem.Challenge.cw_lessways_k36_terms_refused_holds
