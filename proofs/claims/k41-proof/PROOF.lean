import PyProof.Rows.All
import Wide.All
import OpenK.AllK
import Wide.FinOn
import KE.KStateDown
import Lean
import HandS.ForMost
import HandS.ForExc
import HandS.Defaults
import HandS.IsInst
import HandS.Wide
import HandS.Zip
import HandS.Walk
import HandS.Codes
import HandS.FStr
import HandS.StrMore
import HandS.Style
import HandS.MakeKw
import HandS.MakeKwOnly
import HandS.CallSlots
import HandS.ExcInit
import HandS.ExcField
import HandS.SlotsOwn
import KE.KExcSuper
import HandS.HeadHook1
import HandS.HeadHook2
import KE.KCallOwn
import HandS.NestedK
import KE.KOpsOwn
import HandS.ClsMeth
import HandS.HeadNt
import KE.KEqDict
import HandS.OwnEq
import KE.GoesNew
import HandS.Star
import HandS.TupAny
import HandS.Conv
import PySem.Challenge.RW_lessways_k41_sharp_borders
set_option Elab.async false
set_option linter.all false
set_option maxRecDepth 100000
set_option maxHeartbeats 4000000
namespace LW
open PySem PySem.Spec PyProof.Rows L2
/-! ### super().__init__(text); self.f = p : an own exception's __init__ -/
namespace SupX
open PySem.W
/-- what the written part says of the class at C whose __init__ stands at f -/
structure SupC (P : Program) (K : PySem.W.Frag) (C f cc cda : Addr) (name qual : Str) (st : Stmt) : Prop where
  oex : OexC K C
  lk : ∃ (oc : Value) (od : Option Addr) (doc pm : Value) (an : Option Addr) (ct : Value) (osl : Array (Option Value)), K.lookup f = some ⟨oc, od, .func (PySem.W.ksFn name qual (defArgs st) (defBody st) (defScope st) .none .none doc pm an (.ref cda) ct cc), osl⟩
  code : PySem.W.codeIn K (.ref cda) qual = true
  file : ∃ (ccl : Value) (cdd : Option Addr) (vs : Array Value) (ccs : Array (Option Value)) (file : Str) (tf : Tok), K.lookup cda = some ⟨ccl, cdd, .fields vs, ccs⟩ ∧ vs[2]? = some (.str file tf) ∧ ((P.main.file : Str) == file) = true
  cell : ∃ (cl : Value) (cld : Option Addr) (csl : Array (Option Value)), K.lookup cc = some ⟨cl, cld, .cell (some (.ref C)), csl⟩
  isc : ∃ cd, PySem.W.clsIn K C = some cd
  sub : PySem.W.mroIn K C (.ref C) = some true
  sup : PySem.W.nsIn K mainGlobals "super" = some none
  opq : PySem.W.nsIn K PySem.cStatics "thirdparty.any" = some none
  ini : PySem.W.ks_superIn K C C "__init__" = some (some (.builtin "ValueError.__init__"))
  veb : PySem.W.subIn K (.ref C) (.type "ValueError") = some true
  top : (P.main.scope.names.lookup ("super" : Str)).isSome = false
section
variable {X : Cx} {C f cc cda a : Addr} {name qual : Str} {st : Stmt} {body : List Stmt} {scope : Scope} {H : Hp} {s : Shared} {v : V} {par : Str} {p0 p1 p2 p3 p4 p5 : Pos} {msg : Str} {j : Nat}
theorem super_stmt (T : SupC X.prog X.K C f cc cda name qual st) (henv : X.env = PySem.W.ksEnv qual scope X.env.locals f (.ref cda) cc) (hN0 : X.N[0]? = some ("self" : Str))
    (hks : scope.names.lookup ("super" : Str) = some .globalImplicit) (hkc : scope.names.lookup ("__class__" : Str) = some .free) (hka : scope.names.lookup ("self" : Str) = some .local) (hk : scope.kind = .function)
    (hp : ((defArgs st).posonlyargs ++ (defArgs st).args).head?.map (·.arg) = some ("self" : Str)) {pl : Sem Bool}
    (he : eval (.Call (.Attribute (.Call (.Name "super" p0) [] [] p1) "__init__" p2) [.Constant (.str msg) j p3] [] p4) X.env = (do
      let ov ← attributeBase (.Call (.Name "super" p0) [] [] p1) "__init__" X.env (eval (.Call (.Name "super" p0) [] [] p1) X.env)
      standAt p2.atName
      let (f, first) ← holding [ov] (getMethod ov "__init__" pl)
      callWith p4 f first (backTo p4 (starEach [.Constant (.str msg) j p3] X.env)) []))
    (hsw : swapsWith (.Call (.Attribute (.Call (.Name "super" p0) [] [] p1) "__init__" p2) [.Constant (.str msg) j p3] [] p4) none p5.line X.env = pure false) (hi : interactive X.env = false)
    {σ : List (Option V)} (hσ : σ[0]? = some (some (.ref a))) (I : Inv X [] σ H s) (ha : H a = some (exo a C none)) {Q : Flow → Shared → Prop} (h : ∀ s', Inv X [] σ H s' → Q .next s') :
    _root_.PySem.wpAt (model X.prog X.w) X.A (.func body X.env) (exec (.Expr (.Call (.Attribute (.Call (.Name "super" p0) [] [] p1) "__init__" p2) [.Constant (.str msg) j p3] [] p4) p5) X.env) Q X.xe s := by
  obtain ⟨oc, od, doc, pm, an, ct, osl, lk⟩ := T.lk
  obtain ⟨ccl, cdd, vs, ccs, file, tf, lcd, hvs, hfile⟩ := T.file
  obtain ⟨cl, cld, csl, lcc⟩ := T.cell
  obtain ⟨cd, hcd⟩ := T.isc
  obtain ⟨ar, har, hara⟩ : ∃ ar, ((defArgs st).posonlyargs ++ (defArgs st).args).head? = some ar ∧ ar.arg = "self" := by
    cases e : ((defArgs st).posonlyargs ++ (defArgs st).args).head? with
    | none =>
      rw [e] at hp
      cases hp
    | some ar =>
      rw [e] at hp
      exact ⟨ar, rfl, Option.some.inj hp⟩
  have kX : X.K.In s.heap := I.kIn
  have k4 : X.env.scope.kind = .function := I.ok.kind
  obtain ⟨mb, hb1, hb2⟩ := I.mod.blt
  obtain ⟨m, hns, hl⟩ := I.loc
  have hself : m ("self" : Str) = some (.ref a) := by
    obtain ⟨u, r, l⟩ := hl 0 "self" (.ref a) hN0 hσ (.inl (by rw [henv]; exact hka))
    obtain rfl : u = Value.ref a := r
    rcases l with ⟨_, e⟩ | ⟨e, _⟩
    · exact e
    · rw [henv] at e
      have e2 : scope.names.lookup ("self" : Str) = some .cell ∨ scope.names.lookup ("self" : Str) = some .free := e
      rw [hka] at e2
      rcases e2 with e2 | e2 <;> cases e2
  generalize hL : X.env.locals = L at *
  rw [henv] at he hsw hi ⊢
  obtain ⟨t1, ho⟩ := exo_at I.hok ha
  obtain ⟨oD, hD1, hD2⟩ : ∃ oD, s.heap.get? C = some oD ∧ oD.data = .cls cd := by
    unfold PySem.W.clsIn at hcd
    split at hcd
    · rename_i c d cd' sl hoo
      cases hcd
      exact ⟨_, kX _ _ hoo, rfl⟩
    · cases hcd
  have J0 : PySem.W.InstAt s.heap a { cls := .ref C, dict := none, data := .fields #[.ref t1, .none, .none, .none, .bool false, .none] } C none := ⟨ho, rfl, rfl, trivial⟩
  refine PySem.ks_wpAt_Expr_any (PySem.ks_wpAt_MethodCall (PySem.ks_wpAt_super_base hks hkc rfl rfl (kX _ _ lk) rfl har rfl (kX _ _ lcd) rfl hvs hfile T.top ?_) he) hi hsw
  refine PySem.W.ks_loadName_global hk hks (Calls.loadGlobal_builtin (I.mod.glob.keeps I.bk) (PySem.W.mg_none_of I.mod.kin I.mod.glob T.sup) (hb1.keeps I.bk) ((hb2 _ (by decide)).trans (by decide +kernel : bootBuiltins "super" = some (.type "super"))) ⟨rfl, ?_⟩)
  refine wpAny_loadName_free hk hkc rfl ⟨_, kX _ _ lcc, rfl⟩ ?_
  refine wpAny_loadName_local hk (by rw [hara]; exact hka) hns (by rw [hara]; exact hself) ?_
  refine PySem.ks_wpAny_isType_cls hD1 hD2 ⟨rfl, ?_⟩
  obtain ⟨hh, g, dr, tk, os⟩ := s
  refine PySem.ks_wpAny_call_super hD1 hD2 ho rfl (fun c e => by cases e) (PySem.W.looks_mroIn kX T.sub) (fun h1 e1 kk1 => ?_)
  have I1 : Inv X [] σ H ⟨h1, g, dr, tk, os⟩ := I.kept (t' := tk) kk1
  have ho1 := kk1 _ _ ho
  have kX1 : X.K.In h1 := I1.kIn
  have hI1 : PySem.W.Looks (model X.prog X.w) h1 (isInstance (.ref a) (.type "ValueError")) true := (PySem.W.InstAt.type (M := model X.prog X.w) (show PySem.W.InstAt h1 a { cls := .ref C, dict := none, data := .fields #[.ref t1, .none, .none, .none, .bool false, .none] } C none from ⟨ho1, rfl, rfl, trivial⟩)).andThen (PySem.W.looks_subIn kX1 T.veb)
  have hini := T.ini
  unfold PySem.W.ks_superIn at hini
  rw [hcd] at hini
  refine PySem.W.kxs_getMethod PySem.W.kxs_ValueError e1 (PySem.W.looks_opaque kX1 T.opq) (l₀ := cd.mro) (fun A Q E s k q => wpAny_bind ((PySem.W.looks_clsIn kX1 hcd) A _ E s k (wpAny_pure q))) rfl kX1 hini hI1 (PySem.W.ks_ne kX J0 hcd) rfl ?_
  have kk2 : ∀ b o, h1.get? b = some o → (h1.push (PySem.W.kxs_mw "ValueError.__init__" a)).get? b = some o := fun b o e => Heap.get?_push_of_some _ e
  have hu : (h1.push (PySem.W.kxs_mw "ValueError.__init__" a)).get? h1.objs.size = some (PySem.W.kxs_mw "ValueError.__init__" a) := Heap.get?_push_at rfl rfl
  have I2 : Inv X [] σ H ⟨h1.push (PySem.W.kxs_mw "ValueError.__init__" a), g, dr, tk + 1, os⟩ := I1.kept (t' := tk + 1) kk2
  have hu0 : H h1.objs.size = none := I1.hok.fresh (Nat.le_refl _)
  have I3 : Inv X [(h1.objs.size, PySem.W.kxs_mw "ValueError.__init__" a)] σ H ⟨h1.push (PySem.W.kxs_mw "ValueError.__init__" a), g, dr, tk + 1, os⟩ := ⟨I2.ok, I2.os, I2.bare, I2.base, I2.loc, I2.cell, I2.free, I2.freeC, fun p hp => by
    rcases List.mem_append.mp hp with hp | hp
    · exact I2.pin p (List.mem_append_left _ hp)
    · cases List.mem_singleton.mp hp
      exact ⟨hu, hu0, Nat.ne_of_gt I1.lt, I1.nofs (Nat.le_refl _), fun v e => by cases e⟩, I2.hok, I2.len⟩
  refine PySem.W.kxs_callWith (i := "ValueError.__init__") (x := a) rfl ?_
  rw [show ([.Constant (.str msg) j p3] : List Expr) = .Constant (.str msg) j p3 :: [] from rfl]
  refine Calls.evalArgs_plain ?_
  rw [← henv]
  refine thn ((pa_cons (X := X) (pe_str (x := msg) (j := j) (pos := p3)) pa_nil).run p4 _ _ σ H (fun vs H' => vs = [.str msg] ∧ H' = H) I3 ⟨rfl, rfl⟩) fun us s1 ⟨vs, H', I4, r4, ev, eH⟩ => ?_
  subst ev eH
  have hu4 := (I4.pin (h1.objs.size, PySem.W.kxs_mw "ValueError.__init__" a) (List.mem_append_right _ (List.mem_singleton.mpr rfl))).1
  refine ⟨hu4, ?_⟩
  have I5 : Inv X [] σ H' s1 := Inv.unpinned (pl := [(h1.objs.size, PySem.W.kxs_mw "ValueError.__init__" a)]) I4
  obtain ⟨nm, qn, Nn, bs, bm, sn, sub, ab, col, dd, k0, k1, k2, k3, k5, hC, hbm⟩ := T.oex.cls
  have hC4 := I5.kIn _ _ hC
  obtain ⟨t4, ho4⟩ := exo_at I5.hok ha
  have hlen : us.length ≤ sizeLine := by
    rw [← r4.length]
    show 1 ≤ sizeLine
    decide
  obtain ⟨hh4, g4, d4, tk4, os4⟩ := s1
  refine wpAny_call (codeAny_of_tree ?_)
  show wpAny _ X.A.in1 (callAny (.ref h1.objs.size) ⟨[] ++ us, []⟩) _ _ _
  rw [List.nil_append]
  simp only [callAny]
  refine wpAny_bind (wpAny_load hu4 ?_)
  simp only [PySem.W.kxs_mw, show (Value.type "method-wrapper" == Value.type "method" || Value.type "method-wrapper" == Value.type "builtin_function_or_method" || Value.type "method-wrapper" == Value.type "method-wrapper") = true by decide, if_true]
  refine PySem.W.KFB.if_so (by decide) ?_
  refine wpAny_bind (PySem.W.check_bound_init F.excBase_ValueError.toExcCallFacts hC4 ho4 rfl ?_)
  refine wpAny_bind (wpAny_pure (wpAny_pure ?_))
  refine ⟨plainId_quiet F.excBase_ValueError.init.plain _, codeAny_builtin F.excBase_ValueError.initEntry ?_⟩
  refine PySem.W.exc_init_tree (cls := .ref C) (t0 := t4) (dv := none) (c2 := .none) (c3 := .none) (b4 := .bool false) ho4 hlen fun h' k hx _ => ?_
  have J := I5.write (t' := tk4) (x := a) (e := a) (o := exo a C none) (by rw [ha]; exact True.intro) (.inl rfl) k ⟨_, hx⟩ (exo_ok hx)
  have eu : upd H' a (exo a C none) = H' := by
    funext b
    by_cases hb : b = a
    · rw [hb, upd_same, ha]
    · rw [upd_ne hb]
  rw [eu] at J
  exact h _ J
end
section
variable {P : Program} {w : World} {K : PySem.W.Frag} {mg : Str → Option Value} {base : Heap} {CX : CXT} {k : Nat} {C f cc cda : Addr} {name qual : Str} {st : Stmt} {par fld : Str}
/-- the promise of such an __init__ of one parameter -/
def spExc (C : Addr) (fld : Str) : Sp := fun vs H Q _ => ∃ (a : Addr) (v : V), vs = [.ref a, v] ∧ H a = some (exo a C none) ∧ ∀ dx, H dx = none → dx ≠ a → Q .non (upd (upd H dx (exd dx [(fld, v)])) a (exo a C (some dx)))
abbrev nfOf (name qual : Str) (st : Stmt) (cc cda : Addr) : NdefX.NF := ⟨name, qual, defArgs st, defBody st, defScope st, [("__class__", cc)], cda⟩
theorem exc_init (T : SupC P K C f cc cda name qual st) (S : NdefX.NScope ["self", par, "__class__"] ["self", par] ["__class__"] (defScope st)) (hno : PySem.W.findIn K (.ref C) fld = some none)
    (hks : (defScope st).names.lookup ("super" : Str) = some .globalImplicit)
    (hb : ∀ (doc pm ct : Value) (an : Option Addr) (us : List Value), us.length = 2 → bindArgs (PySem.W.ksFn name qual (defArgs st) (defBody st) (defScope st) .none .none doc pm an (.ref cda) ct cc) ⟨us, []⟩ = pure ((["self", par] : List Str).zip us))
    (hp : ((defArgs st).posonlyargs ++ (defArgs st).args).head?.map (·.arg) = some ("self" : Str))
    {p0 p1 p2 p3 p4 p5 p6 p7 p8 p9 : Pos} {msg : Str} {j : Nat}
    (hbody : defBody st = [.Expr (.Call (.Attribute (.Call (.Name "super" p0) [] [] p1) "__init__" p2) [.Constant (.str msg) j p3] [] p4) p5, .Assign [.Attribute (.Name "self" p6) fld p7] (.Name par p8) p9])
    {pl : Env → Sem Bool}
    (he : ∀ env : Env, env.scope = defScope st → eval (.Call (.Attribute (.Call (.Name "super" p0) [] [] p1) "__init__" p2) [.Constant (.str msg) j p3] [] p4) env = (do
      let ov ← attributeBase (.Call (.Name "super" p0) [] [] p1) "__init__" env (eval (.Call (.Name "super" p0) [] [] p1) env)
      standAt p2.atName
      let (f, first) ← holding [ov] (getMethod ov "__init__" (pl env))
      callWith p4 f first (backTo p4 (starEach [.Constant (.str msg) j p3] env)) []))
    (hsw : ∀ env : Env, env.scope = defScope st → swapsWith (.Call (.Attribute (.Call (.Name "super" p0) [] [] p1) "__init__" p2) [.Constant (.str msg) j p3] [] p4) none p5.line env = pure false) (hi : ∀ env : Env, env.scope = defScope st → interactive env = false)
    (hsw2 : ∀ env : Env, env.scope = defScope st → swapsWith (.Name par p8) (some (.Attribute (.Name "self" p6) fld p7)) p9.line env = pure false) (hd1 : (par == ("__debug__" : Str)) = false) (hd2 : (par == ("__classdict__" : Str)) = false) :
    ∃ fd, FnOk P w K mg base CX (k + 1) f fd ["self", par] (spExc C fld) ∧ Binds K fd ["self", par] [] := by
  obtain ⟨oc, od, doc, pm, an, ct, osl, lk⟩ := id T.lk
  obtain ⟨cl, cld, csl, lcc⟩ := id T.cell
  refine ⟨_, ⟨fun vs H Q E h => ?_, fun A outer s H args us vs Q E hr e0 hbd r hsp => ?_⟩, .all (hb doc pm ct an)⟩
  · obtain ⟨a, v, rfl, _⟩ := h
    rfl
  · have KX : K.In s.heap := e0.mod.kin.keeps fun b o e => (e0.bs b o e).1
    have lim : s.heap.NoLimit := e0.mod.nolimit.keeps fun b o e => (e0.bs b o e).1
    obtain ⟨a, v, rfl, ha, q⟩ := hsp
    refine PySem.ks_codeAny_call_defAt (fd := PySem.W.ksFn name qual (defArgs st) (defBody st) (defScope st) .none .none doc pm an (.ref cda) ct cc) (body := defBody st) (binds := (["self", par] : List Str).zip us) hr.depth (KX _ _ lk) rfl lim (PySem.W.codeRec_of KX T.code) rfl hbd S.nocell (fun ⟨n, _⟩ hy => S.par n (List.of_mem_zip hy).1) (fun h₁ hns hk₁ => ?_) S.co S.gen S.kind
    have hl : us.length = 2 := r.length.symm
    have CA : NdefX.CellsAt [("__class__", cc)] ["__class__"] [none] s.heap H := by
      have one : ∀ (y : Str) (c : Addr), ([(("__class__" : Str), cc)] : List (Str × Addr)).lookup y = some c → y = "__class__" ∧ c = cc := fun y c e => by
        by_cases hy : y = "__class__"
        · subst hy
          exact ⟨rfl, (Option.some.inj (show some cc = some c from e)).symm⟩
        · have hy2 : (y == ("__class__" : Str)) = false := by simpa using hy
          rw [List.lookup_cons, hy2] at e
          cases e
      refine ⟨rfl, fun y c e => ?_, fun x y c e1 e2 => (one x c e1).1.trans (one y c e2).1.symm, fun i y hi => ?_⟩
      · obtain ⟨_, rfl⟩ := one y c e
        exact ⟨(e0.bs c _ (e0.mod.kin _ _ lcc)).2, _, _, KX _ _ lcc, rfl⟩
      · match i, hi with
        | 0, hi =>
          cases hi
          exact ⟨cc, rfl, fun v e => by cases e⟩
    have I := NdefX.inv_startN (CX := CX) (mg := mg) (E := E) (F := nfOf name qual st cc cda) (f := f) (tk := s.toks + ((["self", par] : List Str).zip us).length) S hr.hd e0 rfl r CA hns hk₁
    have hself : (defScope st).names.lookup ("self" : Str) = some .local := S.par _ (List.mem_cons_self ..)
    have hpar : (defScope st).names.lookup par = some .local := S.par _ (List.mem_cons_of_mem _ (List.mem_cons_self ..))
    have hcls : (defScope st).names.lookup ("__class__" : Str) = some .free := S.frk _ (List.mem_cons_self ..)
    have hstep : _root_.PySem.wpAt (model P w) (NdefX.ncx CX P w K mg base ["self", par, "__class__"] (nfOf name qual st cc cda) f A outer s H E).A (.func (defBody st) (NdefX.envF (nfOf name qual st cc cda) f s.heap.objs.size)) (execs (defBody st) (NdefX.envF (nfOf name qual st cc cda) f s.heap.objs.size))
        (fun fl s' => CR CX outer P w H s Q E (.ok (.ret (match fl with | .ret v => v | _ => .none))) s') (NdefX.ncx CX P w K mg base ["self", par, "__class__"] (nfOf name qual st cc cda) f A outer s H E).xe
        { s with heap := h₁, toks := s.toks + ((["self", par] : List Str).zip us).length } := by
      have eb : execs (defBody st) (NdefX.envF (nfOf name qual st cc cda) f s.heap.objs.size) = execs [.Expr (.Call (.Attribute (.Call (.Name "super" p0) [] [] p1) "__init__" p2) [.Constant (.str msg) j p3] [] p4) p5, .Assign [.Attribute (.Name "self" p6) fld p7] (.Name par p8) p9] (NdefX.envF (nfOf name qual st cc cda) f s.heap.objs.size) := by rw [hbody]
      rw [eb]
      refine PySem.ks_wpAt_execs_cons (super_stmt (X := NdefX.ncx CX P w K mg base ["self", par, "__class__"] (nfOf name qual st cc cda) f A outer s H E) T rfl rfl hks hcls hself S.kind hp (he _ rfl) (hsw _ rfl) (hi _ rfl) (σ := NdefX.startF ["self", par, "__class__"] [.ref a, v] [none]) rfl I ha (fun s' I' => ?_))
      have d2 : PSs (NdefX.ncx CX P w K mg base ["self", par, "__class__"] (nfOf name qual st cc cda) f A outer s H E) [.Assign [.Attribute (.Name "self" p6) fld p7] (.Name par p8) p9] _ := pss_one (ps_ost (pe_var (i := 0) rfl (.inl hself)) (pe_var (i := 1) rfl (.inl hpar) hd1 hd2) (hsw2 _ rfl))
      refine wpAt_of_wpAny (wpAny_mono (d2.run [] s' _ H { nx := fun _ H' => Q .non H', rt := Q } I' ⟨v, rfl, .ref a, rfl, a, C, rfl, T.oex, hno, .inl ⟨ha, fun dx n ne => q dx n ne⟩⟩) (fun fl s'' hs => ?_) fun e s'' hs => hs)
      cases fl with
      | ret u =>
        obtain ⟨v', σ', H', J, rv, q'⟩ := hs
        exact ⟨v', H', J.os, J.bare, J.base, J.hok, rv, q'⟩
      | next =>
        obtain ⟨σ', H', J, q'⟩ := hs
        exact ⟨.non, H', J.os, J.bare, J.base, J.hok, rfl, q'⟩
      | brk =>
        obtain ⟨_, _, _, q'⟩ := hs
        exact False.elim q'
      | cont =>
        obtain ⟨_, _, _, q'⟩ := hs
        exact False.elim q'
    exact hstep
end
end SupX
/-! ### the facts of such a class as Bools -/
namespace SupX
open PySem.W
def oexB (K : PySem.W.Frag) (C : Addr) : Bool := (match K.lookup C with
  | some ⟨.type "type", _, .cls cd, sl⟩ => (match cd.mro, sl.toList with
    | .ref C' :: bm, [_, _, _, _, some (.builtin n), _] => C' == C && (n == "ValueError.__new__" && (!cd.hasDel && (cd.hasDict && PySem.HandSPX.refsVE bm)))
    | _, _ => false)
  | _ => false) && (He.eqO (PySem.W.findIn K (.ref C) "__setattr__") (some (some (.builtin "object.__setattr__"))) && (decide (PySem.W.subIn K (.ref C) (.type "BaseException") = some true) && (decide (PySem.W.typeIn K (.ref C) = some (.type "type")) && PySem.W.keepIn K (.ref C))))
theorem oexB_ok {K : PySem.W.Frag} {C : Addr} (h : oexB K C = true) : OexC K C := by
  obtain ⟨h1, h⟩ := He.ba h
  obtain ⟨h2, h⟩ := He.ba h
  obtain ⟨h3, h⟩ := He.ba h
  obtain ⟨h4, h5⟩ := He.ba h
  refine ⟨?_, He.eqO_ok h2, of_decide_eq_true h3, of_decide_eq_true h4, h5⟩
  split at h1
  · rename_i dd cd sl ho
    split at h1
    · rename_i C' bm k0 k1 k2 k3 n k5 hm hs
      obtain ⟨g1, h1⟩ := He.ba h1
      obtain ⟨g2, h1⟩ := He.ba h1
      obtain ⟨g3, h1⟩ := He.ba h1
      obtain ⟨g4, g5⟩ := He.ba h1
      have e1 : C' = C := beq_iff_eq.mp g1
      have e2 : n = "ValueError.__new__" := beq_iff_eq.mp g2
      have e3 : cd.hasDel = false := by simpa using g3
      subst e1 e2
      obtain ⟨nm, bs, mro, ns, qn, hd, sn, sub, ab, col, del⟩ := cd
      dsimp only at hm e3 g4
      subst hm e3 g4
      have hsl : sl = #[k0, k1, k2, k3, some (.builtin "ValueError.__new__"), k5] := by
        obtain ⟨l⟩ := sl
        simp only at hs
        rw [hs]
      subst hsl
      exact ⟨nm, qn, ns, bs, bm, sn, sub, ab, col, dd, k0, k1, k2, k3, k5, ho, g5⟩
    · cases h1
  · cases h1
abbrev SpW : Type := Option (Str × Str × Arguments × FuncBody × Scope × Addr × List Str × Addr)
def supW (K : PySem.W.Frag) (f : Addr) : SpW := match K.lookup f with
  | some ⟨_, _, .func fd, _⟩ => some (fd.name, fd.qualname, fd.params, fd.body, fd.scope, fd.globals, fd.closure.map (·.1), fd.builtins)
  | _ => none
def supV (name qual : Str) (st : Stmt) : SpW := some (name, qual, defArgs st, .stmts (defBody st), defScope st, mainGlobals, ["__class__"], builtinsNs)
def supB (K : PySem.W.Frag) (C f : Addr) (qual : Str) : Bool := (match K.lookup f with
  | some ⟨_, _, .func fd, _⟩ => (match fd.code, fd.defaults, fd.kwdefaults, fd.closure with
    | .ref cda, .none, .none, [(_, cc)] => PySem.W.codeIn K (.ref cda) qual && ((match K.lookup cda with
      | some ⟨_, _, .fields vs, _⟩ => (match (vs[2]? : Option Value) with
        | some (Value.str file _) => decide (file = "/claim/cut.py")
        | _ => false)
      | _ => false) && (match K.lookup cc with
      | some ⟨_, _, .cell (some (.ref D)), _⟩ => decide (D = C)
      | _ => false))
    | _, _, _, _ => false)
  | _ => false) && ((PySem.W.clsIn K C).isSome && (decide (PySem.W.mroIn K C (.ref C) = some true) && (He.eqO (PySem.W.nsIn K mainGlobals "super") (some none) && (He.eqO (PySem.W.nsIn K PySem.cStatics "thirdparty.any") (some none) && (He.eqO (PySem.W.ks_superIn K C C "__init__") (some (some (.builtin "ValueError.__init__"))) &&
    decide (PySem.W.subIn K (.ref C) (.type "ValueError") = some true))))))
structure PrgOk (P : Program) : Prop where
  file : P.main.file = "/claim/cut.py"
  top : (P.main.scope.names.lookup ("super" : Str)).isSome = false
theorem supC_of {P : Program} {K : PySem.W.Frag} {C f : Addr} {name qual : Str} {st : Stmt} (hP : PrgOk P) (e : supW K f = supV name qual st) (o : oexB K C = true) (c : supB K C f qual = true) : ∃ cc cda, SupC P K C f cc cda name qual st := by
  obtain ⟨c1, c⟩ := He.ba c
  obtain ⟨c2, c⟩ := He.ba c
  obtain ⟨c3, c⟩ := He.ba c
  obtain ⟨c4, c⟩ := He.ba c
  obtain ⟨c5, c⟩ := He.ba c
  obtain ⟨c6, c7⟩ := He.ba c
  unfold supW at e
  split at c1
  · rename_i oc od fd osl ho
    rw [ho] at e
    split at c1
    · rename_i cda x cc q1 q2 q3 q4
      obtain ⟨d1, c1⟩ := He.ba c1
      obtain ⟨d2, d3⟩ := He.ba c1
      obtain ⟨n1, n2, n3, n4, n5, n6, n7, n8, n9, n10, n11, n12, n13, n14, n15⟩ := fd
      dsimp only at q1 q2 q3 q4
      subst q1 q2 q3 q4
      have e2 : (some (n1, n2, n3, n4, n5, n6, [x], n15) : SpW) = supV name qual st := e
      unfold supV at e2
      simp only [Option.some.injEq, Prod.mk.injEq, List.cons.injEq, and_true] at e2
      obtain ⟨e1, e2, e3, e4, e5, e6, e7, e8⟩ := e2
      subst e1 e2 e3 e4 e5 e6 e7 e8
      refine ⟨cc, cda, ⟨oexB_ok o, ⟨oc, od, _, _, _, _, osl, ho⟩, d1, ?_, ?_, Option.isSome_iff_exists.mp c2, of_decide_eq_true c3, He.eqO_ok c4, He.eqO_ok c5, He.eqO_ok c6, of_decide_eq_true c7, hP.top⟩⟩
      · split at d2
        · rename_i ccl cdd vs ccs h1
          split at d2
          · rename_i file tf h2
            refine ⟨ccl, cdd, vs, ccs, file, tf, h1, h2, ?_⟩
            rw [hP.file, of_decide_eq_true d2]
            exact beq_self_eq_true _
          · cases d2
        · cases d2
      · split at d3
        · rename_i a1 a2 D a3 h1
          have eD : D = C := of_decide_eq_true d3
          subst eD
          exact ⟨a1, a2, a3, h1⟩
        · cases d3
    · cases c1
  · cases c1
end SupX
/-! ### own operators: both of one class, or an int ahead of one -/
namespace OpX
open PySem.W (InstAt findIn isFn selfFirst mroIn looks_mroIn ksp_first ksp_try fills_K instObj)
section
variable {prog : Program} {w : World} {A : Around} {E : Value → Shared → Prop} {s : Shared} {K : PySem.W.Frag} {x y C f : Addr} {ox oy : Obj} {od od2 : Option Obj} {nm : String}
/-- both operands are of the class at C -/
theorem bin1_same {Q : Value → Shared → Prop} (X : K.In s.heap) (I : InstAt s.heap x ox C od) (J : InstAt s.heap y oy C od2) (hc : selfFirst K C = true) (hs : findIn K (.ref C) (PySem.dunder nm) = some (some (.ref f))) (hf : isFn K (.ref f) = true)
    (h : wpAny (model prog w) A (call (.ref f) [.ref x, .ref y]) (PySem.W.CmpBack Q) E s) : wpAny (model prog w) A (binaryOp1 nm (.ref x) (.ref y)) (fun r s' => ∃ v, r = some v ∧ Q v s') E s := by
  obtain ⟨cd, rest, hcd, hm⟩ := ksp_first hc
  have one := ksp_try X I hs hf h
  obtain ⟨hh, g, d, tt, os⟩ := s
  have l1 : PySem.W.Looks (model prog w) hh (typeOf (.ref x)) (.ref C) := I.type
  have l2 : PySem.W.Looks (model prog w) hh (typeOf (.ref y)) (.ref C) := J.type
  have l3 : PySem.W.Looks (model prog w) hh (fillsNumberSlot (.ref C) nm) true := fills_K X hcd hm hs
  have hee : (Value.ref C == Value.ref C) = true := beq_self_eq_true _
  unfold binaryOp1
  refine wpAny_bind (l1.at (wpAny_bind (l2.at (wpAny_bind (l3.at ?_)))))
  simp only [hee, if_true, pure_bind, Bool.and_false, Bool.false_eq_true, if_false, Bool.false_and]
  refine wpAny_bind (wpAny_mono one (fun r s' hr' => ?_) fun _ _ e => e)
  obtain ⟨v, rfl, hq⟩ := hr'
  exact wpAny_pure ⟨v, rfl, hq⟩
/-- an int ahead of an instance: its own method declines, the other one's answers -/
theorem bin1_refl {Q : Value → Shared → Prop} {i : Int} {t : Tok} {g : Addr} (X : K.In s.heap) (I : InstAt s.heap x ox C od) (hc : selfFirst K C = true) (hs : findIn K (.ref C) (PySem.dunder nm) = some (some (.ref g)))
    (hr : findIn K (.ref C) (dunderR nm) = some (some (.ref f))) (hf : isFn K (.ref f) = true) (hsub : mroIn K C (.type "int") = some false) (hfi : fillsNumberSlot (.type "int") nm = pure true)
    (hdec : wpAny (model prog w) A (tryMethod (.int i t) (PySem.dunder nm) (.ref x)) (fun r s' => r = none ∧ s' = s) E s)
    (h : wpAny (model prog w) A (call (.ref f) [.ref x, .int i t]) (PySem.W.CmpBack Q) E s) : wpAny (model prog w) A (binaryOp1 nm (.int i t) (.ref x)) (fun r s' => ∃ v, r = some v ∧ Q v s') E s := by
  obtain ⟨cd, rest, hcd, hm⟩ := ksp_first hc
  have one := ksp_try X I hr hf h
  obtain ⟨hh, g', d, tt, os⟩ := s
  have l1 : PySem.W.Looks (model prog w) hh (typeOf (.ref x)) (.ref C) := I.type
  have l3 : PySem.W.Looks (model prog w) hh (fillsNumberSlot (.ref C) nm) true := fills_K X hcd hm hs
  have l4 : PySem.W.Looks (model prog w) hh (isSubtype (.ref C) (.type "int")) false := looks_mroIn X hsub
  have hne : (Value.type "int" == Value.ref C) = false := Bool.eq_false_iff.mpr fun q => by cases beq_iff_eq.mp q
  unfold binaryOp1
  refine wpAny_bind (wpAny_of_eq (a := .type "int") rfl (wpAny_bind (l1.at (wpAny_bind (wpAny_of_eq hfi ?_)))))
  simp only [hne, Bool.false_eq_true, if_false]
  refine wpAny_bind (l3.at ?_)
  simp only [Bool.and_self, if_true]
  refine wpAny_bind (l4.at ?_)
  have hpy : numberSlotInPython (.type "int") nm = pure false := rfl
  simp only [Bool.false_eq_true, if_false, pure_bind, Bool.not_false, Bool.and_self, if_true, hpy]
  refine wpAny_bind (wpAny_mono hdec (fun r s' hr' => ?_) fun _ _ e => e)
  obtain ⟨rfl, rfl⟩ := hr'
  simp only [pure_bind]
  refine wpAny_bind (wpAny_mono one (fun r s' hr' => ?_) fun _ _ e => e)
  obtain ⟨v, rfl, hq⟩ := hr'
  exact wpAny_bind (wpAny_rule (wpAny_pure ⟨v, rfl, hq⟩))
theorem bin_of {op : Operator} {a b : Value} {Q : Value → Shared → Prop} (h : wpAny (model prog w) A (binaryOp1 op.info.2 a b) (fun r s' => ∃ v, r = some v ∧ Q v s') E s) : wpAny (model prog w) A (binaryOp op a b) Q E s := by
  rcases hi : op.info with ⟨sym, n⟩
  rw [hi] at h
  simp only [binaryOp, hi]
  refine wpAny_holding (wpAny_bind (wpAny_mono h (fun r s' hr' => ?_) fun _ _ e => e))
  obtain ⟨v, rfl, hq⟩ := hr'
  exact wpAny_pure hq
end
end OpX
namespace OpX
open PySem.W (InstAt findIn isFn selfFirst mroIn looks_mroIn ksp_first ksp_try fills_K instObj looks_findIn clsIn looks_clsIn)
/-- the class at C stands ahead of object alone -/
def mro2B (K : PySem.W.Frag) (C : Addr) : Bool := match clsIn K C with
  | some cd => cd.mro == [.ref C, .type "object"]
  | none => false
/-- what the written part says of an operator's names: none in place, and int's own are known -/
def opB (K : PySem.W.Frag) (C : Addr) (nm : String) : Bool :=
  He.eqO (findIn K (.ref C) (dunderI nm)) (some none) && (He.eqO (findIn K (.type "object") (dunderI nm)) (some none) && ((findIn K (.type "int") (PySem.dunder nm)).isSome && (findIn K (.type "int") (dunderR nm)).isSome))
section
variable {prog : Program} {w : World} {A : Around} {E : Value → Shared → Prop} {s : Shared} {K : PySem.W.Frag} {x y C f : Addr} {ox oy : Obj} {od od2 : Option Obj} {nm : String}
theorem fillsI_no {h : Heap} {M : Model} {add : Bool} (X : K.In h) (hm : mro2B K C = true) (hi : findIn K (.ref C) (dunderI nm) = some none) (ho : findIn K (.type "object") (dunderI nm) = some none) :
    PySem.W.Looks M h (fillsInplaceSlot (.ref C) nm add) false := by
  unfold mro2B at hm
  cases hc : clsIn K C with
  | none => rw [hc] at hm; cases hm
  | some cd =>
    rw [hc] at hm
    have hm : cd.mro = [.ref C, .type "object"] := beq_iff_eq.mp hm
    intro A Q E s k q
    have lm : PySem.W.Looks M h (mroOf (.ref C)) cd.mro := (looks_clsIn X hc).andThen (f := fun cd => pure cd.mro) .now
    have lm' := lm.keeps k
    obtain ⟨hh, g, d, tt, os⟩ := s
    have X' : K.In hh := X.keeps k
    have l1 : PySem.W.Looks M hh (typeLookup (.ref C) (dunderI nm)) none := looks_findIn X' hi
    have l2 : PySem.W.Looks M hh (typeLookup (.type "object") (dunderI nm)) none := looks_findIn X' ho
    unfold fillsInplaceSlot
    refine wpAny_bind (lm'.at ?_)
    rw [hm, List.anyM_cons]
    refine wpAny_bind (wpAny_bind (l1.at ?_))
    refine wpAny_pure ?_
    rw [if_neg (by decide), List.anyM_cons]
    refine wpAny_bind (wpAny_bind (l2.at ?_))
    refine wpAny_pure ?_
    rw [if_neg (by decide)]
    exact wpAny_pure q
theorem inp_of {op : Operator} {b : Value} {Q : Value → Shared → Prop} (X : K.In s.heap) (I : InstAt s.heap x ox C od) (hm : mro2B K C = true) (hi : findIn K (.ref C) (dunderI op.info.2) = some none) (ho : findIn K (.type "object") (dunderI op.info.2) = some none)
    (h : wpAny (model prog w) A (binaryOp1 op.info.2 (.ref x) b) (fun r s' => ∃ v, r = some v ∧ Q v s') E s) : wpAny (model prog w) A (inplaceOp op (.ref x) b) Q E s := by
  obtain ⟨hh, g, d, tt, os⟩ := s
  have l1 : PySem.W.Looks (model prog w) hh (typeOf (.ref x)) (.ref C) := I.type
  have l2 : PySem.W.Looks (model prog w) hh (fillsInplaceSlot (.ref C) op.info.2 (op == .Add)) false := fillsI_no X hm hi ho
  unfold inplaceOp
  refine wpAny_holding (wpAny_bind (l1.at (wpAny_bind (l2.at ?_))))
  simp only [Bool.false_eq_true, if_false]
  refine wpAny_bind (wpAny_mono h (fun r s' hr' => ?_) fun _ _ e => e)
  obtain ⟨v, rfl, hq⟩ := hr'
  exact wpAny_pure hq
end
end OpX
namespace OpX
open PySem.W (InstAt findIn isFn selfFirst mroIn looks_mroIn ksp_first ksp_try fills_K instObj looks_findIn clsIn looks_clsIn subIn looks_subIn ksp_inPy)
section
variable {prog : Program} {w : World} {A : Around} {E : Value → Shared → Prop} {s : Shared} {K : PySem.W.Frag} {x y C dx f g : Addr} {ox oy : Obj} {od od2 : Option Obj} {nm : String} {i : Int} {t : Tok}
/-- an instance ahead of an int -/
theorem bin1_int {Q : Value → Shared → Prop} {ro : Option Value} (X : K.In s.heap) (I : InstAt s.heap x ox C od) (hc : selfFirst K C = true) (hs : findIn K (.ref C) (PySem.dunder nm) = some (some (.ref f))) (hf : isFn K (.ref f) = true)
    (hr : findIn K (.ref C) (dunderR nm) = some (some (.ref g))) (h2 : findIn K (.type "int") (dunderR nm) = some ro) (hsub : subIn K (.type "int") (.ref C) = some false) (hfi : fillsNumberSlot (.type "int") nm = pure true)
    (h : wpAny (model prog w) A (call (.ref f) [.ref x, .int i t]) (PySem.W.CmpBack Q) E s) : wpAny (model prog w) A (binaryOp1 nm (.ref x) (.int i t)) (fun r s' => ∃ v, r = some v ∧ Q v s') E s := by
  obtain ⟨cd, rest, hcd, hm⟩ := ksp_first hc
  have one := ksp_try X I hs hf h
  obtain ⟨hh, g', d, tt, os⟩ := s
  have l1 : PySem.W.Looks (model prog w) hh (typeOf (.ref x)) (.ref C) := I.type
  have l3 : PySem.W.Looks (model prog w) hh (fillsNumberSlot (.ref C) nm) true := fills_K X hcd hm hs
  have l4 : PySem.W.Looks (model prog w) hh (isSubtype (.type "int") (.ref C)) false := looks_subIn X hsub
  have l5 : PySem.W.Looks (model prog w) hh (numberSlotInPython (.ref C) nm) true := ksp_inPy X hs hr (.inr ⟨g, rfl⟩)
  have l6 : PySem.W.Looks (model prog w) hh (typeLookup (.type "int") (dunderR nm)) ro := looks_findIn X h2
  have hne : (Value.ref C == Value.type "int") = false := Bool.eq_false_iff.mpr fun q => by cases beq_iff_eq.mp q
  have hpy : numberSlotInPython (.type "int") nm = pure false := rfl
  unfold binaryOp1
  refine wpAny_bind (l1.at (wpAny_bind (wpAny_of_eq (a := .type "int") rfl (wpAny_bind (l3.at ?_)))))
  simp only [hne, Bool.false_eq_true, if_false]
  refine wpAny_bind (wpAny_of_eq hfi ?_)
  simp only [Bool.and_self, if_true]
  refine wpAny_bind (l4.at ?_)
  simp only [Bool.false_eq_true, if_false, pure_bind, Bool.not_false, Bool.and_self, if_true, hpy]
  refine wpAny_bind (l5.at ?_)
  simp only [if_true, pure_bind, Bool.not_false]
  refine wpAny_bind (l6.at ?_)
  refine wpAny_bind (wpAny_mono one (fun r s' hr' => ?_) fun _ _ e => e)
  obtain ⟨v, rfl, hq⟩ := hr'
  exact wpAny_pure ⟨v, rfl, hq⟩
/-- what a two-place method of int says to an instance -/
theorem int_ins {name : String} {F : Int → Int → Sem Fin} : Meets (Builtin.Int.intBinary name F false ⟨[.int i t, .ref x], []⟩) (fun _ R s => s.heap.get? x = some (instObj C dx) ∧ R (.ok (.ret Value.notImplemented)) s) :=
  .of_wp fun prog w A R s h => by
    obtain ⟨hl, h⟩ := h
    unfold Builtin.Int.intBinary
    refine wpAny_bind (wpAny_of_eq (a := (Value.int i t, [Value.ref x])) rfl ?_)
    refine wpAny_bind (wpAny_of_eq (a := i) rfl ?_)
    refine wpAny_bind (m := asInt? (.ref x)) (wpAny_bind (wpAny_load hl ?_))
    refine wpAny_pure ?_
    refine wpAny_bind (wpAny_rule ?_)
    exact wpAny_pure ⟨_, rfl, h⟩
/-- what int's own method says to an instance, by the operator's name -/
def Dec (nm : String) : Prop := ∀ (prog : Program) (w : World) (A : Around) (E : Value → Shared → Prop) (s : Shared) (x C dx : Addr) (i : Int) (t : Tok), s.heap.get? x = some (instObj C dx) →
  wpAny (model prog w) A (tryMethod (.int i t) (PySem.dunder nm) (.ref x)) (fun r s' => r = none ∧ s' = s) E s
theorem dec_gen {nm id name : String} {F : Int → Int → Sem Fin} (slot : Slot "int" (PySem.dunder nm) id) (entry : entryFor table id = some (Builtin.Int.intBinary name F false)) (args : ∀ a b : Value, argsOk id ⟨[a, b], []⟩) : Dec nm := fun prog w A E s x C dx i t hx =>
  wpAny_tryMethod_declines (Q := fun r s' => r = none ∧ s' = s) (typeIs_int s i t) slot (call_meets slot (typeIs_int s i t) entry (args _ _) (int_ins (C := C) (dx := dx)) ⟨hx, rfl, rfl, rfl⟩)
theorem dec_add : Dec "add" := dec_gen PySem.F.slot_int_add PySem.F.entry_int_add PySem.F.args_int_add_2
theorem dec_sub : Dec "sub" := dec_gen PySem.F.slot_int_sub PySem.F.entry_int_sub PySem.F.args_int_sub_2
theorem dec_mul : Dec "mul" := dec_gen PySem.F.slot_int_mul PySem.F.entry_int_mul PySem.F.args_int_mul_2
end
end OpX
/-! ### the operators' readings -/
/-- x op y by x's own def: y of the same class, or an int -/
def rBinL (C : Addr) (sp : Sp) (E : XK) : R2 := fun x y H Q => ∃ (a dx : Addr) (fs : List (Str × V)), x = .ref a ∧ H a = some (.ins C dx fs) ∧ ((∃ (b dy : Addr) (gs : List (Str × V)), y = .ref b ∧ H b = some (.ins C dy gs)) ∨ ∃ i : Int, y = .int i) ∧ sp [x, y] H Q E
/-- x op y by y's own def: x an int -/
def rBinR (C : Addr) (sp : Sp) (E : XK) : R2 := fun x y H Q => ∃ (i : Int) (b dy : Addr) (gs : List (Str × V)), x = .int i ∧ y = .ref b ∧ H b = some (.ins C dy gs) ∧ sp [y, x] H Q E
/-- what the written part says of one operator at the class C -/
structure OpAt (K : PySem.W.Frag) (C : Addr) (nm : String) (f g : Addr) : Prop where
  first : PySem.W.selfFirst K C = true
  at_ : PySem.W.findIn K (.ref C) (PySem.dunder nm) = some (some (.ref f))
  fn : PySem.W.isFn K (.ref f) = true
  atR : PySem.W.findIn K (.ref C) (dunderR nm) = some (some (.ref g))
  fnR : PySem.W.isFn K (.ref g) = true
  notInt : PySem.W.mroIn K C (.type "int") = some false
  intNot : PySem.W.subIn K (.type "int") (.ref C) = some false
  mro : OpX.mro2B K C = true
  names : OpX.opB K C nm = true
  fills : fillsNumberSlot (.type "int") nm = pure true
  dec : OpX.Dec nm
section
variable {X : Cx} {CX : CXT} {n : Nat} {sp : Sp} {E : XK} {C f g : Addr}
theorem bin1_at {nm : String} {pins : List (Addr × Obj)} {s : Shared} {σ : L2.St} {H : Hp} {x y : V} {v u : Value} {Q : VK} (o : OpAt X.K C nm f g) (F : FnR X.prog X.w X.K X.mg X.base CX n f sp) (hr : Room n X.A) (hx : Passes CX X E)
    (I : Inv X pins σ H s) (rx : RelV x v) (ry : RelV y u) (h : rBinL C sp E x y H Q) :
    (∃ (a : Addr) (od : Option Obj) (dx : Addr), v = .ref a ∧ PySem.W.InstAt s.heap a (PySem.W.instObj C dx) C od) ∧ wpAny (model X.prog X.w) X.A (binaryOp1 nm v u) (fun r s' => ∃ z, r = some z ∧ EP X pins σ Q z s') X.xe s := by
  obtain ⟨a, dx, fs, rfl, ha, hy, q⟩ := h
  cases (show v = Value.ref a from rx)
  obtain ⟨mA, O, _⟩ := ins_get I.hok ha
  obtain ⟨od, J, _⟩ := O.look
  refine ⟨⟨a, _, _, rfl, J⟩, ?_⟩
  have go : wpAny (model X.prog X.w) X.A (call (.ref f) [.ref a, u]) (PySem.W.CmpBack (EP X pins σ Q)) X.xe s :=
    wpAny_mono (wpAny_call (run_fnR (us := [.ref a, u]) (vs := [.ref a, y]) F hr hx I (.cons rfl (.cons ry .nil)) q)) (fun w s' z => by
      obtain ⟨z', H', I', rz, qz⟩ := z
      exact SlX.cmpback rz ⟨z', H', I', rz, qz⟩) fun _ _ x => x
  rcases hy with ⟨b, dy, gs, rfl, hb⟩ | ⟨i, rfl⟩
  · cases (show u = Value.ref b from ry)
    obtain ⟨mB, O', _⟩ := ins_get I.hok hb
    obtain ⟨od', J', _⟩ := O'.look
    exact OpX.bin1_same I.kIn J J' o.first o.at_ o.fn go
  · obtain ⟨t, e⟩ := (show ∃ t, u = Value.int i t from ry)
    cases e
    have h2 := (Bool.and_eq_true_iff.mp (Bool.and_eq_true_iff.mp (Bool.and_eq_true_iff.mp o.names).2).2).2
    obtain ⟨ro, h2⟩ := Option.isSome_iff_exists.mp h2
    exact OpX.bin1_int I.kIn J o.first o.at_ o.fn o.atR h2 o.intNot o.fills go
theorem op_L {op : Operator} (o : OpAt X.K C op.info.2 f g) (F : FnR X.prog X.w X.K X.mg X.base CX n f sp) (hr : Room n X.A) (hx : Passes CX X E) : OpR X (binaryOp op) (rBinL C sp E) :=
  fun pins s σ H x y v u Q I rx ry h => OpX.bin_of (bin1_at o F hr hx I rx ry h).2
theorem ip_L {op : Operator} (o : OpAt X.K C op.info.2 f g) (F : FnR X.prog X.w X.K X.mg X.base CX n f sp) (hr : Room n X.A) (hx : Passes CX X E) : PIp X op (rBinL C sp E) := by
  intro pins s σ H x y v u Q I rx ry h
  obtain ⟨⟨a, od, dx, rfl, J⟩, z⟩ := bin1_at o F hr hx I rx ry h
  have h1 := Bool.and_eq_true_iff.mp o.names
  exact OpX.inp_of I.kIn J o.mro (He.eqO_ok h1.1) (He.eqO_ok (Bool.and_eq_true_iff.mp h1.2).1) z
theorem op_Rt {op : Operator} (o : OpAt X.K C op.info.2 f g) (F : FnR X.prog X.w X.K X.mg X.base CX n g sp) (hr : Room n X.A) (hx : Passes CX X E) : OpR X (binaryOp op) (rBinR C sp E) := by
  intro pins s σ H x y v u Q I rx ry h
  obtain ⟨i, b, dy, gs, rfl, rfl, hb, q⟩ := h
  obtain ⟨t, e⟩ := (show ∃ t, v = Value.int i t from rx)
  cases e
  cases (show u = Value.ref b from ry)
  obtain ⟨mB, O, _⟩ := ins_get I.hok hb
  obtain ⟨od, J, _⟩ := O.look
  have go : wpAny (model X.prog X.w) X.A (call (.ref g) [.ref b, .int i t]) (PySem.W.CmpBack (EP X pins σ Q)) X.xe s :=
    wpAny_mono (wpAny_call (run_fnR (us := [.ref b, .int i t]) (vs := [.ref b, .int i]) F hr hx I (.cons rfl (.cons ⟨t, rfl⟩ .nil)) q)) (fun w s' z => by
      obtain ⟨z', H', I', rz, qz⟩ := z
      exact SlX.cmpback rz ⟨z', H', I', rz, qz⟩) fun _ _ x => x
  exact OpX.bin_of (OpX.bin1_refl I.kIn J o.first o.at_ o.atR o.fnR o.notInt o.fills (o.dec _ _ _ _ _ _ _ _ _ _ J.at_) go)
theorem op_or {F : Value → Value → Sem Value} {r1 r2 : R2} (h1 : OpR X F r1) (h2 : OpR X F r2) : OpR X F (fun x y H Q => r1 x y H Q ∨ r2 x y H Q) := by
  intro pins s σ H x y v u Q I rx ry h
  rcases h with h | h
  · exact h1 pins s σ H x y v u Q I rx ry h
  · exact h2 pins s σ H x y v u Q I rx ry h
/-- -x by x's own def -/
def rUnO (C : Addr) (sp : Sp) (E : XK) : V → Hp → VK → Prop := fun x H Q => ∃ (a dx : Addr) (fs : List (Str × V)), x = .ref a ∧ H a = some (.ins C dx fs) ∧ sp [x] H Q E
theorem un_own (hs : PySem.W.findIn X.K (.ref C) "__neg__" = some (some (.ref f))) (hf : PySem.W.isFn X.K (.ref f) = true) (F : FnR X.prog X.w X.K X.mg X.base CX n f sp) (hr : Room n X.A) (hx : Passes CX X E) : UnR X (unaryOp .USub) (rUnO C sp E) := by
  intro pins s σ H x v Q I rx h
  obtain ⟨a, dx, fs, rfl, ha, q⟩ := h
  cases (show v = Value.ref a from rx)
  obtain ⟨mA, O, _⟩ := ins_get I.hok ha
  obtain ⟨od, J, _⟩ := O.look
  obtain ⟨m, hF⟩ := I.fr
  exact PySem.W.ksp_neg hF I.ok.mod.kin J hs hf (wpAny_call (run_fnR (us := [.ref a]) (vs := [.ref a]) F hr hx I (.cons rfl .nil) q))
/-- abs(x) by x's own def -/
def rAbsO (C : Addr) (sp : Sp) (E : XK) : List V → Hp → VK → Prop := fun xs H Q => ∃ (a dx : Addr) (fs : List (Str × V)), xs = [.ref a] ∧ H a = some (.ins C dx fs) ∧ sp [.ref a] H Q E
end
section
variable {X : Cx} {CX : CXT} {n : Nat} {sp : Sp} {E : XK} {C f : Addr}
theorem call_absO (hs : PySem.W.findIn X.K (.ref C) "__abs__" = some (some (.ref f))) (hf : PySem.W.isFn X.K (.ref f) = true) (F : FnR X.prog X.w X.K X.mg X.base CX n f sp) (hr : Room (n + 1) X.A) (hx : Passes CX X E) : CallR X (.builtin "abs") (rAbsO C sp E) := by
  intro pins s σ H xs us Q I r h
  obtain ⟨a, dx, fs, rfl, ha, q⟩ := h
  obtain ⟨u, rfl, ru⟩ := r.one
  cases (show u = Value.ref a from ru)
  obtain ⟨mA, O, _⟩ := ins_get I.hok ha
  obtain ⟨od, J, _⟩ := O.look
  have hr2 : Room n X.A.in1 := Room.in1 hr
  refine Calls.call_function_entry kind_abs plain_abs entry_abs (args_abs _) ?_
  unfold Builtin.«abs»
  refine wpAny_bind (m := oneArg "abs" _) (wpAny_pure ?_)
  refine wpAny_bind (m := callSpecial? (.ref a) (Str.ofString "__abs__")) (PySem.W.special_fn I.kIn J hs (beq_iff_eq.mp hf) (wpAny_mono (wpAny_call (SlX.run_at (us := [.ref a]) (ws := [.ref a]) F hr2 I.env0.in1 hx I (.cons rfl .nil) q)) (fun w s' z => ?_) fun _ _ x => x))
  exact wpAny_pure ⟨_, rfl, z⟩
end
/-! ### comparisons by own methods -/
namespace CmX
open PySem.W (InstAt findIn isFn mroIn typeIn subIn looks_subIn looks_mroIn looks_findIn instObj ifBound_K Looks)
section
variable {prog : Program} {w : World} {A : Around} {E : Value → Shared → Prop} {s : Shared} {K : PySem.W.Frag} {x C f : Addr} {ox : Obj} {od : Option Obj} {a b ta tb : Value} {op : CmpOp}
/-- the left one's rule answers -/
theorem rc_fst {Q : Value → Shared → Prop} (hu : A.units < cLine) (ho : oneThing? op a b = none) (la : Looks (model prog w) s.heap (typeOf a) ta) (lb : Looks (model prog w) s.heap (typeOf b) tb)
    (hn : (ta != tb) = true → Looks (model prog w) s.heap (isSubtype tb ta) false)
    (one : wpAny (model prog w) A (tryCompare a (cmpInfo op).2.1 b) (fun r s' => ∃ v, r = some v ∧ Q v s') E s) : wpAny (model prog w) A (richCompare op a b) Q E s := by
  unfold richCompare
  simp only [ho]
  refine wpAny_holding (wpAny_bind (wpAny_cRoomFor hu ?_))
  refine wpAny_bind (la.here (wpAny_bind (lb.here ?_)))
  split
  · rename_i q
    refine wpAny_bind ((hn q).here ?_)
    simp only [Bool.false_eq_true, if_false]
    refine wpAny_bind (wpAny_mono one (fun r s' z => ?_) fun _ _ e => e)
    obtain ⟨v, rfl, hq⟩ := z
    exact wpAny_pure hq
  · refine wpAny_bind (wpAny_pure ?_)
    simp only [Bool.false_eq_true, if_false]
    refine wpAny_bind (wpAny_mono one (fun r s' z => ?_) fun _ _ e => e)
    obtain ⟨v, rfl, hq⟩ := z
    exact wpAny_pure hq
/-- the left one's rule declines, the right one's answers -/
theorem rc_snd {Q : Value → Shared → Prop} (hu : A.units < cLine) (ho : oneThing? op a b = none) (la : Looks (model prog w) s.heap (typeOf a) ta) (lb : Looks (model prog w) s.heap (typeOf b) tb)
    (hn : Looks (model prog w) s.heap (isSubtype tb ta) false)
    (one : wpAny (model prog w) A (tryCompare a (cmpInfo op).2.1 b) (fun r s' => r = none ∧ s' = s) E s)
    (two : wpAny (model prog w) A (tryCompare b (cmpInfo op).2.2 a) (fun r s' => ∃ v, r = some v ∧ Q v s') E s) : wpAny (model prog w) A (richCompare op a b) Q E s := by
  unfold richCompare
  simp only [ho]
  refine wpAny_holding (wpAny_bind (wpAny_cRoomFor hu ?_))
  refine wpAny_bind (la.here (wpAny_bind (lb.here ?_)))
  split
  · refine wpAny_bind (hn.here ?_)
    simp only [Bool.false_eq_true, if_false, Bool.not_false, if_true]
    refine wpAny_bind (wpAny_mono one (fun r s' z => ?_) fun _ _ e => e)
    obtain ⟨rfl, rfl⟩ := z
    refine wpAny_bind (wpAny_mono two (fun r s' z => ?_) fun _ _ e => e)
    obtain ⟨v, rfl, hq⟩ := z
    exact wpAny_pure hq
  · refine wpAny_bind (wpAny_pure ?_)
    simp only [Bool.false_eq_true, if_false, Bool.not_false, if_true]
    refine wpAny_bind (wpAny_mono one (fun r s' z => ?_) fun _ _ e => e)
    obtain ⟨rfl, rfl⟩ := z
    refine wpAny_bind (wpAny_mono two (fun r s' z => ?_) fun _ _ e => e)
    obtain ⟨v, rfl, hq⟩ := z
    exact wpAny_pure hq
theorem try_own {name : Str} {Q : Value → Shared → Prop} (X : K.In s.heap) (I : InstAt s.heap x ox C od) (hs : findIn K (.ref C) name = some (some (.ref f))) (hf : isFn K (.ref f) = true)
    (h : wpAny (model prog w) A (call (.ref f) [.ref x, b]) (PySem.W.CmpBack Q) E s) : wpAny (model prog w) A (tryCompare (.ref x) name b) (fun r s' => ∃ v, r = some v ∧ Q v s') E s := by
  unfold tryCompare
  refine wpAny_bind (ifBound_K X I hs hf (wpAny_mono h (fun v s' hv => ?_) fun _ _ e => e))
  cases v <;> first | exact hv.elim | exact wpAny_pure ⟨_, rfl, hv⟩
theorem ifBound_ne {args : List Value} {Q : Option Value → Shared → Prop} (X : K.In s.heap) (I : InstAt s.heap x ox C od) (hs : findIn K (.ref C) "__ne__" = some (some (.builtin "object.__ne__")))
    (h : wpAny (model prog w) A (call (.builtin "object.__ne__") (.ref x :: args)) (fun v => Q (some v)) E s) : wpAny (model prog w) A (callSpecialIfBound? (.ref x) "__ne__" args) Q E s := by
  simp only [callSpecialIfBound?, bindSpecialIfBound?]
  refine wpAny_holding (wpAny_bind (wpAny_bind (wpAny_bind (I.type.here ((looks_findIn X hs).here ?_)))))
  refine wpAny_bind (wpAny_askSetting (wpAny_ite ?_))
  have fin : wpAny (model prog w) A (call (.builtin "object.__ne__") ([.ref x] ++ args) >>= fun v => pure (some v)) Q E s := wpAny_bind (wpAny_mono h (fun v s' h' => wpAny_pure h') fun _ _ h' => h')
  split
  · exact wpAny_bind (wpAny_of_eq (F.cmp_object.ne.bind _) (wpAny_pure (by exact fin)))
  · exact wpAny_tryCatch (wpAny_bind (wpAny_of_eq (F.cmp_object.ne.bind _) (wpAny_pure (by exact fin))))
/-- != by an own __eq__ -/
theorem try_ne {Q : Value → Shared → Prop} (hu : A.in1.units < cLine) (X : K.In s.heap) (I : InstAt s.heap x ox C od) (hm : mroIn K C (.type "object") = some true) (hs : findIn K (.ref C) "__ne__" = some (some (.builtin "object.__ne__")))
    (he : findIn K (.ref C) "__eq__" = some (some (.ref f))) (hf : isFn K (.ref f) = true)
    (h : wpAny (model prog w) A.in1 (call (.ref f) [.ref x, b]) (fun v s' => ∃ k, v = .bool k ∧ Q (.bool !k) s') E s) : wpAny (model prog w) A (tryCompare (.ref x) "__ne__" b) (fun r s' => ∃ v, r = some v ∧ Q v s') E s := by
  unfold tryCompare
  refine wpAny_bind (ifBound_ne X I hs ?_)
  refine wpAny_call (codeAny_call_builtin F.cmp_object.ne.plain F.cmpEntry_ne (PySem.W.check_slot F.cmpKind_ne F.cmpSplit_ne (I.type.andThen (looks_mroIn X hm)) (F.cmpArgs_ne _ _) ?_))
  unfold Builtin.«object.__ne__»
  refine wpAny_bind (m := slotArgs "__ne__" 1 _) (wpAny_pure ?_)
  refine wpAny_bind (m := cRoomFor _ _) (wpAny_cRoomFor hu ?_)
  refine wpAny_bind (ifBound_K X I he hf (wpAny_mono h (fun v s' hv => ?_) fun _ _ e => e))
  obtain ⟨k, rfl, hq⟩ := hv
  refine wpAny_bind (wpAny_truthy_bool (wpAny_pure ?_))
  exact wpAny_pure ⟨_, rfl, hq⟩
end
end CmX
/-! ### what the built-in types say to an instance -/
namespace CmX
open PySem.AutoSeq1 (wpAny_loadPart')
open PySem.W (InstAt findIn isFn mroIn typeIn subIn looks_subIn looks_mroIn looks_findIn instObj ifBound_K Looks)
section
variable {x C dx : Addr}
theorem int_eq_ins (b : Int) (u : Tok) : Meets (Builtin.«int.__eq__» ⟨[.int b u, .ref x], []⟩) (fun _ R s => s.heap.get? x = some (instObj C dx) ∧ R (.ok (.ret .notImplemented)) s) :=
  .of_wp fun prog w A R s h => by obtain ⟨hp, g, d, tk, os⟩ := s; obtain ⟨hl, h⟩ := h; wp_walk using wpAny_load hl; exact ⟨_, rfl, h⟩
theorem int_ne_ins (b : Int) (u : Tok) : Meets (Builtin.«int.__ne__» ⟨[.int b u, .ref x], []⟩) (fun _ R s => s.heap.get? x = some (instObj C dx) ∧ R (.ok (.ret .notImplemented)) s) :=
  .of_wp fun prog w A R s h => by obtain ⟨hp, g, d, tk, os⟩ := s; obtain ⟨hl, h⟩ := h; wp_walk using wpAny_load hl; exact ⟨_, rfl, h⟩
theorem int_lt_ins (b : Int) (u : Tok) : Meets (Builtin.«int.__lt__» ⟨[.int b u, .ref x], []⟩) (fun _ R s => s.heap.get? x = some (instObj C dx) ∧ R (.ok (.ret .notImplemented)) s) :=
  .of_wp fun prog w A R s h => by obtain ⟨hp, g, d, tk, os⟩ := s; obtain ⟨hl, h⟩ := h; wp_walk using wpAny_load hl; exact ⟨_, rfl, h⟩
theorem int_le_ins (b : Int) (u : Tok) : Meets (Builtin.«int.__le__» ⟨[.int b u, .ref x], []⟩) (fun _ R s => s.heap.get? x = some (instObj C dx) ∧ R (.ok (.ret .notImplemented)) s) :=
  .of_wp fun prog w A R s h => by obtain ⟨hp, g, d, tk, os⟩ := s; obtain ⟨hl, h⟩ := h; wp_walk using wpAny_load hl; exact ⟨_, rfl, h⟩
theorem int_gt_ins (b : Int) (u : Tok) : Meets (Builtin.«int.__gt__» ⟨[.int b u, .ref x], []⟩) (fun _ R s => s.heap.get? x = some (instObj C dx) ∧ R (.ok (.ret .notImplemented)) s) :=
  .of_wp fun prog w A R s h => by obtain ⟨hp, g, d, tk, os⟩ := s; obtain ⟨hl, h⟩ := h; wp_walk using wpAny_load hl; exact ⟨_, rfl, h⟩
theorem int_ge_ins (b : Int) (u : Tok) : Meets (Builtin.«int.__ge__» ⟨[.int b u, .ref x], []⟩) (fun _ R s => s.heap.get? x = some (instObj C dx) ∧ R (.ok (.ret .notImplemented)) s) :=
  .of_wp fun prog w A R s h => by obtain ⟨hp, g, d, tk, os⟩ := s; obtain ⟨hl, h⟩ := h; wp_walk using wpAny_load hl; exact ⟨_, rfl, h⟩
theorem bool_eq_ins (b : Bool) : Meets (Builtin.«int.__eq__» ⟨[.bool b, .ref x], []⟩) (fun _ R s => s.heap.get? x = some (instObj C dx) ∧ R (.ok (.ret .notImplemented)) s) :=
  .of_wp fun prog w A R s h => by obtain ⟨hp, g, d, tk, os⟩ := s; obtain ⟨hl, h⟩ := h; wp_walk using wpAny_load hl; exact ⟨_, rfl, h⟩
theorem str_eq_ins (b : Str) (u : Tok) : Meets (Builtin.«str.__eq__» ⟨[.str b u, .ref x], []⟩) (fun _ R s => s.heap.get? x = some (instObj C dx) ∧ R (.ok (.ret .notImplemented)) s) :=
  .of_wp fun prog w A R s h => by obtain ⟨hp, g, d, tk, os⟩ := s; obtain ⟨hl, h⟩ := h; wp_walk using wpAny_load hl; exact ⟨_, rfl, h⟩
end
section
variable {prog : Program} {w : World} {A : Around} {E : Value → Shared → Prop} {s : Shared} {K : PySem.W.Frag} {x C dx l : Addr} {ox ol : Obj} {od : Option Obj} {Q : Fin → Shared → Prop}
theorem isi_ins {T : String} {r : Bool} (X : K.In s.heap) (I : InstAt s.heap x ox C od) (hm : mroIn K C (.type T) = some r) : Looks (model prog w) s.heap (isInstance (.ref x) (.type T)) r := I.type.andThen (looks_mroIn X hm)
theorem list_eq_ins {a : Value} (X : K.In s.heap) (I : InstAt s.heap x ox C od) (hm : mroIn K C (.type "list") = some false) (h : Q (.done (.ret .notImplemented)) s) : wpAny (model prog w) A (Builtin.«list.__eq__» ⟨[a, .ref x], []⟩) Q E s := by
  unfold Builtin.«list.__eq__»
  refine wpAny_bind (m := slotArgs "__eq__" 1 _) (wpAny_pure ?_)
  refine wpAny_bind ((isi_ins X I hm).here ?_)
  simp only [Bool.not_false, if_true]
  exact wpAny_pure h
theorem tup_eq_ins {a : Value} (X : K.In s.heap) (I : InstAt s.heap x ox C od) (hm : mroIn K C (.type "tuple") = some false) (h : Q (.done (.ret .notImplemented)) s) : wpAny (model prog w) A (Builtin.«tuple.__eq__» ⟨[a, .ref x], []⟩) Q E s := by
  unfold Builtin.«tuple.__eq__»
  refine wpAny_bind (m := slotArgs "__eq__" 1 _) (wpAny_pure ?_)
  refine wpAny_bind ((isi_ins X I hm).here ?_)
  simp only [Bool.not_false, if_true]
  exact wpAny_pure h
theorem dict_eq_ins (hl : s.heap.get? l = some ol) (hc : ol.cls = .type "dict") (X : K.In s.heap) (I : InstAt s.heap x ox C od) (hm : mroIn K C (.type "dict") = some false) (h : Q (.done (.ret .notImplemented)) s) : wpAny (model prog w) A (Builtin.«dict.__eq__» ⟨[.ref l, .ref x], []⟩) Q E s := by
  unfold Builtin.«dict.__eq__»
  show wpAny _ _ (Builtin.Dict.dictSlotArgs "__eq__" ⟨[.ref l, .ref x], []⟩ >>= _) _ _ s
  refine wpAny_bind ?_
  unfold Builtin.Dict.dictSlotArgs
  refine wpAny_bind (wpAny_notOrdered_dict (show s.TypeIs (.ref l) "dict" from ⟨_, hl, hc⟩) ?_)
  show wpAny _ _ (pure (Value.ref l, Value.ref x)) _ _ s
  refine wpAny_pure ?_
  refine wpAny_bind ((isi_ins X I hm).here ?_)
  simp only [Bool.not_false, if_true]
  exact wpAny_bind (wpAny_rule (wpAny_pure h))
end
end CmX
/-! ### comparisons: readings -/
namespace CmX
open PySem.W (InstAt findIn isFn mroIn typeIn subIn looks_subIn looks_mroIn looks_findIn instObj ifBound_K Looks)
/-- C's own comparisons are asked: what the written part says -/
def names7 : List String := ["NoneType", "bool", "int", "str", "list", "tuple", "dict"]
def cmpB (K : PySem.W.Frag) (C : Addr) : Bool := decide (mroIn K C (.type "object") = some true) && (He.eqO (findIn K (.ref C) "__ne__") (some (some (.builtin "object.__ne__"))) && names7.all fun T => decide (subIn K (.type T) (.ref C) = some false) && decide (mroIn K C (.type T) = some false))
structure CmpC (K : PySem.W.Frag) (C : Addr) : Prop where
  top : mroIn K C (.type "object") = some true
  ne : findIn K (.ref C) "__ne__" = some (some (.builtin "object.__ne__"))
  no : ∀ T ∈ names7, subIn K (.type T) (.ref C) = some false ∧ mroIn K C (.type T) = some false
theorem cmpB_ok {K : PySem.W.Frag} {C : Addr} (h : cmpB K C = true) : CmpC K C := by
  obtain ⟨h1, h⟩ := He.ba h
  obtain ⟨h2, h3⟩ := He.ba h
  refine ⟨of_decide_eq_true h1, He.eqO_ok h2, fun T hT => ?_⟩
  obtain ⟨h4, h5⟩ := He.ba (List.all_eq_true.mp h3 T hT)
  exact ⟨of_decide_eq_true h4, of_decide_eq_true h5⟩
/-- the type of y is C itself, or not below C -/
def Beside (K : PySem.W.Frag) (C : Addr) (t : Value) : Prop := t = .ref C ∨ subIn K t (.ref C) = some false
theorem looks_ty {X : Cx} {pins : List (Addr × Obj)} {σ : L2.St} {H : Hp} {s : Shared} {y : V} {u t : Value} (I : Inv X pins σ H s) (ry : RelV y u) (ty : TyOf X.K H y t) : Looks (model X.prog X.w) s.heap (typeOf u) t := by
  obtain ⟨P, Z, p, _⟩ := kit_of I ry (.base ty)
  exact Z.ty _ _ I.kIn p
/-- x op y by x's own def -/
def rCmpL (K : PySem.W.Frag) (C : Addr) (sp : Sp) (E : XK) : R2 := fun x y H Q => ∃ (a dx : Addr) (fs : List (Str × V)) (t : Value), x = .ref a ∧ H a = some (.ins C dx fs) ∧ TyOf K H y t ∧ Beside K C t ∧ sp [x, y] H Q E
/-- x != y by x's own __eq__ -/
def rNeL (K : PySem.W.Frag) (C : Addr) (sp : Sp) (E : XK) : R2 := fun x y H Q => ∃ (a dx : Addr) (fs : List (Str × V)) (t : Value), x = .ref a ∧ H a = some (.ins C dx fs) ∧ TyOf K H y t ∧ Beside K C t ∧ sp [x, y] H (fun z H' => ∃ k, z = .bl k ∧ Q (.bl !k) H') E
/-- i op y by y's own def -/
def rCmpI (C : Addr) (sp : Sp) (E : XK) : R2 := fun x y H Q => ∃ (i : Int) (b dy : Addr) (gs : List (Str × V)), x = .int i ∧ y = .ref b ∧ H b = some (.ins C dy gs) ∧ sp [y, x] H Q E
def rNeI (C : Addr) (sp : Sp) (E : XK) : R2 := fun x y H Q => ∃ (i : Int) (b dy : Addr) (gs : List (Str × V)), x = .int i ∧ y = .ref b ∧ H b = some (.ins C dy gs) ∧ sp [y, x] H (fun z H' => ∃ k, z = .bl k ∧ Q (.bl !k) H') E
/-- x == y by y's own __eq__, x of a built-in type -/
inductive Bi (H : Hp) : V → Prop where
  | non : Bi H .non
  | bl (x : Bool) : Bi H (.bl x)
  | int (i : Int) : Bi H (.int i)
  | str (x : Str) : Bi H (.str x)
  | lst {a : Addr} {xs : List V} (e : H a = some (.lst xs)) : Bi H (.ref a)
  | tup {a : Addr} {xs : List V} (e : H a = some (.tup xs)) : Bi H (.ref a)
  | dK {a : Addr} {kvs : List (Key × V)} (e : H a = some (.dK kvs)) : Bi H (.ref a)
def rEqB (C : Addr) (sp : Sp) (E : XK) : R2 := fun x y H Q => ∃ (b dy : Addr) (gs : List (Str × V)), Bi H x ∧ y = .ref b ∧ H b = some (.ins C dy gs) ∧ sp [y, x] H Q E
section
variable {X : Cx} {CX : CXT} {n : Nat} {sp : Sp} {E : XK} {C f : Addr} {op : CmpOp}
theorem beside_looks {K : PySem.W.Frag} {M : Model} {h : Heap} {t : Value} (X : K.In h) (b : Beside K C t) : (Value.ref C != t) = true → Looks M h (isSubtype t (.ref C)) false := fun q => by
  rcases b with e | e
  · rw [e] at q
    simp at q
  · exact looks_subIn X e
theorem op_cmpL (hc : ∀ a b, compareOp op a b = richCompare op a b) (hs : findIn X.K (.ref C) (cmpInfo op).2.1 = some (some (.ref f))) (hf : isFn X.K (.ref f) = true)
    (F : FnR X.prog X.w X.K X.mg X.base CX n f sp) (hr : Room n X.A) (hu : X.A.units < cLine) (hx : Passes CX X E) : OpR X (compareOp op) (rCmpL X.K C sp E) := by
  intro pins s σ H x y v u Q I rx ry h
  obtain ⟨a, dx, fs, t, rfl, ha, ty, bs, q⟩ := h
  cases (show v = Value.ref a from rx)
  obtain ⟨mA, O, _⟩ := ins_get I.hok ha
  obtain ⟨od, J, _⟩ := O.look
  rw [hc]
  refine rc_fst hu rfl J.type (looks_ty I ry ty) (beside_looks I.kIn bs) (try_own I.kIn J hs hf ?_)
  exact wpAny_mono (wpAny_call (run_fnR (us := [.ref a, u]) (vs := [.ref a, y]) F hr hx I (.cons rfl (.cons ry .nil)) q)) (fun w s' z => by
    obtain ⟨z', H', I', rz, qz⟩ := z
    exact SlX.cmpback rz ⟨z', H', I', rz, qz⟩) fun _ _ x => x
theorem op_neL (K0 : CmpC X.K C) (hs : findIn X.K (.ref C) "__eq__" = some (some (.ref f))) (hf : isFn X.K (.ref f) = true)
    (F : FnR X.prog X.w X.K X.mg X.base CX n f sp) (hr : Room (n + 1) X.A) (hu : X.A.units + 1 < cLine) (hx : Passes CX X E) : OpR X (compareOp .NotEq) (rNeL X.K C sp E) := by
  intro pins s σ H x y v u Q I rx ry h
  obtain ⟨a, dx, fs, t, rfl, ha, ty, bs, q⟩ := h
  cases (show v = Value.ref a from rx)
  obtain ⟨mA, O, _⟩ := ins_get I.hok ha
  obtain ⟨od, J, _⟩ := O.look
  show wpAny _ _ (richCompare .NotEq (.ref a) u) _ _ s
  refine rc_fst (by omega) rfl J.type (looks_ty I ry ty) (beside_looks I.kIn bs) (try_ne (show X.A.units + 1 < cLine from hu) I.kIn J K0.top K0.ne hs hf ?_)
  exact wpAny_mono (wpAny_call (SlX.run_at (us := [.ref a, u]) (ws := [.ref a, y]) F hr.in1 I.env0.in1 hx I (.cons rfl (.cons ry .nil)) q)) (fun w s' z => by
    obtain ⟨z', H', I', rz, k, rfl, qz⟩ := z
    cases (show w = Value.bool k from rz)
    exact ⟨k, rfl, .bl !k, H', I', rfl, qz⟩) fun _ _ x => x
/-- what int says -/
def DcI (op : CmpOp) : Prop := ∀ (prog : Program) (w : World) (A : Around) (E : Value → Shared → Prop) (s : Shared) (x C dx : Addr) (i : Int) (t : Tok), s.heap.get? x = some (instObj C dx) →
  wpAny (model prog w) A (tryCompare (.int i t) (cmpInfo op).2.1 (.ref x)) (fun r s' => r = none ∧ s' = s) E s
theorem dcI {op : CmpOp} {nm : Str} {id : String} {B : Builtin} (hn : (cmpInfo op).2.1 = nm) (slot : Slot "int" nm id) (entry : entryFor table id = some B) (args : ∀ a b : Value, argsOk id ⟨[a, b], []⟩)
    (hB : ∀ (x C dx : Addr) (i : Int) (t : Tok), Meets (B ⟨[.int i t, .ref x], []⟩) (fun _ R s => s.heap.get? x = some (instObj C dx) ∧ R (.ok (.ret .notImplemented)) s)) : DcI op := fun prog w A E s x C dx i t hx => by
  rw [hn]
  exact wpAny_tryCompare_declines (Q := fun r s' => r = none ∧ s' = s) (typeIs_int s i t) slot (call_meets slot (typeIs_int s i t) entry (args _ _) (hB x C dx i t) ⟨hx, rfl, rfl, rfl⟩)
theorem hb_eq : ∀ (x C dx : Addr) (i : Int) (t : Tok), Meets (Builtin.«int.__eq__» ⟨[.int i t, .ref x], []⟩) (fun _ R s => s.heap.get? x = some (instObj C dx) ∧ R (.ok (.ret .notImplemented)) s) := fun _ _ _ _ _ => int_eq_ins _ _
theorem dc_eq : DcI .Eq := dcI (nm := (cmpInfo .Eq).2.1) rfl F.slot_int_eq F.entry_int_eq F.args_int_eq_2 hb_eq
theorem hb_ne : ∀ (x C dx : Addr) (i : Int) (t : Tok), Meets (Builtin.«int.__ne__» ⟨[.int i t, .ref x], []⟩) (fun _ R s => s.heap.get? x = some (instObj C dx) ∧ R (.ok (.ret .notImplemented)) s) := fun _ _ _ _ _ => int_ne_ins _ _
theorem dc_ne : DcI .NotEq := dcI (nm := (cmpInfo .NotEq).2.1) rfl F.slot_int_ne F.entry_int_ne F.args_int_ne_2 hb_ne
theorem hb_lt : ∀ (x C dx : Addr) (i : Int) (t : Tok), Meets (Builtin.«int.__lt__» ⟨[.int i t, .ref x], []⟩) (fun _ R s => s.heap.get? x = some (instObj C dx) ∧ R (.ok (.ret .notImplemented)) s) := fun _ _ _ _ _ => int_lt_ins _ _
theorem dc_lt : DcI .Lt := dcI (nm := (cmpInfo .Lt).2.1) rfl F.slot_int_lt F.entry_int_lt F.args_int_lt_2 hb_lt
theorem hb_le : ∀ (x C dx : Addr) (i : Int) (t : Tok), Meets (Builtin.«int.__le__» ⟨[.int i t, .ref x], []⟩) (fun _ R s => s.heap.get? x = some (instObj C dx) ∧ R (.ok (.ret .notImplemented)) s) := fun _ _ _ _ _ => int_le_ins _ _
theorem dc_le : DcI .LtE := dcI (nm := (cmpInfo .LtE).2.1) rfl F.slot_int_le F.entry_int_le F.args_int_le_2 hb_le
theorem hb_gt : ∀ (x C dx : Addr) (i : Int) (t : Tok), Meets (Builtin.«int.__gt__» ⟨[.int i t, .ref x], []⟩) (fun _ R s => s.heap.get? x = some (instObj C dx) ∧ R (.ok (.ret .notImplemented)) s) := fun _ _ _ _ _ => int_gt_ins _ _
theorem dc_gt : DcI .Gt := dcI (nm := (cmpInfo .Gt).2.1) rfl F.slot_int_gt F.entry_int_gt F.args_int_gt_2 hb_gt
theorem hb_ge : ∀ (x C dx : Addr) (i : Int) (t : Tok), Meets (Builtin.«int.__ge__» ⟨[.int i t, .ref x], []⟩) (fun _ R s => s.heap.get? x = some (instObj C dx) ∧ R (.ok (.ret .notImplemented)) s) := fun _ _ _ _ _ => int_ge_ins _ _
theorem dc_ge : DcI .GtE := dcI (nm := (cmpInfo .GtE).2.1) rfl F.slot_int_ge F.entry_int_ge F.args_int_ge_2 hb_ge
theorem op_cmpI (hc : ∀ a b, compareOp op a b = richCompare op a b) (K0 : CmpC X.K C) (dc : DcI op) (hs : findIn X.K (.ref C) (cmpInfo op).2.2 = some (some (.ref f))) (hf : isFn X.K (.ref f) = true)
    (F : FnR X.prog X.w X.K X.mg X.base CX n f sp) (hr : Room n X.A) (hu : X.A.units < cLine) (hx : Passes CX X E) : OpR X (compareOp op) (rCmpI C sp E) := by
  intro pins s σ H x y v u Q I rx ry h
  obtain ⟨i, b, dy, gs, rfl, rfl, hb, q⟩ := h
  obtain ⟨t, e⟩ := (show ∃ t, v = Value.int i t from rx)
  cases e
  cases (show u = Value.ref b from ry)
  obtain ⟨mB, O, _⟩ := ins_get I.hok hb
  obtain ⟨od, J, _⟩ := O.look
  rw [hc]
  refine rc_snd hu rfl (Looks.of_pure rfl) J.type (looks_mroIn I.kIn (K0.no "int" (by decide)).2) (dc _ _ _ _ _ _ _ _ _ _ J.at_) (try_own I.kIn J hs hf ?_)
  exact wpAny_mono (wpAny_call (run_fnR (us := [.ref b, .int i t]) (vs := [.ref b, .int i]) F hr hx I (.cons rfl (.cons ⟨t, rfl⟩ .nil)) q)) (fun w s' z => by
    obtain ⟨z', H', I', rz, qz⟩ := z
    exact SlX.cmpback rz ⟨z', H', I', rz, qz⟩) fun _ _ x => x
theorem op_neI (K0 : CmpC X.K C) (hs : findIn X.K (.ref C) "__eq__" = some (some (.ref f))) (hf : isFn X.K (.ref f) = true)
    (F : FnR X.prog X.w X.K X.mg X.base CX n f sp) (hr : Room (n + 1) X.A) (hu : X.A.units + 1 < cLine) (hx : Passes CX X E) : OpR X (compareOp .NotEq) (rNeI C sp E) := by
  intro pins s σ H x y v u Q I rx ry h
  obtain ⟨i, b, dy, gs, rfl, rfl, hb, q⟩ := h
  obtain ⟨t, e⟩ := (show ∃ t, v = Value.int i t from rx)
  cases e
  cases (show u = Value.ref b from ry)
  obtain ⟨mB, O, _⟩ := ins_get I.hok hb
  obtain ⟨od, J, _⟩ := O.look
  show wpAny _ _ (richCompare .NotEq _ _) _ _ s
  refine rc_snd (by omega) rfl (Looks.of_pure rfl) J.type (looks_mroIn I.kIn (K0.no "int" (by decide)).2) (dc_ne _ _ _ _ _ _ _ _ _ _ J.at_) (try_ne (show X.A.units + 1 < cLine from hu) I.kIn J K0.top K0.ne hs hf ?_)
  exact wpAny_mono (wpAny_call (SlX.run_at (us := [.ref b, .int i t]) (ws := [.ref b, .int i]) F hr.in1 I.env0.in1 hx I (.cons rfl (.cons ⟨t, rfl⟩ .nil)) q)) (fun w s' z => by
    obtain ⟨z', H', I', rz, k, rfl, qz⟩ := z
    cases (show w = Value.bool k from rz)
    exact ⟨k, rfl, .bl !k, H', I', rfl, qz⟩) fun _ _ x => x
theorem op_eqB (K0 : CmpC X.K C) (hs : findIn X.K (.ref C) "__eq__" = some (some (.ref f))) (hf : isFn X.K (.ref f) = true)
    (G : FnR X.prog X.w X.K X.mg X.base CX n f sp) (hr : Room n X.A) (hu : X.A.units < cLine) (hx : Passes CX X E) : OpR X (compareOp .Eq) (rEqB C sp E) := by
  intro pins s σ H x y v u Q I rx ry h
  obtain ⟨b, dy, gs, bi, rfl, hb, q⟩ := h
  cases (show u = Value.ref b from ry)
  obtain ⟨mB, O, _⟩ := ins_get I.hok hb
  obtain ⟨od, J, _⟩ := O.look
  have two : wpAny (model X.prog X.w) X.A (tryCompare (.ref b) (cmpInfo .Eq).2.2 v) (fun r s' => ∃ z, r = some z ∧ EP X pins σ Q z s') X.xe s := by
    refine try_own I.kIn J hs hf ?_
    exact wpAny_mono (wpAny_call (run_fnR (us := [.ref b, v]) (vs := [.ref b, x]) G hr hx I (.cons rfl (.cons rx .nil)) q)) (fun w s' z => by
      obtain ⟨z', H', I', rz, qz⟩ := z
      exact SlX.cmpback rz ⟨z', H', I', rz, qz⟩) fun _ _ x => x
  show wpAny _ _ (richCompare .Eq _ _) _ _ s
  cases bi with
  | non =>
    cases (show v = Value.none from rx)
    exact rc_snd hu rfl (Looks.of_pure rfl) J.type (looks_mroIn I.kIn (K0.no "NoneType" (by decide)).2) (wpAny_tryCompare_declines (show s.TypeIs .none "NoneType" from rfl) F.slot_NoneType_eq (call_gives F.slot_NoneType_eq rfl F.entry_NoneType_eq (F.args_NoneType_eq_2 _ _) (SeqAt.NoneType___eq___none_ref_0 b) ⟨rfl, rfl, rfl⟩)) two
  | bl k =>
    cases (show v = Value.bool k from rx)
    exact rc_snd hu rfl (Looks.of_pure rfl) J.type (looks_mroIn I.kIn (K0.no "bool" (by decide)).2) (wpAny_tryCompare_declines (show s.TypeIs (.bool k) "bool" from rfl) F.slot_bool_eq (call_meets F.slot_bool_eq rfl F.entry_int_eq (F.args_int_eq_2 _ _) (bool_eq_ins k) ⟨J.at_, rfl, rfl, rfl⟩)) two
  | int i =>
    obtain ⟨t, e⟩ := (show ∃ t, v = Value.int i t from rx)
    cases e
    exact rc_snd hu rfl (Looks.of_pure rfl) J.type (looks_mroIn I.kIn (K0.no "int" (by decide)).2) (dc_eq _ _ _ _ _ _ _ _ _ _ J.at_) two
  | str z =>
    obtain ⟨t, e⟩ := (show ∃ t, v = Value.str z t from rx)
    cases e
    exact rc_snd hu rfl (Looks.of_pure rfl) J.type (looks_mroIn I.kIn (K0.no "str" (by decide)).2) (wpAny_tryCompare_declines (typeIs_str s z t) F.slot_str_eq (call_meets F.slot_str_eq (typeIs_str s z t) F.entry_str_eq (F.args_str_eq_2 _ _) (str_eq_ins z t) ⟨J.at_, rfl, rfl, rfl⟩)) two
  | @lst a xs e =>
    cases (show v = Value.ref a from rx)
    obtain ⟨_, _, n, _, h1⟩ := (show ObjOk X.prog X.w H s.heap a (.lst xs) from I.hok a _ e)
    have ht : s.TypeIs (.ref a) "list" := ⟨_, h1, rfl⟩
    exact rc_snd hu rfl (looks_ty I rx (.lst e)) J.type (looks_mroIn I.kIn (K0.no "list" (by decide)).2) (wpAny_tryCompare_declines ht F.slot_list_eq (wpAny_call (codeAny_call_builtin F.slot_list_eq.plain F.entry_list_eq (F.slot_list_eq.check _ _ _ _ _ _ _ _ ht (F.args_list_eq_2 _ _) (list_eq_ins I.kIn J (K0.no "list" (by decide)).2 ⟨rfl, rfl, rfl⟩))))) two
  | @tup a xs e =>
    cases (show v = Value.ref a from rx)
    obtain ⟨_, _, _, o, h1, h2, _⟩ := (show ObjOk X.prog X.w H s.heap a (.tup xs) from I.hok a _ e)
    have ht : s.TypeIs (.ref a) "tuple" := ⟨o, h1, h2⟩
    exact rc_snd hu rfl (looks_ty I rx (.tup e)) J.type (looks_mroIn I.kIn (K0.no "tuple" (by decide)).2) (wpAny_tryCompare_declines ht F.slot_tuple_eq (wpAny_call (codeAny_call_builtin F.slot_tuple_eq.plain F.entry_tuple_eq (F.slot_tuple_eq.check _ _ _ _ _ _ _ _ ht (F.args_tuple_eq_2 _ _) (tup_eq_ins I.kIn J (K0.no "tuple" (by decide)).2 ⟨rfl, rfl, rfl⟩))))) two
  | @dK a kvs e =>
    cases (show v = Value.ref a from rx)
    obtain ⟨_, _, vs, _, o, es, ep, h1, h2, _⟩ := (show ObjOk X.prog X.w H s.heap a (.dK kvs) from I.hok a _ e)
    have ht : s.TypeIs (.ref a) "dict" := ⟨o, h1, h2.1⟩
    exact rc_snd hu rfl (looks_ty I rx (.dK e)) J.type (looks_mroIn I.kIn (K0.no "dict" (by decide)).2) (wpAny_tryCompare_declines ht F.slot_dict_eq (wpAny_call (codeAny_call_builtin F.slot_dict_eq.plain F.entry_dict_eq (F.slot_dict_eq.check _ _ _ _ _ _ _ _ ht (F.args_dict_eq_2 _ _) (dict_eq_ins h1 h2.1 I.kIn J (K0.no "dict" (by decide)).2 ⟨rfl, rfl, rfl⟩))))) two
end
end CmX
/-! ### a staticmethod called off its class -/
namespace StX
/-- C.m is a staticmethod around the def at g -/
structure SMet (K : PySem.W.Frag) (C : Addr) (m : Str) (p g : Addr) : Prop where
  rd : ClX.CRead K C (.type "type")
  at_ : PySem.W.findCls K (.ref C) (.type "type") m = some (.get (.builtin "staticmethod.__get__") (.ref p) .none (.ref C))
  rc : ∃ rest, PySem.W.recIn K p "staticmethod" = some (.ref g :: rest)
  kp : PySem.W.keepIn K (.ref g) = true
def smB (K : PySem.W.Frag) (C : Addr) (m : Str) : Bool := PySem.W.readsIn K C (.type "type") && (He.eqO (PySem.W.specialIn K (.ref C) "__getattribute__") (some (some (.builtin "type.__getattribute__"))) && (He5.wrapB K C "staticmethod" "staticmethod.__get__" m && PySem.W.keepIn K (.ref (He5.wf K C "staticmethod" m))))
theorem smB_ok {K : PySem.W.Frag} {C : Addr} {m : Str} (h : smB K C m = true) : SMet K C m (He.ma K C m) (He5.wf K C "staticmethod" m) := by
  obtain ⟨h1, h⟩ := He.ba h
  obtain ⟨h2, h⟩ := He.ba h
  obtain ⟨h3, h4⟩ := He.ba h
  obtain ⟨k1, k2⟩ := He5.wrapB_ok h3
  exact ⟨⟨h1, He.eqO_ok h2⟩, k1, k2, h4⟩
/-- C.m(..) -/
def tSMeth (C : Addr) (sp : Sp) (dvs : List V) (E : XK) (ta : TE) (t : TA) : TE := fun σ H Q => ta σ H fun x H1 => x = .ref C ∧ t σ H1 fun vs H2 => sp (vs ++ dvs) H2 Q E
section
variable {X : Cx} {CX : CXT} {k : Nat} {C p g : Addr} {fd : FuncData} {ps : List Str} {dvs : List V} {ds : List Value} {sp : Sp} {E : XK} {o e : Expr} {es : List Expr} {m : Str} {pos apos : Pos} {ta : TE} {t : TA} {pl : Sem Bool}
theorem pe_smeth (he : PE X o ta) (c : SMet X.K C m p g) (F : FnOk X.prog X.w X.K X.mg X.base CX k g fd ps sp) (hr : Room k X.A) (hb : Binds X.K fd ps ds) (hd : Vals dvs ds) (hx : Passes CX X E) (ha : PA X (e :: es) t)
    (hst : starEach (e :: es) X.env = (false, eval e X.env) :: starEach es X.env := by rfl) (hpl : (backTo pos (starEach es X.env)).any (·.1) = false := by rfl)
    (ht : eval (.Call (.Attribute o m apos) (e :: es) [] pos) X.env = (do
      let ov ← eval o X.env
      standAt apos.atName
      let (f, first) ← holding [ov] (getMethod ov m pl)
      callWith pos f first (backTo pos (starEach (e :: es) X.env)) (backToKw pos (keywordEach [] X.env))) := by rfl) :
    PE X (.Call (.Attribute o m apos) (e :: es) [] pos) (tSMeth C sp dvs E ta t) := by
  refine ⟨fun pins s σ H Q I h => ?_⟩
  refine PySem.W.methodCall_KW (pl := pl) (thn (he.run pins s σ H _ I h) fun u s1 ⟨x, H1, I1, rx, ex, q⟩ => ?_) ht
  subst ex
  obtain rfl : u = Value.ref C := rx
  obtain ⟨rest, hp⟩ := c.rc
  refine PySem.W.method_cls I1.kIn c.rd.ga (PySem.W.cls_bind I1.kIn c.rd.rd c.at_ ?_)
  refine wpAny_call (PySem.W.sm_get (s := { s1 with toks := s1.toks + 1 }) I1.kIn hp (PySem.W.handed_on rfl ?_))
  have I2 := I1.tok (s1.toks + 1 + 1)
  refine PySem.W.callWith_K (first := []) (h₀ := X.base) I.ok.mod.kin c.kp (thn (ha.run pos pins _ σ H1 _ (I1.tok _) q) fun us s2 ⟨vs, H2, I2, r, q2⟩ => ⟨I2.kIn, ?_⟩) hst hpl
  exact run_fn F hr hb hd hx I2 r q2
end
end StX
/-! ### what is a number, by kinds -/
namespace NuX
/-- is_integer, is_number of a thing of type t -/
def KI (K : PySem.W.Frag) (t : Value) (b : Bool) : Prop := ∃ bi bb, PySem.W.kitOne K t (.type "int") = some bi ∧ PySem.W.kitOne K t (.type "bool") = some bb ∧ b = (bi && !bb)
def KN (K : PySem.W.Frag) (t : Value) (b : Bool) : Prop := ∃ bs, PySem.W.kitOne K t (.ref (He.ga K "Share")) = some bs ∧ ((bs = true ∧ b = true) ∨ (bs = false ∧ KI K t b))
def knB (K : PySem.W.Frag) (t : Value) (b : Bool) : Bool := match PySem.W.kitOne K t (.ref (He.ga K "Share")), PySem.W.kitOne K t (.type "int"), PySem.W.kitOne K t (.type "bool") with
  | some true, _, _ => b
  | some false, some bi, some bb => b == (bi && !bb)
  | _, _, _ => false
theorem knB_ok {K : PySem.W.Frag} {t : Value} {b : Bool} (h : knB K t b = true) : KN K t b := by
  unfold knB at h
  split at h
  · rename_i e
    exact ⟨true, e, .inl ⟨rfl, h⟩⟩
  · rename_i bi bb e1 e2 e3
    exact ⟨false, e1, .inr ⟨rfl, bi, bb, e2, e3, eq_of_beq h⟩⟩
  · cases h
end NuX
/-! ### zip of a tuple and a list -/
namespace ZmX
/-- the tuple at a and the list at b as they stand at each turn, the items in new pairs -/
def ItM (K : PySem.W.Frag) (a b : Addr) : It :=
  ⟨fun i H => ∃ xs ys x y, SqT K H a xs ∧ SqL K H b ys ∧ xs[i]? = some x ∧ ys[i]? = some y,
    fun i H v H' => ∃ T x y, v = V.ref T ∧ H T = none ∧ H' = upd H T (.tup [x, y]) ∧ (∀ xs, SqT K H a xs → xs[i]? = some x) ∧ (∀ ys, SqL K H b ys → ys[i]? = some y),
    fun i H => ∃ xs ys, SqT K H a xs ∧ SqL K H b ys ∧ i ≤ xs.length ∧ i ≤ ys.length ∧ (i = xs.length ∨ i = ys.length)⟩
def cells (n : Nat) : List Addr := [n + 4, n + 2, n + 3, n, n + 1]
theorem nin {c x y : Nat} (h1 : c ≠ x) (h2 : c ≠ y) : c ∉ [x, y] := by simp [h1, h2]
theorem sep {n a b : Nat} (ha : a < n) (hb : b < n) : ZipSep2 (n + 4) (n + 2) (n + 3) n (n + 1) [n, a] [n + 1, b] := by
  have f : ∀ {x y : Nat}, x < y → x ≠ y := fun h e => by omega
  have g : ∀ {x y : Nat}, y < x → x ≠ y := fun h e => by omega
  exact ⟨f (by omega), f (by omega), f (by omega), g (by omega), List.mem_cons_self, nin (g (by omega)) (g (by omega)), nin (g (by omega)) (g (by omega)), g (by omega), List.mem_cons_self, nin (g (by omega)) (g (by omega)), nin (g (by omega)) (g (by omega)), nin (f (by omega)) (g (by omega)), nin (g (by omega)) (g (by omega))⟩
/-- the zip's objects over a and b, at place i -/
structure At (n a b i : Nat) (h : Heap) : Prop where
  z : IsZip h (n + 4) (n + 2) (n + 3) .none
  ti : IsPair h (n + 2) (.ref n) (.ref (n + 1))
  to : ∃ x y, IsPair h (n + 3) x y
  one : h.IsTupleIter n a i
  two : h.IsListIter (n + 1) b i
theorem mem_cells {n c : Nat} : c ∈ cells n ↔ c = n + 4 ∨ c = n + 2 ∨ c = n + 3 ∨ c = n ∨ c = n + 1 := by simp [cells]
theorem lt_size_of {h : Heap} {n a b i c : Nat} (st : At n a b i h) (hc : c ∈ cells n) : ∃ o, h.get? c = some o ∧ ∀ v, o.data ≠ .cell v := by
  obtain ⟨hz, ht, ⟨x, y, hto⟩, ⟨o1, e1, _, d1⟩, ⟨o2, e2, _, d2⟩⟩ := st
  rcases mem_cells.mp hc with rfl | rfl | rfl | rfl | rfl
  · exact ⟨_, hz, fun v q => nomatch q⟩
  · exact ⟨_, ht, fun v q => nomatch q⟩
  · exact ⟨_, hto, fun v q => nomatch q⟩
  · exact ⟨o1, e1, fun v q => by rw [d1] at q; cases q⟩
  · exact ⟨o2, e2, fun v q => by rw [d2] at q; cases q⟩
theorem turnM {P : Program} {w : World} {K : PySem.W.Frag} {elts : List Expr} {kk : Nat} {tpos : Pos} {n a b : Nat} (ha : a < n) (hb : b < n) :
    Turn P w K (.Tuple elts kk tpos) (ItM K a b) (cells n) (n + 4) (fun i h => At n a b i h) where
  mem := mem_cells.mpr (.inl rfl)
  obj := fun i h st c hc => lt_size_of st hc
  keep := fun i h h' st k => by
    obtain ⟨hz, ht, ⟨x, y, hto⟩, h1, h2⟩ := st
    exact ⟨k _ (mem_cells.mpr (.inl rfl)) _ hz, k _ (mem_cells.mpr (.inr (.inl rfl))) _ ht, ⟨x, y, k _ (mem_cells.mpr (.inr (.inr (.inl rfl)))) _ hto⟩, h1.at fun o q => k _ (mem_cells.mpr (by simp)) o q, h2.at fun o q => k _ (mem_cells.mpr (by simp)) o q⟩
  item := by
    intro X hP hw hK hc i pins s σ H E I hf st hg
    subst hP hw hK
    obtain ⟨xs, ys, x, y, qx, qy, ex, ey⟩ := hg
    obtain ⟨its, rv, p, _⟩ := I.tuple qx
    obtain ⟨its2, rv2, p2, _⟩ := I.list qy
    obtain ⟨u, hu, ru⟩ := rv.get ex
    obtain ⟨u2, hu2, ru2⟩ := rv2.get ey
    have f : ∀ {x y : Nat}, x < y → x ≠ y := fun h e => by omega
    have g : ∀ {x y : Nat}, y < x → x ≠ y := fun h e => by omega
    have hd : X.A.in1.handled = none := I.ok.hd hc
    obtain ⟨hz, ht, ⟨x0, y0, hto⟩, h1, h2⟩ := id st
    have zl : n + 4 < s.heap.objs.size := Heap.lt_size hz
    have i1 : i < its.length := (List.getElem?_eq_some_iff.mp hu).1
    have i2 : i < its2.length := (List.getElem?_eq_some_iff.mp hu2).1
    have below : ∀ c ∈ cells n, c < s.heap.objs.size := fun c hcm => by
      obtain ⟨o, e, _⟩ := lt_size_of st hcm
      exact Heap.lt_size e
    refine wpAny_pyNext_zipD2_item (sep ha hb) (Draws.tuple hd n a (f ha) its.toArray) (Draws.list hd (n + 1) b (f (Nat.lt_succ_of_lt hb)) its2.toArray) hz ht hto ⟨h1, p⟩ ⟨h2, p2.isList⟩ (by simpa using i1) (by simpa using i2)
      fun v1 v2 h' tk e1 e2 z' to' st1 st2 hT hsz hk => ?_
    have e1 : its[i]? = some v1 := by simpa using e1
    have e2 : its2[i]? = some v2 := by simpa using e2
    rw [hu] at e1
    rw [hu2] at e2
    cases e1
    cases e2
    refine ⟨_, rfl, wpAny_letOwnedTupleGo_zip (s := { s with heap := h', toks := tk }) z' fun h'' z'' sb => ?_⟩
    have nz : s.heap.objs.size ≠ n + 4 := Nat.ne_of_gt zl
    have new : ObjOk X.prog X.w (upd H s.heap.objs.size (.tup [x, y])) h'' s.heap.objs.size (.tup [x, y]) :=
      ⟨by show 2 ≤ sizeLine; decide, [u, u2], .cons ru (.cons ru2 .nil), ⟨_, (sb.2 _ nz).trans hT, rfl, _, rfl⟩⟩
    have I1 : Inv X pins σ (upd H s.heap.objs.size (.tup [x, y])) { s with heap := h'', toks := tk } :=
      I.turnedNew (t' := tk) (ch := cells n) (fun c o nc q => (sb.2 c (fun q' => nc (mem_cells.mpr (.inl q')))).trans
        (hk c o (fun q' => nc (mem_cells.mpr (.inl q'))) (fun q' => nc (mem_cells.mpr (.inr (.inr (.inl q'))))) (fun q' => nc (mem_cells.mpr (.inr (.inr (.inr (.inl q')))))) (fun q' => nc (mem_cells.mpr (.inr (.inr (.inr (.inr q')))))) q)) hf (Nat.le_refl _) new
    refine ⟨.ref s.heap.objs.size, _, I1, rfl, ⟨_, x, y, rfl, I.hok.fresh (Nat.le_refl _), rfl, fun l hl => by rw [I.tuple_inj hl qx]; exact ex, fun l hl => by rw [I.list_inj hl qy]; exact ey⟩, ⟨z'', ?_, ⟨u, u2, ?_⟩, ?_, ?_⟩, fun c hcm => ?_⟩
    · exact (sb.2 _ (f (by omega))).trans (hk _ _ (f (by omega)) (f (by omega)) (g (by omega)) (g (by omega)) ht)
    · exact (sb.2 _ (f (by omega))).trans to'
    · exact st1.1.at fun o q => (sb.2 _ (f (by omega))).trans q
    · exact st2.1.at fun o q => (sb.2 _ (f (by omega))).trans q
    · rw [upd_ne (Nat.ne_of_lt (below c hcm))]
      exact (hf c hcm).1
  done := by
    intro X hP hw hK hc i pins s σ H E I hf st hg
    subst hP hw hK
    obtain ⟨xs, ys, qx, qy, m1, m2, hend⟩ := hg
    obtain ⟨its, rv, p, _⟩ := I.tuple qx
    obtain ⟨its2, rv2, p2, _⟩ := I.list qy
    have f : ∀ {x y : Nat}, x < y → x ≠ y := fun h e => by omega
    have hd : X.A.in1.handled = none := I.ok.hd hc
    obtain ⟨hz, ht, ⟨x0, y0, hto⟩, h1, h2⟩ := id st
    have l1 := rv.length
    have l2 := rv2.length
    exact wpAny_pyNext_zipD2_end (sep ha hb) (Draws.tuple hd n a (f ha) its.toArray) (Draws.list hd (n + 1) b (f (Nat.lt_succ_of_lt hb)) its2.toArray) hz ht hto ⟨h1, p⟩ ⟨h2, p2.isList⟩ (by simp; omega) (by simp; omega) (by simp; omega)
      fun h' tk hk => ⟨rfl, I.turnedL (t' := tk) (ch := cells n) (fun c o nc q => hk c o (fun q' => nc (mem_cells.mpr (.inl q'))) (fun q' => nc (mem_cells.mpr (.inr (.inr (.inl q'))))) (fun q' => nc (mem_cells.mpr (.inr (.inr (.inr (.inl q')))))) (fun q' => nc (mem_cells.mpr (.inr (.inr (.inr (.inr q')))))) q) hf⟩
  self := fun A i s Q E st h => wpAny_pyIter_zip st.z h
/-- zip's object, new -/
def it1 (h : Heap) (a : Addr) : Heap := h.push { cls := .type "tuple_iterator", data := .fields #[.ref a, .int 0 0] }
def it2 (h : Heap) (a b : Addr) : Heap := (it1 h a).push { cls := .type "list_iterator", data := .fields #[.ref b, .int 0 0] }
def it3 (h : Heap) (a b : Addr) : Heap := (it2 h a b).push { cls := .type "tuple", data := .seq #[.ref h.objs.size, .ref (it1 h a).objs.size] }
def it4 (h : Heap) (a b : Addr) : Heap := (it3 h a b).push { cls := .type "tuple", data := .seq #[.none, .none] }
def it5 (h : Heap) (a b : Addr) : Heap := (it4 h a b).push { cls := .type "zip", data := .fields #[.none, .bool false, .bool false, .ref (it2 h a b).objs.size, .ref (it3 h a b).objs.size] }
theorem meets_new (a b : Addr) (xs ys : Array Value) : Meets (Builtin.«zip.__new__» ⟨[.type "zip", .ref a, .ref b], []⟩) (fun _ R s => s.heap.IsTuple a xs ∧ s.heap.IsList b ys ∧ R (.ok (.ret (.ref (it4 s.heap a b).objs.size))) { s with heap := it5 s.heap a b }) :=
  .of_wp fun prog w A R s h => by
    obtain ⟨hp, g, d, tk, os⟩ := s
    obtain ⟨ha, hb, h⟩ := h
    have hsub := sub_zip
    have h1 : Heap.IsTuple (Shared.heap ⟨hp, g, d, tk, os⟩) a xs := ha
    have h2 : Heap.IsList (Shared.heap ⟨it1 hp a, g, d, tk, os⟩) b ys := Heap.IsList.push hb _
    unfold it1 at h2
    wp_walk using wpAny_pyIter_tuple h1, wpAny_pyIter_list h2
    exact ⟨_, rfl, h⟩
section
variable {prog : Program} {w : World} {A : Around} {E : Value → Shared → Prop} {s : Shared}
theorem call_new {a b : Addr} {xs ys : Array Value} {Q : Value → Shared → Prop} (ha : s.heap.IsTuple a xs) (hb : s.heap.IsList b ys)
    (h : ∀ h', At s.heap.objs.size a b 0 h' → (∀ c o, s.heap.get? c = some o → h'.get? c = some o) → Q (.ref (s.heap.objs.size + 4)) { s with heap := h' }) : wpAny (model prog w) A (call (.type "zip") [.ref a, .ref b]) Q E s := by
  refine callType_new F.called_zip (by decide) (F.typeCall_zip_2 _ _) (F.newCall_zip_2 _ _) (fun obj => F.args_object_init_3 obj _ _) F.entry_zip_new (meets_new a b xs ys) ⟨ha, hb, ?_⟩
  have z1 : (it1 s.heap a).objs.size = s.heap.objs.size + 1 := Heap.size_push ..
  have z2 : (it2 s.heap a b).objs.size = s.heap.objs.size + 2 := (Heap.size_push ..).trans (congrArg (· + 1) z1)
  have z3 : (it3 s.heap a b).objs.size = s.heap.objs.size + 3 := (Heap.size_push ..).trans (congrArg (· + 1) z2)
  have z4 : (it4 s.heap a b).objs.size = s.heap.objs.size + 4 := (Heap.size_push ..).trans (congrArg (· + 1) z3)
  have k4 : ∀ c o, (it4 s.heap a b).get? c = some o → (it5 s.heap a b).get? c = some o := fun c o e => Heap.get?_push_of_some _ e
  have k3 : ∀ c o, (it3 s.heap a b).get? c = some o → (it5 s.heap a b).get? c = some o := fun c o e => k4 c o (Heap.get?_push_of_some _ e)
  have k2 : ∀ c o, (it2 s.heap a b).get? c = some o → (it5 s.heap a b).get? c = some o := fun c o e => k3 c o (Heap.get?_push_of_some _ e)
  have k1 : ∀ c o, (it1 s.heap a).get? c = some o → (it5 s.heap a b).get? c = some o := fun c o e => k2 c o (Heap.get?_push_of_some _ e)
  have g5 : (it5 s.heap a b).get? (it4 s.heap a b).objs.size = some _ := Heap.get?_push_size _ rfl
  have g4 : (it5 s.heap a b).get? (it3 s.heap a b).objs.size = some _ := k4 _ _ (Heap.get?_push_size _ rfl)
  have g3 : (it5 s.heap a b).get? (it2 s.heap a b).objs.size = some _ := k3 _ _ (Heap.get?_push_size _ rfl)
  have g2 : (it5 s.heap a b).get? (it1 s.heap a).objs.size = some _ := k2 _ _ (Heap.get?_push_size _ rfl)
  have g1 : (it5 s.heap a b).get? s.heap.objs.size = some _ := k1 _ _ (Heap.get?_push_size _ rfl)
  rw [z2, z3, z4] at g5
  rw [z1, z2] at g3
  rw [z3] at g4
  rw [z1] at g2
  rw [z4]
  exact ⟨⟨_, g5, rfl⟩, h _ ⟨g5, g3, ⟨_, _, g4⟩, ⟨_, g1, rfl, rfl⟩, ⟨_, g2, rfl, rfl⟩⟩ fun c o e => k1 c o (Heap.get?_push_of_some _ e)⟩
end
def iZipM (K : PySem.W.Frag) (ta : TA) : TI := fun σ H R => ta σ H fun vs H1 => ∃ a b xs ys, vs = [.ref a, .ref b] ∧ SqT K H1 a xs ∧ SqL K H1 b ys ∧ R (ItM K a b) H1
theorem pi_zipM {X : Cx} {e e2 : Expr} {ta : TA} {p pos tpos : Pos} {elts : List Expr} {kk : Nat} (hg : Gl X "zip") (hm : X.mg "zip" = none) (ha : PA X [e, e2] ta)
    (hs : starEach [e, e2] X.env = (false, eval e X.env) :: starEach [e2] X.env := by rfl) (hpl : (backTo pos (starEach [e2] X.env)).any (·.1) = false := by rfl) :
    PI X (.Tuple elts kk tpos) (.Call (.Name "zip" p) [e, e2] [] pos) (iZipM X.K ta) := by
  refine ⟨fun pins s σ H R I h => ?_⟩
  refine Call_ (ld_blt I hg hm PyProof.Rows.boot_zip (PyProof.Rows.callWith_type1 (thn (ha.run pos pins s σ H _ I h) fun us s1 ⟨vs, H1, I1, r1, a, b, xs, ys, ex, qx, qy, q⟩ => ?_) hs hpl))
  subst ex
  cases r1 with
  | cons r rr =>
    cases rr with
    | cons r' rr =>
      cases rr
      cases r
      cases r'
      obtain ⟨its, rv, p1, _⟩ := I1.tuple qx
      obtain ⟨its2, rv2, p2, _⟩ := I1.list qy
      obtain ⟨o1, ho1, _⟩ := id p1
      refine call_new (show s1.heap.IsTuple a its.toArray from p1) p2.isList fun h' st hk => wpAny_pyIter_zip st.z ?_
      refine ⟨s1.heap.objs.size + 4, cells s1.heap.objs.size, _, _, H1, rfl, I1.kept (t' := s1.toks) hk, turnM (Heap.lt_size ho1) p2.lt, st, fun c hcm => ?_, q⟩
      have hle : s1.heap.objs.size ≤ c := by
        rcases mem_cells.mp hcm with e | e | e | e | e
        · exact e ▸ Nat.le_add_right _ _
        · exact e ▸ Nat.le_add_right _ _
        · exact e ▸ Nat.le_add_right _ _
        · exact e ▸ Nat.le_refl _
        · exact e ▸ Nat.le_add_right _ _
      exact I1.fpOk hle (I1.hok.fresh hle)
theorem walkM {K : PySem.W.Frag} {a b : Addr} {xs ys : List V} {n : Nat} (hn : n = min xs.length ys.length) : Walk (ItM K a b) n (fun H => SqT K H a xs ∧ SqL K H b ys) (YPair (fun i => xs[i]?) (fun i => ys[i]?)) where
  goes := fun i H hi h => ⟨xs, ys, xs[i], ys[i], h.1, h.2, List.getElem?_eq_getElem (by omega), List.getElem?_eq_getElem (by omega)⟩
  stops := fun H h => ⟨xs, ys, h.1, h.2, by omega, by omega, by omega⟩
  yields := fun i H x H' hi h y => by
    obtain ⟨T, x', y', e1, e2, e3, f1, f2⟩ := y
    exact ⟨T, x', y', e1, e2, e3, f1 xs h.1, f2 ys h.2⟩
end ZmX
/-! ### == of two tuples of three -/
namespace T3X
open PySem.W (Looks)
section
variable {prog : Program} {w : World} {A : Around} {R : Result → Shared → Prop} {E : Value → Shared → Prop}
theorem tup3 {l b : Addr} {v0 v1 v2 w0 w1 w2 : Value} {n n2 : Nat} {dd dd2 : Option Addr} {sl sl2 : Array (Option Value)} {s : Shared} (hl : s.heap.get? l = some { cls := .type "tuple", dict := dd, data := .seq #[v0, v1, v2] n, slots := sl }) (hb : s.heap.get? b = some { cls := .type "tuple", dict := dd2, data := .seq #[w0, w1, w2] n2, slots := sl2 })
    (h : wpAny (model prog w) A (eqBool v0 w0) (fun r s1 => if r = true then wpAny (model prog w) A (eqBool v1 w1) (fun r s2 => if r = true then wpAny (model prog w) A (eqBool v2 w2) (fun r s3 => R (.ok (.ret (.bool r))) s3) E s2 else R (.ok (.ret (.bool false))) s2) E s1 else R (.ok (.ret (.bool false))) s1) E s) :
    wpAny (model prog w) A (Builtin.«tuple.__eq__» ⟨[.ref l, .ref b], []⟩) (fun fin s' => ∃ v, fin = .done (.ret v) ∧ R (.ok (.ret v)) s') E s := by
  have f2 := AutoSeq1.sub_tuple_tuple
  unfold Builtin.«tuple.__eq__»
  refine wpAny_bind (m := slotArgs "__eq__" 1 _) (wpAny_pure ?_)
  refine wpAny_bind (wpAny_isInstance (T := "tuple") (b := true) ⟨_, hb, rfl⟩ f2 ?_)
  simp only [Bool.not_true, Bool.false_eq_true, if_false]
  refine wpAny_bind (wpAny_tupleItemsOf hl rfl ?_)
  refine wpAny_bind (wpAny_tupleItemsOf hb rfl ?_)
  simp only [List.zip_cons_cons, List.zip_nil_left, List.forIn_cons, List.forIn_nil]
  refine wpAny_bind (wpAny_bind (wpAny_bind (wpAny_mono h (fun r s1 h1 => ?_) fun _ _ x => x)))
  cases r with
  | false =>
    have q : R (.ok (.ret (.bool false))) s1 := by simpa using h1
    simp only [Bool.not_false, if_true]
    exact wpAny_bind (wpAny_pure (wpAny_pure (wpAny_pure (wpAny_pure ⟨_, rfl, q⟩))))
  | true =>
    rw [if_pos rfl] at h1
    simp only [Bool.not_true, Bool.false_eq_true, if_false]
    refine wpAny_pure (wpAny_bind (wpAny_bind (wpAny_mono h1 (fun r s2 h2 => ?_) fun _ _ x => x)))
    cases r with
    | false =>
      have q : R (.ok (.ret (.bool false))) s2 := by simpa using h2
      simp only [Bool.not_false, if_true]
      exact wpAny_bind (wpAny_pure (wpAny_pure (wpAny_pure (wpAny_pure ⟨_, rfl, q⟩))))
    | true =>
      rw [if_pos rfl] at h2
      simp only [Bool.not_true, Bool.false_eq_true, if_false]
      refine wpAny_pure (wpAny_bind (wpAny_bind (wpAny_mono h2 (fun r s3 h3 => ?_) fun _ _ x => x)))
      cases r with
      | false =>
        simp only [Bool.not_false, if_true]
        exact wpAny_bind (wpAny_pure (wpAny_pure (wpAny_pure (wpAny_pure ⟨_, rfl, h3⟩))))
      | true =>
        simp only [Bool.not_true, Bool.false_eq_true, if_false]
        exact wpAny_pure (wpAny_pure (wpAny_pure ⟨_, rfl, h3⟩))
end
/-! shares in them -/
section
variable {X : Cx} {n : Nat}
/-- == of two objects of one class by its own __eq__, as == within a tuple asks it -/
def Eq1 (X : Cx) (n : Nat) (C : Addr) (sp : Sp) (E : XK) : Prop := ∀ (A : Around) (pins : List (Addr × Obj)) (s : Shared) (σ : L2.St) (H : Hp) (a b da db : Addr) (fs gs : List (Str × V)) (Q : Bool → Hp → Prop), Room n A → A.units < cLine → Env0 X.prog X.w X.K X.mg X.base A X.stack s H → Inv X pins σ H s → H a = some (.ins C da fs) → H b = some (.ins C db gs) →
  (a = b → Q true H) → sp [.ref a, .ref b] H (fun v H' => ∃ k, v = .bl k ∧ Q k H') E → wpAny (model X.prog X.w) A (eqBool (.ref a) (.ref b)) (fun r s' => ∃ H', Inv X pins σ H' s' ∧ Q r H') X.xe s
theorem eq1_own {CX : CXT} {sp : Sp} {E : XK} {C f : Addr} (hs : PySem.W.findIn X.K (.ref C) (cmpInfo .Eq).2.1 = some (some (.ref f))) (hf : PySem.W.isFn X.K (.ref f) = true) (F : FnR X.prog X.w X.K X.mg X.base CX n f sp) (hx : Passes CX X E) : Eq1 X n C sp E := by
  intro A pins s σ H a b da db fs gs Q hr hu e0 I ha hb hq h
  by_cases hab : a = b
  · subst hab
    unfold eqBool
    refine wpAny_holding ?_
    rw [if_pos (beq_self_eq_true _)]
    exact wpAny_bind (wpAny_rule (wpAny_pure ⟨H, I, hq rfl⟩))
  · obtain ⟨mA, O, _⟩ := ins_get I.hok ha
    obtain ⟨od, J, _⟩ := O.look
    obtain ⟨mB, O', _⟩ := ins_get I.hok hb
    obtain ⟨od', J', _⟩ := O'.look
    refine GQ.eqBool_refG hab ?_
    refine CmX.rc_fst hu rfl J.type J'.type (fun q => by simp at q) (CmX.try_own I.kIn J hs hf ?_)
    exact wpAny_mono (wpAny_call (SlX.run_at (us := [.ref a, .ref b]) (ws := [.ref a, .ref b]) F hr e0 hx I (.cons rfl (.cons rfl .nil)) h)) (fun w s' z => by
      obtain ⟨z', H', I', rz, k, rfl, qz⟩ := z
      cases (show w = Value.bool k from rz)
      exact ⟨k, rfl, H', I', qz⟩) fun _ _ x => x
end
end T3X
/-! ### a def that returns NotImplemented at its first if -/
namespace NiX
open PySem.W (Looks InstAt findIn isFn selfFirst mroIn looks_mroIn ksp_first ksp_try fills_K instObj looks_findIn subIn looks_subIn ksp_inPy)
/-- f, called so, returns NotImplemented, the heap becoming what R says -/
def FnN (P : Program) (w : World) (K : PySem.W.Frag) (mg : Str → Option Value) (base : Heap) (k : Nat) (f : Addr) (sp : List V → Hp → (Hp → Prop) → Prop) : Prop :=
  ∀ (A : Around) (outer : List Env) (s : Shared) (H : Hp) (us : List Value) (vs : List V) (R : Hp → Prop), Room k A → Env0 P w K mg base A outer s H → Vals vs us → sp vs H R →
    codeAny (model P w) A (.call (.ref f) ⟨us, []⟩) (fun r s' => r = .ok (.ret .notImplemented) ∧ CE outer P w H s (fun _ H' => R H') .none s') s
section
variable {P : Program} {w : World} {K : PySem.W.Frag} {mg : Str → Option Value} {base : Heap} {x qual : Str} {params : Arguments} {body : List Stmt} {scope : Scope} {f : Addr} {fd : FuncData} {ps N : List Str} {k : Nat} {sp : List V → Hp → (Hp → Prop) → Prop}
  {tst : Expr} {p1 p2 p3 : Pos} {rest els : List Stmt}
theorem fnN (F : FunD K x qual params body scope [] [] f fd) (S : FnScope N ps scope) (hloc : ∀ y ∈ ps, scope.names.lookup y = some .local)
    (hb : ∀ (kV doc pm : Value) (an : Option Addr) (cdv ct : Value) (us : List Value), us.length = ps.length → bindArgs (PySem.W.fnOf x qual params body scope Value.none kV doc pm an cdv ct) { pos := us } = pure (ps.zip us))
    (hbody : body = .If tst [.Return (some (.Name "NotImplemented" p1)) p2] els p3 :: rest) (hg : ∀ (L a : Addr) (cdv : Value), (PyProof.Rows.envOfC qual scope L a cdv).kindOf ("NotImplemented" : Str) = some .globalImplicit) (hm : mg ("NotImplemented" : Str) = none)
    (len : ∀ vs H R, sp vs H R → vs.length = ps.length)
    (ht : ∀ (cdv : Value) (A : Around) (outer : List Env) (s : Shared) (H : Hp) (vs : List V) (R : Hp → Prop), Room k (A.deeper (PyProof.Rows.envOfC qual scope s.heap.objs.size f cdv)) → sp vs H R →
      ∃ t, PT (cxOf CX0 P w K mg base N qual scope f cdv A outer s H E0) tst t ∧ t (L2.start N vs) H (fun b H' => b = true ∧ R H')) : FnN P w K mg base (k + 1) f sp := by
  intro A outer s H us vs R hr e0 r hsp
  obtain ⟨oc, od, dV, kV, doc, pm, an, cdv, ct, osl, hfd, lk, code, dfl, kwd⟩ := F.ex
  have hd : dV = .none := by
    rcases dfl with ⟨_, e⟩ | ⟨h, _⟩
    · exact e
    · exact (h rfl).elim
  subst hd hfd
  have KX : K.In s.heap := e0.mod.kin.keeps fun b o e => (e0.bs b o e).1
  have lim : s.heap.NoLimit := e0.mod.nolimit.keeps fun b o e => (e0.bs b o e).1
  have hl : us.length = ps.length := by
    rw [← r.length]
    exact len vs H R hsp
  refine PySem.codeAny_call_cells (fd := PySem.W.fnOf x qual params body scope Value.none kV doc pm an cdv ct) (body := body) (binds := ps.zip us) hr.depth (KX _ _ lk) rfl lim (PySem.W.codeRec_of KX code) rfl (hb _ _ _ _ _ _ us hl) rfl (fun ⟨n, _⟩ hy => .inl (hloc n (List.of_mem_zip hy).1)) (fun s1 hin => ?_) S.co S.gen S.kind
  have I : L2.Inv (cxOf CX0 P w K mg base N qual scope f cdv A outer s H E0) [] (L2.start N vs) H s1 := inv_start S hr.hd e0 (len vs H R hsp) r hin
  have r' : Room k (A.deeper (PyProof.Rows.envOfC qual scope s.heap.objs.size f cdv)) := hr.deeper _
  obtain ⟨t, pt, h⟩ := ht cdv A outer s H vs R r' hsp
  subst hbody
  refine wpAny_execs_cons ?_
  rw [exec_If]
  refine wpAny_bind (wpAny_standAt ?_)
  refine wpAny_bind (wpAny_mono (pt.run [] s1 _ H _ I h) (fun b s2 z => ?_) (fun e s2 z => ?_))
  · obtain ⟨H2, I2, rfl, hR⟩ := z
    rw [if_pos rfl]
    refine wpAny_execs_cons ?_
    rw [exec_Return_some]
    exact wpAny_bind (wpAny_standAt (wpAny_bind (ld_blt I2 (hg _ _ _) hm (by decide +kernel) (wpAny_pure ⟨rfl, .non, H2, I2.os, I2.bare, I2.base, I2.hok, rfl, hR⟩))))
  · exact wpAny_mono z (fun _ _ h => h.elim) (fun _ _ h => h.elim)
end
section
variable {prog : Program} {w : World} {A : Around} {E : Value → Shared → Prop} {s : Shared} {K : PySem.W.Frag} {x y C D f g fr gr : Addr} {ox oy : Obj} {od od2 : Option Obj} {nm : String}
/-- an own method that returns NotImplemented -/
theorem try_no {M : Model} {name : Str} {b : Value} {Q : Shared → Prop} (X : K.In s.heap) (I : InstAt s.heap x ox C od) (hs : findIn K (.ref C) name = some (some (.ref f))) (hf : isFn K (.ref f) = true)
    (h : wpAny M A (call (.ref f) [.ref x, b]) (fun v s' => v = .notImplemented ∧ Q s') E s) : wpAny M A (tryMethod (.ref x) name b) (fun r s' => r = none ∧ Q s') E s := by
  unfold tryMethod
  refine wpAny_bind (PySem.W.special_fn X I hs (beq_iff_eq.mp hf) (wpAny_mono h (fun v s' z => ?_) fun _ _ e => e))
  obtain ⟨rfl, q⟩ := z
  exact wpAny_pure ⟨rfl, q⟩
/-- operands of two classes: the left one's method answers -/
theorem bin1_left {Q : Value → Shared → Prop} (X : K.In s.heap) (I : InstAt s.heap x ox C od) (J : InstAt s.heap y oy D od2) (hCD : C ≠ D) (hc : selfFirst K C = true) (hd : selfFirst K D = true) (hs : findIn K (.ref C) (PySem.dunder nm) = some (some (.ref f))) (hf : isFn K (.ref f) = true)
    (hr : findIn K (.ref C) (dunderR nm) = some (some (.ref fr))) (ht : findIn K (.ref D) (PySem.dunder nm) = some (some (.ref g))) (htr : findIn K (.ref D) (dunderR nm) = some (some (.ref gr))) (hsub : subIn K (.ref D) (.ref C) = some false)
    (h : wpAny (model prog w) A (call (.ref f) [.ref x, .ref y]) (PySem.W.CmpBack Q) E s) : wpAny (model prog w) A (binaryOp1 nm (.ref x) (.ref y)) (fun r s' => ∃ v, r = some v ∧ Q v s') E s := by
  obtain ⟨cd, rest, hcd, hm⟩ := ksp_first hc
  obtain ⟨cd2, rest2, hcd2, hm2⟩ := ksp_first hd
  have one := ksp_try X I hs hf h
  obtain ⟨hh, g', d, tt, os⟩ := s
  have l1 : Looks (model prog w) hh (typeOf (.ref x)) (.ref C) := I.type
  have l2 : Looks (model prog w) hh (typeOf (.ref y)) (.ref D) := J.type
  have l3 : Looks (model prog w) hh (fillsNumberSlot (.ref C) nm) true := fills_K X hcd hm hs
  have l3' : Looks (model prog w) hh (fillsNumberSlot (.ref D) nm) true := fills_K X hcd2 hm2 ht
  have l4 : Looks (model prog w) hh (isSubtype (.ref D) (.ref C)) false := looks_subIn X hsub
  have l5 : Looks (model prog w) hh (numberSlotInPython (.ref C) nm) true := ksp_inPy X hs hr (.inr ⟨fr, rfl⟩)
  have l6 : Looks (model prog w) hh (numberSlotInPython (.ref D) nm) true := ksp_inPy X ht htr (.inr ⟨gr, rfl⟩)
  have hne : (Value.ref C == Value.ref D) = false := Bool.eq_false_iff.mpr fun q => hCD (by cases beq_iff_eq.mp q; rfl)
  unfold binaryOp1
  refine wpAny_bind (l1.at (wpAny_bind (l2.at (wpAny_bind (l3.at ?_)))))
  simp only [hne, Bool.false_eq_true, if_false]
  refine wpAny_bind (l3'.at ?_)
  simp only [Bool.and_self, if_true]
  refine wpAny_bind (l4.at ?_)
  simp only [Bool.false_eq_true, if_false, pure_bind, Bool.not_false, Bool.and_self, if_true]
  refine wpAny_bind (l5.at ?_)
  simp only [if_true]
  refine wpAny_bind (l6.at ?_)
  simp only [Bool.not_true, Bool.false_eq_true, if_false]
  refine wpAny_bind (wpAny_mono one (fun r s' hr' => ?_) fun _ _ e => e)
  obtain ⟨v, rfl, hq⟩ := hr'
  exact wpAny_pure ⟨v, rfl, hq⟩
/-- .. it declines, and the right one's method answers -/
theorem bin1_swap {Q : Value → Shared → Prop} (X : K.In s.heap) (I : InstAt s.heap x ox C od) (J : InstAt s.heap y oy D od2) (hCD : C ≠ D) (hc : selfFirst K C = true) (hd : selfFirst K D = true) (hs : findIn K (.ref C) (PySem.dunder nm) = some (some (.ref f))) (hf : isFn K (.ref f) = true)
    (hr : findIn K (.ref C) (dunderR nm) = some (some (.ref fr))) (ht : findIn K (.ref D) (PySem.dunder nm) = some (some (.ref g))) (htr : findIn K (.ref D) (dunderR nm) = some (some (.ref gr))) (hgr : isFn K (.ref gr) = true) (hsub : subIn K (.ref D) (.ref C) = some false)
    (h : wpAny (model prog w) A (call (.ref f) [.ref x, .ref y]) (fun v s' => v = .notImplemented ∧ K.In s'.heap ∧ (∃ ox od, InstAt s'.heap x ox C od) ∧ (∃ oy od, InstAt s'.heap y oy D od) ∧ wpAny (model prog w) A (call (.ref gr) [.ref y, .ref x]) (PySem.W.CmpBack Q) E s') E s) :
    wpAny (model prog w) A (binaryOp1 nm (.ref x) (.ref y)) (fun r s' => ∃ v, r = some v ∧ Q v s') E s := by
  obtain ⟨cd, rest, hcd, hm⟩ := ksp_first hc
  obtain ⟨cd2, rest2, hcd2, hm2⟩ := ksp_first hd
  have one := try_no X I hs hf h
  obtain ⟨hh, g', d, tt, os⟩ := s
  have l1 : Looks (model prog w) hh (typeOf (.ref x)) (.ref C) := I.type
  have l2 : Looks (model prog w) hh (typeOf (.ref y)) (.ref D) := J.type
  have l3 : Looks (model prog w) hh (fillsNumberSlot (.ref C) nm) true := fills_K X hcd hm hs
  have l3' : Looks (model prog w) hh (fillsNumberSlot (.ref D) nm) true := fills_K X hcd2 hm2 ht
  have l4 : Looks (model prog w) hh (isSubtype (.ref D) (.ref C)) false := looks_subIn X hsub
  have l5 : Looks (model prog w) hh (numberSlotInPython (.ref C) nm) true := ksp_inPy X hs hr (.inr ⟨fr, rfl⟩)
  have l6 : Looks (model prog w) hh (numberSlotInPython (.ref D) nm) true := ksp_inPy X ht htr (.inr ⟨gr, rfl⟩)
  have hne : (Value.ref C == Value.ref D) = false := Bool.eq_false_iff.mpr fun q => hCD (by cases beq_iff_eq.mp q; rfl)
  unfold binaryOp1
  refine wpAny_bind (l1.at (wpAny_bind (l2.at (wpAny_bind (l3.at ?_)))))
  simp only [hne, Bool.false_eq_true, if_false]
  refine wpAny_bind (l3'.at ?_)
  simp only [Bool.and_self, if_true]
  refine wpAny_bind (l4.at ?_)
  simp only [Bool.false_eq_true, if_false, pure_bind, Bool.not_false, Bool.and_self, if_true]
  refine wpAny_bind (l5.at ?_)
  simp only [if_true]
  refine wpAny_bind (l6.at ?_)
  simp only [Bool.not_true, Bool.false_eq_true, if_false]
  refine wpAny_bind (wpAny_mono one (fun r s' hr' => ?_) fun _ _ e => e)
  obtain ⟨rfl, X', ⟨ox', od', I'⟩, ⟨oy', od2', J'⟩, h'⟩ := hr'
  have two := ksp_try X' J' htr hgr h'
  obtain ⟨hh', g'', d', tt', os'⟩ := s'
  have m1 : Looks (model prog w) hh' (typeOf (.ref x)) (.ref C) := I'.type
  have m2 : Looks (model prog w) hh' (typeOf (.ref y)) (.ref D) := J'.type
  simp only []
  refine wpAny_bind (m1.at (wpAny_bind (m2.at ?_)))
  simp only [hne, Bool.false_eq_true, if_false]
  refine wpAny_bind (wpAny_mono two (fun r s' hr' => ?_) fun _ _ e => e)
  obtain ⟨v, rfl, hq⟩ := hr'
  exact wpAny_bind (wpAny_rule (wpAny_pure ⟨v, rfl, hq⟩))
end
end NiX
/-! ### operators between two own classes -/
section
variable {X : Cx} {CX : CXT} {n m : Nat} {sp : Sp} {spn : List V → Hp → (Hp → Prop) → Prop} {E : XK} {C D f fr g gr : Addr}
theorem run_fnN {pins : List (Addr × Obj)} {σ : L2.St} {H : Hp} {s : Shared} {us : List Value} {vs : List V} {R : Hp → Prop} (N : NiX.FnN X.prog X.w X.K X.mg X.base n f spn) (hr : Room n X.A) (I : Inv X pins σ H s) (r : Vals vs us) (h : spn vs H R) :
    codeAny (model X.prog X.w) X.A (.call (.ref f) ⟨us, []⟩) (fun r s' => match r with | .ok (.ret v) => v = .notImplemented ∧ ∃ H', Inv X pins σ H' s' ∧ R H' | .ok _ => False | .error e => X.xe e s') s := by
  refine codeAny_mono (N X.A X.stack s H us vs R hr I.env0 r h) (fun r s' z => ?_)
  obtain ⟨rfl, z⟩ := z
  obtain ⟨v, H', I', _, q⟩ := I.after z
  exact ⟨rfl, H', I', q⟩
/-- x op y by x's own def, y of another class -/
def rMixL (C D : Addr) (sp : Sp) (E : XK) : R2 := fun x y H Q => ∃ (a dx b dy : Addr) (fs gs : List (Str × V)), x = .ref a ∧ H a = some (.ins C dx fs) ∧ y = .ref b ∧ H b = some (.ins D dy gs) ∧ sp [x, y] H Q E
/-- x op y by y's own reflected def, x's own one declining -/
def rMixR (C D : Addr) (spn : List V → Hp → (Hp → Prop) → Prop) (sp : Sp) (E : XK) : R2 := fun x y H Q => ∃ (a b : Addr), x = .ref a ∧ y = .ref b ∧ (∃ (dx : Addr) (fs : List (Str × V)), H a = some (.ins C dx fs)) ∧ (∃ (dy : Addr) (gs : List (Str × V)), H b = some (.ins D dy gs)) ∧
  spn [x, y] H (fun H1 => (∃ (dx : Addr) (fs : List (Str × V)), H1 a = some (.ins C dx fs)) ∧ (∃ (dy : Addr) (gs : List (Str × V)), H1 b = some (.ins D dy gs)) ∧ sp [y, x] H1 Q E)
theorem bin1_mixL {nm : String} {pins : List (Addr × Obj)} {s : Shared} {σ : L2.St} {H : Hp} {x y : V} {v u : Value} {Q : VK} (o : OpAt X.K C nm f fr) (o2 : OpAt X.K D nm g gr) (hCD : C ≠ D) (hsub : PySem.W.subIn X.K (.ref D) (.ref C) = some false) (F : FnR X.prog X.w X.K X.mg X.base CX n f sp) (hr : Room n X.A) (hx : Passes CX X E)
    (I : Inv X pins σ H s) (rx : RelV x v) (ry : RelV y u) (h : rMixL C D sp E x y H Q) :
    (∃ (a : Addr) (od : Option Obj) (dx : Addr), v = .ref a ∧ PySem.W.InstAt s.heap a (PySem.W.instObj C dx) C od) ∧ wpAny (model X.prog X.w) X.A (binaryOp1 nm v u) (fun r s' => ∃ z, r = some z ∧ EP X pins σ Q z s') X.xe s := by
  obtain ⟨a, dx, b, dy, fs, gs, rfl, ha, rfl, hb, q⟩ := h
  cases (show v = Value.ref a from rx)
  cases (show u = Value.ref b from ry)
  obtain ⟨mA, O, _⟩ := ins_get I.hok ha
  obtain ⟨od, J, _⟩ := O.look
  obtain ⟨mB, O', _⟩ := ins_get I.hok hb
  obtain ⟨od', J', _⟩ := O'.look
  refine ⟨⟨a, _, _, rfl, J⟩, ?_⟩
  exact NiX.bin1_left I.kIn J J' hCD o.first o2.first o.at_ o.fn o.atR o2.at_ o2.atR hsub (wpAny_mono (wpAny_call (run_fnR (us := [.ref a, .ref b]) (vs := [.ref a, .ref b]) F hr hx I (.cons rfl (.cons rfl .nil)) q)) (fun w s' z => by
      obtain ⟨z', H', I', rz, qz⟩ := z
      exact SlX.cmpback rz ⟨z', H', I', rz, qz⟩) fun _ _ x => x)
theorem op_mixL {op : Operator} (o : OpAt X.K C op.info.2 f fr) (o2 : OpAt X.K D op.info.2 g gr) (hCD : C ≠ D) (hsub : PySem.W.subIn X.K (.ref D) (.ref C) = some false) (F : FnR X.prog X.w X.K X.mg X.base CX n f sp) (hr : Room n X.A) (hx : Passes CX X E) : OpR X (binaryOp op) (rMixL C D sp E) :=
  fun pins s σ H x y v u Q I rx ry h => OpX.bin_of (bin1_mixL o o2 hCD hsub F hr hx I rx ry h).2
theorem ip_mixL {op : Operator} (o : OpAt X.K C op.info.2 f fr) (o2 : OpAt X.K D op.info.2 g gr) (hCD : C ≠ D) (hsub : PySem.W.subIn X.K (.ref D) (.ref C) = some false) (F : FnR X.prog X.w X.K X.mg X.base CX n f sp) (hr : Room n X.A) (hx : Passes CX X E) : PIp X op (rMixL C D sp E) := by
  intro pins s σ H x y v u Q I rx ry h
  obtain ⟨⟨a, od, dx, rfl, J⟩, z⟩ := bin1_mixL o o2 hCD hsub F hr hx I rx ry h
  have h1 := Bool.and_eq_true_iff.mp o.names
  exact OpX.inp_of I.kIn J o.mro (He.eqO_ok h1.1) (He.eqO_ok (Bool.and_eq_true_iff.mp h1.2).1) z
theorem bin1_mixR {nm : String} {pins : List (Addr × Obj)} {s : Shared} {σ : L2.St} {H : Hp} {x y : V} {v u : Value} {Q : VK} (o : OpAt X.K C nm f fr) (o2 : OpAt X.K D nm g gr) (hCD : C ≠ D) (hsub : PySem.W.subIn X.K (.ref D) (.ref C) = some false) (N : NiX.FnN X.prog X.w X.K X.mg X.base m f spn) (F : FnR X.prog X.w X.K X.mg X.base CX n gr sp) (hrN : Room m X.A) (hr : Room n X.A) (hx : Passes CX X E)
    (I : Inv X pins σ H s) (rx : RelV x v) (ry : RelV y u) (h : rMixR C D spn sp E x y H Q) :
    (∃ (a : Addr) (od : Option Obj) (dx : Addr), v = .ref a ∧ PySem.W.InstAt s.heap a (PySem.W.instObj C dx) C od) ∧ wpAny (model X.prog X.w) X.A (binaryOp1 nm v u) (fun r s' => ∃ z, r = some z ∧ EP X pins σ Q z s') X.xe s := by
  obtain ⟨a, b, rfl, rfl, ⟨dx, fs, ha⟩, ⟨dy, gs, hb⟩, q⟩ := h
  cases (show v = Value.ref a from rx)
  cases (show u = Value.ref b from ry)
  obtain ⟨mA, O, _⟩ := ins_get I.hok ha
  obtain ⟨od, J, _⟩ := O.look
  obtain ⟨mB, O', _⟩ := ins_get I.hok hb
  obtain ⟨od', J', _⟩ := O'.look
  refine ⟨⟨a, _, _, rfl, J⟩, ?_⟩
  refine NiX.bin1_swap I.kIn J J' hCD o.first o2.first o.at_ o.fn o.atR o2.at_ o2.atR o2.fnR hsub (wpAny_mono (wpAny_call (run_fnN (us := [.ref a, .ref b]) (vs := [.ref a, .ref b]) N hrN I (.cons rfl (.cons rfl .nil)) q)) (fun w s' z => ?_) fun _ _ x => x)
  obtain ⟨rfl, H1, I1, ⟨dx1, fs1, ha1⟩, ⟨dy1, gs1, hb1⟩, q1⟩ := z
  obtain ⟨mA1, O1, _⟩ := ins_get I1.hok ha1
  obtain ⟨od1, J1, _⟩ := O1.look
  obtain ⟨mB1, O1', _⟩ := ins_get I1.hok hb1
  obtain ⟨od1', J1', _⟩ := O1'.look
  exact ⟨rfl, I1.kIn, ⟨_, _, J1⟩, ⟨_, _, J1'⟩, wpAny_mono (wpAny_call (run_fnR (us := [.ref b, .ref a]) (vs := [.ref b, .ref a]) F hr hx I1 (.cons rfl (.cons rfl .nil)) q1)) (fun w s' z => by
      obtain ⟨z', H', I', rz, qz⟩ := z
      exact SlX.cmpback rz ⟨z', H', I', rz, qz⟩) fun _ _ x => x⟩
theorem op_mixR {op : Operator} (o : OpAt X.K C op.info.2 f fr) (o2 : OpAt X.K D op.info.2 g gr) (hCD : C ≠ D) (hsub : PySem.W.subIn X.K (.ref D) (.ref C) = some false) (N : NiX.FnN X.prog X.w X.K X.mg X.base m f spn) (F : FnR X.prog X.w X.K X.mg X.base CX n gr sp) (hrN : Room m X.A) (hr : Room n X.A) (hx : Passes CX X E) : OpR X (binaryOp op) (rMixR C D spn sp E) :=
  fun pins s σ H x y v u Q I rx ry h => OpX.bin_of (bin1_mixR o o2 hCD hsub N F hrN hr hx I rx ry h).2
end
/-! ### the text by places -/
def top (i : Nat) : Stmt := PySem.Challenge.pw_lessways_k41_sharp_borders.main.body.getD i (.Pass ⟨0, 0, 0, 0⟩)
abbrev s_divisor : Stmt := top 11
abbrev s_is_integer : Stmt := top 7
abbrev s_is_number : Stmt := top 8
abbrev s_share_of : Stmt := top 9
abbrev s_fraction : Stmt := top 10
abbrev s_excess : Stmt := top 12
abbrev s_term_of : Stmt := top 39
abbrev s_source : Stmt := top 42
abbrev s_draw : Stmt := top 43
abbrev s_same : Stmt := top 44
abbrev s_lowest : Stmt := top 45
abbrev s_scale : Stmt := top 35
abbrev s_turned : Stmt := top 20
abbrev s_least_mark : Stmt := top 21
abbrev s_first_table : Stmt := top 22
abbrev s_next_turn : Stmt := top 23
abbrev s_solved : Stmt := top 24
abbrev s_worth_of : Stmt := top 25
abbrev s_integers_of : Stmt := top 27
abbrev s_lowered : Stmt := top 28
abbrev s_weights_in : Stmt := top 29
abbrev s_cone : Stmt := top 30
abbrev s_answer_of : Stmt := top 31
abbrev s_point_of : Stmt := top 32
abbrev s_weights_of : Stmt := top 33
abbrev s_sum : Stmt := top 46
abbrev s_primitive : Stmt := top 47
abbrev s_unknowns : Stmt := top 48
abbrev s_lterm_of : Stmt := top 49
abbrev s_written : Stmt := top 50
abbrev s_keeps : Stmt := top 51
abbrev s_shows : Stmt := top 52
abbrev s_rows_of : Stmt := top 53
abbrev s_either : Stmt := top 54
abbrev s_amount_at : Stmt := top 55
abbrev s_through : Stmt := top 56
abbrev s_balanced : Stmt := top 57
abbrev s_zeros : Stmt := top 58
abbrev s_law : Stmt := top 59
abbrev s_Share_init : Stmt := inClass (top 14) 0
abbrev s_Share_eq : Stmt := inClass (top 14) 10
abbrev s_Share_add : Stmt := inClass (top 14) 2
abbrev s_Share_radd : Stmt := inClass (top 14) 3
abbrev s_Share_sub : Stmt := inClass (top 14) 4
abbrev s_Share_rsub : Stmt := inClass (top 14) 5
abbrev s_Share_mul : Stmt := inClass (top 14) 6
abbrev s_Share_rmul : Stmt := inClass (top 14) 7
abbrev s_Share_neg : Stmt := inClass (top 14) 8
abbrev s_Share_over : Stmt := inClass (top 14) 1
abbrev s_Share_lt : Stmt := inClass (top 14) 11
abbrev s_Share_le : Stmt := inClass (top 14) 12
abbrev s_Share_gt : Stmt := inClass (top 14) 13
abbrev s_Share_ge : Stmt := inClass (top 14) 14
abbrev s_Term_init : Stmt := inClass (top 40) 0
abbrev s_Term_eq : Stmt := inClass (top 40) 12
abbrev s_Term_add : Stmt := inClass (top 40) 5
abbrev s_Term_radd : Stmt := inClass (top 40) 6
abbrev s_Term_sub : Stmt := inClass (top 40) 7
abbrev s_Term_rsub : Stmt := inClass (top 40) 8
abbrev s_Term_mul : Stmt := inClass (top 40) 9
abbrev s_Term_rmul : Stmt := inClass (top 40) 10
abbrev s_Term_neg : Stmt := inClass (top 40) 11
abbrev s_Term_over : Stmt := inClass (top 40) 3
abbrev s_Term_lt : Stmt := inClass (top 40) 13
abbrev s_Term_le : Stmt := inClass (top 40) 14
abbrev s_Term_gt : Stmt := inClass (top 40) 15
abbrev s_Term_ge : Stmt := inClass (top 40) 16
abbrev s_Row_init : Stmt := inClass (top 36) 0
abbrev s_Row_invert : Stmt := inClass (top 36) 2
abbrev s_Table_init : Stmt := inClass (top 19) 0
abbrev s_NoUnknown_init : Stmt := inClass (top 4) 0
def sups : List (Str × Str × Str × Stmt) := [("NoUnknown", "__init__", "NoUnknown.__init__", s_NoUnknown_init)]
abbrev s_Term_constant : Stmt := inClass (top 40) 2
abbrev s_Term_unknown : Stmt := inClass (top 40) 1
def d_Term_constant : He5.DefA := ⟨fun K => He5.wf K (He.ga K "Term") "staticmethod" "constant", "constant", "Term.constant", defArgs s_Term_constant, defBody s_Term_constant, defScope s_Term_constant, [], []⟩
def d_Term_unknown : He5.DefA := ⟨fun K => He5.wf K (He.ga K "Term") "staticmethod" "unknown", "unknown", "Term.unknown", defArgs s_Term_unknown, defBody s_Term_unknown, defScope s_Term_unknown, [], []⟩
def stats : List He5.DefA := [d_Term_constant, d_Term_unknown]
/-! ### the facts by names -/
def d_divisor : He.DefD := ⟨("divisor", none), "divisor", "divisor", defArgs s_divisor, defBody s_divisor, defScope s_divisor, [], []⟩
def d_is_integer : He.DefD := ⟨("is_integer", none), "is_integer", "is_integer", defArgs s_is_integer, defBody s_is_integer, defScope s_is_integer, [], []⟩
def d_is_number : He.DefD := ⟨("is_number", none), "is_number", "is_number", defArgs s_is_number, defBody s_is_number, defScope s_is_number, [], []⟩
def d_share_of : He.DefD := ⟨("share_of", none), "share_of", "share_of", defArgs s_share_of, defBody s_share_of, defScope s_share_of, [], []⟩
def d_fraction : He.DefD := ⟨("fraction", none), "fraction", "fraction", defArgs s_fraction, defBody s_fraction, defScope s_fraction, [], []⟩
def d_excess : He.DefD := ⟨("excess", none), "excess", "excess", defArgs s_excess, defBody s_excess, defScope s_excess, [], []⟩
def d_term_of : He.DefD := ⟨("term_of", none), "term_of", "term_of", defArgs s_term_of, defBody s_term_of, defScope s_term_of, [], []⟩
def d_source : He.DefD := ⟨("_law_source", none), "_law_source", "_law_source", defArgs s_source, defBody s_source, defScope s_source, [], []⟩
def d_draw : He.DefD := ⟨("_law_draw", none), "_law_draw", "_law_draw", defArgs s_draw, defBody s_draw, defScope s_draw, [], []⟩
def d_same : He.DefD := ⟨("_law_same", none), "_law_same", "_law_same", defArgs s_same, defBody s_same, defScope s_same, [], []⟩
def d_lowest : He.DefD := ⟨("_law_lowest", none), "_law_lowest", "_law_lowest", defArgs s_lowest, defBody s_lowest, defScope s_lowest, [], []⟩
def d_scale : He.DefD := ⟨("scale", none), "scale", "scale", defArgs s_scale, defBody s_scale, defScope s_scale, [], []⟩
def d_turned : He.DefD := ⟨("turned", none), "turned", "turned", defArgs s_turned, defBody s_turned, defScope s_turned, [], []⟩
def d_least_mark : He.DefD := ⟨("least_mark", none), "least_mark", "least_mark", defArgs s_least_mark, defBody s_least_mark, defScope s_least_mark, [], []⟩
def d_first_table : He.DefD := ⟨("first_table", none), "first_table", "first_table", defArgs s_first_table, defBody s_first_table, defScope s_first_table, [], []⟩
def d_next_turn : He.DefD := ⟨("next_turn", none), "next_turn", "next_turn", defArgs s_next_turn, defBody s_next_turn, defScope s_next_turn, [], []⟩
def d_solved : He.DefD := ⟨("solved", none), "solved", "solved", defArgs s_solved, defBody s_solved, defScope s_solved, [], []⟩
def d_worth_of : He.DefD := ⟨("worth_of", none), "worth_of", "worth_of", defArgs s_worth_of, defBody s_worth_of, defScope s_worth_of, [], []⟩
def d_integers_of : He.DefD := ⟨("integers_of", none), "integers_of", "integers_of", defArgs s_integers_of, defBody s_integers_of, defScope s_integers_of, [], []⟩
def d_lowered : He.DefD := ⟨("lowered", none), "lowered", "lowered", defArgs s_lowered, defBody s_lowered, defScope s_lowered, [], []⟩
def d_weights_in : He.DefD := ⟨("weights_in", none), "weights_in", "weights_in", defArgs s_weights_in, defBody s_weights_in, defScope s_weights_in, [], []⟩
def d_cone : He.DefD := ⟨("cone", none), "cone", "cone", defArgs s_cone, defBody s_cone, defScope s_cone, [], []⟩
def d_answer_of : He.DefD := ⟨("answer_of", none), "answer_of", "answer_of", defArgs s_answer_of, defBody s_answer_of, defScope s_answer_of, [], []⟩
def d_point_of : He.DefD := ⟨("point_of", none), "point_of", "point_of", defArgs s_point_of, defBody s_point_of, defScope s_point_of, [], []⟩
def d_weights_of : He.DefD := ⟨("weights_of", none), "weights_of", "weights_of", defArgs s_weights_of, defBody s_weights_of, defScope s_weights_of, [], []⟩
def d_sum : He.DefD := ⟨("_law_sum", none), "_law_sum", "_law_sum", defArgs s_sum, defBody s_sum, defScope s_sum, [], []⟩
def d_primitive : He.DefD := ⟨("_law_primitive", none), "_law_primitive", "_law_primitive", defArgs s_primitive, defBody s_primitive, defScope s_primitive, [], []⟩
def d_unknowns : He.DefD := ⟨("_law_unknowns", none), "_law_unknowns", "_law_unknowns", defArgs s_unknowns, defBody s_unknowns, defScope s_unknowns, [], []⟩
def d_lterm_of : He.DefD := ⟨("_law_term_of", none), "_law_term_of", "_law_term_of", defArgs s_lterm_of, defBody s_lterm_of, defScope s_lterm_of, [], []⟩
def d_written : He.DefD := ⟨("_law_written", none), "_law_written", "_law_written", defArgs s_written, defBody s_written, defScope s_written, [], []⟩
def d_keeps : He.DefD := ⟨("_law_keeps", none), "_law_keeps", "_law_keeps", defArgs s_keeps, defBody s_keeps, defScope s_keeps, [], []⟩
def d_shows : He.DefD := ⟨("_law_shows", none), "_law_shows", "_law_shows", defArgs s_shows, defBody s_shows, defScope s_shows, [], []⟩
def d_rows_of : He.DefD := ⟨("_law_rows_of", none), "_law_rows_of", "_law_rows_of", defArgs s_rows_of, defBody s_rows_of, defScope s_rows_of, [], []⟩
def d_either : He.DefD := ⟨("_law_either", none), "_law_either", "_law_either", defArgs s_either, defBody s_either, defScope s_either, [], []⟩
def d_amount_at : He.DefD := ⟨("_law_amount_at", none), "_law_amount_at", "_law_amount_at", defArgs s_amount_at, defBody s_amount_at, defScope s_amount_at, [], []⟩
def d_through : He.DefD := ⟨("_law_through", none), "_law_through", "_law_through", defArgs s_through, defBody s_through, defScope s_through, [], []⟩
def d_balanced : He.DefD := ⟨("_law_balanced", none), "_law_balanced", "_law_balanced", defArgs s_balanced, defBody s_balanced, defScope s_balanced, [], []⟩
def d_zeros : He.DefD := ⟨("_law_zeros", none), "_law_zeros", "_law_zeros", defArgs s_zeros, defBody s_zeros, defScope s_zeros, [], []⟩
def d_law : He.DefD := ⟨("law", none), "law", "law", defArgs s_law, defBody s_law, defScope s_law, [], []⟩
def d_Share_init : He.DefD := ⟨("Share", some "__init__"), "__init__", "Share.__init__", defArgs s_Share_init, defBody s_Share_init, defScope s_Share_init, [.int 1], []⟩
def d_Share_eq : He.DefD := ⟨("Share", some "__eq__"), "__eq__", "Share.__eq__", defArgs s_Share_eq, defBody s_Share_eq, defScope s_Share_eq, [], []⟩
def d_Share_add : He.DefD := ⟨("Share", some "__add__"), "__add__", "Share.__add__", defArgs s_Share_add, defBody s_Share_add, defScope s_Share_add, [], []⟩
def d_Share_radd : He.DefD := ⟨("Share", some "__radd__"), "__radd__", "Share.__radd__", defArgs s_Share_radd, defBody s_Share_radd, defScope s_Share_radd, [], []⟩
def d_Share_sub : He.DefD := ⟨("Share", some "__sub__"), "__sub__", "Share.__sub__", defArgs s_Share_sub, defBody s_Share_sub, defScope s_Share_sub, [], []⟩
def d_Share_rsub : He.DefD := ⟨("Share", some "__rsub__"), "__rsub__", "Share.__rsub__", defArgs s_Share_rsub, defBody s_Share_rsub, defScope s_Share_rsub, [], []⟩
def d_Share_mul : He.DefD := ⟨("Share", some "__mul__"), "__mul__", "Share.__mul__", defArgs s_Share_mul, defBody s_Share_mul, defScope s_Share_mul, [], []⟩
def d_Share_rmul : He.DefD := ⟨("Share", some "__rmul__"), "__rmul__", "Share.__rmul__", defArgs s_Share_rmul, defBody s_Share_rmul, defScope s_Share_rmul, [], []⟩
def d_Share_neg : He.DefD := ⟨("Share", some "__neg__"), "__neg__", "Share.__neg__", defArgs s_Share_neg, defBody s_Share_neg, defScope s_Share_neg, [], []⟩
def d_Share_over : He.DefD := ⟨("Share", some "over"), "over", "Share.over", defArgs s_Share_over, defBody s_Share_over, defScope s_Share_over, [], []⟩
def d_Share_lt : He.DefD := ⟨("Share", some "__lt__"), "__lt__", "Share.__lt__", defArgs s_Share_lt, defBody s_Share_lt, defScope s_Share_lt, [], []⟩
def d_Share_le : He.DefD := ⟨("Share", some "__le__"), "__le__", "Share.__le__", defArgs s_Share_le, defBody s_Share_le, defScope s_Share_le, [], []⟩
def d_Share_gt : He.DefD := ⟨("Share", some "__gt__"), "__gt__", "Share.__gt__", defArgs s_Share_gt, defBody s_Share_gt, defScope s_Share_gt, [], []⟩
def d_Share_ge : He.DefD := ⟨("Share", some "__ge__"), "__ge__", "Share.__ge__", defArgs s_Share_ge, defBody s_Share_ge, defScope s_Share_ge, [], []⟩
def d_Term_init : He.DefD := ⟨("Term", some "__init__"), "__init__", "Term.__init__", defArgs s_Term_init, defBody s_Term_init, defScope s_Term_init, [], []⟩
def d_Term_eq : He.DefD := ⟨("Term", some "__eq__"), "__eq__", "Term.__eq__", defArgs s_Term_eq, defBody s_Term_eq, defScope s_Term_eq, [], []⟩
def d_Term_add : He.DefD := ⟨("Term", some "__add__"), "__add__", "Term.__add__", defArgs s_Term_add, defBody s_Term_add, defScope s_Term_add, [], []⟩
def d_Term_radd : He.DefD := ⟨("Term", some "__radd__"), "__radd__", "Term.__radd__", defArgs s_Term_radd, defBody s_Term_radd, defScope s_Term_radd, [], []⟩
def d_Term_sub : He.DefD := ⟨("Term", some "__sub__"), "__sub__", "Term.__sub__", defArgs s_Term_sub, defBody s_Term_sub, defScope s_Term_sub, [], []⟩
def d_Term_rsub : He.DefD := ⟨("Term", some "__rsub__"), "__rsub__", "Term.__rsub__", defArgs s_Term_rsub, defBody s_Term_rsub, defScope s_Term_rsub, [], []⟩
def d_Term_mul : He.DefD := ⟨("Term", some "__mul__"), "__mul__", "Term.__mul__", defArgs s_Term_mul, defBody s_Term_mul, defScope s_Term_mul, [], []⟩
def d_Term_rmul : He.DefD := ⟨("Term", some "__rmul__"), "__rmul__", "Term.__rmul__", defArgs s_Term_rmul, defBody s_Term_rmul, defScope s_Term_rmul, [], []⟩
def d_Term_neg : He.DefD := ⟨("Term", some "__neg__"), "__neg__", "Term.__neg__", defArgs s_Term_neg, defBody s_Term_neg, defScope s_Term_neg, [], []⟩
def d_Term_over : He.DefD := ⟨("Term", some "over"), "over", "Term.over", defArgs s_Term_over, defBody s_Term_over, defScope s_Term_over, [], []⟩
def d_Term_lt : He.DefD := ⟨("Term", some "__lt__"), "__lt__", "Term.__lt__", defArgs s_Term_lt, defBody s_Term_lt, defScope s_Term_lt, [], []⟩
def d_Term_le : He.DefD := ⟨("Term", some "__le__"), "__le__", "Term.__le__", defArgs s_Term_le, defBody s_Term_le, defScope s_Term_le, [], []⟩
def d_Term_gt : He.DefD := ⟨("Term", some "__gt__"), "__gt__", "Term.__gt__", defArgs s_Term_gt, defBody s_Term_gt, defScope s_Term_gt, [], []⟩
def d_Term_ge : He.DefD := ⟨("Term", some "__ge__"), "__ge__", "Term.__ge__", defArgs s_Term_ge, defBody s_Term_ge, defScope s_Term_ge, [], []⟩
def d_Row_init : He.DefD := ⟨("Row", some "__init__"), "__init__", "Row.__init__", defArgs s_Row_init, defBody s_Row_init, defScope s_Row_init, [], []⟩
def d_Row_invert : He.DefD := ⟨("Row", some "__invert__"), "__invert__", "Row.__invert__", defArgs s_Row_invert, defBody s_Row_invert, defScope s_Row_invert, [], []⟩
def d_Table_init : He.DefD := ⟨("Table", some "__init__"), "__init__", "Table.__init__", defArgs s_Table_init, defBody s_Table_init, defScope s_Table_init, [], []⟩
def fn : List He.DefD := [d_divisor, d_is_integer, d_is_number, d_share_of, d_fraction, d_excess, d_term_of, d_source, d_draw, d_same, d_lowest, d_scale, d_turned, d_least_mark, d_first_table, d_next_turn, d_solved, d_worth_of, d_integers_of, d_lowered, d_weights_in, d_cone, d_answer_of, d_point_of, d_weights_of, d_sum, d_primitive, d_unknowns, d_lterm_of, d_written, d_keeps, d_shows, d_rows_of, d_either, d_amount_at, d_through, d_balanced, d_zeros, d_law, d_Share_init, d_Share_eq, d_Share_add, d_Share_radd, d_Share_sub, d_Share_rsub, d_Share_mul, d_Share_rmul, d_Share_neg, d_Share_over, d_Share_lt, d_Share_le, d_Share_gt, d_Share_ge, d_Term_init, d_Term_eq, d_Term_add, d_Term_radd, d_Term_sub, d_Term_rsub, d_Term_mul, d_Term_rmul, d_Term_neg, d_Term_over, d_Term_lt, d_Term_le, d_Term_gt, d_Term_ge, d_Row_init, d_Row_invert, d_Table_init]
def fa : List He.Fa := [.glo "divisor", .glo "is_integer", .glo "is_number", .glo "share_of", .glo "fraction", .glo "excess", .glo "term_of", .glo "_law_source", .glo "_law_draw", .glo "_law_same", .glo "_law_lowest", .glo "scale", .glo "turned", .glo "least_mark", .glo "first_table", .glo "next_turn", .glo "solved", .glo "worth_of", .glo "integers_of", .glo "lowered", .glo "weights_in", .glo "cone", .glo "answer_of", .glo "point_of", .glo "weights_of", .glo "_law_sum", .glo "_law_primitive", .glo "_law_unknowns", .glo "_law_term_of", .glo "_law_written", .glo "_law_keeps", .glo "_law_shows", .glo "_law_rows_of", .glo "_law_either", .glo "_law_amount_at", .glo "_law_through", .glo "_law_balanced", .glo "_law_zeros", .glo "law", .glo "Table", .glo "Share", .glo "Term", .glo "NoUnknown", .glo "Row", .free "isinstance", .free "int", .free "bool", .free "abs", .free "len", .free "range", .free "str", .free "list", .free "tuple", .free "all", .free "zip", .free "NotImplemented", .free "super", .free "enumerate", .int "UNKNOWNS" 3, .int "ONE" (-1), .int "GOAL" (-2), .int "FREE" (-3), .cls "Share", .mkr "Share", .cls "Term", .mkr "Term", .cls "Row", .mkr "Row", .cls "Table", .mkr "Table", .noat "Share" "top", .noat "Share" "bottom", .noat "Term" "number", .noat "Term" "times", .noat "NoUnknown" "k", .noat "Table" "cells", .noat "Table" "whole", .noat "Table" "sides", .noat "Table" "heads", .noat "Row" "term", .noat "Row" "strict", .meth "Share" "__eq__", .meth "Share" "__add__", .meth "Share" "__radd__", .meth "Share" "__sub__", .meth "Share" "__rsub__", .meth "Share" "__mul__", .meth "Share" "__rmul__", .meth "Share" "__neg__", .meth "Share" "over", .meth "Share" "__lt__", .meth "Share" "__le__", .meth "Share" "__gt__", .meth "Share" "__ge__", .meth "Term" "__eq__", .meth "Term" "__add__", .meth "Term" "__radd__", .meth "Term" "__sub__", .meth "Term" "__rsub__", .meth "Term" "__mul__", .meth "Term" "__rmul__", .meth "Term" "__neg__", .meth "Term" "over", .meth "Term" "__lt__", .meth "Term" "__le__", .meth "Term" "__gt__", .meth "Term" "__ge__", .meth "Row" "__invert__"]
/-- further facts, as Bools of the written part -/
def extra : List (PySem.W.Frag → Bool) := [fun K => He.eqO (PySem.W.findIn K (.ref (He.ga K "Share")) "__class__") (some (some (.builtin "object.__class__"))),
  fun K => He.eqO (PySem.W.specialIn K (.builtin "object.__class__") "__get__") (some (some (.builtin "getset_descriptor.__get__"))),
  fun K => decide (PySem.W.takesIn K (.builtin "object.__class__") = some true),
  fun K => decide (PySem.W.mroIn K (He.ga K "Share") (.type "object") = some true),
  fun K => decide (PySem.W.kitOne K (.ref (He.ga K "Share")) (.ref (He.ga K "Share")) = some true),
  fun K => He.eqO (PySem.W.findIn K (.ref (He.ga K "Term")) "__class__") (some (some (.builtin "object.__class__"))),
  fun K => decide (PySem.W.mroIn K (He.ga K "Term") (.type "object") = some true),
  fun K => CmX.cmpB K (He.ga K "Share"),
  fun K => NuX.knB K (.ref (He.ga K "Share")) true,
  fun K => NuX.knB K (.ref (He.ga K "Term")) false,
  fun K => NuX.knB K (.type "int") true,
  fun K => NuX.knB K (.type "NoneType") false,
  fun K => NuX.knB K (.type "bool") false,
  fun K => NuX.knB K (.type "str") false,
  fun K => NuX.knB K (.type "list") false,
  fun K => NuX.knB K (.type "tuple") false,
  fun K => NuX.knB K (.type "dict") false,
  fun K => StX.smB K (He.ga K "Term") "constant",
  fun K => decide (PySem.W.kitOne K (.ref (He.ga K "Share")) (.ref (He.ga K "Term")) = some false),
  fun K => decide (PySem.W.subIn K (.ref (He.ga K "Term")) (.ref (He.ga K "Share")) = some false),
  fun K => decide (PySem.W.subIn K (.ref (He.ga K "Share")) (.ref (He.ga K "Term")) = some false),
  fun K => decide (PySem.W.kitOne K (.type "int") (.ref (He.ga K "Share")) = some false),
  fun K => CmX.cmpB K (He.ga K "Term"),
  fun K => SupX.oexB K (He.ga K "NoUnknown"),
  fun K => SupX.supB K (He.ga K "NoUnknown") (He.ma K (He.ga K "NoUnknown") "__init__") "NoUnknown.__init__",
  fun K => decide (PySem.W.exmOne K (.ref (He.ga K "NoUnknown")) (.ref (He.ga K "NoUnknown")) = some true),
  fun K => He.eqO (PySem.W.findIn K (.ref (He.ga K "NoUnknown")) "__init__") (some (some (.ref (He.ma K (He.ga K "NoUnknown") "__init__")))) && decide (PySem.W.typeIn K (.ref (He.ma K (He.ga K "NoUnknown") "__init__")) = some (.type "function")),
  fun K => xfB K (He.ga K "NoUnknown"),
  fun K => StX.smB K (He.ga K "Term") "unknown",
  fun K => CmX.names7.all fun T => decide (PySem.W.kitOne K (.type T) (.ref (He.ga K "Term")) = some false),
  fun K => decide (PySem.W.kitOne K (.ref (He.ga K "Term")) (.ref (He.ga K "Term")) = some true),
  fun K => ["int", "bool", "list", "tuple"].all fun T => decide (PySem.W.kitOne K (.ref (He.ga K "Share")) (.type T) = some false),
  fun K => PySem.W.selfFirst K (He.ga K "Share"),
  fun K => decide (PySem.W.mroIn K (He.ga K "Share") (.type "int") = some false),
  fun K => decide (PySem.W.subIn K (.type "int") (.ref (He.ga K "Share")) = some false),
  fun K => OpX.mro2B K (He.ga K "Share"),
  fun K => OpX.opB K (He.ga K "Share") "add",
  fun K => OpX.opB K (He.ga K "Share") "sub",
  fun K => OpX.opB K (He.ga K "Share") "mul",
  fun K => PySem.W.selfFirst K (He.ga K "Term"),
  fun K => decide (PySem.W.mroIn K (He.ga K "Term") (.type "int") = some false),
  fun K => decide (PySem.W.subIn K (.type "int") (.ref (He.ga K "Term")) = some false),
  fun K => OpX.mro2B K (He.ga K "Term"),
  fun K => OpX.opB K (He.ga K "Term") "add",
  fun K => OpX.opB K (He.ga K "Term") "sub",
  fun K => OpX.opB K (He.ga K "Term") "mul",
  fun K => He.eqO (PySem.W.findIn K (.ref (He.ga K "Row")) "__class__") (some (some (.builtin "object.__class__"))),
  fun K => decide (PySem.W.mroIn K (He.ga K "Row") (.type "object") = some true),
  fun K => decide (PySem.W.kitOne K (.ref (He.ga K "Row")) (.ref (He.ga K "Row")) = some true),
  fun K => CmX.cmpB K (He.ga K "Row"),
  fun K => CmX.names7.all fun T => decide (PySem.W.kitOne K (.type T) (.ref (He.ga K "Row")) = some false),
  fun K => decide (PySem.W.kitOne K (.ref (He.ga K "Term")) (.ref (He.ga K "Row")) = some false),
  fun K => decide (PySem.W.subIn K (.ref (He.ga K "Term")) (.ref (He.ga K "Row")) = some false),
  fun K => ["int", "bool", "list", "tuple"].all fun T => decide (PySem.W.kitOne K (.ref (He.ga K "Term")) (.type T) = some false),
  fun K => ["int", "bool", "list", "tuple"].all fun T => decide (PySem.W.kitOne K (.ref (He.ga K "Row")) (.type T) = some false)]
abbrev AlX : Type := Bool × He.AlD × List SupX.SpW × List He5.FnW
def obsX (fa : List He.Fa) (fn : List He.DefD) (sp : List (Str × Str × Str × Stmt)) (ex : List (PySem.W.Frag → Bool)) (st : List He5.DefA) (K : PySem.W.Frag) : AlX := ((ex.all fun f => f K) && st.all fun d => d.ok K, He.obsD fa fn K, sp.map fun d => SupX.supW K (He.fAd K (d.1, some d.2.1)), st.map fun d => He5.fnA K (d.at_ K))
def valX (fn : List He.DefD) (sp : List (Str × Str × Str × Stmt)) (st : List He5.DefA) : AlX := (true, He.valD fn, sp.map fun d => SupX.supV d.2.1 d.2.2.1 d.2.2.2, st.map He5.DefA.val)
def SaysX (fa : List He.Fa) (fn : List He.DefD) (sp : List (Str × Str × Str × Stmt)) (ex : List (PySem.W.Frag → Bool)) (st : List He5.DefA) (K : PySem.W.Frag) : Prop := obsX fa fn sp ex st K = valX fn sp st
/-- what every def leans on: the facts, and where the module's names are read -/
structure Wd (K : PySem.W.Frag) (mg : Str → Option Value) : Prop where
  s : SaysX fa fn sups extra stats K
  X : ∃ h : Heap, K.In h ∧ h.Ns mainGlobals mg
section
variable {K : PySem.W.Frag} {mg : Str → Option Value}
theorem Wd.c (W : Wd K mg) : He.SaysD fa fn K := congrArg (fun z : AlX => z.2.1) W.s
theorem Wd.ex (W : Wd K mg) (i : Nat) {f : PySem.W.Frag → Bool} (h : extra[i]? = some f) : f K = true :=
  List.all_eq_true.mp (He.ba (show ((extra.all fun f => f K) && stats.all fun d => d.ok K) = true from congrArg (fun z : AlX => z.1) W.s)).1 f (List.mem_of_getElem? h)
theorem Wd.stat (W : Wd K mg) (i : Nat) {d : He5.DefA} (h : stats[i]? = some d) : ∃ fd, FunD K d.name d.qual d.params d.body d.scope (d.dvs K) (d.kws K) (d.at_ K) fd := by
  have c := (He.ba (show ((extra.all fun f => f K) && stats.all fun d => d.ok K) = true from congrArg (fun z : AlX => z.1) W.s)).2
  have e : stats.map (fun d => He5.fnA K (d.at_ K)) = stats.map He5.DefA.val := congrArg (fun z : AlX => z.2.2.2) W.s
  have e2 : (stats.map fun d => He5.fnA K (d.at_ K))[i]? = (stats.map He5.DefA.val)[i]? := by rw [e]
  rw [List.getElem?_map, List.getElem?_map, h] at e2
  exact He5.DefA.funD (Option.some.inj e2) (List.all_eq_true.mp c d (List.mem_of_getElem? h))
theorem Wd.glo (W : Wd K mg) (i : Nat) {x : Str} (h : fa[i]? = some (.glo x)) : mg x = some (.ref (He.ga K x)) := by
  obtain ⟨h0, X, G⟩ := W.X
  exact He.glo_ok X G (W.c.fact i h)
theorem Wd.free (W : Wd K mg) (i : Nat) {x : Str} (h : fa[i]? = some (.free x)) : mg x = none := by
  obtain ⟨h0, X, G⟩ := W.X
  exact He.free_ok X G (W.c.fact i h)
theorem Wd.sup (W : Wd K mg) (i : Nat) {d : Str × Str × Str × Stmt} (h : sups[i]? = some d) : SupX.supW K (He.fAd K (d.1, some d.2.1)) = SupX.supV d.2.1 d.2.2.1 d.2.2.2 := by
  have e : sups.map (fun d => SupX.supW K (He.fAd K (d.1, some d.2.1))) = sups.map fun d => SupX.supV d.2.1 d.2.2.1 d.2.2.2 := congrArg (fun z : AlX => z.2.2.1) W.s
  have e2 : (sups.map (fun d => SupX.supW K (He.fAd K (d.1, some d.2.1))))[i]? = (sups.map fun d => SupX.supV d.2.1 d.2.2.1 d.2.2.2)[i]? := by rw [e]
  rw [List.getElem?_map, List.getElem?_map, h] at e2
  exact Option.some.inj e2
end

theorem Wd.g_divisor {K : PySem.W.Frag} {mg : Str → Option Value} (W : Wd K mg) : mg "divisor" = some (.ref (He.ga K "divisor")) := W.glo 0 rfl
theorem Wd.g_is_integer {K : PySem.W.Frag} {mg : Str → Option Value} (W : Wd K mg) : mg "is_integer" = some (.ref (He.ga K "is_integer")) := W.glo 1 rfl
theorem Wd.g_is_number {K : PySem.W.Frag} {mg : Str → Option Value} (W : Wd K mg) : mg "is_number" = some (.ref (He.ga K "is_number")) := W.glo 2 rfl
theorem Wd.g_share_of {K : PySem.W.Frag} {mg : Str → Option Value} (W : Wd K mg) : mg "share_of" = some (.ref (He.ga K "share_of")) := W.glo 3 rfl
theorem Wd.g_fraction {K : PySem.W.Frag} {mg : Str → Option Value} (W : Wd K mg) : mg "fraction" = some (.ref (He.ga K "fraction")) := W.glo 4 rfl
theorem Wd.g_excess {K : PySem.W.Frag} {mg : Str → Option Value} (W : Wd K mg) : mg "excess" = some (.ref (He.ga K "excess")) := W.glo 5 rfl
theorem Wd.g_term_of {K : PySem.W.Frag} {mg : Str → Option Value} (W : Wd K mg) : mg "term_of" = some (.ref (He.ga K "term_of")) := W.glo 6 rfl
theorem Wd.g_law_source {K : PySem.W.Frag} {mg : Str → Option Value} (W : Wd K mg) : mg "_law_source" = some (.ref (He.ga K "_law_source")) := W.glo 7 rfl
theorem Wd.g_law_draw {K : PySem.W.Frag} {mg : Str → Option Value} (W : Wd K mg) : mg "_law_draw" = some (.ref (He.ga K "_law_draw")) := W.glo 8 rfl
theorem Wd.g_law_same {K : PySem.W.Frag} {mg : Str → Option Value} (W : Wd K mg) : mg "_law_same" = some (.ref (He.ga K "_law_same")) := W.glo 9 rfl
theorem Wd.g_law_lowest {K : PySem.W.Frag} {mg : Str → Option Value} (W : Wd K mg) : mg "_law_lowest" = some (.ref (He.ga K "_law_lowest")) := W.glo 10 rfl
theorem Wd.g_scale {K : PySem.W.Frag} {mg : Str → Option Value} (W : Wd K mg) : mg "scale" = some (.ref (He.ga K "scale")) := W.glo 11 rfl
theorem Wd.g_turned {K : PySem.W.Frag} {mg : Str → Option Value} (W : Wd K mg) : mg "turned" = some (.ref (He.ga K "turned")) := W.glo 12 rfl
theorem Wd.g_least_mark {K : PySem.W.Frag} {mg : Str → Option Value} (W : Wd K mg) : mg "least_mark" = some (.ref (He.ga K "least_mark")) := W.glo 13 rfl
theorem Wd.g_first_table {K : PySem.W.Frag} {mg : Str → Option Value} (W : Wd K mg) : mg "first_table" = some (.ref (He.ga K "first_table")) := W.glo 14 rfl
theorem Wd.g_next_turn {K : PySem.W.Frag} {mg : Str → Option Value} (W : Wd K mg) : mg "next_turn" = some (.ref (He.ga K "next_turn")) := W.glo 15 rfl
theorem Wd.g_solved {K : PySem.W.Frag} {mg : Str → Option Value} (W : Wd K mg) : mg "solved" = some (.ref (He.ga K "solved")) := W.glo 16 rfl
theorem Wd.g_worth_of {K : PySem.W.Frag} {mg : Str → Option Value} (W : Wd K mg) : mg "worth_of" = some (.ref (He.ga K "worth_of")) := W.glo 17 rfl
theorem Wd.g_integers_of {K : PySem.W.Frag} {mg : Str → Option Value} (W : Wd K mg) : mg "integers_of" = some (.ref (He.ga K "integers_of")) := W.glo 18 rfl
theorem Wd.g_lowered {K : PySem.W.Frag} {mg : Str → Option Value} (W : Wd K mg) : mg "lowered" = some (.ref (He.ga K "lowered")) := W.glo 19 rfl
theorem Wd.g_weights_in {K : PySem.W.Frag} {mg : Str → Option Value} (W : Wd K mg) : mg "weights_in" = some (.ref (He.ga K "weights_in")) := W.glo 20 rfl
theorem Wd.g_cone {K : PySem.W.Frag} {mg : Str → Option Value} (W : Wd K mg) : mg "cone" = some (.ref (He.ga K "cone")) := W.glo 21 rfl
theorem Wd.g_answer_of {K : PySem.W.Frag} {mg : Str → Option Value} (W : Wd K mg) : mg "answer_of" = some (.ref (He.ga K "answer_of")) := W.glo 22 rfl
theorem Wd.g_point_of {K : PySem.W.Frag} {mg : Str → Option Value} (W : Wd K mg) : mg "point_of" = some (.ref (He.ga K "point_of")) := W.glo 23 rfl
theorem Wd.g_weights_of {K : PySem.W.Frag} {mg : Str → Option Value} (W : Wd K mg) : mg "weights_of" = some (.ref (He.ga K "weights_of")) := W.glo 24 rfl
theorem Wd.g_law_sum {K : PySem.W.Frag} {mg : Str → Option Value} (W : Wd K mg) : mg "_law_sum" = some (.ref (He.ga K "_law_sum")) := W.glo 25 rfl
theorem Wd.g_law_primitive {K : PySem.W.Frag} {mg : Str → Option Value} (W : Wd K mg) : mg "_law_primitive" = some (.ref (He.ga K "_law_primitive")) := W.glo 26 rfl
theorem Wd.g_law_unknowns {K : PySem.W.Frag} {mg : Str → Option Value} (W : Wd K mg) : mg "_law_unknowns" = some (.ref (He.ga K "_law_unknowns")) := W.glo 27 rfl
theorem Wd.g_law_term_of {K : PySem.W.Frag} {mg : Str → Option Value} (W : Wd K mg) : mg "_law_term_of" = some (.ref (He.ga K "_law_term_of")) := W.glo 28 rfl
theorem Wd.g_law_written {K : PySem.W.Frag} {mg : Str → Option Value} (W : Wd K mg) : mg "_law_written" = some (.ref (He.ga K "_law_written")) := W.glo 29 rfl
theorem Wd.g_law_keeps {K : PySem.W.Frag} {mg : Str → Option Value} (W : Wd K mg) : mg "_law_keeps" = some (.ref (He.ga K "_law_keeps")) := W.glo 30 rfl
theorem Wd.g_law_shows {K : PySem.W.Frag} {mg : Str → Option Value} (W : Wd K mg) : mg "_law_shows" = some (.ref (He.ga K "_law_shows")) := W.glo 31 rfl
theorem Wd.g_law_rows_of {K : PySem.W.Frag} {mg : Str → Option Value} (W : Wd K mg) : mg "_law_rows_of" = some (.ref (He.ga K "_law_rows_of")) := W.glo 32 rfl
theorem Wd.g_law_either {K : PySem.W.Frag} {mg : Str → Option Value} (W : Wd K mg) : mg "_law_either" = some (.ref (He.ga K "_law_either")) := W.glo 33 rfl
theorem Wd.g_law_amount_at {K : PySem.W.Frag} {mg : Str → Option Value} (W : Wd K mg) : mg "_law_amount_at" = some (.ref (He.ga K "_law_amount_at")) := W.glo 34 rfl
theorem Wd.g_law_through {K : PySem.W.Frag} {mg : Str → Option Value} (W : Wd K mg) : mg "_law_through" = some (.ref (He.ga K "_law_through")) := W.glo 35 rfl
theorem Wd.g_law_balanced {K : PySem.W.Frag} {mg : Str → Option Value} (W : Wd K mg) : mg "_law_balanced" = some (.ref (He.ga K "_law_balanced")) := W.glo 36 rfl
theorem Wd.g_law_zeros {K : PySem.W.Frag} {mg : Str → Option Value} (W : Wd K mg) : mg "_law_zeros" = some (.ref (He.ga K "_law_zeros")) := W.glo 37 rfl
theorem Wd.g_law {K : PySem.W.Frag} {mg : Str → Option Value} (W : Wd K mg) : mg "law" = some (.ref (He.ga K "law")) := W.glo 38 rfl
theorem Wd.g_Table {K : PySem.W.Frag} {mg : Str → Option Value} (W : Wd K mg) : mg "Table" = some (.ref (He.ga K "Table")) := W.glo 39 rfl
theorem Wd.g_Share {K : PySem.W.Frag} {mg : Str → Option Value} (W : Wd K mg) : mg "Share" = some (.ref (He.ga K "Share")) := W.glo 40 rfl
theorem Wd.g_Term {K : PySem.W.Frag} {mg : Str → Option Value} (W : Wd K mg) : mg "Term" = some (.ref (He.ga K "Term")) := W.glo 41 rfl
theorem Wd.g_NoUnknown {K : PySem.W.Frag} {mg : Str → Option Value} (W : Wd K mg) : mg "NoUnknown" = some (.ref (He.ga K "NoUnknown")) := W.glo 42 rfl
theorem Wd.g_Row {K : PySem.W.Frag} {mg : Str → Option Value} (W : Wd K mg) : mg "Row" = some (.ref (He.ga K "Row")) := W.glo 43 rfl
theorem Wd.f_isinstance {K : PySem.W.Frag} {mg : Str → Option Value} (W : Wd K mg) : mg "isinstance" = none := W.free 44 rfl
theorem Wd.f_int {K : PySem.W.Frag} {mg : Str → Option Value} (W : Wd K mg) : mg "int" = none := W.free 45 rfl
theorem Wd.f_bool {K : PySem.W.Frag} {mg : Str → Option Value} (W : Wd K mg) : mg "bool" = none := W.free 46 rfl
theorem Wd.f_abs {K : PySem.W.Frag} {mg : Str → Option Value} (W : Wd K mg) : mg "abs" = none := W.free 47 rfl
theorem Wd.f_len {K : PySem.W.Frag} {mg : Str → Option Value} (W : Wd K mg) : mg "len" = none := W.free 48 rfl
theorem Wd.f_range {K : PySem.W.Frag} {mg : Str → Option Value} (W : Wd K mg) : mg "range" = none := W.free 49 rfl
theorem Wd.f_str {K : PySem.W.Frag} {mg : Str → Option Value} (W : Wd K mg) : mg "str" = none := W.free 50 rfl
theorem Wd.f_list {K : PySem.W.Frag} {mg : Str → Option Value} (W : Wd K mg) : mg "list" = none := W.free 51 rfl
theorem Wd.f_tuple {K : PySem.W.Frag} {mg : Str → Option Value} (W : Wd K mg) : mg "tuple" = none := W.free 52 rfl
theorem Wd.f_all {K : PySem.W.Frag} {mg : Str → Option Value} (W : Wd K mg) : mg "all" = none := W.free 53 rfl
theorem Wd.f_zip {K : PySem.W.Frag} {mg : Str → Option Value} (W : Wd K mg) : mg "zip" = none := W.free 54 rfl
theorem Wd.f_NotImplemented {K : PySem.W.Frag} {mg : Str → Option Value} (W : Wd K mg) : mg "NotImplemented" = none := W.free 55 rfl
theorem Wd.f_super {K : PySem.W.Frag} {mg : Str → Option Value} (W : Wd K mg) : mg "super" = none := W.free 56 rfl
theorem Wd.f_enumerate {K : PySem.W.Frag} {mg : Str → Option Value} (W : Wd K mg) : mg "enumerate" = none := W.free 57 rfl
theorem Wd.cls_Share {K : PySem.W.Frag} {mg : Str → Option Value} (W : Wd K mg) : Cls K (He.ga K "Share") := He.cls_ok (W.c.fact 62 rfl)
theorem Wd.mkr_Share {K : PySem.W.Frag} {mg : Str → Option Value} (W : Wd K mg) : Mk K (He.ga K "Share") (He.ma K (He.ga K "Share") "__init__") := He.mkr_ok (W.c.fact 63 rfl)
theorem Wd.cls_Term {K : PySem.W.Frag} {mg : Str → Option Value} (W : Wd K mg) : Cls K (He.ga K "Term") := He.cls_ok (W.c.fact 64 rfl)
theorem Wd.mkr_Term {K : PySem.W.Frag} {mg : Str → Option Value} (W : Wd K mg) : Mk K (He.ga K "Term") (He.ma K (He.ga K "Term") "__init__") := He.mkr_ok (W.c.fact 65 rfl)
theorem Wd.cls_Row {K : PySem.W.Frag} {mg : Str → Option Value} (W : Wd K mg) : Cls K (He.ga K "Row") := He.cls_ok (W.c.fact 66 rfl)
theorem Wd.mkr_Row {K : PySem.W.Frag} {mg : Str → Option Value} (W : Wd K mg) : Mk K (He.ga K "Row") (He.ma K (He.ga K "Row") "__init__") := He.mkr_ok (W.c.fact 67 rfl)
theorem Wd.cls_Table {K : PySem.W.Frag} {mg : Str → Option Value} (W : Wd K mg) : Cls K (He.ga K "Table") := He.cls_ok (W.c.fact 68 rfl)
theorem Wd.mkr_Table {K : PySem.W.Frag} {mg : Str → Option Value} (W : Wd K mg) : Mk K (He.ga K "Table") (He.ma K (He.ga K "Table") "__init__") := He.mkr_ok (W.c.fact 69 rfl)
theorem Wd.n_Share_top {K : PySem.W.Frag} {mg : Str → Option Value} (W : Wd K mg) : NoAttr K (He.ga K "Share") "top" := He.noat_ok (W.c.fact 70 rfl)
theorem Wd.n_Share_bottom {K : PySem.W.Frag} {mg : Str → Option Value} (W : Wd K mg) : NoAttr K (He.ga K "Share") "bottom" := He.noat_ok (W.c.fact 71 rfl)
theorem Wd.n_Term_number {K : PySem.W.Frag} {mg : Str → Option Value} (W : Wd K mg) : NoAttr K (He.ga K "Term") "number" := He.noat_ok (W.c.fact 72 rfl)
theorem Wd.n_Term_times {K : PySem.W.Frag} {mg : Str → Option Value} (W : Wd K mg) : NoAttr K (He.ga K "Term") "times" := He.noat_ok (W.c.fact 73 rfl)
theorem Wd.n_NoUnknown_k {K : PySem.W.Frag} {mg : Str → Option Value} (W : Wd K mg) : NoAttr K (He.ga K "NoUnknown") "k" := He.noat_ok (W.c.fact 74 rfl)
theorem Wd.n_Table_cells {K : PySem.W.Frag} {mg : Str → Option Value} (W : Wd K mg) : NoAttr K (He.ga K "Table") "cells" := He.noat_ok (W.c.fact 75 rfl)
theorem Wd.n_Table_whole {K : PySem.W.Frag} {mg : Str → Option Value} (W : Wd K mg) : NoAttr K (He.ga K "Table") "whole" := He.noat_ok (W.c.fact 76 rfl)
theorem Wd.n_Table_sides {K : PySem.W.Frag} {mg : Str → Option Value} (W : Wd K mg) : NoAttr K (He.ga K "Table") "sides" := He.noat_ok (W.c.fact 77 rfl)
theorem Wd.n_Table_heads {K : PySem.W.Frag} {mg : Str → Option Value} (W : Wd K mg) : NoAttr K (He.ga K "Table") "heads" := He.noat_ok (W.c.fact 78 rfl)
theorem Wd.n_Row_term {K : PySem.W.Frag} {mg : Str → Option Value} (W : Wd K mg) : NoAttr K (He.ga K "Row") "term" := He.noat_ok (W.c.fact 79 rfl)
theorem Wd.n_Row_strict {K : PySem.W.Frag} {mg : Str → Option Value} (W : Wd K mg) : NoAttr K (He.ga K "Row") "strict" := He.noat_ok (W.c.fact 80 rfl)
theorem Wd.m_Share_eq {K : PySem.W.Frag} {mg : Str → Option Value} (W : Wd K mg) : Meth K (He.ga K "Share") "__eq__" (He.ma K (He.ga K "Share") "__eq__") := He.meth_ok (W.c.fact 81 rfl)
theorem Wd.m_Share_add {K : PySem.W.Frag} {mg : Str → Option Value} (W : Wd K mg) : Meth K (He.ga K "Share") "__add__" (He.ma K (He.ga K "Share") "__add__") := He.meth_ok (W.c.fact 82 rfl)
theorem Wd.m_Share_radd {K : PySem.W.Frag} {mg : Str → Option Value} (W : Wd K mg) : Meth K (He.ga K "Share") "__radd__" (He.ma K (He.ga K "Share") "__radd__") := He.meth_ok (W.c.fact 83 rfl)
theorem Wd.m_Share_sub {K : PySem.W.Frag} {mg : Str → Option Value} (W : Wd K mg) : Meth K (He.ga K "Share") "__sub__" (He.ma K (He.ga K "Share") "__sub__") := He.meth_ok (W.c.fact 84 rfl)
theorem Wd.m_Share_rsub {K : PySem.W.Frag} {mg : Str → Option Value} (W : Wd K mg) : Meth K (He.ga K "Share") "__rsub__" (He.ma K (He.ga K "Share") "__rsub__") := He.meth_ok (W.c.fact 85 rfl)
theorem Wd.m_Share_mul {K : PySem.W.Frag} {mg : Str → Option Value} (W : Wd K mg) : Meth K (He.ga K "Share") "__mul__" (He.ma K (He.ga K "Share") "__mul__") := He.meth_ok (W.c.fact 86 rfl)
theorem Wd.m_Share_rmul {K : PySem.W.Frag} {mg : Str → Option Value} (W : Wd K mg) : Meth K (He.ga K "Share") "__rmul__" (He.ma K (He.ga K "Share") "__rmul__") := He.meth_ok (W.c.fact 87 rfl)
theorem Wd.m_Share_neg {K : PySem.W.Frag} {mg : Str → Option Value} (W : Wd K mg) : Meth K (He.ga K "Share") "__neg__" (He.ma K (He.ga K "Share") "__neg__") := He.meth_ok (W.c.fact 88 rfl)
theorem Wd.m_Share_over {K : PySem.W.Frag} {mg : Str → Option Value} (W : Wd K mg) : Meth K (He.ga K "Share") "over" (He.ma K (He.ga K "Share") "over") := He.meth_ok (W.c.fact 89 rfl)
theorem Wd.m_Share_lt {K : PySem.W.Frag} {mg : Str → Option Value} (W : Wd K mg) : Meth K (He.ga K "Share") "__lt__" (He.ma K (He.ga K "Share") "__lt__") := He.meth_ok (W.c.fact 90 rfl)
theorem Wd.m_Share_le {K : PySem.W.Frag} {mg : Str → Option Value} (W : Wd K mg) : Meth K (He.ga K "Share") "__le__" (He.ma K (He.ga K "Share") "__le__") := He.meth_ok (W.c.fact 91 rfl)
theorem Wd.m_Share_gt {K : PySem.W.Frag} {mg : Str → Option Value} (W : Wd K mg) : Meth K (He.ga K "Share") "__gt__" (He.ma K (He.ga K "Share") "__gt__") := He.meth_ok (W.c.fact 92 rfl)
theorem Wd.m_Share_ge {K : PySem.W.Frag} {mg : Str → Option Value} (W : Wd K mg) : Meth K (He.ga K "Share") "__ge__" (He.ma K (He.ga K "Share") "__ge__") := He.meth_ok (W.c.fact 93 rfl)
theorem Wd.m_Term_eq {K : PySem.W.Frag} {mg : Str → Option Value} (W : Wd K mg) : Meth K (He.ga K "Term") "__eq__" (He.ma K (He.ga K "Term") "__eq__") := He.meth_ok (W.c.fact 94 rfl)
theorem Wd.m_Term_add {K : PySem.W.Frag} {mg : Str → Option Value} (W : Wd K mg) : Meth K (He.ga K "Term") "__add__" (He.ma K (He.ga K "Term") "__add__") := He.meth_ok (W.c.fact 95 rfl)
theorem Wd.m_Term_radd {K : PySem.W.Frag} {mg : Str → Option Value} (W : Wd K mg) : Meth K (He.ga K "Term") "__radd__" (He.ma K (He.ga K "Term") "__radd__") := He.meth_ok (W.c.fact 96 rfl)
theorem Wd.m_Term_sub {K : PySem.W.Frag} {mg : Str → Option Value} (W : Wd K mg) : Meth K (He.ga K "Term") "__sub__" (He.ma K (He.ga K "Term") "__sub__") := He.meth_ok (W.c.fact 97 rfl)
theorem Wd.m_Term_rsub {K : PySem.W.Frag} {mg : Str → Option Value} (W : Wd K mg) : Meth K (He.ga K "Term") "__rsub__" (He.ma K (He.ga K "Term") "__rsub__") := He.meth_ok (W.c.fact 98 rfl)
theorem Wd.m_Term_mul {K : PySem.W.Frag} {mg : Str → Option Value} (W : Wd K mg) : Meth K (He.ga K "Term") "__mul__" (He.ma K (He.ga K "Term") "__mul__") := He.meth_ok (W.c.fact 99 rfl)
theorem Wd.m_Term_rmul {K : PySem.W.Frag} {mg : Str → Option Value} (W : Wd K mg) : Meth K (He.ga K "Term") "__rmul__" (He.ma K (He.ga K "Term") "__rmul__") := He.meth_ok (W.c.fact 100 rfl)
theorem Wd.m_Term_neg {K : PySem.W.Frag} {mg : Str → Option Value} (W : Wd K mg) : Meth K (He.ga K "Term") "__neg__" (He.ma K (He.ga K "Term") "__neg__") := He.meth_ok (W.c.fact 101 rfl)
theorem Wd.m_Term_over {K : PySem.W.Frag} {mg : Str → Option Value} (W : Wd K mg) : Meth K (He.ga K "Term") "over" (He.ma K (He.ga K "Term") "over") := He.meth_ok (W.c.fact 102 rfl)
theorem Wd.m_Term_lt {K : PySem.W.Frag} {mg : Str → Option Value} (W : Wd K mg) : Meth K (He.ga K "Term") "__lt__" (He.ma K (He.ga K "Term") "__lt__") := He.meth_ok (W.c.fact 103 rfl)
theorem Wd.m_Term_le {K : PySem.W.Frag} {mg : Str → Option Value} (W : Wd K mg) : Meth K (He.ga K "Term") "__le__" (He.ma K (He.ga K "Term") "__le__") := He.meth_ok (W.c.fact 104 rfl)
theorem Wd.m_Term_gt {K : PySem.W.Frag} {mg : Str → Option Value} (W : Wd K mg) : Meth K (He.ga K "Term") "__gt__" (He.ma K (He.ga K "Term") "__gt__") := He.meth_ok (W.c.fact 105 rfl)
theorem Wd.m_Term_ge {K : PySem.W.Frag} {mg : Str → Option Value} (W : Wd K mg) : Meth K (He.ga K "Term") "__ge__" (He.ma K (He.ga K "Term") "__ge__") := He.meth_ok (W.c.fact 106 rfl)
theorem Wd.m_Row_invert {K : PySem.W.Frag} {mg : Str → Option Value} (W : Wd K mg) : Meth K (He.ga K "Row") "__invert__" (He.ma K (He.ga K "Row") "__invert__") := He.meth_ok (W.c.fact 107 rfl)
theorem Wd.F_divisor {K : PySem.W.Frag} {mg : Str → Option Value} (W : Wd K mg) : ∃ fd, FunD K d_divisor.name d_divisor.qual d_divisor.params d_divisor.body d_divisor.scope (d_divisor.dvs K) (d_divisor.kws K) (He.fAd K d_divisor.at_) fd := W.c.def_ 0 rfl
theorem Wd.F_is_integer {K : PySem.W.Frag} {mg : Str → Option Value} (W : Wd K mg) : ∃ fd, FunD K d_is_integer.name d_is_integer.qual d_is_integer.params d_is_integer.body d_is_integer.scope (d_is_integer.dvs K) (d_is_integer.kws K) (He.fAd K d_is_integer.at_) fd := W.c.def_ 1 rfl
theorem Wd.F_is_number {K : PySem.W.Frag} {mg : Str → Option Value} (W : Wd K mg) : ∃ fd, FunD K d_is_number.name d_is_number.qual d_is_number.params d_is_number.body d_is_number.scope (d_is_number.dvs K) (d_is_number.kws K) (He.fAd K d_is_number.at_) fd := W.c.def_ 2 rfl
theorem Wd.F_share_of {K : PySem.W.Frag} {mg : Str → Option Value} (W : Wd K mg) : ∃ fd, FunD K d_share_of.name d_share_of.qual d_share_of.params d_share_of.body d_share_of.scope (d_share_of.dvs K) (d_share_of.kws K) (He.fAd K d_share_of.at_) fd := W.c.def_ 3 rfl
theorem Wd.F_fraction {K : PySem.W.Frag} {mg : Str → Option Value} (W : Wd K mg) : ∃ fd, FunD K d_fraction.name d_fraction.qual d_fraction.params d_fraction.body d_fraction.scope (d_fraction.dvs K) (d_fraction.kws K) (He.fAd K d_fraction.at_) fd := W.c.def_ 4 rfl
theorem Wd.F_excess {K : PySem.W.Frag} {mg : Str → Option Value} (W : Wd K mg) : ∃ fd, FunD K d_excess.name d_excess.qual d_excess.params d_excess.body d_excess.scope (d_excess.dvs K) (d_excess.kws K) (He.fAd K d_excess.at_) fd := W.c.def_ 5 rfl
theorem Wd.F_term_of {K : PySem.W.Frag} {mg : Str → Option Value} (W : Wd K mg) : ∃ fd, FunD K d_term_of.name d_term_of.qual d_term_of.params d_term_of.body d_term_of.scope (d_term_of.dvs K) (d_term_of.kws K) (He.fAd K d_term_of.at_) fd := W.c.def_ 6 rfl
theorem Wd.F_source {K : PySem.W.Frag} {mg : Str → Option Value} (W : Wd K mg) : ∃ fd, FunD K d_source.name d_source.qual d_source.params d_source.body d_source.scope (d_source.dvs K) (d_source.kws K) (He.fAd K d_source.at_) fd := W.c.def_ 7 rfl
theorem Wd.F_draw {K : PySem.W.Frag} {mg : Str → Option Value} (W : Wd K mg) : ∃ fd, FunD K d_draw.name d_draw.qual d_draw.params d_draw.body d_draw.scope (d_draw.dvs K) (d_draw.kws K) (He.fAd K d_draw.at_) fd := W.c.def_ 8 rfl
theorem Wd.F_same {K : PySem.W.Frag} {mg : Str → Option Value} (W : Wd K mg) : ∃ fd, FunD K d_same.name d_same.qual d_same.params d_same.body d_same.scope (d_same.dvs K) (d_same.kws K) (He.fAd K d_same.at_) fd := W.c.def_ 9 rfl
theorem Wd.F_lowest {K : PySem.W.Frag} {mg : Str → Option Value} (W : Wd K mg) : ∃ fd, FunD K d_lowest.name d_lowest.qual d_lowest.params d_lowest.body d_lowest.scope (d_lowest.dvs K) (d_lowest.kws K) (He.fAd K d_lowest.at_) fd := W.c.def_ 10 rfl
theorem Wd.F_scale {K : PySem.W.Frag} {mg : Str → Option Value} (W : Wd K mg) : ∃ fd, FunD K d_scale.name d_scale.qual d_scale.params d_scale.body d_scale.scope (d_scale.dvs K) (d_scale.kws K) (He.fAd K d_scale.at_) fd := W.c.def_ 11 rfl
theorem Wd.F_turned {K : PySem.W.Frag} {mg : Str → Option Value} (W : Wd K mg) : ∃ fd, FunD K d_turned.name d_turned.qual d_turned.params d_turned.body d_turned.scope (d_turned.dvs K) (d_turned.kws K) (He.fAd K d_turned.at_) fd := W.c.def_ 12 rfl
theorem Wd.F_least_mark {K : PySem.W.Frag} {mg : Str → Option Value} (W : Wd K mg) : ∃ fd, FunD K d_least_mark.name d_least_mark.qual d_least_mark.params d_least_mark.body d_least_mark.scope (d_least_mark.dvs K) (d_least_mark.kws K) (He.fAd K d_least_mark.at_) fd := W.c.def_ 13 rfl
theorem Wd.F_first_table {K : PySem.W.Frag} {mg : Str → Option Value} (W : Wd K mg) : ∃ fd, FunD K d_first_table.name d_first_table.qual d_first_table.params d_first_table.body d_first_table.scope (d_first_table.dvs K) (d_first_table.kws K) (He.fAd K d_first_table.at_) fd := W.c.def_ 14 rfl
theorem Wd.F_next_turn {K : PySem.W.Frag} {mg : Str → Option Value} (W : Wd K mg) : ∃ fd, FunD K d_next_turn.name d_next_turn.qual d_next_turn.params d_next_turn.body d_next_turn.scope (d_next_turn.dvs K) (d_next_turn.kws K) (He.fAd K d_next_turn.at_) fd := W.c.def_ 15 rfl
theorem Wd.F_solved {K : PySem.W.Frag} {mg : Str → Option Value} (W : Wd K mg) : ∃ fd, FunD K d_solved.name d_solved.qual d_solved.params d_solved.body d_solved.scope (d_solved.dvs K) (d_solved.kws K) (He.fAd K d_solved.at_) fd := W.c.def_ 16 rfl
theorem Wd.F_worth_of {K : PySem.W.Frag} {mg : Str → Option Value} (W : Wd K mg) : ∃ fd, FunD K d_worth_of.name d_worth_of.qual d_worth_of.params d_worth_of.body d_worth_of.scope (d_worth_of.dvs K) (d_worth_of.kws K) (He.fAd K d_worth_of.at_) fd := W.c.def_ 17 rfl
theorem Wd.F_integers_of {K : PySem.W.Frag} {mg : Str → Option Value} (W : Wd K mg) : ∃ fd, FunD K d_integers_of.name d_integers_of.qual d_integers_of.params d_integers_of.body d_integers_of.scope (d_integers_of.dvs K) (d_integers_of.kws K) (He.fAd K d_integers_of.at_) fd := W.c.def_ 18 rfl
theorem Wd.F_lowered {K : PySem.W.Frag} {mg : Str → Option Value} (W : Wd K mg) : ∃ fd, FunD K d_lowered.name d_lowered.qual d_lowered.params d_lowered.body d_lowered.scope (d_lowered.dvs K) (d_lowered.kws K) (He.fAd K d_lowered.at_) fd := W.c.def_ 19 rfl
theorem Wd.F_weights_in {K : PySem.W.Frag} {mg : Str → Option Value} (W : Wd K mg) : ∃ fd, FunD K d_weights_in.name d_weights_in.qual d_weights_in.params d_weights_in.body d_weights_in.scope (d_weights_in.dvs K) (d_weights_in.kws K) (He.fAd K d_weights_in.at_) fd := W.c.def_ 20 rfl
theorem Wd.F_cone {K : PySem.W.Frag} {mg : Str → Option Value} (W : Wd K mg) : ∃ fd, FunD K d_cone.name d_cone.qual d_cone.params d_cone.body d_cone.scope (d_cone.dvs K) (d_cone.kws K) (He.fAd K d_cone.at_) fd := W.c.def_ 21 rfl
theorem Wd.F_answer_of {K : PySem.W.Frag} {mg : Str → Option Value} (W : Wd K mg) : ∃ fd, FunD K d_answer_of.name d_answer_of.qual d_answer_of.params d_answer_of.body d_answer_of.scope (d_answer_of.dvs K) (d_answer_of.kws K) (He.fAd K d_answer_of.at_) fd := W.c.def_ 22 rfl
theorem Wd.F_point_of {K : PySem.W.Frag} {mg : Str → Option Value} (W : Wd K mg) : ∃ fd, FunD K d_point_of.name d_point_of.qual d_point_of.params d_point_of.body d_point_of.scope (d_point_of.dvs K) (d_point_of.kws K) (He.fAd K d_point_of.at_) fd := W.c.def_ 23 rfl
theorem Wd.F_weights_of {K : PySem.W.Frag} {mg : Str → Option Value} (W : Wd K mg) : ∃ fd, FunD K d_weights_of.name d_weights_of.qual d_weights_of.params d_weights_of.body d_weights_of.scope (d_weights_of.dvs K) (d_weights_of.kws K) (He.fAd K d_weights_of.at_) fd := W.c.def_ 24 rfl
theorem Wd.F_sum {K : PySem.W.Frag} {mg : Str → Option Value} (W : Wd K mg) : ∃ fd, FunD K d_sum.name d_sum.qual d_sum.params d_sum.body d_sum.scope (d_sum.dvs K) (d_sum.kws K) (He.fAd K d_sum.at_) fd := W.c.def_ 25 rfl
theorem Wd.F_primitive {K : PySem.W.Frag} {mg : Str → Option Value} (W : Wd K mg) : ∃ fd, FunD K d_primitive.name d_primitive.qual d_primitive.params d_primitive.body d_primitive.scope (d_primitive.dvs K) (d_primitive.kws K) (He.fAd K d_primitive.at_) fd := W.c.def_ 26 rfl
theorem Wd.F_unknowns {K : PySem.W.Frag} {mg : Str → Option Value} (W : Wd K mg) : ∃ fd, FunD K d_unknowns.name d_unknowns.qual d_unknowns.params d_unknowns.body d_unknowns.scope (d_unknowns.dvs K) (d_unknowns.kws K) (He.fAd K d_unknowns.at_) fd := W.c.def_ 27 rfl
theorem Wd.F_lterm_of {K : PySem.W.Frag} {mg : Str → Option Value} (W : Wd K mg) : ∃ fd, FunD K d_lterm_of.name d_lterm_of.qual d_lterm_of.params d_lterm_of.body d_lterm_of.scope (d_lterm_of.dvs K) (d_lterm_of.kws K) (He.fAd K d_lterm_of.at_) fd := W.c.def_ 28 rfl
theorem Wd.F_written {K : PySem.W.Frag} {mg : Str → Option Value} (W : Wd K mg) : ∃ fd, FunD K d_written.name d_written.qual d_written.params d_written.body d_written.scope (d_written.dvs K) (d_written.kws K) (He.fAd K d_written.at_) fd := W.c.def_ 29 rfl
theorem Wd.F_keeps {K : PySem.W.Frag} {mg : Str → Option Value} (W : Wd K mg) : ∃ fd, FunD K d_keeps.name d_keeps.qual d_keeps.params d_keeps.body d_keeps.scope (d_keeps.dvs K) (d_keeps.kws K) (He.fAd K d_keeps.at_) fd := W.c.def_ 30 rfl
theorem Wd.F_shows {K : PySem.W.Frag} {mg : Str → Option Value} (W : Wd K mg) : ∃ fd, FunD K d_shows.name d_shows.qual d_shows.params d_shows.body d_shows.scope (d_shows.dvs K) (d_shows.kws K) (He.fAd K d_shows.at_) fd := W.c.def_ 31 rfl
theorem Wd.F_rows_of {K : PySem.W.Frag} {mg : Str → Option Value} (W : Wd K mg) : ∃ fd, FunD K d_rows_of.name d_rows_of.qual d_rows_of.params d_rows_of.body d_rows_of.scope (d_rows_of.dvs K) (d_rows_of.kws K) (He.fAd K d_rows_of.at_) fd := W.c.def_ 32 rfl
theorem Wd.F_either {K : PySem.W.Frag} {mg : Str → Option Value} (W : Wd K mg) : ∃ fd, FunD K d_either.name d_either.qual d_either.params d_either.body d_either.scope (d_either.dvs K) (d_either.kws K) (He.fAd K d_either.at_) fd := W.c.def_ 33 rfl
theorem Wd.F_amount_at {K : PySem.W.Frag} {mg : Str → Option Value} (W : Wd K mg) : ∃ fd, FunD K d_amount_at.name d_amount_at.qual d_amount_at.params d_amount_at.body d_amount_at.scope (d_amount_at.dvs K) (d_amount_at.kws K) (He.fAd K d_amount_at.at_) fd := W.c.def_ 34 rfl
theorem Wd.F_through {K : PySem.W.Frag} {mg : Str → Option Value} (W : Wd K mg) : ∃ fd, FunD K d_through.name d_through.qual d_through.params d_through.body d_through.scope (d_through.dvs K) (d_through.kws K) (He.fAd K d_through.at_) fd := W.c.def_ 35 rfl
theorem Wd.F_balanced {K : PySem.W.Frag} {mg : Str → Option Value} (W : Wd K mg) : ∃ fd, FunD K d_balanced.name d_balanced.qual d_balanced.params d_balanced.body d_balanced.scope (d_balanced.dvs K) (d_balanced.kws K) (He.fAd K d_balanced.at_) fd := W.c.def_ 36 rfl
theorem Wd.F_zeros {K : PySem.W.Frag} {mg : Str → Option Value} (W : Wd K mg) : ∃ fd, FunD K d_zeros.name d_zeros.qual d_zeros.params d_zeros.body d_zeros.scope (d_zeros.dvs K) (d_zeros.kws K) (He.fAd K d_zeros.at_) fd := W.c.def_ 37 rfl
theorem Wd.F_law {K : PySem.W.Frag} {mg : Str → Option Value} (W : Wd K mg) : ∃ fd, FunD K d_law.name d_law.qual d_law.params d_law.body d_law.scope (d_law.dvs K) (d_law.kws K) (He.fAd K d_law.at_) fd := W.c.def_ 38 rfl
theorem Wd.F_Share_init {K : PySem.W.Frag} {mg : Str → Option Value} (W : Wd K mg) : ∃ fd, FunD K d_Share_init.name d_Share_init.qual d_Share_init.params d_Share_init.body d_Share_init.scope (d_Share_init.dvs K) (d_Share_init.kws K) (He.fAd K d_Share_init.at_) fd := W.c.def_ 39 rfl
theorem Wd.F_Share_eq {K : PySem.W.Frag} {mg : Str → Option Value} (W : Wd K mg) : ∃ fd, FunD K d_Share_eq.name d_Share_eq.qual d_Share_eq.params d_Share_eq.body d_Share_eq.scope (d_Share_eq.dvs K) (d_Share_eq.kws K) (He.fAd K d_Share_eq.at_) fd := W.c.def_ 40 rfl
theorem Wd.F_Share_add {K : PySem.W.Frag} {mg : Str → Option Value} (W : Wd K mg) : ∃ fd, FunD K d_Share_add.name d_Share_add.qual d_Share_add.params d_Share_add.body d_Share_add.scope (d_Share_add.dvs K) (d_Share_add.kws K) (He.fAd K d_Share_add.at_) fd := W.c.def_ 41 rfl
theorem Wd.F_Share_radd {K : PySem.W.Frag} {mg : Str → Option Value} (W : Wd K mg) : ∃ fd, FunD K d_Share_radd.name d_Share_radd.qual d_Share_radd.params d_Share_radd.body d_Share_radd.scope (d_Share_radd.dvs K) (d_Share_radd.kws K) (He.fAd K d_Share_radd.at_) fd := W.c.def_ 42 rfl
theorem Wd.F_Share_sub {K : PySem.W.Frag} {mg : Str → Option Value} (W : Wd K mg) : ∃ fd, FunD K d_Share_sub.name d_Share_sub.qual d_Share_sub.params d_Share_sub.body d_Share_sub.scope (d_Share_sub.dvs K) (d_Share_sub.kws K) (He.fAd K d_Share_sub.at_) fd := W.c.def_ 43 rfl
theorem Wd.F_Share_rsub {K : PySem.W.Frag} {mg : Str → Option Value} (W : Wd K mg) : ∃ fd, FunD K d_Share_rsub.name d_Share_rsub.qual d_Share_rsub.params d_Share_rsub.body d_Share_rsub.scope (d_Share_rsub.dvs K) (d_Share_rsub.kws K) (He.fAd K d_Share_rsub.at_) fd := W.c.def_ 44 rfl
theorem Wd.F_Share_mul {K : PySem.W.Frag} {mg : Str → Option Value} (W : Wd K mg) : ∃ fd, FunD K d_Share_mul.name d_Share_mul.qual d_Share_mul.params d_Share_mul.body d_Share_mul.scope (d_Share_mul.dvs K) (d_Share_mul.kws K) (He.fAd K d_Share_mul.at_) fd := W.c.def_ 45 rfl
theorem Wd.F_Share_rmul {K : PySem.W.Frag} {mg : Str → Option Value} (W : Wd K mg) : ∃ fd, FunD K d_Share_rmul.name d_Share_rmul.qual d_Share_rmul.params d_Share_rmul.body d_Share_rmul.scope (d_Share_rmul.dvs K) (d_Share_rmul.kws K) (He.fAd K d_Share_rmul.at_) fd := W.c.def_ 46 rfl
theorem Wd.F_Share_neg {K : PySem.W.Frag} {mg : Str → Option Value} (W : Wd K mg) : ∃ fd, FunD K d_Share_neg.name d_Share_neg.qual d_Share_neg.params d_Share_neg.body d_Share_neg.scope (d_Share_neg.dvs K) (d_Share_neg.kws K) (He.fAd K d_Share_neg.at_) fd := W.c.def_ 47 rfl
theorem Wd.F_Share_over {K : PySem.W.Frag} {mg : Str → Option Value} (W : Wd K mg) : ∃ fd, FunD K d_Share_over.name d_Share_over.qual d_Share_over.params d_Share_over.body d_Share_over.scope (d_Share_over.dvs K) (d_Share_over.kws K) (He.fAd K d_Share_over.at_) fd := W.c.def_ 48 rfl
theorem Wd.F_Share_lt {K : PySem.W.Frag} {mg : Str → Option Value} (W : Wd K mg) : ∃ fd, FunD K d_Share_lt.name d_Share_lt.qual d_Share_lt.params d_Share_lt.body d_Share_lt.scope (d_Share_lt.dvs K) (d_Share_lt.kws K) (He.fAd K d_Share_lt.at_) fd := W.c.def_ 49 rfl
theorem Wd.F_Share_le {K : PySem.W.Frag} {mg : Str → Option Value} (W : Wd K mg) : ∃ fd, FunD K d_Share_le.name d_Share_le.qual d_Share_le.params d_Share_le.body d_Share_le.scope (d_Share_le.dvs K) (d_Share_le.kws K) (He.fAd K d_Share_le.at_) fd := W.c.def_ 50 rfl
theorem Wd.F_Share_gt {K : PySem.W.Frag} {mg : Str → Option Value} (W : Wd K mg) : ∃ fd, FunD K d_Share_gt.name d_Share_gt.qual d_Share_gt.params d_Share_gt.body d_Share_gt.scope (d_Share_gt.dvs K) (d_Share_gt.kws K) (He.fAd K d_Share_gt.at_) fd := W.c.def_ 51 rfl
theorem Wd.F_Share_ge {K : PySem.W.Frag} {mg : Str → Option Value} (W : Wd K mg) : ∃ fd, FunD K d_Share_ge.name d_Share_ge.qual d_Share_ge.params d_Share_ge.body d_Share_ge.scope (d_Share_ge.dvs K) (d_Share_ge.kws K) (He.fAd K d_Share_ge.at_) fd := W.c.def_ 52 rfl
theorem Wd.F_Term_init {K : PySem.W.Frag} {mg : Str → Option Value} (W : Wd K mg) : ∃ fd, FunD K d_Term_init.name d_Term_init.qual d_Term_init.params d_Term_init.body d_Term_init.scope (d_Term_init.dvs K) (d_Term_init.kws K) (He.fAd K d_Term_init.at_) fd := W.c.def_ 53 rfl
theorem Wd.F_Term_eq {K : PySem.W.Frag} {mg : Str → Option Value} (W : Wd K mg) : ∃ fd, FunD K d_Term_eq.name d_Term_eq.qual d_Term_eq.params d_Term_eq.body d_Term_eq.scope (d_Term_eq.dvs K) (d_Term_eq.kws K) (He.fAd K d_Term_eq.at_) fd := W.c.def_ 54 rfl
theorem Wd.F_Term_add {K : PySem.W.Frag} {mg : Str → Option Value} (W : Wd K mg) : ∃ fd, FunD K d_Term_add.name d_Term_add.qual d_Term_add.params d_Term_add.body d_Term_add.scope (d_Term_add.dvs K) (d_Term_add.kws K) (He.fAd K d_Term_add.at_) fd := W.c.def_ 55 rfl
theorem Wd.F_Term_radd {K : PySem.W.Frag} {mg : Str → Option Value} (W : Wd K mg) : ∃ fd, FunD K d_Term_radd.name d_Term_radd.qual d_Term_radd.params d_Term_radd.body d_Term_radd.scope (d_Term_radd.dvs K) (d_Term_radd.kws K) (He.fAd K d_Term_radd.at_) fd := W.c.def_ 56 rfl
theorem Wd.F_Term_sub {K : PySem.W.Frag} {mg : Str → Option Value} (W : Wd K mg) : ∃ fd, FunD K d_Term_sub.name d_Term_sub.qual d_Term_sub.params d_Term_sub.body d_Term_sub.scope (d_Term_sub.dvs K) (d_Term_sub.kws K) (He.fAd K d_Term_sub.at_) fd := W.c.def_ 57 rfl
theorem Wd.F_Term_rsub {K : PySem.W.Frag} {mg : Str → Option Value} (W : Wd K mg) : ∃ fd, FunD K d_Term_rsub.name d_Term_rsub.qual d_Term_rsub.params d_Term_rsub.body d_Term_rsub.scope (d_Term_rsub.dvs K) (d_Term_rsub.kws K) (He.fAd K d_Term_rsub.at_) fd := W.c.def_ 58 rfl
theorem Wd.F_Term_mul {K : PySem.W.Frag} {mg : Str → Option Value} (W : Wd K mg) : ∃ fd, FunD K d_Term_mul.name d_Term_mul.qual d_Term_mul.params d_Term_mul.body d_Term_mul.scope (d_Term_mul.dvs K) (d_Term_mul.kws K) (He.fAd K d_Term_mul.at_) fd := W.c.def_ 59 rfl
theorem Wd.F_Term_rmul {K : PySem.W.Frag} {mg : Str → Option Value} (W : Wd K mg) : ∃ fd, FunD K d_Term_rmul.name d_Term_rmul.qual d_Term_rmul.params d_Term_rmul.body d_Term_rmul.scope (d_Term_rmul.dvs K) (d_Term_rmul.kws K) (He.fAd K d_Term_rmul.at_) fd := W.c.def_ 60 rfl
theorem Wd.F_Term_neg {K : PySem.W.Frag} {mg : Str → Option Value} (W : Wd K mg) : ∃ fd, FunD K d_Term_neg.name d_Term_neg.qual d_Term_neg.params d_Term_neg.body d_Term_neg.scope (d_Term_neg.dvs K) (d_Term_neg.kws K) (He.fAd K d_Term_neg.at_) fd := W.c.def_ 61 rfl
theorem Wd.F_Term_over {K : PySem.W.Frag} {mg : Str → Option Value} (W : Wd K mg) : ∃ fd, FunD K d_Term_over.name d_Term_over.qual d_Term_over.params d_Term_over.body d_Term_over.scope (d_Term_over.dvs K) (d_Term_over.kws K) (He.fAd K d_Term_over.at_) fd := W.c.def_ 62 rfl
theorem Wd.F_Term_lt {K : PySem.W.Frag} {mg : Str → Option Value} (W : Wd K mg) : ∃ fd, FunD K d_Term_lt.name d_Term_lt.qual d_Term_lt.params d_Term_lt.body d_Term_lt.scope (d_Term_lt.dvs K) (d_Term_lt.kws K) (He.fAd K d_Term_lt.at_) fd := W.c.def_ 63 rfl
theorem Wd.F_Term_le {K : PySem.W.Frag} {mg : Str → Option Value} (W : Wd K mg) : ∃ fd, FunD K d_Term_le.name d_Term_le.qual d_Term_le.params d_Term_le.body d_Term_le.scope (d_Term_le.dvs K) (d_Term_le.kws K) (He.fAd K d_Term_le.at_) fd := W.c.def_ 64 rfl
theorem Wd.F_Term_gt {K : PySem.W.Frag} {mg : Str → Option Value} (W : Wd K mg) : ∃ fd, FunD K d_Term_gt.name d_Term_gt.qual d_Term_gt.params d_Term_gt.body d_Term_gt.scope (d_Term_gt.dvs K) (d_Term_gt.kws K) (He.fAd K d_Term_gt.at_) fd := W.c.def_ 65 rfl
theorem Wd.F_Term_ge {K : PySem.W.Frag} {mg : Str → Option Value} (W : Wd K mg) : ∃ fd, FunD K d_Term_ge.name d_Term_ge.qual d_Term_ge.params d_Term_ge.body d_Term_ge.scope (d_Term_ge.dvs K) (d_Term_ge.kws K) (He.fAd K d_Term_ge.at_) fd := W.c.def_ 66 rfl
theorem Wd.F_Row_init {K : PySem.W.Frag} {mg : Str → Option Value} (W : Wd K mg) : ∃ fd, FunD K d_Row_init.name d_Row_init.qual d_Row_init.params d_Row_init.body d_Row_init.scope (d_Row_init.dvs K) (d_Row_init.kws K) (He.fAd K d_Row_init.at_) fd := W.c.def_ 67 rfl
theorem Wd.F_Row_invert {K : PySem.W.Frag} {mg : Str → Option Value} (W : Wd K mg) : ∃ fd, FunD K d_Row_invert.name d_Row_invert.qual d_Row_invert.params d_Row_invert.body d_Row_invert.scope (d_Row_invert.dvs K) (d_Row_invert.kws K) (He.fAd K d_Row_invert.at_) fd := W.c.def_ 68 rfl
theorem Wd.F_Table_init {K : PySem.W.Frag} {mg : Str → Option Value} (W : Wd K mg) : ∃ fd, FunD K d_Table_init.name d_Table_init.qual d_Table_init.params d_Table_init.body d_Table_init.scope (d_Table_init.dvs K) (d_Table_init.kws K) (He.fAd K d_Table_init.at_) fd := W.c.def_ 69 rfl
theorem Wd.F_Term_constant {K : PySem.W.Frag} {mg : Str → Option Value} (W : Wd K mg) : ∃ fd, FunD K d_Term_constant.name d_Term_constant.qual d_Term_constant.params d_Term_constant.body d_Term_constant.scope (d_Term_constant.dvs K) (d_Term_constant.kws K) (d_Term_constant.at_ K) fd := W.stat 0 rfl
theorem Wd.F_Term_unknown {K : PySem.W.Frag} {mg : Str → Option Value} (W : Wd K mg) : ∃ fd, FunD K d_Term_unknown.name d_Term_unknown.qual d_Term_unknown.params d_Term_unknown.body d_Term_unknown.scope (d_Term_unknown.dvs K) (d_Term_unknown.kws K) (d_Term_unknown.at_ K) fd := W.stat 1 rfl
def loose1 : List PySem.Str := ["FREE", "GOAL", "LessError", "NoShare", "NoUnknown", "NotStraight", "ONE", "Row", "Share", "Table", "Term", "UNKNOWNS", "_law_amount_at", "_law_balanced", "_law_draw", "_law_either", "_law_keeps", "_law_lowest", "_law_primitive", "_law_rows_of", "_law_same", "_law_shows", "_law_source", "_law_sum", "_law_term_of", "_law_through"]
def loose2 : List PySem.Str := ["_law_unknowns", "_law_written", "_law_zeros", "_wall", "answer_of", "cone", "digits", "divisor", "excess", "first_table", "fraction", "integers_of", "is_integer", "is_number", "least_mark", "lowered", "next_turn", "point_of", "scale", "share_of", "solved", "term_of", "turned", "weights_in", "weights_of", "worth_of"]
abbrev R : PySem.W.OpenRow := PySem.W.OpenLaw.row PySem.Challenge.rw_lessways_k41_sharp_borders
def lawAt : Nat := 59
section
variable {K : PySem.W.Frag} {mg : Str → Option Value}
theorem Wd.e_firstShare (W : Wd K mg) : (fun K => PySem.W.selfFirst K (He.ga K "Share")) K = true := W.ex 32 rfl
theorem Wd.e_notIntShare (W : Wd K mg) : (fun K => decide (PySem.W.mroIn K (He.ga K "Share") (.type "int") = some false)) K = true := W.ex 33 rfl
theorem Wd.e_intNotShare (W : Wd K mg) : (fun K => decide (PySem.W.subIn K (.type "int") (.ref (He.ga K "Share")) = some false)) K = true := W.ex 34 rfl
theorem Wd.e_mro2Share (W : Wd K mg) : (fun K => OpX.mro2B K (He.ga K "Share")) K = true := W.ex 35 rfl
theorem Wd.e_opShareadd (W : Wd K mg) : (fun K => OpX.opB K (He.ga K "Share") "add") K = true := W.ex 36 rfl
theorem Wd.e_opSharesub (W : Wd K mg) : (fun K => OpX.opB K (He.ga K "Share") "sub") K = true := W.ex 37 rfl
theorem Wd.e_opSharemul (W : Wd K mg) : (fun K => OpX.opB K (He.ga K "Share") "mul") K = true := W.ex 38 rfl
theorem Wd.e_firstTerm (W : Wd K mg) : (fun K => PySem.W.selfFirst K (He.ga K "Term")) K = true := W.ex 39 rfl
theorem Wd.e_notIntTerm (W : Wd K mg) : (fun K => decide (PySem.W.mroIn K (He.ga K "Term") (.type "int") = some false)) K = true := W.ex 40 rfl
theorem Wd.e_intNotTerm (W : Wd K mg) : (fun K => decide (PySem.W.subIn K (.type "int") (.ref (He.ga K "Term")) = some false)) K = true := W.ex 41 rfl
theorem Wd.e_mro2Term (W : Wd K mg) : (fun K => OpX.mro2B K (He.ga K "Term")) K = true := W.ex 42 rfl
theorem Wd.e_opTermadd (W : Wd K mg) : (fun K => OpX.opB K (He.ga K "Term") "add") K = true := W.ex 43 rfl
theorem Wd.e_opTermsub (W : Wd K mg) : (fun K => OpX.opB K (He.ga K "Term") "sub") K = true := W.ex 44 rfl
theorem Wd.e_opTermmul (W : Wd K mg) : (fun K => OpX.opB K (He.ga K "Term") "mul") K = true := W.ex 45 rfl
theorem Wd.e_clsRow (W : Wd K mg) : (fun K => He.eqO (PySem.W.findIn K (.ref (He.ga K "Row")) "__class__") (some (some (.builtin "object.__class__")))) K = true := W.ex 46 rfl
theorem Wd.e_objRow (W : Wd K mg) : (fun K => decide (PySem.W.mroIn K (He.ga K "Row") (.type "object") = some true)) K = true := W.ex 47 rfl
theorem Wd.e_kitRow (W : Wd K mg) : (fun K => decide (PySem.W.kitOne K (.ref (He.ga K "Row")) (.ref (He.ga K "Row")) = some true)) K = true := W.ex 48 rfl
theorem Wd.e_cmpRow (W : Wd K mg) : (fun K => CmX.cmpB K (He.ga K "Row")) K = true := W.ex 49 rfl
theorem Wd.e_kitBR (W : Wd K mg) : (fun K => CmX.names7.all fun T => decide (PySem.W.kitOne K (.type T) (.ref (He.ga K "Row")) = some false)) K = true := W.ex 50 rfl
theorem Wd.e_kitTR (W : Wd K mg) : (fun K => decide (PySem.W.kitOne K (.ref (He.ga K "Term")) (.ref (He.ga K "Row")) = some false)) K = true := W.ex 51 rfl
theorem Wd.e_subTR (W : Wd K mg) : (fun K => decide (PySem.W.subIn K (.ref (He.ga K "Term")) (.ref (He.ga K "Row")) = some false)) K = true := W.ex 52 rfl
theorem Wd.e_bTerm (W : Wd K mg) : (fun K => ["int", "bool", "list", "tuple"].all fun T => decide (PySem.W.kitOne K (.ref (He.ga K "Term")) (.type T) = some false)) K = true := W.ex 53 rfl
theorem Wd.e_bRow (W : Wd K mg) : (fun K => ["int", "bool", "list", "tuple"].all fun T => decide (PySem.W.kitOne K (.ref (He.ga K "Row")) (.type T) = some false)) K = true := W.ex 54 rfl
end
def big9 : Nat := 2 ^ 8999
def bigM : Nat := 2 ^ 400000
section
variable {X : Cx}
/-- // by a divisor that is not 0, below 2 ^ 9000 either way -/
theorem op_fdivX : OpR X (binaryOp .FloorDiv) (rI (fun _ j => j ≠ 0 ∧ j.natAbs < big9) fun i j => .int (i.fdiv j)) := opI fun i j _ _ _ _ _ hc q => by
  exact floordiv_int hc.1 q (.inl (PyProof.noPylong_of_log2 (Nat.lt_of_lt_of_le (PySem.Flt.log2_lt_of (by decide) hc.2) (by decide))))
theorem call_intI : CallR X (.type "int") (fun xs H Q => ∃ i, xs = [.int i] ∧ Q (.int i) H) := fun pins s σ H xs us Q I r h => by
  obtain ⟨i, e, q⟩ := h
  exact call_int1 pins s σ H xs us Q I r (.inl ⟨i, e, q⟩)
theorem op_mulX9 : OpR X (binaryOp .Mult) (rI (fun i j => i.natAbs < bigM ∧ j.natAbs < bigM) fun i j => .int (i * j)) := opI fun i j _ _ _ _ _ hc q => by
  refine mul_int q (CMulW.ok (wide_mul hc.1 hc.2 (by omega) (by omega) (by omega)))
end
def rIxLH : R2 := fun x y H Q => ∃ (p : Addr) (xs : List V) (i : Int) (v : V), x = .ref p ∧ y = .int i ∧ H p = some (.lst xs) ∧ atI xs i = some v ∧ Q v H
def rIxTH : R2 := fun x y H Q => ∃ (p : Addr) (xs : List V) (i : Int) (v : V), x = .ref p ∧ y = .int i ∧ H p = some (.tup xs) ∧ atI xs i = some v ∧ Q v H
section
variable {X : Cx}
theorem ix_lstH : IxR X rIxLH := by
  intro value slice pins s σ H x y v u Q I rx ry h hs
  obtain ⟨p, xs, i, z, e1, e2, hp, a, q⟩ := h
  exact ix_list value slice pins s σ H x y v u Q I rx ry ⟨p, xs, i, z, e1, e2, SqL.of hp, a, q⟩ hs
theorem ix_tupH : IxR X rIxTH := by
  intro value slice pins s σ H x y v u Q I rx ry h hs
  obtain ⟨p, xs, i, z, e1, e2, hp, a, q⟩ := h
  exact ix_tup value slice pins s σ H x y v u Q I rx ry ⟨p, xs, i, z, e1, e2, SqT.of hp, a, q⟩ hs
end
theorem cxK {CX : CXT} {P : Program} {w : World} {K : PySem.W.Frag} {mg : Str → Option Value} {base : Heap} {N : List Str} {qual : Str} {scope : Scope} {f : Addr} {cd : Value} {A : Around} {outer : List Env} {s : Shared} {H : Hp} {E : XK} :
    (cxOf CX P w K mg base N qual scope f cd A outer s H E).K = K := rfl
/-- the size of the int in slot i -/
def intAt (i : Nat) (σ : List (Option V)) : Nat := match σ[i]? with
  | some (some (V.int x)) => x.natAbs
  | _ => 0
theorem ex2 {α β : Type} {a : α} {b : β} {P : α → β → Prop} : (∃ x y, (a = x ∧ b = y) ∧ P x y) ↔ P a b := ⟨fun ⟨_, _, ⟨e1, e2⟩, h⟩ => by subst e1 e2; exact h, fun h => ⟨_, _, ⟨rfl, rfl⟩, h⟩⟩
theorem ex3 {α β γ : Type} {a : α} {b : β} {c : γ} {P : α → β → γ → Prop} : (∃ x y z, (a = x ∧ b = y ∧ c = z) ∧ P x y z) ↔ P a b c := ⟨fun ⟨_, _, _, ⟨e1, e2, e3⟩, h⟩ => by subst e1 e2 e3; exact h, fun h => ⟨_, _, _, ⟨rfl, rfl, rfl⟩, h⟩⟩
theorem ex3b {α β γ : Type} {a : α} {b : β} {c : γ} {P : α → β → γ → Prop} : (∃ x y z, (a = x ∧ b = y ∧ z = c) ∧ P x y z) ↔ P a b c := ⟨fun ⟨_, _, _, ⟨e1, e2, e3⟩, h⟩ => by subst e1 e2 e3; exact h, fun h => ⟨_, _, _, ⟨rfl, rfl, rfl⟩, h⟩⟩
universe u
/-- what a is locked with: behind it simp leaves a be -/
structure Lk {α : Sort u} (a : α) : Type
/-- a new object: what follows holds of it and of the heap with it -/
def Alloc (H : Hp) (o : HO) (Q : V → Hp → Prop) (_ : Lk Q := ⟨⟩) : Prop := ∀ p, H p = none → Q (.ref p) (upd H p o)
theorem same_upd {H : Hp} {p : Addr} {o : HO} (h : H p = none) : Same H (upd H p o) := fun b u e => by
  rw [upd_ne (ne_of_none e h)]
  exact e
theorem Alloc.of {H : Hp} {o : HO} {Q : V → Hp → Prop} (h : ∀ p H', H p = none → H' p = some o → Same H H' → Q (.ref p) H') : Alloc H o Q := fun p hp => h p _ hp upd_same (same_upd hp)
theorem tLst_A {t : TA} {σ : List (Option V)} {H : Hp} {Q : V → Hp → Prop} : tLst t σ H Q = t σ H fun xs H1 => xs.length ≤ sizeLine ∧ Alloc H1 (.lst xs) Q := rfl
theorem tTup_A {t : TA} {σ : List (Option V)} {H : Hp} {Q : V → Hp → Prop} : tTup t σ H Q = t σ H fun xs H1 => xs.length ≤ sizeLine ∧ Alloc H1 (.tup xs) Q := rfl
/-! ### the draws -/
section
variable {P : Program} {w : World} {K : PySem.W.Frag} {mg : Str → Option Value} {base : Heap}
def draws (d0 d1 d2 : Int) : HO := .lst [.int d0, .int d1, .int d2]
theorem scSource : FnScope ["_law_script", "_law_at", "_law_cell"] ["_law_script", "_law_at"] d_source.scope := ⟨rfl, rfl, rfl, by decide +kernel, rfl, by decide +kernel, by decide +kernel⟩
def spSource (K : PySem.W.Frag) : Sp := fun vs H Q _ => ∃ (a : Addr) (ns : List Int) (k : Nat), vs = [.ref a, .int k] ∧ SqL K H a (ns.map V.int) ∧ k < 100 ∧ ∀ (d0 d1 : Int) (p : Addr), H p = none → Q (.ref p) (upd H p (draws d0 d1 0))
theorem le3 : 3 ≤ sizeLine := by decide
theorem ok_source (W : Wd K mg) : ∃ fd, FnOk P w K mg base CX0 1 (He.ga K "_law_source") fd ["_law_script", "_law_at"] (spSource K) ∧ Binds K fd ["_law_script", "_law_at"] [] := by
  obtain ⟨fd, F⟩ := W.F_source
  refine ⟨fd, F.ok scSource (fun vs H Q E h => ?_) (fun cdv A outer s H vs Q E hr h => ?_), FunD.bindsN F fun _ _ _ _ _ _ us hl => match us, hl with | [_, _], _ => rfl⟩
  · obtain ⟨a, ns, k, rfl, _⟩ := h
    rfl
  · obtain ⟨a, ns, k, rfl, hS, hk, q⟩ := h
    refine ⟨_, PSs.nox (pss_cons (ps_set (i := 2) scSource.nd rfl (Or.inl rfl) (pe_ifExp (pt_cmpR op_lt (pv 1) (pe_callB call_len_seq (by rfl) W.f_len boot_len (pa_cons (pv 0) pa_nil)) (nomark _)) (pe_ix ix_list (pv 0) (pv 1) (fun _ _ => rfl)) (pe_op op_add (pe_op op_mul pe_int (pv 1)) pe_int)))
      (pss_one (ps_ret (pe_lst (pa_cons (pe_ifExp (pt_cmpR op_ge (pv 2) (pe_op op_pow pe_int pe_int) (nomark _)) (pv 2) pe_int) (pa_cons (pe_op op_mod (pe_callTy call_intI (by rfl) W.f_int (by decide +kernel) (pa_cons (pv 2) pa_nil)) pe_int) (pa_cons pe_int pa_nil))))))), ?_⟩
    simp -dsimp [tSeq, tAsg, tRet, tIfS, tIf, tTest, tVar, tCons, tNil, tC, tOp, tUn, rI, rI0, rU, tCB, tLst_A, tTup_A, gName, L2.start, CMul, CPow, CDiv, tDrop, tBM, tBM0, tNext, tPar, gSub, rSetL, rIxL, rIxT, tChain, tB, tNot, tNotV, tAnd, tOr, tAndV, tOrV, tFld, tCall, rIxLH, rIxTH, ixN, upd_same, cxK, ex2, ex3, ex3b]
    refine ⟨ns.map V.int, .inl hS, ?_⟩
    split
    · rename_i hk'
      obtain ⟨z, hz⟩ : ∃ z : Int, (ns.map V.int)[k]? = some (V.int z) := by
        rw [List.length_map] at hk'
        exact ⟨ns[k], by rw [List.getElem?_map, List.getElem?_eq_getElem hk']; rfl⟩
      refine ⟨_, hS, _, atI_nat hz, ?_⟩
      simp -dsimp [tSeq, tAsg, tRet, tIfS, tIf, tTest, tVar, tCons, tNil, tC, tOp, tUn, rI, rI0, rU, tCB, tLst_A, tTup_A, gName, L2.start, CMul, CPow, CDiv, tDrop, tBM, tBM0, tNext, tPar, gSub, rSetL, rIxL, rIxT, tChain, tB, tNot, tNotV, tAnd, tOr, tAndV, tOrV, tFld, tCall, rIxLH, rIxTH, atI, ixN, upd_same, cxK, ex2, ex3, ex3b]
      split <;> exact ⟨le3, fun p hp => q _ _ p hp⟩
    · split <;> exact ⟨le3, fun p hp => q _ _ p hp⟩
theorem scDraw : FnScope ["_law_draws", "_law_many", "_law_found"] ["_law_draws", "_law_many"] d_draw.scope := ⟨rfl, rfl, rfl, by decide +kernel, rfl, by decide +kernel, by decide +kernel⟩
def spDraw (K : PySem.W.Frag) : Sp := fun vs H Q _ => ∃ (l : Addr) (d0 d1 d2 m : Int), vs = [.ref l, .int m] ∧ H l = some (draws d0 d1 d2) ∧ 0 < m ∧ m.natAbs < 2 ^ 64 ∧ ∀ (r e0 e1 e2 : Int), 0 ≤ r → r < m → Q (.int r) (upd H l (draws e0 e1 e2))
theorem ok_draw (W : Wd K mg) : ∃ fd, FnOk P w K mg base CX0 1 (He.ga K "_law_draw") fd ["_law_draws", "_law_many"] (spDraw K) ∧ Binds K fd ["_law_draws", "_law_many"] [] := by
  obtain ⟨fd, F⟩ := W.F_draw
  refine ⟨fd, F.ok scDraw (fun vs H Q E h => ?_) (fun cdv A outer s H vs Q E hr h => ?_), FunD.bindsN F fun _ _ _ _ _ _ us hl => match us, hl with | [_, _], _ => rfl⟩
  · obtain ⟨a, d0, d1, d2, m, rfl, _⟩ := h
    rfl
  · obtain ⟨l, d0, d1, d2, m, rfl, hl, h0, hm, q⟩ := h
    refine ⟨_, PSs.nox (pss_cons (ps_if (pt_cmpR op_gt (pe_ix ix_lstH (pv 0) pe_int (fun _ _ => rfl)) pe_int (nomark _))
        (pss_cons (ps_set (i := 2) scDraw.nd rfl (Or.inl rfl) (pe_op op_mod (pe_callTy call_intI (by rfl) W.f_int (by decide +kernel) (pa_cons (pe_ix ix_lstH (pv 0) pe_int (fun _ _ => rfl)) pa_nil)) (pv 1)))
        (pss_cons (ps_asg (pe_op op_fdivW (pe_ix ix_lstH (pv 0) pe_int (fun _ _ => rfl)) (pv 1)) (pg_sub (pv 0) pe_int set_list))
        (pss_one (ps_ret (pv 2))))) pss_nil)
      (pss_cons (ps_asg (pe_op op_add (pe_ix ix_lstH (pv 0) pe_int (fun _ _ => rfl)) pe_int) (pg_sub (pv 0) pe_int set_list))
      (pss_cons (ps_asg (pe_op op_mod (pe_callTy call_intI (by rfl) W.f_int (by decide +kernel) (pa_cons (pe_op op_add (pe_op op_add (pe_op op_mul (pe_ix ix_lstH (pv 0) pe_int (fun _ _ => rfl)) pe_int) (pe_op op_mul (pe_ix ix_lstH (pv 0) pe_int (fun _ _ => rfl)) pe_int)) pe_int) pa_nil)) pe_int) (pg_sub (pv 0) pe_int set_list))
      (pss_one (ps_ret (pe_op op_mod (pe_callTy call_intI (by rfl) W.f_int (by decide +kernel) (pa_cons (pe_op op_add (pe_op op_fdiv (pe_ix ix_lstH (pv 0) pe_int (fun _ _ => rfl)) pe_int) (pe_ix ix_lstH (pv 0) pe_int (fun _ _ => rfl))) pa_nil)) (pv 1))))))), ?_⟩
    simp -dsimp [tSeq, tAsg, tRet, tIfS, tIf, tTest, tVar, tCons, tNil, tC, tOp, tUn, rI, rI0, rU, tCB, tLst_A, tTup_A, gName, L2.start, CMul, CPow, CDiv, tDrop, tBM, tBM0, tNext, tPar, gSub, rSetL, rIxL, rIxT, tChain, tB, tNot, tNotV, tAnd, tOr, tAndV, tOrV, tFld, tCall, rIxLH, rIxTH, atI, ixN, upd_same, cxK, ex2, ex3, ex3b, hl, draws]
    split
    · exact ⟨h0, ⟨h0, Nat.lt_of_lt_of_le (PySem.Flt.log2_lt_of (by decide) hm) (by decide)⟩, q _ _ _ _ (Int.emod_nonneg _ (by omega)) (Int.emod_lt_of_pos _ h0)⟩
    · rw [upd_upd]
      exact ⟨h0, q _ _ _ _ (Int.emod_nonneg _ (by omega)) (Int.emod_lt_of_pos _ h0)⟩
end
section
variable {P : Program} {w : World} {K : PySem.W.Frag} {mg : Str → Option Value} {base : Heap}
theorem le2 : 2 ≤ sizeLine := by decide
def side (a b : Int) : Int := if b > 0 then (Int.gcd a b : Int) else -(Int.gcd a b : Int)
theorem scLowest : FnScope ["_law_up", "_law_down", "_law_low", "_law_part", "_law_side"] ["_law_up", "_law_down"] d_lowest.scope := ⟨rfl, rfl, rfl, by decide +kernel, rfl, by decide +kernel, by decide +kernel⟩
def spLowest (K : PySem.W.Frag) : Sp := fun vs H Q _ => ∃ (a b : Int), vs = [.int a, .int b] ∧ b ≠ 0 ∧ b.natAbs < big9 ∧ ∀ p, H p = none → Q (.ref p) (upd H p (.tup [.int (a.fdiv (side a b)), .int (b.fdiv (side a b))]))
theorem ok_lowest (W : Wd K mg) : ∃ fd, FnOk P w K mg base CX0 1 (He.ga K "_law_lowest") fd ["_law_up", "_law_down"] (spLowest K) ∧ Binds K fd ["_law_up", "_law_down"] [] := by
  obtain ⟨fd, F⟩ := W.F_lowest
  refine ⟨fd, F.ok scLowest (fun vs H Q E h => ?_) (fun cdv A outer s H vs Q E hr h => ?_), FunD.bindsN F fun _ _ _ _ _ _ us hl => match us, hl with | [_, _], _ => rfl⟩
  · obtain ⟨a, b, rfl, _⟩ := h
    rfl
  · obtain ⟨a, b, rfl, hb, hbb, q⟩ := h
    refine ⟨_, PSs.nox (pss_cons (ps_par (i := 2) (j := 3) rfl scLowest.nd rfl rfl (by decide) rfl rfl (pa_cons (pe_callB call_abs (by rfl) W.f_abs (by decide +kernel) (pa_cons (pe_callTy call_intI (by rfl) W.f_int (by decide +kernel) (pa_cons (pv 0) pa_nil)) pa_nil)) (pa_cons (pe_callB call_abs (by rfl) W.f_abs (by decide +kernel) (pa_cons (pe_callTy call_intI (by rfl) W.f_int (by decide +kernel) (pa_cons (pv 1) pa_nil)) pa_nil)) pa_nil)) rfl)
      (pss_cons (ps_while PassesOwn.never (pt_cmpR op_gt (pv 2) pe_int (nomark _))
        (pss_one (ps_par (i := 2) (j := 3) rfl scLowest.nd rfl rfl (by decide) rfl rfl (pa_cons (pe_op op_mod (pe_callTy call_intI (by rfl) W.f_int (by decide +kernel) (pa_cons (pv 3) pa_nil)) (pv 2)) (pa_cons (pv 2) pa_nil)) rfl)))
      (pss_cons (ps_set (i := 4) scLowest.nd rfl (Or.inl rfl) (pe_ifExp (pt_cmpR op_gt (pv 1) pe_int (nomark _)) (pv 3) (pe_un un_neg (pv 3))))
      (pss_one (ps_ret (pe_tup (pa_cons (pe_op op_fdivX (pv 0) (pv 4)) (pa_cons (pe_op op_fdivX (pv 1) (pv 4)) pa_nil)))))))), ?_⟩
    simp -dsimp [tSeq, tAsg, tRet, tIfS, tIf, tTest, tVar, tCons, tNil, tC, tOp, tUn, rI, rI0, rU, tCB, tLst_A, tTup_A, gName, L2.start, CMul, CPow, CDiv, tDrop, tBM, tBM0, tNext, tPar, gSub, rSetL, rIxL, rIxT, tChain, tB, tNot, tNotV, tAnd, tOr, tAndV, tOrV, tFld, tCall, rIxLH, rIxTH, atI, ixN, upd_same, cxK, ex2, ex3, ex3b]
    refine while_by (fun σ H' => H' = H ∧ ∃ x y : Int, σ = [some (.int a), some (.int b), some (.int x), some (.int y), none] ∧ 0 ≤ x ∧ 0 ≤ y ∧ Int.gcd x y = Int.gcd a b) (fun σ _ => intAt 2 σ) ⟨rfl, _, _, rfl, ?_, ?_, ?_⟩ ?_ ?_
    · split <;> omega
    · split <;> omega
    · split <;> split <;> simp -dsimp [tSeq, tAsg, tRet, tIfS, tIf, tTest, tVar, tCons, tNil, tC, tOp, tUn, rI, rI0, rU, tCB, tLst_A, tTup_A, gName, L2.start, CMul, CPow, CDiv, tDrop, tBM, tBM0, tNext, tPar, gSub, rSetL, rIxL, rIxT, tChain, tB, tNot, tNotV, tAnd, tOr, tAndV, tOrV, tFld, tCall, rIxLH, rIxTH, atI, ixN, upd_same, cxK, ex2, ex3, ex3b]
    · rintro σ H1 ⟨rfl, x, y, rfl, hx, hy, g⟩
      by_cases hp : 0 < x
      · simp -dsimp [tSeq, tAsg, tRet, tIfS, tIf, tTest, tVar, tCons, tNil, tC, tOp, tUn, rI, rI0, rU, tCB, tLst_A, tTup_A, gName, L2.start, CMul, CPow, CDiv, tDrop, tBM, tBM0, tNext, tPar, gSub, rSetL, rIxL, rIxT, tChain, tB, tNot, tNotV, tAnd, tOr, tAndV, tOrV, tFld, tCall, rIxLH, rIxTH, atI, ixN, upd_same, cxK, ex2, ex3, ex3b, hp]
        refine ⟨⟨Int.emod_nonneg _ (by omega), hx, ?_⟩, ?_⟩
        · rw [Int.emod_def, Int.gcd_sub_mul_left_left, Int.gcd_comm, g]
        · have := Int.emod_lt_of_pos y hp
          have := Int.emod_nonneg y (show x ≠ 0 by omega)
          simp -dsimp [tSeq, tAsg, tRet, tIfS, tIf, tTest, tVar, tCons, tNil, tC, tOp, tUn, rI, rI0, rU, tCB, tLst_A, tTup_A, gName, L2.start, CMul, CPow, CDiv, tDrop, tBM, tBM0, tNext, tPar, gSub, rSetL, rIxL, rIxT, tChain, tB, tNot, tNotV, tAnd, tOr, tAndV, tOrV, tFld, tCall, rIxLH, rIxTH, atI, ixN, upd_same, cxK, ex2, ex3, ex3b, intAt]
          omega
      · have x0 : x = 0 := by omega
        subst x0
        have gy : y = (Int.gcd a b : Int) := by
          rw [← g, Int.zero_gcd]
          omega
        have hg0 : 0 < Int.gcd a b := Int.gcd_pos_of_ne_zero_right a hb
        have hgb : (Int.gcd a b) < big9 := Nat.lt_of_le_of_lt (Int.gcd_le_natAbs_right a hb) hbb
        subst gy
        by_cases hb0 : 0 < b
        · have e2 : side a b = (Int.gcd a b : Int) := if_pos hb0
          rw [e2] at q
          simp -dsimp [tSeq, tAsg, tRet, tIfS, tIf, tTest, tVar, tCons, tNil, tC, tOp, tUn, rI, rI0, rU, tCB, tLst_A, tTup_A, gName, L2.start, CMul, CPow, CDiv, tDrop, tBM, tBM0, tNext, tPar, gSub, rSetL, rIxL, rIxT, tChain, tB, tNot, tNotV, tAnd, tOr, tAndV, tOrV, tFld, tCall, rIxLH, rIxTH, atI, ixN, upd_same, cxK, ex2, ex3, ex3b, hb0]
          exact ⟨⟨by omega, by omega⟩, le2, q⟩
        · have e2 : side a b = -(Int.gcd a b : Int) := if_neg hb0
          rw [e2] at q
          simp -dsimp [tSeq, tAsg, tRet, tIfS, tIf, tTest, tVar, tCons, tNil, tC, tOp, tUn, rI, rI0, rU, tCB, tLst_A, tTup_A, gName, L2.start, CMul, CPow, CDiv, tDrop, tBM, tBM0, tNext, tPar, gSub, rSetL, rIxL, rIxT, tChain, tB, tNot, tNotV, tAnd, tOr, tAndV, tOrV, tFld, tCall, rIxLH, rIxTH, atI, ixN, upd_same, cxK, ex2, ex3, ex3b, hb0]
          exact ⟨⟨by omega, by omega⟩, le2, q⟩
    · rintro σ H' Q Q' h ⟨v, e, i, j, e1, e2, k, e3, q⟩
      exact ⟨v, e, i, j, e1, e2, k, e3, h _ _ q⟩
end
section
variable {P : Program} {w : World} {K : PySem.W.Frag} {mg : Str → Option Value} {base : Heap}
theorem scDivisor : FnScope ["one", "other"] ["one", "other"] d_divisor.scope := ⟨rfl, rfl, rfl, by decide +kernel, rfl, by decide +kernel, by decide +kernel⟩
def spDivisor (K : PySem.W.Frag) : Sp := fun vs H Q _ => ∃ (a b : Int), vs = [.int a, .int b] ∧ Q (.int (Int.gcd a b : Int)) H
theorem fmod_lt (x y : Int) (h : y ≠ 0) : (x.fmod y).natAbs < y.natAbs := by
  rcases Int.lt_or_gt_of_ne h with h1 | h1
  · have e := (Int.fdiv_fmod_unique' (a := x) (b := y) (r := x.fmod y) (q := x.fdiv y) h1).mp ⟨rfl, rfl⟩
    omega
  · have e := (Int.fdiv_fmod_unique (a := x) (b := y) (r := x.fmod y) (q := x.fdiv y) h1).mp ⟨rfl, rfl⟩
    omega
theorem ok_divisor (W : Wd K mg) : ∃ fd, FnOk P w K mg base CX0 1 (He.ga K "divisor") fd ["one", "other"] (spDivisor K) ∧ Binds K fd ["one", "other"] [] := by
  obtain ⟨fd, F⟩ := W.F_divisor
  refine ⟨fd, F.ok scDivisor (fun vs H Q E h => ?_) (fun cdv A outer s H vs Q E hr h => ?_), FunD.bindsN F fun _ _ _ _ _ _ us hl => match us, hl with | [_, _], _ => rfl⟩
  · obtain ⟨a, b, rfl, _⟩ := h
    rfl
  · obtain ⟨a, b, rfl, q⟩ := h
    refine ⟨_, PSs.nox (pss_cons (ps_while PassesOwn.never (pt_cmpR op_ne (pv 1) pe_int (nomark _))
        (pss_one (ps_par (i := 0) (j := 1) rfl scDivisor.nd rfl rfl (by decide) rfl rfl (pa_cons (pv 1) (pa_cons (pe_op op_modN (pv 0) (pv 1)) pa_nil)) rfl)))
      (pss_one (ps_ret (pe_callB call_abs (by rfl) W.f_abs (by decide +kernel) (pa_cons (pv 0) pa_nil))))), ?_⟩
    simp -dsimp [tSeq, tAsg, tRet, tIfS, tIf, tTest, tVar, tCons, tNil, tC, tOp, tUn, rI, rI0, rU, tCB, tLst_A, tTup_A, gName, L2.start, CMul, CPow, CDiv, tDrop, tBM, tBM0, tNext, tPar, gSub, rSetL, rIxL, rIxT, tChain, tB, tNot, tNotV, tAnd, tOr, tAndV, tOrV, tFld, tCall, rIxLH, rIxTH, atI, ixN, upd_same, cxK, ex2, ex3, ex3b]
    refine while_by (fun σ H' => H' = H ∧ ∃ x y : Int, σ = [some (.int x), some (.int y)] ∧ Int.gcd x y = Int.gcd a b) (fun σ _ => intAt 1 σ) ⟨rfl, _, _, rfl, rfl⟩ ?_ ?_
    · rintro σ H1 ⟨rfl, x, y, rfl, g⟩
      by_cases hp : y = 0
      · subst hp
        simp -dsimp [tSeq, tAsg, tRet, tIfS, tIf, tTest, tVar, tCons, tNil, tC, tOp, tUn, rI, rI0, rU, tCB, tLst_A, tTup_A, gName, L2.start, CMul, CPow, CDiv, tDrop, tBM, tBM0, tNext, tPar, gSub, rSetL, rIxL, rIxT, tChain, tB, tNot, tNotV, tAnd, tOr, tAndV, tOrV, tFld, tCall, rIxLH, rIxTH, atI, ixN, upd_same, cxK, ex2, ex3, ex3b, rNe, scal]
        rw [Int.gcd_zero] at g
        have : (if x < 0 then -x else x) = (Int.gcd a b : Int) := by
          rw [← g]
          split <;> omega
        rw [this]
        exact q
      · simp -dsimp [tSeq, tAsg, tRet, tIfS, tIf, tTest, tVar, tCons, tNil, tC, tOp, tUn, rI, rI0, rU, tCB, tLst_A, tTup_A, gName, L2.start, CMul, CPow, CDiv, tDrop, tBM, tBM0, tNext, tPar, gSub, rSetL, rIxL, rIxT, tChain, tB, tNot, tNotV, tAnd, tOr, tAndV, tOrV, tFld, tCall, rIxLH, rIxTH, atI, ixN, upd_same, cxK, ex2, ex3, ex3b, rNe, scal, hp]
        refine ⟨?_, ?_⟩
        · rw [Int.fmod_def, Int.gcd_comm, Int.gcd_sub_mul_left_left, g]
        · simp -dsimp [tSeq, tAsg, tRet, tIfS, tIf, tTest, tVar, tCons, tNil, tC, tOp, tUn, rI, rI0, rU, tCB, tLst_A, tTup_A, gName, L2.start, CMul, CPow, CDiv, tDrop, tBM, tBM0, tNext, tPar, gSub, rSetL, rIxL, rIxT, tChain, tB, tNot, tNotV, tAnd, tOr, tAndV, tOrV, tFld, tCall, rIxLH, rIxTH, atI, ixN, upd_same, cxK, ex2, ex3, ex3b, intAt]
          exact fmod_lt x y hp
    · rintro σ H' Q Q' h ⟨v, e, e1, k, e3, q⟩
      exact ⟨v, e, e1, k, e3, h _ _ q⟩
/-- a share: its class, its own dict, its numbers -/
def shareO (C dx : Addr) (t b : Int) : HO := .ins C dx [("top", .int t), ("bottom", .int b)]
theorem scInit : FnScope ["self", "top", "bottom", "common"] ["self", "top", "bottom"] d_Share_init.scope := ⟨rfl, rfl, rfl, by decide +kernel, rfl, by decide +kernel, by decide +kernel⟩
def spInit (K : PySem.W.Frag) : Sp := fun vs H Q _ => ∃ (x dx : Addr) (a b : Int), vs = [.ref x, .int a, .int b] ∧ H x = some (.ins (He.ga K "Share") dx []) ∧ b ≠ 0 ∧ b.natAbs < big9 ∧ Q .non (upd H x (shareO (He.ga K "Share") dx (a.fdiv (side a b)) (b.fdiv (side a b))))
theorem ok_init (W : Wd K mg) : ∃ fd, FnOk P w K mg base CX0 2 (He.ma K (He.ga K "Share") "__init__") fd ["self", "top", "bottom"] (spInit K) ∧ FunD K d_Share_init.name d_Share_init.qual d_Share_init.params d_Share_init.body d_Share_init.scope (d_Share_init.dvs K) (d_Share_init.kws K) (He.fAd K d_Share_init.at_) fd := by
  obtain ⟨fd, F⟩ := W.F_Share_init
  obtain ⟨fdD, G, bG⟩ := ok_divisor (P := P) (w := w) (base := base) W
  have kD : PySem.W.keepIn K (.ref (He.ga K "divisor")) = true := by
    obtain ⟨fd, F⟩ := W.F_divisor
    exact F.kp
  refine ⟨fd, F.ok scInit (fun vs H Q E h => ?_) (fun cdv A outer s H vs Q E hr h => ?_), F⟩
  · obtain ⟨x, dx, a, b, rfl, _⟩ := h
    rfl
  · obtain ⟨x, dx, a, b, rfl, hx, hb, hbb, q⟩ := h
    refine ⟨_, PSs.nox (pss_cons (ps_if (pt_cmpR op_eq (pv 2) pe_int (nomark _)) pss_never pss_nil)
      (pss_cons (ps_set (i := 3) scInit.nd rfl (Or.inl rfl) pe_int)
      (pss_cons (ps_if (pt_cmpR op_ne (pv 2) pe_int (nomark _)) (pss_one (ps_set (i := 3) scInit.nd rfl (Or.inl rfl) (pe_ifExp (pt_cmpR op_gt (pv 2) pe_int (nomark _)) (pe_call G hr rfl W.g_divisor kD bG .nil pass0 (pa_cons (pv 1) (pa_cons (pv 2) pa_nil))) (pe_un un_neg (pe_call G hr rfl W.g_divisor kD bG .nil pass0 (pa_cons (pv 1) (pa_cons (pv 2) pa_nil))))))) pss_nil)
      (pss_cons (ps_fld (pv 0) (pe_op op_fdivX (pv 1) (pv 3)) rfl)
      (pss_one (ps_fld (pv 0) (pe_op op_fdivX (pv 2) (pv 3)) rfl)))))), ?_⟩
    have hg0 : 0 < Int.gcd a b := Int.gcd_pos_of_ne_zero_right a hb
    have hgb : (Int.gcd a b) < big9 := Nat.lt_of_le_of_lt (Int.gcd_le_natAbs_right a hb) hbb
    have n1 : ¬ (Int.gcd a b : Int) = 0 := by omega
    have n3 : ¬ Int.gcd a b = 0 := by omega
    have pf : ∀ (u v : V), putF "bottom" v (putF "top" u []) = [(("top" : Str), u), (("bottom" : Str), v)] := fun u v => by
      show (if ("top" : Str) = "bottom" then [(("top" : Str), v)] else (("top" : Str), u) :: putF "bottom" v []) = _
      rw [if_neg (by decide +kernel)]
      rfl
    have pl : ∀ u : V, (putF "top" u []).length < 1000 := fun u => by
      show 1 < 1000
      decide
    by_cases hb1 : b = 1
    · subst hb1
      have e2 : side a 1 = 1 := by
        show (if (1 : Int) > 0 then (Int.gcd a 1 : Int) else -(Int.gcd a 1 : Int)) = 1
        rw [if_pos (by decide), Int.gcd_one]
        rfl
      rw [e2] at q
      simp -dsimp [tSeq, tAsg, tRet, tIfS, tIf, tTest, tVar, tCons, tNil, tC, tOp, tUn, rI, rI0, rU, tCB, tLst_A, tTup_A, gName, L2.start, CMul, CPow, CDiv, tDrop, tBM, tBM0, tNext, tPar, gSub, rSetL, rIxL, rIxT, tChain, tB, tNot, tNotV, tAnd, tOr, tAndV, tOrV, tFld, tCall, rIxLH, rIxTH, atI, ixN, upd_same, cxK, ex2, ex3, ex3b, rEq, rNe, scal, hx, sFld, W.cls_Share, W.n_Share_top, W.n_Share_bottom, upd_upd, pf, pl]
      rw [Int.fdiv_one, Int.fdiv_one] at q
      exact ⟨hbb, q⟩
    · by_cases hb0 : b < 0
      · have e2 : side a b = -(Int.gcd a b : Int) := if_neg (by omega)
        have hb2 : ¬ 0 < b := by omega
        rw [e2] at q
        simp -dsimp [tSeq, tAsg, tRet, tIfS, tIf, tTest, tVar, tCons, tNil, tC, tOp, tUn, rI, rI0, rU, tCB, tLst_A, tTup_A, gName, L2.start, CMul, CPow, CDiv, tDrop, tBM, tBM0, tNext, tPar, gSub, rSetL, rIxL, rIxT, tChain, tB, tNot, tNotV, tAnd, tOr, tAndV, tOrV, tFld, tCall, rIxLH, rIxTH, atI, ixN, upd_same, cxK, ex2, ex3, ex3b, rEq, rNe, scal, hb, hb1, hb2, hx]
        refine ⟨a, b, rfl, ?_⟩
        simp -dsimp [tSeq, tAsg, tRet, tIfS, tIf, tTest, tVar, tCons, tNil, tC, tOp, tUn, rI, rI0, rU, tCB, tLst_A, tTup_A, gName, L2.start, CMul, CPow, CDiv, tDrop, tBM, tBM0, tNext, tPar, gSub, rSetL, rIxL, rIxT, tChain, tB, tNot, tNotV, tAnd, tOr, tAndV, tOrV, tFld, tCall, rIxLH, rIxTH, atI, ixN, upd_same, cxK, ex2, ex3, ex3b, sFld, hx, W.cls_Share, W.n_Share_top, W.n_Share_bottom, upd_upd, n1, n3, hgb, pf, pl]
        exact q
      · have e2 : side a b = (Int.gcd a b : Int) := if_pos (by omega)
        have hb2 : 0 < b := by omega
        rw [e2] at q
        simp -dsimp [tSeq, tAsg, tRet, tIfS, tIf, tTest, tVar, tCons, tNil, tC, tOp, tUn, rI, rI0, rU, tCB, tLst_A, tTup_A, gName, L2.start, CMul, CPow, CDiv, tDrop, tBM, tBM0, tNext, tPar, gSub, rSetL, rIxL, rIxT, tChain, tB, tNot, tNotV, tAnd, tOr, tAndV, tOrV, tFld, tCall, rIxLH, rIxTH, atI, ixN, upd_same, cxK, ex2, ex3, ex3b, rEq, rNe, scal, hb, hb1, hb2, hx]
        refine ⟨a, b, rfl, ?_⟩
        simp -dsimp [tSeq, tAsg, tRet, tIfS, tIf, tTest, tVar, tCons, tNil, tC, tOp, tUn, rI, rI0, rU, tCB, tLst_A, tTup_A, gName, L2.start, CMul, CPow, CDiv, tDrop, tBM, tBM0, tNext, tPar, gSub, rSetL, rIxL, rIxT, tChain, tB, tNot, tNotV, tAnd, tOr, tAndV, tOrV, tFld, tCall, rIxLH, rIxTH, atI, ixN, upd_same, cxK, ex2, ex3, ex3b, sFld, hx, W.cls_Share, W.n_Share_top, W.n_Share_bottom, upd_upd, n1, n3, hgb, pf, pl]
        exact q
end
/-! ### isinstance by kinds -/
def tyN (H : Hp) : V → Option String
  | .non => some "NoneType"
  | .bl _ => some "bool"
  | .int _ => some "int"
  | .str _ => some "str"
  | .ref a => (match H a with
    | some (.lst _) => some "list"
    | some (.tup _) => some "tuple"
    | some (.dK _) => some "dict"
    | _ => none)
  | _ => none
theorem tyN_ok {K : PySem.W.Frag} {H : Hp} {x : V} {t : String} (h : tyN H x = some t) : TyOf K H x (.type t) := by
  unfold tyN at h
  split at h
  · cases h; exact .non
  · cases h; exact .bl _
  · cases h; exact .int _
  · cases h; exact .str _
  · split at h
    · rename_i e
      cases h; exact .lst e
    · rename_i e
      cases h; exact .tup e
    · rename_i e
      cases h; exact .dK e
    · cases h
  · cases h
def rIs1 : List V → Hp → VK → Prop := fun xs H Q => ∃ (x : V) (T t : String) (b : Bool), xs = [x, .ty T] ∧ tyN H x = some t ∧ kitB t T = some b ∧ Q (.bl b) H
def rIs2 : List V → Hp → VK → Prop := fun xs H Q => ∃ (x : V) (tp : Addr) (T1 T2 t : String) (b1 b2 : Bool), xs = [x, .ref tp] ∧ H tp = some (.tup [.ty T1, .ty T2]) ∧ tyN H x = some t ∧ kitB t T1 = some b1 ∧ kitB t T2 = some b2 ∧ Q (.bl (b1 || b2)) H
section
variable {X : Cx}
theorem isi_1 : CallR X (.builtin "isinstance") rIs1 := by
  intro pins s σ H xs us Q I r h
  obtain ⟨x, T, t, b, e, ty, k, q⟩ := h
  exact call_isi pins s σ H xs us Q I r ⟨x, .ty T, .type t, .type T, b, e, .ty T, .base (tyN_ok ty), kit_ty k, q⟩
theorem isi_2 : CallR X (.builtin "isinstance") rIs2 := by
  intro pins s σ H xs us Q I r h
  obtain ⟨x, tp, T1, T2, t, b1, b2, e, hT, ty, k1, k2, q⟩ := h
  refine call_isiT pins s σ H xs us Q I r ⟨x, tp, _, .type t, [.type T1, .type T2], b1 || b2, e, hT, .cons (.ty T1) (.cons (.ty T2) .nil), .base (tyN_ok ty), ?_, q⟩
  refine kitAny_cons (kit_ty k1) (fun f => ?_) (fun f => by rw [f]; rfl)
  rw [f]
  refine kitAny_cons (kit_ty k2) (fun f => ?_) (fun f => by rw [f]; rfl)
  rw [f]
  exact kitAny_nil
/-- two lists of two truths -/
def rNe2 : R2 := fun x y H Q => ∃ (p q : Addr) (a b c d : Bool), x = .ref p ∧ y = .ref q ∧ H p = some (.lst [.bl a, .bl b]) ∧ H q = some (.lst [.bl c, .bl d]) ∧ Q (.bl (!(a == c && b == d))) H
theorem op_ne2 (hu : X.A.units + 64 < cLine) : OpR X (compareOp .NotEq) rNe2 := by
  intro pins s σ H x y v u Q I rx ry h
  obtain ⟨p, q, a, b, c, d, e1, e2, hp, hq, k⟩ := h
  refine op_neD hu pins s σ H x y v u Q I rx ry ⟨.list [.bool a, .bool b], .list [.bool c, .bool d], ?_, ?_, ?_, ?_, ?_⟩
  · rw [e1]
    exact .lst (SqL.of hp) (.cons (.bl _) (.cons (.bl _) .nil))
  · rw [e2]
    exact .lst (SqL.of hq) (.cons (.bl _) (.cons (.bl _) .nil))
  · cases a <;> cases b <;> decide +kernel
  · cases c <;> cases d <;> decide +kernel
  · have e : PyData.eqv (.list [.bool a, .bool b]) (.list [.bool c, .bool d]) = (a == c && b == d) := by
      show ((a == c) && ((b == d) && true)) = _
      rw [Bool.and_true]
    rw [e]
    exact k
theorem len_tupH : CallR X (.builtin "len") (fun xs H Q => ∃ p ys, xs = [.ref p] ∧ H p = some (.tup ys) ∧ Q (.int ys.length) H) := by
  intro pins s σ H xs us Q I r h
  obtain ⟨p, ys, e, hp, q⟩ := h
  exact call_len_seq pins s σ H xs us Q I r ⟨p, ys, e, .inr (SqT.of hp), q⟩
theorem len_lstH : CallR X (.builtin "len") (fun xs H Q => ∃ p ys, xs = [.ref p] ∧ H p = some (.lst ys) ∧ Q (.int ys.length) H) := by
  intro pins s σ H xs us Q I r h
  obtain ⟨p, ys, e, hp, q⟩ := h
  exact call_len_seq pins s σ H xs us Q I r ⟨p, ys, e, .inl (SqL.of hp), q⟩
end
theorem kb1 : kitB "int" "list" = some false := by decide +kernel
theorem kb2 : kitB "int" "tuple" = some false := by decide +kernel
theorem kb3 : kitB "int" "bool" = some false := by decide +kernel
theorem kb4 : kitB "int" "int" = some true := by decide +kernel
theorem kb5 : kitB "tuple" "list" = some false := by decide +kernel
theorem kb6 : kitB "tuple" "tuple" = some true := by decide +kernel
theorem walk_zipT {K : PySem.W.Frag} {a b : Addr} {xs ys : List V} {n : Nat} (hx : xs.length = n) (hy : ys.length = n) : Walk (RZ.ItzT K a b) n (fun H => SqT K H a xs ∧ SqT K H b ys) (YPair (fun i => xs[i]?) (fun i => ys[i]?)) where
  goes := fun i H hi h => ⟨xs, ys, xs[i], ys[i], h.1, h.2, List.getElem?_eq_getElem (by omega), List.getElem?_eq_getElem (by omega)⟩
  stops := fun H h => ⟨xs, ys, h.1, h.2, .inl (by omega)⟩
  yields := fun i H x H' hi h y => by
    obtain ⟨T, x', y', e1, e2, e3, f1, f2⟩ := y
    exact ⟨T, x', y', e1, e2, e3, f1 xs h.1, f2 ys h.2⟩
section
variable {P : Program} {w : World} {K : PySem.W.Frag} {mg : Str → Option Value} {base : Heap}
theorem scSame : FnScope ["_law_found", "_law_due", "_law_kinds", "_law_left", "_law_right"] ["_law_found", "_law_due"] d_same.scope := ⟨rfl, rfl, rfl, by decide +kernel, rfl, by decide +kernel, by decide +kernel⟩
def spSameI (K : PySem.W.Frag) : Sp := fun vs H Q _ => ∃ (i : Int), vs = [.int i, .int i] ∧ ∀ H', Same H H' → Q (.bl true) H'
theorem ok_sameI (W : Wd K mg) : ∃ fd, FnOk P w K mg base CX0 1 (He.ga K "_law_same") fd ["_law_found", "_law_due"] (spSameI K) ∧ Binds K fd ["_law_found", "_law_due"] [] := by
  obtain ⟨fd, F⟩ := W.F_same
  refine ⟨fd, F.ok scSame (fun vs H Q E h => ?_) (fun cdv A outer s H vs Q E hr h => ?_), FunD.bindsN F fun _ _ _ _ _ _ us hl => match us, hl with | [_, _], _ => rfl⟩
  · obtain ⟨i, rfl, _⟩ := h
    rfl
  · obtain ⟨i, rfl, q⟩ := h
    refine ⟨_, PSs.nox (pss_cons (ps_set (i := 2) scSame.nd rfl (Or.inl rfl) (pe_lst (pa_cons (pe_callB isi_1 (by rfl) W.f_isinstance boot_isinstance (pa_cons (pv 0) (pa_cons (pe_bltn (v := .ty "list") (by rfl) W.f_list (by decide +kernel) rfl) pa_nil))) (pa_cons (pe_callB isi_1 (by rfl) W.f_isinstance boot_isinstance (pa_cons (pv 0) (pa_cons (pe_bltn (v := .ty "tuple") (by rfl) W.f_tuple (by decide +kernel) rfl) pa_nil))) pa_nil))))
      (pss_cons (ps_if (pt_val (pe_callB isi_2 (by rfl) W.f_isinstance boot_isinstance (pa_cons (pv 1) (pa_cons (pe_tup (pa_cons (pe_bltn (v := .ty "list") (by rfl) W.f_list (by decide +kernel) rfl) (pa_cons (pe_bltn (v := .ty "tuple") (by rfl) W.f_tuple (by decide +kernel) rfl) pa_nil))) pa_nil)))) pss_never pss_nil)
      (pss_cons (ps_if (pt_val (pe_callB isi_2 (by rfl) W.f_isinstance boot_isinstance (pa_cons (pv 1) (pa_cons (pe_tup (pa_cons (pe_bltn (v := .ty "bool") (by rfl) W.f_bool (by decide +kernel) rfl) (pa_cons (pe_bltn (v := .ty "int") (by rfl) W.f_int (by decide +kernel) rfl) pa_nil))) pa_nil))))
        (pss_one (ps_ret (pe_and (pe_callB isi_1 (by rfl) W.f_isinstance boot_isinstance (pa_cons (pv 0) (pa_cons (pe_bltn (v := .ty "int") (by rfl) W.f_int (by decide +kernel) rfl) pa_nil)))
          (pe_and (pe_cmpR op_eq (pe_callB isi_1 (by rfl) W.f_isinstance boot_isinstance (pa_cons (pv 0) (pa_cons (pe_bltn (v := .ty "bool") (by rfl) W.f_bool (by decide +kernel) rfl) pa_nil))) (pe_callB isi_1 (by rfl) W.f_isinstance boot_isinstance (pa_cons (pv 1) (pa_cons (pe_bltn (v := .ty "bool") (by rfl) W.f_bool (by decide +kernel) rfl) pa_nil))) (nomark _))
          (pe_one (pe_cmpR op_eq (pv 0) (pv 1) (nomark _))))))) pss_nil)
      pss_never))), ?_⟩
    simp -dsimp [tSeq, tAsg, tRet, tIfS, tIf, tTest, tVar, tCons, tNil, tC, tOp, tUn, rI, rI0, rU, tCB, tLst_A, tTup_A, gName, L2.start, CMul, CPow, CDiv, tDrop, tBM, tBM0, tNext, tPar, gSub, rSetL, rIxL, rIxT, tChain, tB, tNot, tNotV, tAnd, tOr, tAndV, tOrV, tFld, tCall, rIxLH, rIxTH, atI, ixN, upd_same, cxK, ex2, ex3, ex3b, rIs1, rIs2, rNe2, tyN, kb1, kb2, kb3, kb4, kb5, kb6, rEq, rNe, scal]
    refine ⟨le2, Alloc.of fun p1 H1 n1 e1 s1 => ?_⟩
    try simp -dsimp [tSeq, tAsg, tRet, tIfS, tIf, tTest, tVar, tCons, tNil, tC, tOp, tUn, rI, rI0, rU, tCB, tLst_A, tTup_A, gName, L2.start, CMul, CPow, CDiv, tDrop, tBM, tBM0, tNext, tPar, gSub, rSetL, rIxL, rIxT, tChain, tB, tNot, tNotV, tAnd, tOr, tAndV, tOrV, tFld, tCall, rIxLH, rIxTH, atI, ixN, upd_same, cxK, ex2, ex3, ex3b, rIs1, rIs2, rNe2, tyN, kb1, kb2, kb3, kb4, kb5, kb6, rEq, rNe, scal]
    refine ⟨le2, Alloc.of fun p2 H2 n2 e2 s2 => ?_⟩
    simp -dsimp [tSeq, tAsg, tRet, tIfS, tIf, tTest, tVar, tCons, tNil, tC, tOp, tUn, rI, rI0, rU, tCB, tLst_A, tTup_A, gName, L2.start, CMul, CPow, CDiv, tDrop, tBM, tBM0, tNext, tPar, gSub, rSetL, rIxL, rIxT, tChain, tB, tNot, tNotV, tAnd, tOr, tAndV, tOrV, tFld, tCall, rIxLH, rIxTH, atI, ixN, upd_same, cxK, ex2, ex3, ex3b, rIs1, rIs2, rNe2, tyN, kb1, kb2, kb3, kb4, kb5, kb6, rEq, rNe, scal, e2]
    refine ⟨le2, Alloc.of fun p3 H3 n3 e3 s3 => ?_⟩
    simp -dsimp [tSeq, tAsg, tRet, tIfS, tIf, tTest, tVar, tCons, tNil, tC, tOp, tUn, rI, rI0, rU, tCB, tLst_A, tTup_A, gName, L2.start, CMul, CPow, CDiv, tDrop, tBM, tBM0, tNext, tPar, gSub, rSetL, rIxL, rIxT, tChain, tB, tNot, tNotV, tAnd, tOr, tAndV, tOrV, tFld, tCall, rIxLH, rIxTH, atI, ixN, upd_same, cxK, ex2, ex3, ex3b, rIs1, rIs2, rNe2, tyN, kb1, kb2, kb3, kb4, kb5, kb6, rEq, rNe, scal, e3]
    exact q _ ((s1.trans s2).trans s3)
end
/-! ### shares made and told -/
def IsSh (K : PySem.W.Frag) (H : Hp) (x : Addr) (a b : Int) : Prop := ∃ dx, H x = some (shareO (He.ga K "Share") dx a b)
/-- a new share -/
def AllocS (K : PySem.W.Frag) (H : Hp) (a b : Int) (Q : V → Hp → Prop) (_ : Lk Q := ⟨⟩) : Prop := ∀ x H', H x = none → IsSh K H' x a b → Same H H' → Q (.ref x) H'
theorem IsSh.same {K : PySem.W.Frag} {H H' : Hp} {x : Addr} {a b : Int} (h : IsSh K H x a b) (s : Same H H') : IsSh K H' x a b := by
  obtain ⟨dx, e⟩ := h
  exact ⟨dx, s _ _ e⟩
theorem mk_ok {K : PySem.W.Frag} {H : Hp} {vs : List V} {a b : Int} {Q : V → Hp → Prop} {E : XK} (e : vs = [.int a, .int b]) (hb : b ≠ 0) (hbb : b.natAbs < big9) (h : AllocS K H (a.fdiv (side a b)) (b.fdiv (side a b)) Q) :
    ∀ x dx, H x = none → H dx = none → dx ≠ x → spInit K (.ref x :: vs) (upd (upd H dx (.own x)) x (.ins (He.ga K "Share") dx [])) (fun v H2 => v = .non ∧ Q (.ref x) H2) E := by
  intro x dx nx nd ne
  refine ⟨x, dx, a, b, by rw [e], upd_same, hb, hbb, rfl, h x _ nx ⟨dx, upd_same⟩ ?_⟩
  intro c o ec
  rw [upd_ne (ne_of_none ec nx), upd_ne (ne_of_none ec nx), upd_ne (ne_of_none ec nd)]
  exact ec
def rStrOwn (C : Addr) (sp : Sp) (E : XK) : List V → Hp → VK → Prop := fun xs H Q => ∃ (a dx : Addr) (fs : List (Str × V)), xs = [.ref a] ∧ H a = some (.ins C dx fs) ∧ sp [.ref a] H (fun z H' => ∃ y, z = .str y ∧ Q z H') E
section
variable {X : Cx} {CX : CXT} {n : Nat} {sp : Sp} {E : XK} {C g : Addr}
theorem call_strOwn (hs : PySem.W.findIn X.K (.ref C) "__str__" = some (some (.ref g))) (hf : PySem.W.isFn X.K (.ref g) = true) (F : FnR X.prog X.w X.K X.mg X.base CX n g sp) (hr : Room (n + 2) X.A) (hx : Passes CX X E) : CallR X (.type "str") (rStrOwn C sp E) := by
  intro pins s σ H xs us Q I r h
  obtain ⟨a, dx, fs, rfl, ha, q⟩ := h
  obtain ⟨u, rfl, ru⟩ := r.one
  cases (show u = Value.ref a from ru)
  obtain ⟨mA, O, _⟩ := ins_get I.hok ha
  obtain ⟨od, J, _⟩ := O.look
  have hr2 : Room n X.A.in1.in1 := (show Room (n + 1) X.A.in1 from Room.in1 hr).in1
  refine PySem.W.kso_call hr2.units0 I.kIn J hs hf (wpAny_mono (wpAny_call (SlX.run_at (us := [.ref a]) (ws := [.ref a]) F hr2 I.env0.in1.in1 hx I (.cons rfl .nil) q)) (fun w s' z => ?_) fun _ _ x => x)
  obtain ⟨z', H', I', rz, y, ey, qz⟩ := z
  subst ey
  obtain ⟨t, e⟩ := (show ∃ t, w = Value.str y t from rz)
  cases e
  exact ⟨.str y, H', I', ⟨t, rfl⟩, qz⟩
end
section
variable {K : PySem.W.Frag} {mg : Str → Option Value}
theorem Wd.isSh (W : Wd K mg) {H : Hp} {x : Addr} {a b : Int} (h : IsSh K H x a b) : TyOf K H (.ref x) (.ref (He.ga K "Share")) := by
  obtain ⟨dx, e⟩ := h
  exact .ins e W.cls_Share (He.eqO_ok (W.ex 0 rfl)) (He.eqO_ok (W.ex 1 rfl)) (of_decide_eq_true (W.ex 2 rfl)) (of_decide_eq_true (W.ex 3 rfl))
theorem Wd.kitS (W : Wd K mg) : PySem.W.kitOne K (.ref (He.ga K "Share")) (.ref (He.ga K "Share")) = some true := of_decide_eq_true (W.ex 4 rfl)
/-- isinstance(x, Share) of a share -/
def rIsS (K : PySem.W.Frag) : List V → Hp → VK → Prop := fun xs H Q => ∃ (x : Addr) (a b : Int), xs = [.ref x, .ref (He.ga K "Share")] ∧ IsSh K H x a b ∧ Q (.bl true) H
theorem isi_S {X : Cx} (W : Wd X.K X.mg) : CallR X (.builtin "isinstance") (rIsS X.K) := by
  intro pins s σ H xs us Q I r h
  obtain ⟨x, a, b, e, hx, q⟩ := h
  exact call_isi pins s σ H xs us Q I r ⟨.ref x, .ref (He.ga X.K "Share"), _, _, true, e, .own _, .base (W.isSh hx), W.kitS, q⟩
end
theorem vals_rev : ∀ {vs : List V} {us : List Value}, Vals vs us → Vals vs.reverse us.reverse
  | _, _, .nil => .nil
  | _, _, .cons r t => by
    rw [List.reverse_cons, List.reverse_cons]
    exact (vals_rev t).append (.cons r .nil)
section
variable {P : Program} {w : World} {K : PySem.W.Frag} {mg : Str → Option Value} {base : Heap} {fd : FuncData}
abbrev FInit (K : PySem.W.Frag) (fd : FuncData) : Prop := FunD K d_Share_init.name d_Share_init.qual d_Share_init.params d_Share_init.body d_Share_init.scope (d_Share_init.dvs K) (d_Share_init.kws K) (He.fAd K d_Share_init.at_) fd
abbrev psI : List Str := ["self", "top", "bottom"]
theorem bind3 (F : FInit K fd) : Binds K fd psI [] := by
  obtain ⟨ds, v, b⟩ := FunD.binds1 (ps := psI) F 3 1 (List.cons_ne_nil _ _) rfl fun T kV doc pm an cdv ct us its hu hi => match us, its, hu, hi with | [_, _, _], [_], _, _ => ⟨_, rfl, rfl⟩
  cases v
  exact b
theorem bind2 (F : FInit K fd) : ∃ ds, Vals [V.int 1] ds ∧ Binds K fd psI ds := by
  obtain ⟨ds, v, b⟩ := FunD.binds1 (ps := psI) F 2 0 (List.cons_ne_nil _ _) rfl fun T kV doc pm an cdv ct us its hu hi => match us, its, hu, hi with | [_, _], [_], _, _ => ⟨_, rfl, rfl⟩
  exact ⟨ds, v, b⟩
/-- Share(bottom = b, top = a) -/
theorem bindBT (F : FInit K fd) : KBn K fd psI 1 ["bottom", "top"] (fun us ws => us ++ ws.reverse) (fun vs zs => vs ++ zs.reverse) := by
  obtain ⟨oc, od, dV, kV, doc, pm, an, cdv, ct, osl, rfl, lk, hcd, hD, hK⟩ := F.ex
  rcases hD with ⟨e, _⟩ | ⟨_, T, o, its, m, rfl, lT, oT, rT⟩
  · exact absurd e (List.cons_ne_nil _ _)
  · refine ⟨fun s us ws X l1 l2 => ?_, fun {vs us zs ws} r1 r2 => ?_⟩
    · match us, ws, l1, l2 with
      | [u], [b, t], _, _ =>
        refine BindsTo.of_looks fun M => ?_
        obtain ⟨k, e1, e2⟩ : ∃ k, bindArgs (PySem.W.fnOf d_Share_init.name d_Share_init.qual d_Share_init.params d_Share_init.body d_Share_init.scope (.ref T) kV doc pm an cdv ct) ⟨[u], (["bottom", "top"] : List Str).zip [b, t]⟩ = seqItems? (.ref T) >>= k ∧ k (some its.toArray) = pure (psI.zip [u, t, b]) := by
          match its, rT with
          | [d], _ => exact ⟨_, rfl, rfl⟩
        rw [e1]
        exact looks_items X lT oT (.of_pure e2)
    · exact r1.append (vals_rev r2)
/-- Share(a, bottom = b) -/
theorem bindB (F : FInit K fd) : KBn K fd psI 2 ["bottom"] (fun us ws => us ++ ws) (fun vs zs => vs ++ zs) := by
  obtain ⟨oc, od, dV, kV, doc, pm, an, cdv, ct, osl, rfl, lk, hcd, hD, hK⟩ := F.ex
  rcases hD with ⟨e, _⟩ | ⟨_, T, o, its, m, rfl, lT, oT, rT⟩
  · exact absurd e (List.cons_ne_nil _ _)
  · refine ⟨fun s us ws X l1 l2 => ?_, fun {vs us zs ws} r1 r2 => r1.append r2⟩
    match us, ws, l1, l2 with
    | [u, t], [b], _, _ =>
      refine BindsTo.of_looks fun M => ?_
      obtain ⟨k, e1, e2⟩ : ∃ k, bindArgs (PySem.W.fnOf d_Share_init.name d_Share_init.qual d_Share_init.params d_Share_init.body d_Share_init.scope (.ref T) kV doc pm an cdv ct) ⟨[u, t], (["bottom"] : List Str).zip [b]⟩ = seqItems? (.ref T) >>= k ∧ k (some its.toArray) = pure (psI.zip [u, t, b]) := by
        match its, rT with
        | [d], _ => exact ⟨_, rfl, rfl⟩
      rw [e1]
      exact looks_items X lT oT (.of_pure e2)
theorem look_top (t b : V) : List.lookup ("top" : Str) [(("top" : Str), t), (("bottom" : Str), b)] = some t := rfl
theorem look_bot (t b : V) : List.lookup ("bottom" : Str) [(("top" : Str), t), (("bottom" : Str), b)] = some b := rfl
end
/-! ### the numbers -/
theorem side_facts (a b : Int) (hb : b ≠ 0) : side a b ∣ a ∧ side a b ∣ b ∧ side a b ≠ 0 := by
  have hg : 0 < Int.gcd a b := Int.gcd_pos_of_ne_zero_right a hb
  have h1 := Int.gcd_dvd_left a b
  have h2 := Int.gcd_dvd_right a b
  unfold side
  split
  · exact ⟨h1, h2, by omega⟩
  · exact ⟨Int.neg_dvd.mpr h1, Int.neg_dvd.mpr h2, by omega⟩
theorem side_neg (a b : Int) (hb : b ≠ 0) : side a (-b) = -side a b := by
  unfold side
  rw [Int.gcd_neg]
  by_cases h : b > 0
  · rw [if_pos h, if_neg (by omega)]
  · rw [if_neg h, if_pos (by omega), Int.neg_neg]
theorem side_one (a : Int) : side a 1 = 1 := by
  unfold side
  rw [if_pos (by decide), Int.gcd_one]
  rfl
theorem fdiv_le {a s : Int} (h : s ∣ a) (hs : s ≠ 0) : (a.fdiv s).natAbs ≤ a.natAbs := by
  obtain ⟨c, rfl⟩ := h
  rw [Int.fdiv_eq_ediv_of_dvd ⟨c, rfl⟩, Int.mul_ediv_cancel_left _ hs, Int.natAbs_mul]
  exact Nat.le_mul_of_pos_left _ (by omega)
theorem fdiv_flip {a b : Int} (hb : b ≠ 0) : a.fdiv (side a (-b)) = -(a.fdiv (side a b)) ∧ (-b).fdiv (side a (-b)) = b.fdiv (side a b) := by
  obtain ⟨h1, h2, h3⟩ := side_facts a b hb
  rw [side_neg a b hb]
  refine ⟨by rw [Int.fdiv_neg h3, if_pos h1], ?_⟩
  rw [Int.fdiv_neg h3, if_pos (Int.dvd_neg.mpr h2), Int.fdiv_eq_ediv_of_dvd (Int.dvd_neg.mpr h2), Int.fdiv_eq_ediv_of_dvd h2, Int.neg_ediv_of_dvd h2, Int.neg_neg]
theorem scaled {a p : Int} (h : a.natAbs < 1000000000000) (h0 : 0 ≤ p) (h1 : p < 12) : (a / 100 * (1 + p)).natAbs < 2000000000000 := by
  have e : (a / 100).natAbs ≤ 10000000001 := by omega
  rw [Int.natAbs_mul]
  have e2 : (1 + p).natAbs ≤ 12 := by omega
  have := Nat.mul_le_mul e e2
  omega
theorem big_of {n : Nat} (h : n < 10 ^ 60) : n < big9 := Nat.lt_of_lt_of_le h (by unfold big9; exact Nat.le_trans (by decide : (10 : Nat) ^ 60 ≤ 2 ^ 200) (Nat.pow_le_pow_right (by decide) (by decide)))
/-- a share is made of the ints vs -/
def MkS (K : PySem.W.Frag) (H : Hp) (vs : List V) (Q : V → Hp → Prop) (E : XK) (_ : Lk (Q, E) := ⟨⟩) : Prop :=
  ∀ x dx, H x = none → H dx = none → dx ≠ x → spInit K (.ref x :: vs) (upd (upd H dx (.own x)) x (.ins (He.ga K "Share") dx [])) (fun v H2 => v = .non ∧ Q (.ref x) H2) E
theorem MkS.of {K : PySem.W.Frag} {H : Hp} {vs : List V} {a b : Int} {Q : V → Hp → Prop} {E : XK} (e : vs = [.int a, .int b]) (hb : b ≠ 0) (hbb : b.natAbs < big9) (h : AllocS K H (a.fdiv (side a b)) (b.fdiv (side a b)) Q) : MkS K H vs Q E := mk_ok e hb hbb h
theorem tMake_S {K : PySem.W.Frag} {dvs : List V} {E : XK} {t : TA} {σ : List (Option V)} {H : Hp} {Q : V → Hp → Prop} : tMake (He.ga K "Share") (spInit K) dvs E t σ H Q = t σ H fun vs H1 => MkS K H1 (vs ++ dvs) Q E := rfl
theorem tMakeK_S {K : PySem.W.Frag} {n m : Nat} {E : XK} {t tk : TA} {σ : List (Option V)} {H : Hp} {Q : V → Hp → Prop} : tMakeK (He.ga K "Share") n m (spInit K) (fun vs zs => vs ++ zs.reverse) E t tk σ H Q = t σ H fun vs H1 => tk σ H1 fun zs H2 => vs.length = n ∧ zs.length = m ∧ MkS K H2 (vs ++ zs.reverse) Q E := rfl
theorem tMakeN_S {K : PySem.W.Frag} {n m : Nat} {E : XK} {t tk : TA} {σ : List (Option V)} {H : Hp} {Q : V → Hp → Prop} : tMakeN (He.ga K "Share") n m (spInit K) (fun vs zs => vs ++ zs) E t tk σ H Q = t σ H fun vs H1 => tk σ H1 fun zs H2 => vs.length = n ∧ zs.length = m ∧ MkS K H2 (vs ++ zs) Q E := rfl
/-- a loop over the list at a, from here -/
def ForW (K : PySem.W.Frag) (a : Addr) (g : TG) (tb : TS) (D : Ends) (σ : List (Option V)) (H : Hp) (_ : Lk (g, tb, D) := ⟨⟩) : Prop :=
  ∃ W : Nat → Nat → List (Option V) → Hp → Prop, (∃ m, W 0 m σ H) ∧ ∀ i m σ H, W i m σ H → ((Itl K a).stop i H ∧ D.nx σ H) ∨ ((Itl K a).go i H ∧ ∃ N : List (Option V) → Hp → Prop, (∀ σ' H', N σ' H' → ∃ m', m' < m ∧ W (i + 1) m' σ' H') ∧ ∀ x H', (Itl K a).yld i H x H' → g x σ H' fun σ2 H2 => tb { D with nx := N, ct := N, bk := D.nx } σ2 H2)
theorem tFor_iL {K : PySem.W.Frag} {tl : TE} {g : TG} {tb : TS} {D : Ends} {σ : List (Option V)} {H : Hp} : tFor (iList K tl) g tb D σ H = tl σ H fun x H1 => ∃ a, x = .ref a ∧ (∃ xs, SqL K H1 a xs) ∧ ForW K a g tb D σ H1 := rfl
/-! ### numbers: shares and ints -/
def bigH : Nat := 2 ^ 4499
theorem mul_h {a b : Int} (ha : a.natAbs < bigH) (hb : b.natAbs < bigH) : 2 * (a * b).natAbs < big9 := by
  rw [Int.natAbs_mul]
  have h := Nat.mul_lt_mul'' ha hb
  have e : 2 * (bigH * bigH) = big9 := by
    unfold bigH big9
    rw [← Nat.pow_add, Nat.mul_comm, ← Nat.pow_succ]
  omega
theorem h_lt_M {n : Nat} (h : n < bigH) : n < bigM := Nat.lt_of_lt_of_le h (by unfold bigH bigM; exact Nat.pow_le_pow_right (by decide) (by decide))
/-- v is c over d: a share, or an int -/
def Nu (K : PySem.W.Frag) (H : Hp) (v : V) (c d : Int) : Prop := (∃ y, v = .ref y ∧ IsSh K H y c d) ∨ (v = .int c ∧ d = 1)
theorem Nu.same {K : PySem.W.Frag} {H H' : Hp} {v : V} {c d : Int} (h : Nu K H v c d) (s : Same H H') : Nu K H' v c d := by
  rcases h with ⟨y, e, h⟩ | h
  · exact .inl ⟨y, e, h.same s⟩
  · exact .inr h
theorem tup2 {K : PySem.W.Frag} {p : Addr} {u v : V} {f g : TG} {σ : List (Option V)} {H : Hp} {Q : List (Option V) → Hp → Prop} (h : H p = some (.tup [u, v])) (k : f u σ H fun σ1 H1 => g v σ1 H1 Q) : gTup K 2 (gCons f (gCons g gNil)) (.ref p) σ H Q := by
  refine ⟨p, [u, v], rfl, SqT.of h, rfl, u, [v], rfl, ?_⟩
  refine Eq.mp ?_ k
  congr 1
  funext σ1 H1
  refine propext ⟨fun z => ⟨v, [], rfl, ?_⟩, fun ⟨v', r, e, z⟩ => ?_⟩
  · refine Eq.mp ?_ z
    congr 1
    funext σ2 H2
    exact propext ⟨fun z => ⟨rfl, z⟩, fun z => z.2⟩
  · cases e
    refine Eq.mp ?_ z
    congr 1
    funext σ2 H2
    exact propext ⟨fun z => z.2, fun z => ⟨rfl, z⟩⟩
section
/-- what follows for a new share in lowest terms -/
def Res (K : PySem.W.Frag) (H : Hp) (p q : Int) (Q : V → Hp → Prop) (_ : Lk Q := ⟨⟩) : Prop := ∀ z H', Same H H' → IsSh K H' z (p.fdiv (side p q)) (q.fdiv (side p q)) → Q (.ref z) H'
theorem MkS.res {K : PySem.W.Frag} {H0 H : Hp} {vs : List V} {a b : Int} {Q : V → Hp → Prop} {E : XK} (s : Same H0 H) (e : vs = [.int a, .int b]) (hb : b ≠ 0) (hbb : b.natAbs < big9) (h : Res K H0 a b Q) : MkS K H vs Q E :=
  MkS.of e hb hbb fun z H' _ i s' => h z H' (s.trans s') i
theorem one_fd (c : Int) : c.fdiv (side c 1) = c ∧ (1 : Int).fdiv (side c 1) = 1 := by
  rw [side_one, Int.fdiv_one, Int.fdiv_one]
  exact ⟨rfl, rfl⟩
end
/-! ### lowest terms -/
def Low (c d : Int) : Prop := 0 < d ∧ Int.gcd c d = 1
theorem side_low {c d : Int} (h : Low c d) : side c d = 1 := by
  unfold side
  rw [if_pos h.1, h.2]
  rfl
theorem lo_low {c d : Int} (h : Low c d) : c.fdiv (side c d) = c ∧ d.fdiv (side c d) = d := by
  rw [side_low h, Int.fdiv_one, Int.fdiv_one]
  exact ⟨rfl, rfl⟩
theorem lo_cross {x y : Int} (hy : y ≠ 0) : x.fdiv (side x y) * y = x * y.fdiv (side x y) := by
  obtain ⟨⟨k, hk⟩, ⟨m, hm⟩, h3⟩ := side_facts x y hy
  have e1 : x.fdiv (side x y) = k := by
    rw [Int.fdiv_eq_ediv_of_dvd ⟨k, hk⟩]
    exact Int.ediv_eq_of_eq_mul_right h3 hk
  have e2 : y.fdiv (side x y) = m := by
    rw [Int.fdiv_eq_ediv_of_dvd ⟨m, hm⟩]
    exact Int.ediv_eq_of_eq_mul_right h3 hm
  rw [e1, e2]
  calc k * y = k * (side x y * m) := by rw [← hm]
    _ = side x y * k * m := by rw [Int.mul_comm (side x y) k, Int.mul_assoc]
    _ = x * m := by rw [← hk]
theorem low_lo {x y : Int} (hy : y ≠ 0) : Low (x.fdiv (side x y)) (y.fdiv (side x y)) := by
  have hg : 0 < Int.gcd x y := Int.gcd_pos_of_ne_zero_right x hy
  have d1 := Int.gcd_dvd_left x y
  have d2 := Int.gcd_dvd_right x y
  have h3 : ((Int.gcd x y : Nat) : Int) ≠ 0 := by omega
  have key : Int.gcd (x / (Int.gcd x y : Int)) (y / (Int.gcd x y : Int)) = 1 := by
    rw [Int.gcd_ediv d1 d2]
    rw [Int.natAbs_natCast]
    exact Nat.div_self hg
  by_cases hp : y > 0
  · have e : side x y = (Int.gcd x y : Int) := if_pos hp
    rw [e, Int.fdiv_eq_ediv_of_dvd d1, Int.fdiv_eq_ediv_of_dvd d2]
    exact ⟨Int.ediv_pos_of_pos_of_dvd hp (by omega) d2, key⟩
  · have e : side x y = -(Int.gcd x y : Int) := if_neg hp
    have n1 : -((Int.gcd x y : Nat) : Int) ∣ x := Int.neg_dvd.mpr d1
    have n2 : -((Int.gcd x y : Nat) : Int) ∣ y := Int.neg_dvd.mpr d2
    rw [e, Int.fdiv_eq_ediv_of_dvd n1, Int.fdiv_eq_ediv_of_dvd n2, Int.ediv_neg, Int.ediv_neg]
    refine ⟨?_, by rw [Int.neg_gcd, Int.gcd_neg]; exact key⟩
    have : 0 < (-y) / (Int.gcd x y : Int) := Int.ediv_pos_of_pos_of_dvd (by omega) (by omega) (Int.dvd_neg.mpr d2)
    rw [Int.neg_ediv_of_dvd d2] at this
    exact this
/-- two pairs in lowest terms with one worth are one pair -/
theorem low_eq {a b c d : Int} (h1 : Low a b) (h2 : Low c d) (h : a * d = c * b) : a = c ∧ b = d := by
  have db : b ∣ d := by
    have z : b ∣ a * d := ⟨c, by rw [h, Int.mul_comm]⟩
    have g := Int.dvd_gcd_mul_iff_dvd_mul.mpr z
    rw [Int.gcd_comm, h1.2] at g
    simpa using g
  have dd : d ∣ b := by
    have z : d ∣ c * b := ⟨a, by rw [← h, Int.mul_comm]⟩
    have g := Int.dvd_gcd_mul_iff_dvd_mul.mpr z
    rw [Int.gcd_comm, h2.2] at g
    simpa using g
  have e : b = d := Int.dvd_antisymm (Int.le_of_lt h1.1) (Int.le_of_lt h2.1) db dd
  subst e
  exact ⟨Int.eq_of_mul_eq_mul_right (Int.ne_of_gt h1.1) h, rfl⟩
/-- lowest terms of x over y are c over d, where these are -/
theorem lo_eq {x y c d : Int} (hy : y ≠ 0) (h : Low c d) (e : x * d = c * y) : x.fdiv (side x y) = c ∧ y.fdiv (side x y) = d := by
  have l := low_lo (x := x) hy
  have cr := lo_cross (x := x) hy
  refine low_eq l h (Int.eq_of_mul_eq_mul_right hy ?_)
  calc x.fdiv (side x y) * d * y = x.fdiv (side x y) * y * d := by rw [Int.mul_right_comm]
    _ = x * y.fdiv (side x y) * d := by rw [cr]
    _ = x * d * y.fdiv (side x y) := by rw [Int.mul_right_comm]
    _ = c * y * y.fdiv (side x y) := by rw [e]
    _ = c * y.fdiv (side x y) * y := by rw [Int.mul_right_comm]
/-! ### numbers and other things -/
def rIsG (K : PySem.W.Frag) : List V → Hp → VK → Prop := fun xs H Q => ∃ (x c : V) (t u : Value) (b : Bool), xs = [x, c] ∧ ClsV c u ∧ TyOf K H x t ∧ PySem.W.kitOne K t u = some b ∧ Q (.bl b) H
section
variable {X : Cx}
theorem isi_G : CallR X (.builtin "isinstance") (rIsG X.K) := by
  intro pins s σ H xs us Q I r h
  obtain ⟨x, c, t, u, b, e, cv, ty, k, q⟩ := h
  exact call_isi pins s σ H xs us Q I r ⟨x, c, t, u, b, e, cv, .base ty, k, q⟩
end
section
variable {K : PySem.W.Frag} {mg : Str → Option Value}
theorem Wd.knS (W : Wd K mg) : NuX.KN K (.ref (He.ga K "Share")) true := NuX.knB_ok (W.ex 8 rfl)
theorem Wd.knT (W : Wd K mg) : NuX.KN K (.ref (He.ga K "Term")) false := NuX.knB_ok (W.ex 9 rfl)
theorem Wd.knI (W : Wd K mg) : NuX.KN K (.type "int") true := NuX.knB_ok (W.ex 10 rfl)
theorem Wd.cmp (W : Wd K mg) : CmX.CmpC K (He.ga K "Share") := CmX.cmpB_ok (W.ex 7 rfl)
/-- a number: its kind, whether it is a share -/
theorem Wd.nuTy (W : Wd K mg) {H : Hp} {v : V} {c d : Int} (h : Nu K H v c d) : ∃ t b, TyOf K H v t ∧ NuX.KN K t true ∧ PySem.W.kitOne K t (.ref (He.ga K "Share")) = some b ∧ CmX.Beside K (He.ga K "Share") t ∧
    ((b = true ∧ ∃ y, v = .ref y ∧ IsSh K H y c d) ∨ (b = false ∧ v = .int c ∧ d = 1)) := by
  rcases h with ⟨y, e, h⟩ | ⟨e, e2⟩
  · subst e
    exact ⟨_, true, W.isSh h, W.knS, W.kitS, .inl rfl, .inl ⟨rfl, y, rfl, h⟩⟩
  · subst e
    exact ⟨_, false, .int c, W.knI, of_decide_eq_true (W.ex 21 rfl), .inr (W.cmp.no "int" (by decide)).1, .inr ⟨rfl, rfl, e2⟩⟩
end
section
variable {P : Program} {w : World} {K : PySem.W.Frag} {mg : Str → Option Value} {base : Heap}
theorem scIsInt : FnScope ["thing"] ["thing"] d_is_integer.scope := ⟨rfl, rfl, rfl, by decide +kernel, rfl, by decide +kernel, by decide +kernel⟩
def spIsInt (K : PySem.W.Frag) : Sp := fun vs H Q _ => ∃ (v : V) (t : Value) (b : Bool), vs = [v] ∧ TyOf K H v t ∧ NuX.KI K t b ∧ Q (.bl b) H
theorem ok_isInt (W : Wd K mg) : ∃ fd, FnOk P w K mg base CX0 1 (He.ga K "is_integer") fd ["thing"] (spIsInt K) ∧ Binds K fd ["thing"] [] := by
  obtain ⟨fd, F⟩ := W.F_is_integer
  refine ⟨fd, F.ok scIsInt (fun vs H Q E h => ?_) (fun cdv A outer s H vs Q E hr h => ?_), FunD.bindsN F fun _ _ _ _ _ _ us hl => match us, hl with | [_], _ => rfl⟩
  · obtain ⟨v, t, b, rfl, _⟩ := h
    rfl
  · obtain ⟨v, t, b, rfl, ty, ⟨bi, bb, k1, k2, rfl⟩, q⟩ := h
    refine ⟨_, PSs.nox (pss_one (ps_ret (pe_and (pe_callB isi_G (by rfl) W.f_isinstance boot_isinstance (pa_cons (pv 0) (pa_cons (pe_bltn (v := .ty "int") (by rfl) W.f_int (by decide +kernel) rfl) pa_nil)))
      (pe_one (pe_not (pe_callB isi_G (by rfl) W.f_isinstance boot_isinstance (pa_cons (pv 0) (pa_cons (pe_bltn (v := .ty "bool") (by rfl) W.f_bool (by decide +kernel) rfl) pa_nil)))))))), ?_⟩
    simp -dsimp [tSeq, tAsg, tRet, tIfS, tIf, tTest, tVar, tCons, tNil, tC, tOp, tUn, rI, rI0, rU, tCB, tLst_A, tTup_A, gName, L2.start, CMul, CPow, CDiv, tDrop, tBM, tBM0, tNext, tPar, gSub, rSetL, rIxL, rIxT, tChain, tB, tNot, tNotV, tAnd, tOr, tAndV, tOrV, tFld, tCall, rIxLH, rIxTH, atI, ixN, upd_same, cxK, ex2, ex3, ex3b, rIs1, rIs2, rNe2, tyN, kb1, kb2, kb3, kb4, kb5, kb6, rEq, rNe, scal, tMake_S, tMakeK_S, tMakeN_S]
    refine ⟨_, _, t, _, bi, rfl, .ty "int", ty, k1, ?_⟩
    cases bi with
    | false => exact .inl ⟨rfl, q⟩
    | true =>
      refine .inr ⟨rfl, _, _, t, _, bb, rfl, .ty "bool", ty, k2, ?_⟩
      cases bb with
      | false => exact .inl ⟨rfl, q⟩
      | true => exact .inr ⟨rfl, q⟩
theorem scIsNum : FnScope ["thing"] ["thing"] d_is_number.scope := ⟨rfl, rfl, rfl, by decide +kernel, rfl, by decide +kernel, by decide +kernel⟩
def spIsNum (K : PySem.W.Frag) : Sp := fun vs H Q _ => ∃ (v : V) (t : Value) (b : Bool), vs = [v] ∧ TyOf K H v t ∧ NuX.KN K t b ∧ Q (.bl b) H
theorem ok_isNum (W : Wd K mg) : ∃ fd, FnOk P w K mg base CX0 2 (He.ga K "is_number") fd ["thing"] (spIsNum K) ∧ Binds K fd ["thing"] [] := by
  obtain ⟨fdI, GI, bI⟩ := ok_isInt (P := P) (w := w) (base := base) W
  have kI : PySem.W.keepIn K (.ref (He.ga K "is_integer")) = true := by obtain ⟨fd, F⟩ := W.F_is_integer; exact F.kp
  obtain ⟨fd, F⟩ := W.F_is_number
  refine ⟨fd, F.ok scIsNum (fun vs H Q E h => ?_) (fun cdv A outer s H vs Q E hr h => ?_), FunD.bindsN F fun _ _ _ _ _ _ us hl => match us, hl with | [_], _ => rfl⟩
  · obtain ⟨v, t, b, rfl, _⟩ := h
    rfl
  · obtain ⟨v, t, b, rfl, ty, ⟨bs, k1, kk⟩, q⟩ := h
    refine ⟨_, PSs.nox (pss_one (ps_ret (pe_or (pe_callB isi_G (by rfl) W.f_isinstance boot_isinstance (pa_cons (pv 0) (pa_cons (pe_glob (v := .ref (He.ga K "Share")) rfl W.g_Share rfl) pa_nil)))
      (pe_one (pe_call GI hr rfl W.g_is_integer kI bI .nil pass0 (pa_cons (pv 0) pa_nil)))))), ?_⟩
    simp -dsimp [tSeq, tAsg, tRet, tIfS, tIf, tTest, tVar, tCons, tNil, tC, tOp, tUn, rI, rI0, rU, tCB, tLst_A, tTup_A, gName, L2.start, CMul, CPow, CDiv, tDrop, tBM, tBM0, tNext, tPar, gSub, rSetL, rIxL, rIxT, tChain, tB, tNot, tNotV, tAnd, tOr, tAndV, tOrV, tFld, tCall, rIxLH, rIxTH, atI, ixN, upd_same, cxK, ex2, ex3, ex3b, rIs1, rIs2, rNe2, tyN, kb1, kb2, kb3, kb4, kb5, kb6, rEq, rNe, scal, tMake_S, tMakeK_S, tMakeN_S]
    refine ⟨_, _, t, _, bs, rfl, .own _, ty, k1, ?_⟩
    rcases kk with ⟨rfl, rfl⟩ | ⟨rfl, kk⟩
    · exact .inr ⟨rfl, q⟩
    · exact .inl ⟨rfl, _, t, b, rfl, ty, kk, q⟩
theorem scFrac : FnScope ["number"] ["number"] d_fraction.scope := ⟨rfl, rfl, rfl, by decide +kernel, rfl, by decide +kernel, by decide +kernel⟩
def spFrac (K : PySem.W.Frag) : Sp := fun vs H Q _ => ∃ (v : V) (c d : Int), vs = [v] ∧ Nu K H v c d ∧ ∀ p H', H p = none → H' p = some (.tup [.int c, .int d]) → Same H H' → Q (.ref p) H'
theorem ok_frac (W : Wd K mg) : ∃ fd, FnOk P w K mg base CX0 1 (He.ga K "fraction") fd ["number"] (spFrac K) ∧ Binds K fd ["number"] [] := by
  obtain ⟨fd, F⟩ := W.F_fraction
  refine ⟨fd, F.ok scFrac (fun vs H Q E h => ?_) (fun cdv A outer s H vs Q E hr h => ?_), FunD.bindsN F fun _ _ _ _ _ _ us hl => match us, hl with | [_], _ => rfl⟩
  · obtain ⟨v, c, d, rfl, _⟩ := h
    rfl
  · obtain ⟨v, c, d, rfl, h, q⟩ := h
    refine ⟨_, PSs.nox (pss_cons (ps_if (pt_val (pe_callB isi_G (by rfl) W.f_isinstance boot_isinstance (pa_cons (pv 0) (pa_cons (pe_glob (v := .ref (He.ga K "Share")) rfl W.g_Share rfl) pa_nil))))
        (pss_one (ps_ret (pe_tup (pa_cons (pe_fld (pv 0) rfl) (pa_cons (pe_fld (pv 0) rfl) pa_nil))))) pss_nil)
      (pss_one (ps_ret (pe_tup (pa_cons (pv 0) (pa_cons pe_int pa_nil)))))), ?_⟩
    obtain ⟨t, b, ty, kn, k, _, hb⟩ := W.nuTy h
    simp -dsimp [tSeq, tAsg, tRet, tIfS, tIf, tTest, tVar, tCons, tNil, tC, tOp, tUn, rI, rI0, rU, tCB, tLst_A, tTup_A, gName, L2.start, CMul, CPow, CDiv, tDrop, tBM, tBM0, tNext, tPar, gSub, rSetL, rIxL, rIxT, tChain, tB, tNot, tNotV, tAnd, tOr, tAndV, tOrV, tFld, tCall, rIxLH, rIxTH, atI, ixN, upd_same, cxK, ex2, ex3, ex3b, rIs1, rIs2, rNe2, tyN, kb1, kb2, kb3, kb4, kb5, kb6, rEq, rNe, scal, tMake_S, tMakeK_S, tMakeN_S]
    refine ⟨_, _, t, _, b, rfl, .own _, ty, k, ?_⟩
    rcases hb with ⟨rfl, y, rfl, hy⟩ | ⟨rfl, rfl, rfl⟩
    · obtain ⟨dx, hd⟩ := id hy
      simp -dsimp [tSeq, tAsg, tRet, tIfS, tIf, tTest, tVar, tCons, tNil, tC, tOp, tUn, rI, rI0, rU, tCB, tLst_A, tTup_A, gName, L2.start, CMul, CPow, CDiv, tDrop, tBM, tBM0, tNext, tPar, gSub, rSetL, rIxL, rIxT, tChain, tB, tNot, tNotV, tAnd, tOr, tAndV, tOrV, tFld, tCall, rIxLH, rIxTH, atI, ixN, upd_same, cxK, ex2, ex3, ex3b, rIs1, rIs2, rNe2, tyN, kb1, kb2, kb3, kb4, kb5, kb6, rEq, rNe, scal, tMake_S, tMakeK_S, tMakeN_S, hd, shareO, W.cls_Share, W.n_Share_top, W.n_Share_bottom, look_top, look_bot]
      exact ⟨le2, Alloc.of q⟩
    · simp -dsimp [tSeq, tAsg, tRet, tIfS, tIf, tTest, tVar, tCons, tNil, tC, tOp, tUn, rI, rI0, rU, tCB, tLst_A, tTup_A, gName, L2.start, CMul, CPow, CDiv, tDrop, tBM, tBM0, tNext, tPar, gSub, rSetL, rIxL, rIxT, tChain, tB, tNot, tNotV, tAnd, tOr, tAndV, tOrV, tFld, tCall, rIxLH, rIxTH, atI, ixN, upd_same, cxK, ex2, ex3, ex3b, rIs1, rIs2, rNe2, tyN, kb1, kb2, kb3, kb4, kb5, kb6, rEq, rNe, scal, tMake_S, tMakeK_S, tMakeN_S]
      exact ⟨le2, Alloc.of q⟩
theorem scShareOf : FnScope ["number"] ["number"] d_share_of.scope := ⟨rfl, rfl, rfl, by decide +kernel, rfl, by decide +kernel, by decide +kernel⟩
def spShareOf (K : PySem.W.Frag) : Sp := fun vs H Q _ => ∃ (v : V) (c d : Int), vs = [v] ∧ Nu K H v c d ∧ ∀ z H', Same H H' → IsSh K H' z c d → Q (.ref z) H'
theorem ok_shareOf (W : Wd K mg) : ∃ fd, FnOk P w K mg base CX0 4 (He.ga K "share_of") fd ["number"] (spShareOf K) ∧ Binds K fd ["number"] [] := by
  obtain ⟨fdH, GH, FH⟩ := ok_init (P := P) (w := w) (base := base) W
  obtain ⟨ds1, v1, b1⟩ := bind2 FH
  obtain ⟨fd, F⟩ := W.F_share_of
  refine ⟨fd, F.ok scShareOf (fun vs H Q E h => ?_) (fun cdv A outer s H vs Q E hr h => ?_), FunD.bindsN F fun _ _ _ _ _ _ us hl => match us, hl with | [_], _ => rfl⟩
  · obtain ⟨v, c, d, rfl, _⟩ := h
    rfl
  · obtain ⟨v, c, d, rfl, h, q⟩ := h
    refine ⟨_, PSs.nox (pss_cons (ps_if (pt_val (pe_callB isi_G (by rfl) W.f_isinstance boot_isinstance (pa_cons (pv 0) (pa_cons (pe_glob (v := .ref (He.ga K "Share")) rfl W.g_Share rfl) pa_nil))))
        (pss_one (ps_ret (pv 0))) pss_nil)
      (pss_one (ps_ret (pe_make W.mkr_Share GH hr rfl W.g_Share b1 v1 pass0 (pa_cons (pv 0) pa_nil))))), ?_⟩
    obtain ⟨t, b, ty, kn, k, _, hb⟩ := W.nuTy h
    simp -dsimp [tSeq, tAsg, tRet, tIfS, tIf, tTest, tVar, tCons, tNil, tC, tOp, tUn, rI, rI0, rU, tCB, tLst_A, tTup_A, gName, L2.start, CMul, CPow, CDiv, tDrop, tBM, tBM0, tNext, tPar, gSub, rSetL, rIxL, rIxT, tChain, tB, tNot, tNotV, tAnd, tOr, tAndV, tOrV, tFld, tCall, rIxLH, rIxTH, atI, ixN, upd_same, cxK, ex2, ex3, ex3b, rIs1, rIs2, rNe2, tyN, kb1, kb2, kb3, kb4, kb5, kb6, rEq, rNe, scal, tMake_S, tMakeK_S, tMakeN_S]
    refine ⟨_, _, t, _, b, rfl, .own _, ty, k, ?_⟩
    rcases hb with ⟨rfl, y, rfl, hy⟩ | ⟨rfl, rfl, rfl⟩
    · exact .inr ⟨rfl, q y H (Same.refl _) hy⟩
    · refine .inl ⟨rfl, ?_⟩
      refine MkS.of rfl (by decide) (by decide +kernel) fun z H' _ i s' => ?_
      rw [(one_fd c).1, (one_fd c).2] at i
      exact q z H' s' i
def Sm (a b c d : Int) : Prop := a.natAbs < bigH ∧ b.natAbs < bigH ∧ c.natAbs < bigH ∧ d.natAbs < bigH
theorem scExcess : FnScope ["share", "number", "top", "bottom"] ["share", "number"] d_excess.scope := ⟨rfl, rfl, rfl, by decide +kernel, rfl, by decide +kernel, by decide +kernel⟩
def spExcess (K : PySem.W.Frag) : Sp := fun vs H Q _ => ∃ (x : Addr) (v : V) (a b c d : Int), vs = [.ref x, v] ∧ IsSh K H x a b ∧ Nu K H v c d ∧ Sm a b c d ∧ ∀ H', Same H H' → Q (.int (a * d - c * b)) H'
theorem ok_excess (W : Wd K mg) : ∃ fd, FnOk P w K mg base CX0 2 (He.ga K "excess") fd ["share", "number"] (spExcess K) ∧ Binds K fd ["share", "number"] [] := by
  obtain ⟨fdF, GF, bF⟩ := ok_frac (P := P) (w := w) (base := base) W
  have kF : PySem.W.keepIn K (.ref (He.ga K "fraction")) = true := by obtain ⟨fd, F⟩ := W.F_fraction; exact F.kp
  obtain ⟨fd, F⟩ := W.F_excess
  refine ⟨fd, F.ok scExcess (fun vs H Q E h => ?_) (fun cdv A outer s H vs Q E hr h => ?_), FunD.bindsN F fun _ _ _ _ _ _ us hl => match us, hl with | [_, _], _ => rfl⟩
  · obtain ⟨x, v, a, b, c, d, rfl, _⟩ := h
    rfl
  · obtain ⟨x, v, a, b, c, d, rfl, hx, hv, ⟨ha, hb, hc, hd⟩, q⟩ := h
    refine ⟨_, PSs.nox (pss_cons (ps_asg (pe_call GF hr rfl W.g_fraction kF bF .nil pass0 (pa_cons (pv 1) pa_nil)) (pg_tup rfl (pgs_cons (pg_name (i := 2) scExcess.nd rfl (Or.inl rfl)) (pgs_cons (pg_name (i := 3) scExcess.nd rfl (Or.inl rfl)) pgs_nil))))
      (pss_one (ps_ret (pe_op op_sub (pe_op op_mulX9 (pe_fld (pv 0) rfl) (pv 3)) (pe_op op_mulX9 (pv 2) (pe_fld (pv 0) rfl)))))), ?_⟩
    simp -dsimp [tSeq, tAsg, tRet, tIfS, tIf, tTest, tVar, tCons, tNil, tC, tOp, tUn, rI, rI0, rU, tCB, tLst_A, tTup_A, gName, L2.start, CMul, CPow, CDiv, tDrop, tBM, tBM0, tNext, tPar, gSub, rSetL, rIxL, rIxT, tChain, tB, tNot, tNotV, tAnd, tOr, tAndV, tOrV, tFld, tCall, rIxLH, rIxTH, atI, ixN, upd_same, cxK, ex2, ex3, ex3b, rIs1, rIs2, rNe2, tyN, kb1, kb2, kb3, kb4, kb5, kb6, rEq, rNe, scal, tMake_S, tMakeK_S, tMakeN_S]
    refine ⟨v, c, d, rfl, hv, fun p H1 np hp s1 => tup2 hp ?_⟩
    obtain ⟨dx, hx1⟩ := hx.same s1
    simp -dsimp [tSeq, tAsg, tRet, tIfS, tIf, tTest, tVar, tCons, tNil, tC, tOp, tUn, rI, rI0, rU, tCB, tLst_A, tTup_A, gName, L2.start, CMul, CPow, CDiv, tDrop, tBM, tBM0, tNext, tPar, gSub, rSetL, rIxL, rIxT, tChain, tB, tNot, tNotV, tAnd, tOr, tAndV, tOrV, tFld, tCall, rIxLH, rIxTH, atI, ixN, upd_same, cxK, ex2, ex3, ex3b, rIs1, rIs2, rNe2, tyN, kb1, kb2, kb3, kb4, kb5, kb6, rEq, rNe, scal, tMake_S, tMakeK_S, tMakeN_S, hx1, shareO, W.cls_Share, W.n_Share_top, W.n_Share_bottom, look_top, look_bot, h_lt_M ha, h_lt_M hb, h_lt_M hc, h_lt_M hd]
    exact q H1 s1
/-- what an own comparison promises of a number -/
def spCmp (K : PySem.W.Frag) (f : Int → Bool) : Sp := fun vs H Q _ => ∃ (x : Addr) (v : V) (a b c d : Int), vs = [.ref x, v] ∧ IsSh K H x a b ∧ Nu K H v c d ∧ Sm a b c d ∧ ∀ H', Same H H' → Q (.bl (f (a * d - c * b))) H'
theorem spCmp_len {K : PySem.W.Frag} {f : Int → Bool} {vs : List V} {H : Hp} {Q : VK} {E : XK} (h : spCmp K f vs H Q E) : vs.length = 2 := by
  obtain ⟨x, v, a, b, c, d, rfl, _⟩ := h
  rfl
/-- .. and __eq__ of other things -/
def spEqS (K : PySem.W.Frag) : Sp := fun vs H Q E => spCmp K (fun z => decide (z = 0)) vs H Q E ∨ ∃ (x : Addr) (a b : Int) (v : V) (t : Value), vs = [.ref x, v] ∧ IsSh K H x a b ∧ TyOf K H v t ∧ NuX.KN K t false ∧ Q (.bl false) H
def sc2 (sc : Scope) : Prop := FnScope ["self", "other"] ["self", "other"] sc
theorem sc_lt : FnScope ["self", "other"] ["self", "other"] d_Share_lt.scope := ⟨rfl, rfl, rfl, by decide +kernel, rfl, by decide +kernel, by decide +kernel⟩
theorem ok_lt (W : Wd K mg) : ∃ fd, FnOk P w K mg base CX0 3 (He.ma K (He.ga K "Share") "__lt__") fd ["self", "other"] (spCmp K (fun z => decide (z < 0))) ∧ Binds K fd ["self", "other"] [] := by
  obtain ⟨fdN, GN, bN⟩ := ok_isNum (P := P) (w := w) (base := base) W
  obtain ⟨fdX, GX, bX⟩ := ok_excess (P := P) (w := w) (base := base) W
  have kN : PySem.W.keepIn K (.ref (He.ga K "is_number")) = true := by obtain ⟨fd, F⟩ := W.F_is_number; exact F.kp
  have kX : PySem.W.keepIn K (.ref (He.ga K "excess")) = true := by obtain ⟨fd, F⟩ := W.F_excess; exact F.kp
  obtain ⟨fd, F⟩ := W.F_Share_lt
  refine ⟨fd, F.ok sc_lt (fun vs H Q E h => spCmp_len h) (fun cdv A outer s H vs Q E hr h => ?_), FunD.bindsN F fun _ _ _ _ _ _ us hl => match us, hl with | [_, _], _ => rfl⟩
  obtain ⟨x, v, a, b, c, d, rfl, hx, hv, hs, q⟩ := h
  refine ⟨_, PSs.nox (pss_cons (ps_if (pt_not (pt_val (pe_call GN hr rfl W.g_is_number kN bN .nil pass0 (pa_cons (pv 1) pa_nil)))) pss_never pss_nil)
    (pss_one (ps_ret (pe_cmpR op_lt (pe_call GX hr rfl W.g_excess kX bX .nil pass0 (pa_cons (pv 0) (pa_cons (pv 1) pa_nil))) pe_int (nomark _))))), ?_⟩
  obtain ⟨t, bb, ty, kn, k, _, _⟩ := W.nuTy hv
  simp -dsimp [tSeq, tAsg, tRet, tIfS, tIf, tTest, tVar, tCons, tNil, tC, tOp, tUn, rI, rI0, rU, tCB, tLst_A, tTup_A, gName, L2.start, CMul, CPow, CDiv, tDrop, tBM, tBM0, tNext, tPar, gSub, rSetL, rIxL, rIxT, tChain, tB, tNot, tNotV, tAnd, tOr, tAndV, tOrV, tFld, tCall, rIxLH, rIxTH, atI, ixN, upd_same, cxK, ex2, ex3, ex3b, rIs1, rIs2, rNe2, tyN, kb1, kb2, kb3, kb4, kb5, kb6, rEq, rNe, scal, tMake_S, tMakeK_S, tMakeN_S]
  exact ⟨_, t, true, rfl, ty, kn, .inr ⟨rfl, _, _, a, b, c, d, rfl, hx, hv, hs, fun H' s' => ⟨_, rfl, q H' s'⟩⟩⟩
theorem sc_le : FnScope ["self", "other"] ["self", "other"] d_Share_le.scope := ⟨rfl, rfl, rfl, by decide +kernel, rfl, by decide +kernel, by decide +kernel⟩
theorem ok_le (W : Wd K mg) : ∃ fd, FnOk P w K mg base CX0 3 (He.ma K (He.ga K "Share") "__le__") fd ["self", "other"] (spCmp K (fun z => decide (z ≤ 0))) ∧ Binds K fd ["self", "other"] [] := by
  obtain ⟨fdN, GN, bN⟩ := ok_isNum (P := P) (w := w) (base := base) W
  obtain ⟨fdX, GX, bX⟩ := ok_excess (P := P) (w := w) (base := base) W
  have kN : PySem.W.keepIn K (.ref (He.ga K "is_number")) = true := by obtain ⟨fd, F⟩ := W.F_is_number; exact F.kp
  have kX : PySem.W.keepIn K (.ref (He.ga K "excess")) = true := by obtain ⟨fd, F⟩ := W.F_excess; exact F.kp
  obtain ⟨fd, F⟩ := W.F_Share_le
  refine ⟨fd, F.ok sc_le (fun vs H Q E h => spCmp_len h) (fun cdv A outer s H vs Q E hr h => ?_), FunD.bindsN F fun _ _ _ _ _ _ us hl => match us, hl with | [_, _], _ => rfl⟩
  obtain ⟨x, v, a, b, c, d, rfl, hx, hv, hs, q⟩ := h
  refine ⟨_, PSs.nox (pss_cons (ps_if (pt_not (pt_val (pe_call GN hr rfl W.g_is_number kN bN .nil pass0 (pa_cons (pv 1) pa_nil)))) pss_never pss_nil)
    (pss_one (ps_ret (pe_cmpR op_le (pe_call GX hr rfl W.g_excess kX bX .nil pass0 (pa_cons (pv 0) (pa_cons (pv 1) pa_nil))) pe_int (nomark _))))), ?_⟩
  obtain ⟨t, bb, ty, kn, k, _, _⟩ := W.nuTy hv
  simp -dsimp [tSeq, tAsg, tRet, tIfS, tIf, tTest, tVar, tCons, tNil, tC, tOp, tUn, rI, rI0, rU, tCB, tLst_A, tTup_A, gName, L2.start, CMul, CPow, CDiv, tDrop, tBM, tBM0, tNext, tPar, gSub, rSetL, rIxL, rIxT, tChain, tB, tNot, tNotV, tAnd, tOr, tAndV, tOrV, tFld, tCall, rIxLH, rIxTH, atI, ixN, upd_same, cxK, ex2, ex3, ex3b, rIs1, rIs2, rNe2, tyN, kb1, kb2, kb3, kb4, kb5, kb6, rEq, rNe, scal, tMake_S, tMakeK_S, tMakeN_S]
  exact ⟨_, t, true, rfl, ty, kn, .inr ⟨rfl, _, _, a, b, c, d, rfl, hx, hv, hs, fun H' s' => ⟨_, rfl, q H' s'⟩⟩⟩
theorem sc_gt : FnScope ["self", "other"] ["self", "other"] d_Share_gt.scope := ⟨rfl, rfl, rfl, by decide +kernel, rfl, by decide +kernel, by decide +kernel⟩
theorem ok_gt (W : Wd K mg) : ∃ fd, FnOk P w K mg base CX0 3 (He.ma K (He.ga K "Share") "__gt__") fd ["self", "other"] (spCmp K (fun z => decide (0 < z))) ∧ Binds K fd ["self", "other"] [] := by
  obtain ⟨fdN, GN, bN⟩ := ok_isNum (P := P) (w := w) (base := base) W
  obtain ⟨fdX, GX, bX⟩ := ok_excess (P := P) (w := w) (base := base) W
  have kN : PySem.W.keepIn K (.ref (He.ga K "is_number")) = true := by obtain ⟨fd, F⟩ := W.F_is_number; exact F.kp
  have kX : PySem.W.keepIn K (.ref (He.ga K "excess")) = true := by obtain ⟨fd, F⟩ := W.F_excess; exact F.kp
  obtain ⟨fd, F⟩ := W.F_Share_gt
  refine ⟨fd, F.ok sc_gt (fun vs H Q E h => spCmp_len h) (fun cdv A outer s H vs Q E hr h => ?_), FunD.bindsN F fun _ _ _ _ _ _ us hl => match us, hl with | [_, _], _ => rfl⟩
  obtain ⟨x, v, a, b, c, d, rfl, hx, hv, hs, q⟩ := h
  refine ⟨_, PSs.nox (pss_cons (ps_if (pt_not (pt_val (pe_call GN hr rfl W.g_is_number kN bN .nil pass0 (pa_cons (pv 1) pa_nil)))) pss_never pss_nil)
    (pss_one (ps_ret (pe_cmpR op_gt (pe_call GX hr rfl W.g_excess kX bX .nil pass0 (pa_cons (pv 0) (pa_cons (pv 1) pa_nil))) pe_int (nomark _))))), ?_⟩
  obtain ⟨t, bb, ty, kn, k, _, _⟩ := W.nuTy hv
  simp -dsimp [tSeq, tAsg, tRet, tIfS, tIf, tTest, tVar, tCons, tNil, tC, tOp, tUn, rI, rI0, rU, tCB, tLst_A, tTup_A, gName, L2.start, CMul, CPow, CDiv, tDrop, tBM, tBM0, tNext, tPar, gSub, rSetL, rIxL, rIxT, tChain, tB, tNot, tNotV, tAnd, tOr, tAndV, tOrV, tFld, tCall, rIxLH, rIxTH, atI, ixN, upd_same, cxK, ex2, ex3, ex3b, rIs1, rIs2, rNe2, tyN, kb1, kb2, kb3, kb4, kb5, kb6, rEq, rNe, scal, tMake_S, tMakeK_S, tMakeN_S]
  exact ⟨_, t, true, rfl, ty, kn, .inr ⟨rfl, _, _, a, b, c, d, rfl, hx, hv, hs, fun H' s' => ⟨_, rfl, q H' s'⟩⟩⟩
theorem sc_ge : FnScope ["self", "other"] ["self", "other"] d_Share_ge.scope := ⟨rfl, rfl, rfl, by decide +kernel, rfl, by decide +kernel, by decide +kernel⟩
theorem ok_ge (W : Wd K mg) : ∃ fd, FnOk P w K mg base CX0 3 (He.ma K (He.ga K "Share") "__ge__") fd ["self", "other"] (spCmp K (fun z => decide (0 ≤ z))) ∧ Binds K fd ["self", "other"] [] := by
  obtain ⟨fdN, GN, bN⟩ := ok_isNum (P := P) (w := w) (base := base) W
  obtain ⟨fdX, GX, bX⟩ := ok_excess (P := P) (w := w) (base := base) W
  have kN : PySem.W.keepIn K (.ref (He.ga K "is_number")) = true := by obtain ⟨fd, F⟩ := W.F_is_number; exact F.kp
  have kX : PySem.W.keepIn K (.ref (He.ga K "excess")) = true := by obtain ⟨fd, F⟩ := W.F_excess; exact F.kp
  obtain ⟨fd, F⟩ := W.F_Share_ge
  refine ⟨fd, F.ok sc_ge (fun vs H Q E h => spCmp_len h) (fun cdv A outer s H vs Q E hr h => ?_), FunD.bindsN F fun _ _ _ _ _ _ us hl => match us, hl with | [_, _], _ => rfl⟩
  obtain ⟨x, v, a, b, c, d, rfl, hx, hv, hs, q⟩ := h
  refine ⟨_, PSs.nox (pss_cons (ps_if (pt_not (pt_val (pe_call GN hr rfl W.g_is_number kN bN .nil pass0 (pa_cons (pv 1) pa_nil)))) pss_never pss_nil)
    (pss_one (ps_ret (pe_cmpR op_ge (pe_call GX hr rfl W.g_excess kX bX .nil pass0 (pa_cons (pv 0) (pa_cons (pv 1) pa_nil))) pe_int (nomark _))))), ?_⟩
  obtain ⟨t, bb, ty, kn, k, _, _⟩ := W.nuTy hv
  simp -dsimp [tSeq, tAsg, tRet, tIfS, tIf, tTest, tVar, tCons, tNil, tC, tOp, tUn, rI, rI0, rU, tCB, tLst_A, tTup_A, gName, L2.start, CMul, CPow, CDiv, tDrop, tBM, tBM0, tNext, tPar, gSub, rSetL, rIxL, rIxT, tChain, tB, tNot, tNotV, tAnd, tOr, tAndV, tOrV, tFld, tCall, rIxLH, rIxTH, atI, ixN, upd_same, cxK, ex2, ex3, ex3b, rIs1, rIs2, rNe2, tyN, kb1, kb2, kb3, kb4, kb5, kb6, rEq, rNe, scal, tMake_S, tMakeK_S, tMakeN_S]
  exact ⟨_, t, true, rfl, ty, kn, .inr ⟨rfl, _, _, a, b, c, d, rfl, hx, hv, hs, fun H' s' => ⟨_, rfl, q H' s'⟩⟩⟩
theorem sc_eq : FnScope ["self", "other"] ["self", "other"] d_Share_eq.scope := ⟨rfl, rfl, rfl, by decide +kernel, rfl, by decide +kernel, by decide +kernel⟩
theorem ok_eq (W : Wd K mg) : ∃ fd, FnOk P w K mg base CX0 3 (He.ma K (He.ga K "Share") "__eq__") fd ["self", "other"] (spEqS K) ∧ Binds K fd ["self", "other"] [] := by
  obtain ⟨fdN, GN, bN⟩ := ok_isNum (P := P) (w := w) (base := base) W
  obtain ⟨fdX, GX, bX⟩ := ok_excess (P := P) (w := w) (base := base) W
  have kN : PySem.W.keepIn K (.ref (He.ga K "is_number")) = true := by obtain ⟨fd, F⟩ := W.F_is_number; exact F.kp
  have kX : PySem.W.keepIn K (.ref (He.ga K "excess")) = true := by obtain ⟨fd, F⟩ := W.F_excess; exact F.kp
  obtain ⟨fd, F⟩ := W.F_Share_eq
  refine ⟨fd, F.ok sc_eq (fun vs H Q E h => ?_) (fun cdv A outer s H vs Q E hr h => ?_), FunD.bindsN F fun _ _ _ _ _ _ us hl => match us, hl with | [_, _], _ => rfl⟩
  · rcases h with h | ⟨x, a, b, v, t, rfl, _⟩
    · exact spCmp_len h
    · rfl
  · refine ⟨_, PSs.nox (pss_cons (ps_if (pt_not (pt_val (pe_call GN hr rfl W.g_is_number kN bN .nil pass0 (pa_cons (pv 1) pa_nil)))) (pss_one (ps_ret pe_bl)) pss_nil)
      (pss_one (ps_ret (pe_cmpR op_eq (pe_call GX hr rfl W.g_excess kX bX .nil pass0 (pa_cons (pv 0) (pa_cons (pv 1) pa_nil))) pe_int (nomark _))))), ?_⟩
    rcases h with ⟨x, v, a, b, c, d, rfl, hx, hv, hs, q⟩ | ⟨x, a, b, v, t, rfl, hx, ty, kn, q⟩
    · obtain ⟨t, bb, ty, kn, k, _, _⟩ := W.nuTy hv
      simp -dsimp [tSeq, tAsg, tRet, tIfS, tIf, tTest, tVar, tCons, tNil, tC, tOp, tUn, rI, rI0, rU, tCB, tLst_A, tTup_A, gName, L2.start, CMul, CPow, CDiv, tDrop, tBM, tBM0, tNext, tPar, gSub, rSetL, rIxL, rIxT, tChain, tB, tNot, tNotV, tAnd, tOr, tAndV, tOrV, tFld, tCall, rIxLH, rIxTH, atI, ixN, upd_same, cxK, ex2, ex3, ex3b, rIs1, rIs2, rNe2, tyN, kb1, kb2, kb3, kb4, kb5, kb6, rEq, rNe, scal, tMake_S, tMakeK_S, tMakeN_S]
      refine ⟨_, t, true, rfl, ty, kn, .inr ⟨rfl, _, _, a, b, c, d, rfl, hx, hv, hs, fun H' s' => ?_⟩⟩
      have e : decide (V.int (a * d - c * b) = V.int 0) = decide (a * d - c * b = 0) := by simp only [V.int.injEq]
      refine ⟨rfl, ?_⟩
      show Q (.bl (decide (V.int (a * d - c * b) = V.int 0))) H'
      rw [e]
      exact q H' s'
    · simp -dsimp [tSeq, tAsg, tRet, tIfS, tIf, tTest, tVar, tCons, tNil, tC, tOp, tUn, rI, rI0, rU, tCB, tLst_A, tTup_A, gName, L2.start, CMul, CPow, CDiv, tDrop, tBM, tBM0, tNext, tPar, gSub, rSetL, rIxL, rIxT, tChain, tB, tNot, tNotV, tAnd, tOr, tAndV, tOrV, tFld, tCall, rIxLH, rIxTH, atI, ixN, upd_same, cxK, ex2, ex3, ex3b, rIs1, rIs2, rNe2, tyN, kb1, kb2, kb3, kb4, kb5, kb6, rEq, rNe, scal, tMake_S, tMakeK_S, tMakeN_S]
      exact ⟨_, t, false, rfl, ty, kn, .inl ⟨rfl, q⟩⟩
end
/-! ### terms made -/
def tNo : TE := fun _ _ _ => False
theorem pe_no {X : Cx} {e : Expr} : PE X e tNo := ⟨fun _ _ _ _ _ _ h => h.elim⟩
def termO (C dx : Addr) (n t : V) : HO := .ins C dx [("number", n), ("times", t)]
section
variable {P : Program} {w : World} {K : PySem.W.Frag} {mg : Str → Option Value} {base : Heap}
theorem scTInit : FnScope ["self", "number", "times"] ["self", "number", "times"] d_Term_init.scope := ⟨rfl, rfl, rfl, by decide +kernel, rfl, by decide +kernel, by decide +kernel⟩
def spTInit (K : PySem.W.Frag) : Sp := fun vs H Q _ => ∃ (x dx : Addr) (n t : V), vs = [.ref x, n, t] ∧ H x = some (.ins (He.ga K "Term") dx []) ∧ Q .non (upd H x (termO (He.ga K "Term") dx n t))
theorem ok_tinit (W : Wd K mg) : ∃ fd, FnOk P w K mg base CX0 1 (He.ma K (He.ga K "Term") "__init__") fd ["self", "number", "times"] (spTInit K) ∧ Binds K fd ["self", "number", "times"] [] := by
  obtain ⟨fd, F⟩ := W.F_Term_init
  refine ⟨fd, F.ok scTInit (fun vs H Q E h => ?_) (fun cdv A outer s H vs Q E hr h => ?_), FunD.bindsN F fun _ _ _ _ _ _ us hl => match us, hl with | [_, _, _], _ => rfl⟩
  · obtain ⟨x, dx, n, t, rfl, _⟩ := h
    rfl
  · obtain ⟨x, dx, n, t, rfl, hx, q⟩ := h
    refine ⟨_, PSs.nox (pss_cons (ps_fld (pv 0) (pv 1) rfl) (pss_one (ps_fld (pv 0) (pv 2) rfl))), ?_⟩
    have pf : ∀ (u v : V), putF "times" v (putF "number" u []) = [(("number" : Str), u), (("times" : Str), v)] := fun u v => by
      show (if ("number" : Str) = "times" then [(("number" : Str), v)] else (("number" : Str), u) :: putF "times" v []) = _
      rw [if_neg (by decide +kernel)]
      rfl
    have pl : ∀ u : V, (putF "number" u []).length < 1000 := fun u => by
      show 1 < 1000
      decide
    simp -dsimp [tSeq, tAsg, tRet, tIfS, tIf, tTest, tVar, tCons, tNil, tC, tOp, tUn, rI, rI0, rU, tCB, tLst_A, tTup_A, gName, L2.start, CMul, CPow, CDiv, tDrop, tBM, tBM0, tNext, tPar, gSub, rSetL, rIxL, rIxT, tChain, tB, tNot, tNotV, tAnd, tOr, tAndV, tOrV, tFld, tCall, rIxLH, rIxTH, atI, ixN, upd_same, cxK, ex2, ex3, ex3b, rIs1, rIs2, rNe2, tyN, kb1, kb2, kb3, kb4, kb5, kb6, rEq, rNe, scal, tMake_S, tMakeK_S, tMakeN_S, sFld, hx, W.cls_Term, W.n_Term_number, W.n_Term_times, upd_upd, pf, pl]
    exact q
/-- a term is made of n and t -/
def MkT (K : PySem.W.Frag) (H : Hp) (vs : List V) (Q : V → Hp → Prop) (E : XK) (_ : Lk (Q, E) := ⟨⟩) : Prop :=
  ∀ x dx, H x = none → H dx = none → dx ≠ x → spTInit K (.ref x :: vs) (upd (upd H dx (.own x)) x (.ins (He.ga K "Term") dx [])) (fun v H2 => v = .non ∧ Q (.ref x) H2) E
theorem MkT.of {H : Hp} {vs : List V} {n t : V} {Q : V → Hp → Prop} {E : XK} (e : vs = [n, t]) (h : ∀ x dx H', H x = none → H' x = some (termO (He.ga K "Term") dx n t) → Same H H' → Q (.ref x) H') : MkT K H vs Q E := by
  intro x dx nx nd ne
  refine ⟨x, dx, n, t, by rw [e], upd_same, rfl, h x dx _ nx upd_same ?_⟩
  intro c o ec
  rw [upd_ne (ne_of_none ec nx), upd_ne (ne_of_none ec nx), upd_ne (ne_of_none ec nd)]
  exact ec
theorem tMake_T {E : XK} {t : TA} {σ : List (Option V)} {H : Hp} {Q : V → Hp → Prop} : tMake (He.ga K "Term") (spTInit K) [] E t σ H Q = t σ H fun vs H1 => MkT K H1 vs Q E := by
  show (t σ H fun vs H1 => MkT K H1 (vs ++ []) Q E) = _
  simp only [List.append_nil]
/-- a share: its two numbers as a pair -/
abbrev IsS (K : PySem.W.Frag) (H : Hp) (x : Addr) (p : Int × Int) : Prop := IsSh K H x p.1 p.2
/-- a term: its number and its multiples -/
def IsTm (K : PySem.W.Frag) (H : Hp) (x : Addr) (n t0 t1 t2 : Int × Int) : Prop := ∃ dx a tp a0 a1 a2, H x = some (termO (He.ga K "Term") dx (.ref a) (.ref tp)) ∧ IsS K H a n ∧ H tp = some (.tup [.ref a0, .ref a1, .ref a2]) ∧ IsS K H a0 t0 ∧ IsS K H a1 t1 ∧ IsS K H a2 t2
theorem IsTm.same {H H' : Hp} {x : Addr} {n t0 t1 t2 : Int × Int} (h : IsTm K H x n t0 t1 t2) (s : Same H H') : IsTm K H' x n t0 t1 t2 := by
  obtain ⟨dx, a, tp, a0, a1, a2, h1, h2, h3, h4, h5, h6⟩ := h
  exact ⟨dx, a, tp, a0, a1, a2, s _ _ h1, h2.same s, s _ _ h3, h4.same s, h5.same s, h6.same s⟩
theorem le3' : 3 ≤ sizeLine := by decide
theorem scConst : FnScope ["number"] ["number"] d_Term_constant.scope := ⟨rfl, rfl, rfl, by decide +kernel, rfl, by decide +kernel, by decide +kernel⟩
def spConst (K : PySem.W.Frag) : Sp := fun vs H Q _ => ∃ (v : V) (c d : Int), vs = [v] ∧ Nu K H v c d ∧ ∀ z H', Same H H' → IsTm K H' z (c, d) (0, 1) (0, 1) (0, 1) → Q (.ref z) H'
theorem zero_fd : (0 : Int).fdiv (side 0 1) = 0 ∧ (1 : Int).fdiv (side 0 1) = 1 := one_fd 0
theorem MkS.zero {H : Hp} {Q : V → Hp → Prop} {E : XK} (h : ∀ z H', Same H H' → IsSh K H' z 0 1 → Q (.ref z) H') : MkS K H [.int 0, .int 1] Q E := MkS.of rfl (by decide) (by decide +kernel) fun z H' _ i s' => h z H' s' (by
  rw [zero_fd.1, zero_fd.2] at i
  exact i)
theorem ok_const (W : Wd K mg) : ∃ fd, FnOk P w K mg base CX0 5 (He5.wf K (He.ga K "Term") "staticmethod" "constant") fd ["number"] (spConst K) ∧ Binds K fd ["number"] [] := by
  obtain ⟨fdH, GH, FH⟩ := ok_init (P := P) (w := w) (base := base) W
  obtain ⟨ds1, v1, b1⟩ := bind2 FH
  obtain ⟨fdO, GO, bO⟩ := ok_shareOf (P := P) (w := w) (base := base) W
  obtain ⟨fdT, GT, bT⟩ := ok_tinit (P := P) (w := w) (base := base) W
  have kO : PySem.W.keepIn K (.ref (He.ga K "share_of")) = true := by obtain ⟨fd, F⟩ := W.F_share_of; exact F.kp
  obtain ⟨fd, F⟩ := W.F_Term_constant
  refine ⟨fd, F.ok scConst (fun vs H Q E h => ?_) (fun cdv A outer s H vs Q E hr h => ?_), FunD.bindsN F fun _ _ _ _ _ _ us hl => match us, hl with | [_], _ => rfl⟩
  · obtain ⟨v, c, d, rfl, _⟩ := h
    rfl
  · obtain ⟨v, c, d, rfl, h, q⟩ := h
    have r3 : Room 3 _ := hr.mono (by decide)
    have r2 : Room 2 _ := hr.mono (by decide)
    refine ⟨_, PSs.nox (pss_one (ps_ret (pe_make W.mkr_Term GT r2 rfl W.g_Term bT .nil pass0 (pa_cons (pe_call GO hr rfl W.g_share_of kO bO .nil pass0 (pa_cons (pv 0) pa_nil))
      (pa_cons (pe_tup (pa_cons (pe_make W.mkr_Share GH r3 rfl W.g_Share b1 v1 pass0 (pa_cons pe_int pa_nil)) (pa_cons (pe_make W.mkr_Share GH r3 rfl W.g_Share b1 v1 pass0 (pa_cons pe_int pa_nil)) (pa_cons (pe_make W.mkr_Share GH r3 rfl W.g_Share b1 v1 pass0 (pa_cons pe_int pa_nil)) pa_nil)))) pa_nil))))), ?_⟩
    simp -dsimp [tSeq, tAsg, tRet, tIfS, tIf, tTest, tVar, tCons, tNil, tC, tOp, tUn, rI, rI0, rU, tCB, tLst_A, tTup_A, gName, L2.start, CMul, CPow, CDiv, tDrop, tBM, tBM0, tNext, tPar, gSub, rSetL, rIxL, rIxT, tChain, tB, tNot, tNotV, tAnd, tOr, tAndV, tOrV, tFld, tCall, rIxLH, rIxTH, atI, ixN, upd_same, cxK, ex2, ex3, ex3b, rIs1, rIs2, rNe2, tyN, kb1, kb2, kb3, kb4, kb5, kb6, rEq, rNe, scal, tMake_S, tMakeK_S, tMakeN_S, tMake_T]
    refine ⟨v, c, d, rfl, h, fun a H1 s1 i1 => ?_⟩
    refine MkS.zero fun a0 H2 s2 i2 => MkS.zero fun a1 H3 s3 i3 => MkS.zero fun a2 H4 s4 i4 => ⟨le3', Alloc.of fun tp H5 n5 e5 s5 => MkT.of rfl fun x dx H6 n6 e6 s6 => ?_⟩
    have s56 := s5.trans s6
    exact q x H6 ((((s1.trans s2).trans s3).trans s4).trans s56) ⟨dx, a, tp, a0, a1, a2, e6, i1.same (((s2.trans s3).trans s4).trans s56), s6 _ _ e5, i2.same ((s3.trans s4).trans s56), i3.same (s4.trans s56), i4.same s56⟩
theorem Wd.isTm (W : Wd K mg) {H : Hp} {x : Addr} {n t0 t1 t2 : Int × Int} (h : IsTm K H x n t0 t1 t2) : TyOf K H (.ref x) (.ref (He.ga K "Term")) := by
  obtain ⟨dx, a, tp, a0, a1, a2, h1, _⟩ := h
  exact .ins h1 W.cls_Term (He.eqO_ok (W.ex 5 rfl)) (He.eqO_ok (W.ex 1 rfl)) (of_decide_eq_true (W.ex 2 rfl)) (of_decide_eq_true (W.ex 6 rfl))
theorem scTEq : FnScope ["self", "other"] ["self", "other"] d_Term_eq.scope := ⟨rfl, rfl, rfl, by decide +kernel, rfl, by decide +kernel, by decide +kernel⟩
/-- term == x, x a thing that is no term -/
def spTEqNo (K : PySem.W.Frag) : Sp := fun vs H Q _ => ∃ (x : Addr) (v : V) (t : Value), vs = [.ref x, v] ∧ TyOf K H v t ∧ PySem.W.kitOne K t (.ref (He.ga K "Term")) = some false ∧ Q (.bl false) H
theorem ok_teqNo (W : Wd K mg) : ∃ fd, FnOk P w K mg base CX0 1 (He.ma K (He.ga K "Term") "__eq__") fd ["self", "other"] (spTEqNo K) ∧ Binds K fd ["self", "other"] [] := by
  obtain ⟨fd, F⟩ := W.F_Term_eq
  refine ⟨fd, F.ok scTEq (fun vs H Q E h => ?_) (fun cdv A outer s H vs Q E hr h => ?_), FunD.bindsN F fun _ _ _ _ _ _ us hl => match us, hl with | [_, _], _ => rfl⟩
  · obtain ⟨x, v, t, rfl, _⟩ := h
    rfl
  · obtain ⟨x, v, t, rfl, ty, k, q⟩ := h
    refine ⟨_, PSs.nox (pss_one (ps_ret (pe_and (pe_callB isi_G (by rfl) W.f_isinstance boot_isinstance (pa_cons (pv 1) (pa_cons (pe_glob (v := .ref (He.ga K "Term")) rfl W.g_Term rfl) pa_nil))) pe_no))), ?_⟩
    simp -dsimp [tSeq, tAsg, tRet, tIfS, tIf, tTest, tVar, tCons, tNil, tC, tOp, tUn, rI, rI0, rU, tCB, tLst_A, tTup_A, gName, L2.start, CMul, CPow, CDiv, tDrop, tBM, tBM0, tNext, tPar, gSub, rSetL, rIxL, rIxT, tChain, tB, tNot, tNotV, tAnd, tOr, tAndV, tOrV, tFld, tCall, rIxLH, rIxTH, atI, ixN, upd_same, cxK, ex2, ex3, ex3b, rIs1, rIs2, rNe2, tyN, kb1, kb2, kb3, kb4, kb5, kb6, rEq, rNe, scal, tMake_S, tMakeK_S, tMakeN_S, tNo]
    exact ⟨_, _, t, _, false, rfl, .own _, ty, k, rfl, q⟩
end
theorem low_one (c : Int) : Low c 1 := ⟨by decide, Int.gcd_one⟩
/-! ### shares' operators -/
section
variable {P : Program} {w : World} {K : PySem.W.Frag} {mg : Str → Option Value} {base : Heap}
/-- what an own def for an operator promises: f over g of the two numbers' parts -/
def spBin (K : PySem.W.Frag) (f g : Int → Int → Int → Int → Int) : Sp := fun vs H Q _ => ∃ (x : Addr) (v : V) (a b c d : Int), vs = [.ref x, v] ∧ IsSh K H x a b ∧ Nu K H v c d ∧ Sm a b c d ∧ g a b c d ≠ 0 ∧ Res K H (f a b c d) (g a b c d) Q
theorem spBin_len {K : PySem.W.Frag} {f g : Int → Int → Int → Int → Int} {vs : List V} {H : Hp} {Q : VK} {E : XK} (h : spBin K f g vs H Q E) : vs.length = 2 := by
  obtain ⟨x, v, a, b, c, d, rfl, _⟩ := h
  rfl
def fAdd (a b c d : Int) : Int := a * d + c * b
def fSub (a b c d : Int) : Int := a * d - c * b
def fMul (a _b c _d : Int) : Int := a * c
def gMul (_a b _c d : Int) : Int := b * d
theorem gMul9 {a b c d : Int} (h : Sm a b c d) : (b * d).natAbs < big9 := by
  have := mul_h h.2.1 h.2.2.2
  omega
theorem scAdd : FnScope ["self", "other", "top", "bottom"] ["self", "other"] d_Share_add.scope := ⟨rfl, rfl, rfl, by decide +kernel, rfl, by decide +kernel, by decide +kernel⟩
theorem ok_add (W : Wd K mg) : ∃ fd, FnOk P w K mg base CX0 4 (He.ma K (He.ga K "Share") "__add__") fd ["self", "other"] (spBin K fAdd gMul) ∧ Binds K fd ["self", "other"] [] := by
  obtain ⟨fdH, GH, FH⟩ := ok_init (P := P) (w := w) (base := base) W
  obtain ⟨fdN, GN, bN⟩ := ok_isNum (P := P) (w := w) (base := base) W
  obtain ⟨fdF, GF, bF⟩ := ok_frac (P := P) (w := w) (base := base) W
  have kN : PySem.W.keepIn K (.ref (He.ga K "is_number")) = true := by obtain ⟨fd, F⟩ := W.F_is_number; exact F.kp
  have kF : PySem.W.keepIn K (.ref (He.ga K "fraction")) = true := by obtain ⟨fd, F⟩ := W.F_fraction; exact F.kp
  obtain ⟨fd, F⟩ := W.F_Share_add
  refine ⟨fd, F.ok scAdd (fun vs H Q E h => spBin_len h) (fun cdv A outer s H vs Q E hr h => ?_), FunD.bindsN F fun _ _ _ _ _ _ us hl => match us, hl with | [_, _], _ => rfl⟩
  obtain ⟨x, v, a, b, c, d, rfl, hx, hv, hs, hz, q⟩ := h
  have hs' := hs
  obtain ⟨ha, hb, hc, hd⟩ := hs'
  have r1 : Room 1 _ := hr.mono (by decide)
  have r2 : Room 2 _ := hr.mono (by decide)
  refine ⟨_, PSs.nox (pss_cons (ps_if (pt_not (pt_val (pe_call GN r2 rfl W.g_is_number kN bN .nil pass0 (pa_cons (pv 1) pa_nil)))) pss_never pss_nil)
    (pss_cons (ps_asg (pe_call GF r1 rfl W.g_fraction kF bF .nil pass0 (pa_cons (pv 1) pa_nil)) (pg_tup rfl (pgs_cons (pg_name (i := 2) scAdd.nd rfl (Or.inl rfl)) (pgs_cons (pg_name (i := 3) scAdd.nd rfl (Or.inl rfl)) pgs_nil))))
    (pss_one (ps_ret (pe_make W.mkr_Share GH hr rfl W.g_Share (bind3 FH) .nil pass0 (pa_cons (pe_op op_add (pe_op op_mulX9 (pe_fld (pv 0) rfl) (pv 3)) (pe_op op_mulX9 (pv 2) (pe_fld (pv 0) rfl))) (pa_cons (pe_op op_mulX9 (pe_fld (pv 0) rfl) (pv 3)) pa_nil))))))), ?_⟩
  obtain ⟨tt, bb, ty, kn, kk, _, _⟩ := W.nuTy hv
  simp -dsimp [tSeq, tAsg, tRet, tIfS, tIf, tTest, tVar, tCons, tNil, tC, tOp, tUn, rI, rI0, rU, tCB, tLst_A, tTup_A, gName, L2.start, CMul, CPow, CDiv, tDrop, tBM, tBM0, tNext, tPar, gSub, rSetL, rIxL, rIxT, tChain, tB, tNot, tNotV, tAnd, tOr, tAndV, tOrV, tFld, tCall, rIxLH, rIxTH, atI, ixN, upd_same, cxK, ex2, ex3, ex3b, rIs1, rIs2, rNe2, tyN, kb1, kb2, kb3, kb4, kb5, kb6, rEq, rNe, scal, tMake_S, tMakeK_S, tMakeN_S]
  refine ⟨_, tt, true, rfl, ty, kn, .inr ⟨rfl, v, c, d, rfl, hv, fun p H1 np hp s1 => tup2 hp ?_⟩⟩
  obtain ⟨dx, hx1⟩ := hx.same s1
  simp -dsimp [tSeq, tAsg, tRet, tIfS, tIf, tTest, tVar, tCons, tNil, tC, tOp, tUn, rI, rI0, rU, tCB, tLst_A, tTup_A, gName, L2.start, CMul, CPow, CDiv, tDrop, tBM, tBM0, tNext, tPar, gSub, rSetL, rIxL, rIxT, tChain, tB, tNot, tNotV, tAnd, tOr, tAndV, tOrV, tFld, tCall, rIxLH, rIxTH, atI, ixN, upd_same, cxK, ex2, ex3, ex3b, rIs1, rIs2, rNe2, tyN, kb1, kb2, kb3, kb4, kb5, kb6, rEq, rNe, scal, tMake_S, tMakeK_S, tMakeN_S, hx1, shareO, W.cls_Share, W.n_Share_top, W.n_Share_bottom, look_top, look_bot, h_lt_M ha, h_lt_M hb, h_lt_M hc, h_lt_M hd]
  exact MkS.res s1 rfl hz (gMul9 hs) q
end
section
variable {P : Program} {w : World} {K : PySem.W.Frag} {mg : Str → Option Value} {base : Heap}
abbrev aS (K : PySem.W.Frag) (m : Str) : Addr := He.ma K (He.ga K "Share") m
abbrev aT (K : PySem.W.Frag) (m : Str) : Addr := He.ma K (He.ga K "Term") m
theorem Wd.opAdd (W : Wd K mg) : OpAt K (He.ga K "Share") "add" (aS K "__add__") (aS K "__radd__") :=
  ⟨W.e_firstShare, W.m_Share_add.at_, W.m_Share_add.fn, W.m_Share_radd.at_, W.m_Share_radd.fn, of_decide_eq_true W.e_notIntShare, of_decide_eq_true W.e_intNotShare, W.e_mro2Share, W.e_opShareadd, PySem.F.fills_int_add, OpX.dec_add⟩
theorem Wd.opSub (W : Wd K mg) : OpAt K (He.ga K "Share") "sub" (aS K "__sub__") (aS K "__rsub__") :=
  ⟨W.e_firstShare, W.m_Share_sub.at_, W.m_Share_sub.fn, W.m_Share_rsub.at_, W.m_Share_rsub.fn, of_decide_eq_true W.e_notIntShare, of_decide_eq_true W.e_intNotShare, W.e_mro2Share, W.e_opSharesub, PySem.F.fills_int_sub, OpX.dec_sub⟩
theorem Wd.opMul (W : Wd K mg) : OpAt K (He.ga K "Share") "mul" (aS K "__mul__") (aS K "__rmul__") :=
  ⟨W.e_firstShare, W.m_Share_mul.at_, W.m_Share_mul.fn, W.m_Share_rmul.at_, W.m_Share_rmul.fn, of_decide_eq_true W.e_notIntShare, of_decide_eq_true W.e_intNotShare, W.e_mro2Share, W.e_opSharemul, PySem.F.fills_int_mul, OpX.dec_mul⟩
theorem Wd.tpAdd (W : Wd K mg) : OpAt K (He.ga K "Term") "add" (aT K "__add__") (aT K "__radd__") :=
  ⟨W.e_firstTerm, W.m_Term_add.at_, W.m_Term_add.fn, W.m_Term_radd.at_, W.m_Term_radd.fn, of_decide_eq_true W.e_notIntTerm, of_decide_eq_true W.e_intNotTerm, W.e_mro2Term, W.e_opTermadd, PySem.F.fills_int_add, OpX.dec_add⟩
theorem Wd.tpSub (W : Wd K mg) : OpAt K (He.ga K "Term") "sub" (aT K "__sub__") (aT K "__rsub__") :=
  ⟨W.e_firstTerm, W.m_Term_sub.at_, W.m_Term_sub.fn, W.m_Term_rsub.at_, W.m_Term_rsub.fn, of_decide_eq_true W.e_notIntTerm, of_decide_eq_true W.e_intNotTerm, W.e_mro2Term, W.e_opTermsub, PySem.F.fills_int_sub, OpX.dec_sub⟩
theorem Wd.tpMul (W : Wd K mg) : OpAt K (He.ga K "Term") "mul" (aT K "__mul__") (aT K "__rmul__") :=
  ⟨W.e_firstTerm, W.m_Term_mul.at_, W.m_Term_mul.fn, W.m_Term_rmul.at_, W.m_Term_rmul.fn, of_decide_eq_true W.e_notIntTerm, of_decide_eq_true W.e_intNotTerm, W.e_mro2Term, W.e_opTermmul, PySem.F.fills_int_mul, OpX.dec_mul⟩
theorem Wd.neST (W : Wd K mg) : He.ga K "Share" ≠ He.ga K "Term" := fun e => by
  have h1 := of_decide_eq_true (W.ex 18 rfl)
  have h2 := of_decide_eq_true (W.ex 30 rfl)
  rw [e] at h1
  rw [h1] at h2
  cases h2
theorem Nu.ins {H : Hp} {v : V} {c d : Int} (h : Nu K H v c d) : (∃ (b dy : Addr) (gs : List (Str × V)), v = .ref b ∧ H b = some (.ins (He.ga K "Share") dy gs)) ∨ ∃ i : Int, v = .int i := by
  rcases h with ⟨y, e, dx, h⟩ | ⟨e, _⟩
  · exact .inl ⟨y, dx, _, e, h⟩
  · exact .inr ⟨c, e⟩
theorem scTwo {sc : Scope} {vs ps : List Str} (h : FnScope vs ps sc) : FnScope vs ps sc := h
theorem scRadd : FnScope ["self", "other"] ["self", "other"] d_Share_radd.scope := ⟨rfl, rfl, rfl, by decide +kernel, rfl, by decide +kernel, by decide +kernel⟩
theorem ok_radd (W : Wd K mg) : ∃ fd, FnOk P w K mg base CX0 5 (aS K "__radd__") fd ["self", "other"] (spBin K fAdd gMul) ∧ Binds K fd ["self", "other"] [] := by
  obtain ⟨fdA, GA, bA⟩ := ok_add (P := P) (w := w) (base := base) W
  obtain ⟨fdN, GN, bN⟩ := ok_isNum (P := P) (w := w) (base := base) W
  have kN : PySem.W.keepIn K (.ref (He.ga K "is_number")) = true := by obtain ⟨fd, F⟩ := W.F_is_number; exact F.kp
  obtain ⟨fd, F⟩ := W.F_Share_radd
  refine ⟨fd, F.ok scRadd (fun vs H Q E h => spBin_len h) (fun cdv A outer s H vs Q E hr h => ?_), FunD.bindsN F fun _ _ _ _ _ _ us hl => match us, hl with | [_, _], _ => rfl⟩
  obtain ⟨x, v, a, b, c, d, rfl, hx, hv, hs, hz, q⟩ := h
  have r2 : Room 2 _ := hr.mono (by decide)
  refine ⟨_, PSs.nox (pss_cons (ps_if (pt_not (pt_val (pe_call GN r2 rfl W.g_is_number kN bN .nil pass0 (pa_cons (pv 1) pa_nil)))) pss_never pss_nil)
    (pss_one (ps_ret (pe_op (op_L W.opAdd (FnOk.raw GA bA .nil) hr pass0) (pv 0) (pv 1))))), ?_⟩
  obtain ⟨tt, bb, ty, kn, kk, _, _⟩ := W.nuTy hv
  simp -dsimp [tSeq, tAsg, tRet, tIfS, tIf, tTest, tVar, tCons, tNil, tC, tOp, tUn, rI, rI0, rU, tCB, tLst_A, tTup_A, gName, L2.start, CMul, CPow, CDiv, tDrop, tBM, tBM0, tNext, tPar, gSub, rSetL, rIxL, rIxT, tChain, tB, tNot, tNotV, tAnd, tOr, tAndV, tOrV, tFld, tCall, rIxLH, rIxTH, atI, ixN, upd_same, cxK, ex2, ex3, ex3b, rIs1, rIs2, rNe2, tyN, kb1, kb2, kb3, kb4, kb5, kb6, rEq, rNe, scal, tMake_S, tMakeK_S, tMakeN_S]
  obtain ⟨dx, hd⟩ := id hx
  exact ⟨_, tt, true, rfl, ty, kn, .inr ⟨rfl, x, dx, _, rfl, hd, hv.ins, x, v, a, b, c, d, rfl, hx, hv, hs, hz, q⟩⟩
theorem scSub : FnScope ["self", "other"] ["self", "other"] d_Share_sub.scope := ⟨rfl, rfl, rfl, by decide +kernel, rfl, by decide +kernel, by decide +kernel⟩
theorem ok_sub (W : Wd K mg) : ∃ fd, FnOk P w K mg base CX0 4 (aS K "__sub__") fd ["self", "other"] (spBin K fSub gMul) ∧ Binds K fd ["self", "other"] [] := by
  obtain ⟨fdH, GH, FH⟩ := ok_init (P := P) (w := w) (base := base) W
  obtain ⟨fdN, GN, bN⟩ := ok_isNum (P := P) (w := w) (base := base) W
  obtain ⟨fdF, GF, bF⟩ := ok_frac (P := P) (w := w) (base := base) W
  obtain ⟨fdX, GX, bX⟩ := ok_excess (P := P) (w := w) (base := base) W
  have kN : PySem.W.keepIn K (.ref (He.ga K "is_number")) = true := by obtain ⟨fd, F⟩ := W.F_is_number; exact F.kp
  have kF : PySem.W.keepIn K (.ref (He.ga K "fraction")) = true := by obtain ⟨fd, F⟩ := W.F_fraction; exact F.kp
  have kX : PySem.W.keepIn K (.ref (He.ga K "excess")) = true := by obtain ⟨fd, F⟩ := W.F_excess; exact F.kp
  obtain ⟨fd, F⟩ := W.F_Share_sub
  refine ⟨fd, F.ok scSub (fun vs H Q E h => spBin_len h) (fun cdv A outer s H vs Q E hr h => ?_), FunD.bindsN F fun _ _ _ _ _ _ us hl => match us, hl with | [_, _], _ => rfl⟩
  obtain ⟨x, v, a, b, c, d, rfl, hx, hv, hs, hz, q⟩ := h
  have hs' := hs
  obtain ⟨ha, hb, hc, hd⟩ := hs'
  have r1 : Room 1 _ := hr.mono (by decide)
  have r2 : Room 2 _ := hr.mono (by decide)
  refine ⟨_, PSs.nox (pss_cons (ps_if (pt_not (pt_val (pe_call GN r2 rfl W.g_is_number kN bN .nil pass0 (pa_cons (pv 1) pa_nil)))) pss_never pss_nil)
    (pss_one (ps_ret (pe_make W.mkr_Share GH hr rfl W.g_Share (bind3 FH) .nil pass0 (pa_cons (pe_call GX r2 rfl W.g_excess kX bX .nil pass0 (pa_cons (pv 0) (pa_cons (pv 1) pa_nil)))
      (pa_cons (pe_op op_mulX9 (pe_fld (pv 0) rfl) (pe_ix ix_tupH (pe_call GF r1 rfl W.g_fraction kF bF .nil pass0 (pa_cons (pv 1) pa_nil)) pe_int (fun _ _ => rfl))) pa_nil)))))), ?_⟩
  obtain ⟨tt, bb, ty, kn, kk, _, _⟩ := W.nuTy hv
  simp -dsimp [tSeq, tAsg, tRet, tIfS, tIf, tTest, tVar, tCons, tNil, tC, tOp, tUn, rI, rI0, rU, tCB, tLst_A, tTup_A, gName, L2.start, CMul, CPow, CDiv, tDrop, tBM, tBM0, tNext, tPar, gSub, rSetL, rIxL, rIxT, tChain, tB, tNot, tNotV, tAnd, tOr, tAndV, tOrV, tFld, tCall, rIxLH, rIxTH, atI, ixN, upd_same, cxK, ex2, ex3, ex3b, rIs1, rIs2, rNe2, tyN, kb1, kb2, kb3, kb4, kb5, kb6, rEq, rNe, scal, tMake_S, tMakeK_S, tMakeN_S]
  refine ⟨_, tt, true, rfl, ty, kn, .inr ⟨rfl, x, v, a, b, c, d, rfl, hx, hv, hs, fun H1 s1 => ?_⟩⟩
  obtain ⟨dx, hx1⟩ := hx.same s1
  simp -dsimp [tSeq, tAsg, tRet, tIfS, tIf, tTest, tVar, tCons, tNil, tC, tOp, tUn, rI, rI0, rU, tCB, tLst_A, tTup_A, gName, L2.start, CMul, CPow, CDiv, tDrop, tBM, tBM0, tNext, tPar, gSub, rSetL, rIxL, rIxT, tChain, tB, tNot, tNotV, tAnd, tOr, tAndV, tOrV, tFld, tCall, rIxLH, rIxTH, atI, ixN, upd_same, cxK, ex2, ex3, ex3b, rIs1, rIs2, rNe2, tyN, kb1, kb2, kb3, kb4, kb5, kb6, rEq, rNe, scal, tMake_S, tMakeK_S, tMakeN_S, hx1, shareO, W.cls_Share, W.n_Share_top, W.n_Share_bottom, look_top, look_bot]
  refine ⟨v, c, d, rfl, hv.same s1, fun p H2 np hp s2 => ?_⟩
  simp -dsimp [tSeq, tAsg, tRet, tIfS, tIf, tTest, tVar, tCons, tNil, tC, tOp, tUn, rI, rI0, rU, tCB, tLst_A, tTup_A, gName, L2.start, CMul, CPow, CDiv, tDrop, tBM, tBM0, tNext, tPar, gSub, rSetL, rIxL, rIxT, tChain, tB, tNot, tNotV, tAnd, tOr, tAndV, tOrV, tFld, tCall, rIxLH, rIxTH, atI, ixN, upd_same, cxK, ex2, ex3, ex3b, rIs1, rIs2, rNe2, tyN, kb1, kb2, kb3, kb4, kb5, kb6, rEq, rNe, scal, tMake_S, tMakeK_S, tMakeN_S, hp, h_lt_M hb, h_lt_M hd]
  exact MkS.res (s1.trans s2) rfl hz (gMul9 hs) q
def fRsub (a b c d : Int) : Int := c * b - a * d
def gRev (_a b _c d : Int) : Int := d * b
theorem scRsub : FnScope ["self", "other"] ["self", "other"] d_Share_rsub.scope := ⟨rfl, rfl, rfl, by decide +kernel, rfl, by decide +kernel, by decide +kernel⟩
theorem Res.same {H H' : Hp} {p q : Int} {Q : V → Hp → Prop} (s : Same H H') (h : Res K H p q Q) : Res K H' p q Q := fun z H2 s2 i => h z H2 (s.trans s2) i
theorem ok_rsub (W : Wd K mg) : ∃ fd, FnOk P w K mg base CX0 5 (aS K "__rsub__") fd ["self", "other"] (spBin K fRsub gRev) ∧ Binds K fd ["self", "other"] [] := by
  obtain ⟨fdA, GA, bA⟩ := ok_sub (P := P) (w := w) (base := base) W
  obtain ⟨fdN, GN, bN⟩ := ok_isNum (P := P) (w := w) (base := base) W
  obtain ⟨fdS, GS, bS⟩ := ok_shareOf (P := P) (w := w) (base := base) W
  have kN : PySem.W.keepIn K (.ref (He.ga K "is_number")) = true := by obtain ⟨fd, F⟩ := W.F_is_number; exact F.kp
  have kS : PySem.W.keepIn K (.ref (He.ga K "share_of")) = true := by obtain ⟨fd, F⟩ := W.F_share_of; exact F.kp
  obtain ⟨fd, F⟩ := W.F_Share_rsub
  refine ⟨fd, F.ok scRsub (fun vs H Q E h => spBin_len h) (fun cdv A outer s H vs Q E hr h => ?_), FunD.bindsN F fun _ _ _ _ _ _ us hl => match us, hl with | [_, _], _ => rfl⟩
  obtain ⟨x, v, a, b, c, d, rfl, hx, hv, hs, hz, q⟩ := h
  obtain ⟨ha, hb, hc, hd⟩ := hs
  have r2 : Room 2 _ := hr.mono (by decide)
  refine ⟨_, PSs.nox (pss_cons (ps_if (pt_not (pt_val (pe_call GN r2 rfl W.g_is_number kN bN .nil pass0 (pa_cons (pv 1) pa_nil)))) pss_never pss_nil)
    (pss_one (ps_ret (pe_op (op_L W.opSub (FnOk.raw GA bA .nil) hr pass0) (pe_call GS hr rfl W.g_share_of kS bS .nil pass0 (pa_cons (pv 1) pa_nil)) (pv 0))))), ?_⟩
  obtain ⟨tt, bb, ty, kn, kk, _, _⟩ := W.nuTy hv
  simp -dsimp [tSeq, tAsg, tRet, tIfS, tIf, tTest, tVar, tCons, tNil, tC, tOp, tUn, rI, rI0, rU, tCB, tLst_A, tTup_A, gName, L2.start, CMul, CPow, CDiv, tDrop, tBM, tBM0, tNext, tPar, gSub, rSetL, rIxL, rIxT, tChain, tB, tNot, tNotV, tAnd, tOr, tAndV, tOrV, tFld, tCall, rIxLH, rIxTH, atI, ixN, upd_same, cxK, ex2, ex3, ex3b, rIs1, rIs2, rNe2, tyN, kb1, kb2, kb3, kb4, kb5, kb6, rEq, rNe, scal, tMake_S, tMakeK_S, tMakeN_S]
  refine ⟨_, tt, true, rfl, ty, kn, .inr ⟨rfl, v, c, d, rfl, hv, fun z H1 s1 hz1 => ?_⟩⟩
  have hx1 := hx.same s1
  obtain ⟨dz, hzd⟩ := id hz1
  simp -dsimp [tSeq, tAsg, tRet, tIfS, tIf, tTest, tVar, tCons, tNil, tC, tOp, tUn, rI, rI0, rU, tCB, tLst_A, tTup_A, gName, L2.start, CMul, CPow, CDiv, tDrop, tBM, tBM0, tNext, tPar, gSub, rSetL, rIxL, rIxT, tChain, tB, tNot, tNotV, tAnd, tOr, tAndV, tOrV, tFld, tCall, rIxLH, rIxTH, atI, ixN, upd_same, cxK, ex2, ex3, ex3b, rIs1, rIs2, rNe2, tyN, kb1, kb2, kb3, kb4, kb5, kb6, rEq, rNe, scal, tMake_S, tMakeK_S, tMakeN_S]
  exact ⟨z, dz, _, rfl, hzd, (Nu.ins (.inl ⟨x, rfl, hx1⟩)), z, .ref x, c, d, a, b, rfl, hz1, .inl ⟨x, rfl, hx1⟩, ⟨hc, hd, ha, hb⟩, hz, q.same s1⟩
theorem scMul : FnScope ["self", "other", "top", "bottom"] ["self", "other"] d_Share_mul.scope := ⟨rfl, rfl, rfl, by decide +kernel, rfl, by decide +kernel, by decide +kernel⟩
theorem ok_mul (W : Wd K mg) : ∃ fd, FnOk P w K mg base CX0 4 (aS K "__mul__") fd ["self", "other"] (spBin K fMul gMul) ∧ Binds K fd ["self", "other"] [] := by
  obtain ⟨fdH, GH, FH⟩ := ok_init (P := P) (w := w) (base := base) W
  obtain ⟨fdN, GN, bN⟩ := ok_isNum (P := P) (w := w) (base := base) W
  obtain ⟨fdF, GF, bF⟩ := ok_frac (P := P) (w := w) (base := base) W
  have kN : PySem.W.keepIn K (.ref (He.ga K "is_number")) = true := by obtain ⟨fd, F⟩ := W.F_is_number; exact F.kp
  have kF : PySem.W.keepIn K (.ref (He.ga K "fraction")) = true := by obtain ⟨fd, F⟩ := W.F_fraction; exact F.kp
  obtain ⟨fd, F⟩ := W.F_Share_mul
  refine ⟨fd, F.ok scMul (fun vs H Q E h => spBin_len h) (fun cdv A outer s H vs Q E hr h => ?_), FunD.bindsN F fun _ _ _ _ _ _ us hl => match us, hl with | [_, _], _ => rfl⟩
  obtain ⟨x, v, a, b, c, d, rfl, hx, hv, hs, hz, q⟩ := h
  have hs' := hs
  obtain ⟨ha, hb, hc, hd⟩ := hs'
  have r1 : Room 1 _ := hr.mono (by decide)
  have r2 : Room 2 _ := hr.mono (by decide)
  refine ⟨_, PSs.nox (pss_cons (ps_if (pt_not (pt_val (pe_call GN r2 rfl W.g_is_number kN bN .nil pass0 (pa_cons (pv 1) pa_nil)))) pss_never pss_nil)
    (pss_cons (ps_asg (pe_call GF r1 rfl W.g_fraction kF bF .nil pass0 (pa_cons (pv 1) pa_nil)) (pg_tup rfl (pgs_cons (pg_name (i := 2) scMul.nd rfl (Or.inl rfl)) (pgs_cons (pg_name (i := 3) scMul.nd rfl (Or.inl rfl)) pgs_nil))))
    (pss_one (ps_ret (pe_make W.mkr_Share GH hr rfl W.g_Share (bind3 FH) .nil pass0 (pa_cons (pe_op op_mulX9 (pe_fld (pv 0) rfl) (pv 2)) (pa_cons (pe_op op_mulX9 (pe_fld (pv 0) rfl) (pv 3)) pa_nil))))))), ?_⟩
  obtain ⟨tt, bb, ty, kn, kk, _, _⟩ := W.nuTy hv
  simp -dsimp [tSeq, tAsg, tRet, tIfS, tIf, tTest, tVar, tCons, tNil, tC, tOp, tUn, rI, rI0, rU, tCB, tLst_A, tTup_A, gName, L2.start, CMul, CPow, CDiv, tDrop, tBM, tBM0, tNext, tPar, gSub, rSetL, rIxL, rIxT, tChain, tB, tNot, tNotV, tAnd, tOr, tAndV, tOrV, tFld, tCall, rIxLH, rIxTH, atI, ixN, upd_same, cxK, ex2, ex3, ex3b, rIs1, rIs2, rNe2, tyN, kb1, kb2, kb3, kb4, kb5, kb6, rEq, rNe, scal, tMake_S, tMakeK_S, tMakeN_S]
  refine ⟨_, tt, true, rfl, ty, kn, .inr ⟨rfl, v, c, d, rfl, hv, fun p H1 np hp s1 => tup2 hp ?_⟩⟩
  obtain ⟨dx, hx1⟩ := hx.same s1
  simp -dsimp [tSeq, tAsg, tRet, tIfS, tIf, tTest, tVar, tCons, tNil, tC, tOp, tUn, rI, rI0, rU, tCB, tLst_A, tTup_A, gName, L2.start, CMul, CPow, CDiv, tDrop, tBM, tBM0, tNext, tPar, gSub, rSetL, rIxL, rIxT, tChain, tB, tNot, tNotV, tAnd, tOr, tAndV, tOrV, tFld, tCall, rIxLH, rIxTH, atI, ixN, upd_same, cxK, ex2, ex3, ex3b, rIs1, rIs2, rNe2, tyN, kb1, kb2, kb3, kb4, kb5, kb6, rEq, rNe, scal, tMake_S, tMakeK_S, tMakeN_S, hx1, shareO, W.cls_Share, W.n_Share_top, W.n_Share_bottom, look_top, look_bot, h_lt_M ha, h_lt_M hb, h_lt_M hc, h_lt_M hd]
  exact MkS.res s1 rfl hz (gMul9 hs) q
theorem scRmul : FnScope ["self", "other"] ["self", "other"] d_Share_rmul.scope := ⟨rfl, rfl, rfl, by decide +kernel, rfl, by decide +kernel, by decide +kernel⟩
theorem ok_rmul (W : Wd K mg) : ∃ fd, FnOk P w K mg base CX0 5 (aS K "__rmul__") fd ["self", "other"] (spBin K fMul gMul) ∧ Binds K fd ["self", "other"] [] := by
  obtain ⟨fdA, GA, bA⟩ := ok_mul (P := P) (w := w) (base := base) W
  obtain ⟨fdN, GN, bN⟩ := ok_isNum (P := P) (w := w) (base := base) W
  have kN : PySem.W.keepIn K (.ref (He.ga K "is_number")) = true := by obtain ⟨fd, F⟩ := W.F_is_number; exact F.kp
  obtain ⟨fd, F⟩ := W.F_Share_rmul
  refine ⟨fd, F.ok scRmul (fun vs H Q E h => spBin_len h) (fun cdv A outer s H vs Q E hr h => ?_), FunD.bindsN F fun _ _ _ _ _ _ us hl => match us, hl with | [_, _], _ => rfl⟩
  obtain ⟨x, v, a, b, c, d, rfl, hx, hv, hs, hz, q⟩ := h
  have r2 : Room 2 _ := hr.mono (by decide)
  refine ⟨_, PSs.nox (pss_cons (ps_if (pt_not (pt_val (pe_call GN r2 rfl W.g_is_number kN bN .nil pass0 (pa_cons (pv 1) pa_nil)))) pss_never pss_nil)
    (pss_one (ps_ret (pe_op (op_L W.opMul (FnOk.raw GA bA .nil) hr pass0) (pv 0) (pv 1))))), ?_⟩
  obtain ⟨tt, bb, ty, kn, kk, _, _⟩ := W.nuTy hv
  simp -dsimp [tSeq, tAsg, tRet, tIfS, tIf, tTest, tVar, tCons, tNil, tC, tOp, tUn, rI, rI0, rU, tCB, tLst_A, tTup_A, gName, L2.start, CMul, CPow, CDiv, tDrop, tBM, tBM0, tNext, tPar, gSub, rSetL, rIxL, rIxT, tChain, tB, tNot, tNotV, tAnd, tOr, tAndV, tOrV, tFld, tCall, rIxLH, rIxTH, atI, ixN, upd_same, cxK, ex2, ex3, ex3b, rIs1, rIs2, rNe2, tyN, kb1, kb2, kb3, kb4, kb5, kb6, rEq, rNe, scal, tMake_S, tMakeK_S, tMakeN_S]
  obtain ⟨dx, hd⟩ := id hx
  exact ⟨_, tt, true, rfl, ty, kn, .inr ⟨rfl, x, dx, _, rfl, hd, hv.ins, x, v, a, b, c, d, rfl, hx, hv, hs, hz, q⟩⟩
end
section
variable {P : Program} {w : World} {K : PySem.W.Frag} {mg : Str → Option Value} {base : Heap}
theorem scNeg : FnScope ["self"] ["self"] d_Share_neg.scope := ⟨rfl, rfl, rfl, by decide +kernel, rfl, by decide +kernel, by decide +kernel⟩
/-- what -x and abs(x) promise -/
def spUn (K : PySem.W.Frag) (f : Int → Int) : Sp := fun vs H Q _ => ∃ (x : Addr) (a b : Int), vs = [.ref x] ∧ IsSh K H x a b ∧ b ≠ 0 ∧ b.natAbs < big9 ∧ Res K H (f a) b Q
def fNeg (a : Int) : Int := -a
def fAbs (a : Int) : Int := if a < 0 then -a else a
theorem ok_neg (W : Wd K mg) : ∃ fd, FnOk P w K mg base CX0 4 (aS K "__neg__") fd ["self"] (spUn K fNeg) ∧ Binds K fd ["self"] [] := by
  obtain ⟨fdH, GH, FH⟩ := ok_init (P := P) (w := w) (base := base) W
  obtain ⟨fd, F⟩ := W.F_Share_neg
  refine ⟨fd, F.ok scNeg (fun vs H Q E h => ?_) (fun cdv A outer s H vs Q E hr h => ?_), FunD.bindsN F fun _ _ _ _ _ _ us hl => match us, hl with | [_], _ => rfl⟩
  · obtain ⟨x, a, b, rfl, _⟩ := h
    rfl
  · obtain ⟨x, a, b, rfl, hx, hb, hbb, q⟩ := h
    refine ⟨_, PSs.nox (pss_one (ps_ret (pe_make W.mkr_Share GH hr rfl W.g_Share (bind3 FH) .nil pass0 (pa_cons (pe_un un_neg (pe_fld (pv 0) rfl)) (pa_cons (pe_fld (pv 0) rfl) pa_nil))))), ?_⟩
    obtain ⟨dx, hd⟩ := id hx
    simp -dsimp [tSeq, tAsg, tRet, tIfS, tIf, tTest, tVar, tCons, tNil, tC, tOp, tUn, rI, rI0, rU, tCB, tLst_A, tTup_A, gName, L2.start, CMul, CPow, CDiv, tDrop, tBM, tBM0, tNext, tPar, gSub, rSetL, rIxL, rIxT, tChain, tB, tNot, tNotV, tAnd, tOr, tAndV, tOrV, tFld, tCall, rIxLH, rIxTH, atI, ixN, upd_same, cxK, ex2, ex3, ex3b, rIs1, rIs2, rNe2, tyN, kb1, kb2, kb3, kb4, kb5, kb6, rEq, rNe, scal, tMake_S, tMakeK_S, tMakeN_S, hd, shareO, W.cls_Share, W.n_Share_top, W.n_Share_bottom, look_top, look_bot]
    exact MkS.res (Same.refl _) rfl hb hbb q
end
section
variable {P : Program} {w : World} {K : PySem.W.Frag} {mg : Str → Option Value} {base : Heap}
def gDiv (_a b c _d : Int) : Int := b * c
def fDiv (a _b _c d : Int) : Int := a * d
theorem gDiv9 {a b c d : Int} (h : Sm a b c d) : (b * c).natAbs < big9 := by
  have := mul_h h.2.1 h.2.2.1
  omega
theorem scOver : FnScope ["self", "number", "top", "bottom"] ["self", "number"] d_Share_over.scope := ⟨rfl, rfl, rfl, by decide +kernel, rfl, by decide +kernel, by decide +kernel⟩
theorem ok_over (W : Wd K mg) : ∃ fd, FnOk P w K mg base CX0 4 (aS K "over") fd ["self", "number"] (spBin K fDiv gDiv) ∧ Binds K fd ["self", "number"] [] := by
  obtain ⟨fdH, GH, FH⟩ := ok_init (P := P) (w := w) (base := base) W
  obtain ⟨fdF, GF, bF⟩ := ok_frac (P := P) (w := w) (base := base) W
  have kF : PySem.W.keepIn K (.ref (He.ga K "fraction")) = true := by obtain ⟨fd, F⟩ := W.F_fraction; exact F.kp
  obtain ⟨fd, F⟩ := W.F_Share_over
  refine ⟨fd, F.ok scOver (fun vs H Q E h => spBin_len h) (fun cdv A outer s H vs Q E hr h => ?_), FunD.bindsN F fun _ _ _ _ _ _ us hl => match us, hl with | [_, _], _ => rfl⟩
  obtain ⟨x, v, a, b, c, d, rfl, hx, hv, hs, hz, q⟩ := h
  have hs' := hs
  obtain ⟨ha, hb, hc, hd⟩ := hs'
  have hc0 : ¬ c = 0 := fun e => hz (by unfold gDiv; rw [e, Int.mul_zero])
  have r1 : Room 1 _ := hr.mono (by decide)
  refine ⟨_, PSs.nox (pss_cons (ps_asg (pe_call GF r1 rfl W.g_fraction kF bF .nil pass0 (pa_cons (pv 1) pa_nil)) (pg_tup rfl (pgs_cons (pg_name (i := 2) scOver.nd rfl (Or.inl rfl)) (pgs_cons (pg_name (i := 3) scOver.nd rfl (Or.inl rfl)) pgs_nil))))
    (pss_cons (ps_if (pt_cmpR op_eq (pv 2) pe_int (nomark _)) pss_never pss_nil)
    (pss_one (ps_ret (pe_make W.mkr_Share GH hr rfl W.g_Share (bind3 FH) .nil pass0 (pa_cons (pe_op op_mulX9 (pe_fld (pv 0) rfl) (pv 3)) (pa_cons (pe_op op_mulX9 (pe_fld (pv 0) rfl) (pv 2)) pa_nil))))))), ?_⟩
  simp -dsimp [tSeq, tAsg, tRet, tIfS, tIf, tTest, tVar, tCons, tNil, tC, tOp, tUn, rI, rI0, rU, tCB, tLst_A, tTup_A, gName, L2.start, CMul, CPow, CDiv, tDrop, tBM, tBM0, tNext, tPar, gSub, rSetL, rIxL, rIxT, tChain, tB, tNot, tNotV, tAnd, tOr, tAndV, tOrV, tFld, tCall, rIxLH, rIxTH, atI, ixN, upd_same, cxK, ex2, ex3, ex3b, rIs1, rIs2, rNe2, tyN, kb1, kb2, kb3, kb4, kb5, kb6, rEq, rNe, scal, tMake_S, tMakeK_S, tMakeN_S]
  refine ⟨v, c, d, rfl, hv, fun p H1 np hp s1 => tup2 hp ?_⟩
  obtain ⟨dx, hx1⟩ := hx.same s1
  simp -dsimp [tSeq, tAsg, tRet, tIfS, tIf, tTest, tVar, tCons, tNil, tC, tOp, tUn, rI, rI0, rU, tCB, tLst_A, tTup_A, gName, L2.start, CMul, CPow, CDiv, tDrop, tBM, tBM0, tNext, tPar, gSub, rSetL, rIxL, rIxT, tChain, tB, tNot, tNotV, tAnd, tOr, tAndV, tOrV, tFld, tCall, rIxLH, rIxTH, atI, ixN, upd_same, cxK, ex2, ex3, ex3b, rIs1, rIs2, rNe2, tyN, kb1, kb2, kb3, kb4, kb5, kb6, rEq, rNe, scal, tMake_S, tMakeK_S, tMakeN_S, hc0, hx1, shareO, W.cls_Share, W.n_Share_top, W.n_Share_bottom, look_top, look_bot, h_lt_M ha, h_lt_M hb, h_lt_M hc, h_lt_M hd]
  exact MkS.res s1 rfl hz (gDiv9 hs) q
end
/-! ### the six comparisons -/
section
variable {P : Program} {w : World} {K : PySem.W.Frag} {mg : Str → Option Value} {base : Heap}
def spNum2 (K : PySem.W.Frag) (f : Int → Bool) : R2 := fun x y H Q => ∃ (a b c d : Int), Nu K H x a b ∧ Nu K H y c d ∧ Sm a b c d ∧ ((∃ z, x = .ref z) ∨ ∃ z, y = .ref z) ∧ ∀ H', Same H H' → Q (.bl (f (a * d - c * b))) H'
theorem sm_swap {a b c d : Int} (h : Sm a b c d) : Sm c d a b := ⟨h.2.2.1, h.2.2.2, h.1, h.2.1⟩
theorem sub_flip (a b c d : Int) : c * b - a * d = -(a * d - c * b) := by omega
section
variable {X : Cx} {fd : FuncData} {ps : List Str}
theorem op_num {op : CmpOp} {f g : Int → Bool} {af ag : Addr} (W : Wd X.K X.mg) (hc : ∀ a b, compareOp op a b = richCompare op a b) (dc : CmX.DcI op) (hfg : ∀ z, g (-z) = f z)
    (hs : PySem.W.findIn X.K (.ref (He.ga X.K "Share")) (cmpInfo op).2.1 = some (some (.ref af))) (hf : PySem.W.isFn X.K (.ref af) = true) (hs2 : PySem.W.findIn X.K (.ref (He.ga X.K "Share")) (cmpInfo op).2.2 = some (some (.ref ag))) (hg : PySem.W.isFn X.K (.ref ag) = true)
    (F : FnR X.prog X.w X.K X.mg X.base CX0 3 af (spCmp X.K f)) (G : FnR X.prog X.w X.K X.mg X.base CX0 3 ag (spCmp X.K g)) (hr : Room 3 X.A) (hu : X.A.units < cLine) : OpR X (compareOp op) (spNum2 X.K f) := by
  intro pins s σ H x y v u Q I rx ry h
  obtain ⟨a, b, c, d, hx, hy, sm, hz, q⟩ := h
  rcases hx with ⟨zx, rfl, ix⟩ | ⟨rfl, rfl⟩
  · obtain ⟨t, bb, ty, kn, k, bs, _⟩ := W.nuTy hy
    obtain ⟨dx, hd⟩ := id ix
    exact CmX.op_cmpL (E := E0) hc hs hf F hr hu pass0 pins s σ H _ y v u Q I rx ry ⟨zx, dx, _, t, rfl, hd, ty, bs, zx, y, a, b, c, d, rfl, ix, hy, sm, q⟩
  · obtain ⟨zy, rfl⟩ : ∃ z, y = .ref z := by
      rcases hz with ⟨z, e⟩ | e
      · cases e
      · exact e
    have iy : IsSh X.K H zy c d := by
      rcases hy with ⟨z, e, i⟩ | ⟨e, _⟩
      · cases e
        exact i
      · cases e
    obtain ⟨dy, hd⟩ := id iy
    refine CmX.op_cmpI (E := E0) hc W.cmp dc hs2 hg G hr hu pass0 pins s σ H _ _ v u Q I rx ry ⟨a, zy, dy, _, rfl, rfl, hd, zy, .int a, c, d, a, 1, rfl, iy, .inr ⟨rfl, rfl⟩, sm_swap sm, fun H' s' => ?_⟩
    have e := hfg (a * d - c * 1)
    rw [← sub_flip] at e
    rw [e]
    exact q H' s'
end
theorem raw0 {CX : CXT} {k : Nat} {f : Addr} {fd : FuncData} {ps : List Str} {sp : Sp} (F : FnOk P w K mg base CX k f fd ps sp) (hb : Binds K fd ps []) : FnR P w K mg base CX k f sp :=
  (FnOk.raw F hb .nil).imp fun vs H Q E h => by
    rw [List.append_nil]
    exact h
theorem Wd.opEq {X : Cx} (W : Wd X.K X.mg) (hr : Room 3 X.A) : OpR X (compareOp .Eq) (spNum2 X.K fun z => decide (z = 0)) := by
  obtain ⟨f1, G1, b1⟩ := ok_eq (P := X.prog) (w := X.w) (base := X.base) W
  have G := (raw0 G1 b1).imp (sp' := spCmp X.K fun z => decide (z = 0)) fun vs H Q E h => .inl h
  exact op_num (f := fun z => decide (z = 0)) (g := fun z => decide (z = 0)) W (fun _ _ => rfl) CmX.dc_eq (fun z => by
    have e : (-z = 0) = (z = 0) := propext ⟨fun h => by omega, fun h => by omega⟩
    simp only [e]) W.m_Share_eq.at_ W.m_Share_eq.fn W.m_Share_eq.at_ W.m_Share_eq.fn G G hr hr.units0
theorem Wd.opNe {X : Cx} (W : Wd X.K X.mg) (hr : Room 4 X.A) : OpR X (compareOp .NotEq) (spNum2 X.K fun z => !decide (z = 0)) := by
  obtain ⟨f1, G1, b1⟩ := ok_eq (P := X.prog) (w := X.w) (base := X.base) W
  have G := (raw0 G1 b1).imp (sp' := spCmp X.K fun z => decide (z = 0)) fun vs H Q E h => .inl h
  intro pins s σ H x y v u Q I rx ry h
  obtain ⟨a, b, c, d, hx, hy, sm, hz, q⟩ := h
  rcases hx with ⟨zx, rfl, ix⟩ | ⟨rfl, rfl⟩
  · obtain ⟨t, bb, ty, kn, k, bs, _⟩ := W.nuTy hy
    obtain ⟨dx, hd⟩ := id ix
    exact CmX.op_neL (E := E0) W.cmp W.m_Share_eq.at_ W.m_Share_eq.fn G hr (hu_of hr) pass0 pins s σ H _ y v u Q I rx ry ⟨zx, dx, _, t, rfl, hd, ty, bs, zx, y, a, b, c, d, rfl, ix, hy, sm, fun H' s' => ⟨_, rfl, q H' s'⟩⟩
  · obtain ⟨zy, rfl⟩ : ∃ z, y = .ref z := by
      rcases hz with ⟨z, e⟩ | e
      · cases e
      · exact e
    have iy : IsSh X.K H zy c d := by
      rcases hy with ⟨z, e, i⟩ | ⟨e, _⟩
      · cases e
        exact i
      · cases e
    obtain ⟨dy, hd⟩ := id iy
    refine CmX.op_neI (E := E0) W.cmp W.m_Share_eq.at_ W.m_Share_eq.fn G hr (hu_of hr) pass0 pins s σ H _ _ v u Q I rx ry ⟨a, zy, dy, _, rfl, rfl, hd, zy, .int a, c, d, a, 1, rfl, iy, .inr ⟨rfl, rfl⟩, sm_swap sm, fun H' s' => ⟨_, rfl, ?_⟩⟩
    have e : decide (c * 1 - a * d = 0) = decide (a * d - c * 1 = 0) := by
      have e : (c * 1 - a * d = 0) = (a * d - c * 1 = 0) := propext ⟨fun h => by omega, fun h => by omega⟩
      simp only [e]
    show Q (.bl !decide (c * 1 - a * d = 0)) H'
    rw [e]
    exact q H' s'
end
/-! ### tuples of three shares compared -/
def eqP (p q : Int × Int) : Bool := decide (p.1 * q.2 - q.1 * p.2 = 0)
def SmP (p q : Int × Int) : Prop := Sm p.1 p.2 q.1 q.2
def rT3 (K : PySem.W.Frag) : R2 := fun x y H Q => ∃ (p q a0 a1 a2 b0 b1 b2 : Addr) (m0 m1 m2 n0 n1 n2 : Int × Int), x = .ref p ∧ y = .ref q ∧ H p = some (.tup [.ref a0, .ref a1, .ref a2]) ∧ H q = some (.tup [.ref b0, .ref b1, .ref b2]) ∧
  IsS K H a0 m0 ∧ IsS K H a1 m1 ∧ IsS K H a2 m2 ∧ IsS K H b0 n0 ∧ IsS K H b1 n1 ∧ IsS K H b2 n2 ∧ SmP m0 n0 ∧ SmP m1 n1 ∧ SmP m2 n2 ∧ ∀ H', Same H H' → Q (.bl (eqP m0 n0 && (eqP m1 n1 && eqP m2 n2))) H'
theorem isS_one {K : PySem.W.Frag} {H : Hp} {a : Addr} {m n : Int × Int} (h : IsS K H a m) (k : IsS K H a n) : m = n := by
  obtain ⟨dx, h⟩ := h
  obtain ⟨dy, k⟩ := k
  rw [h] at k
  simp [shareO] at k
  exact Prod.ext k.2.1 k.2.2
theorem eqP_self (m : Int × Int) : eqP m m = true := by
  unfold eqP
  rw [Int.sub_self]
  rfl
section
variable {X : Cx}
theorem Wd.eq1S (W : Wd X.K X.mg) : T3X.Eq1 X 3 (He.ga X.K "Share") (spCmp X.K fun z => decide (z = 0)) E0 := by
  obtain ⟨f1, G1, b1⟩ := ok_eq (P := X.prog) (w := X.w) (base := X.base) W
  exact T3X.eq1_own (sp := spCmp X.K fun z => decide (z = 0)) W.m_Share_eq.at_ W.m_Share_eq.fn ((FnOk.raw G1 b1 .nil).imp fun vs H Q E h => by rw [List.append_nil]; exact .inl h) pass0
theorem Wd.eqShare (W : Wd X.K X.mg) {A : Around} {pins : List (Addr × Obj)} {s : Shared} {σ : L2.St} {H : Hp} {a b : Addr} {m n : Int × Int} {Q : Bool → Hp → Prop} (hr : Room 3 A) (e0 : Env0 X.prog X.w X.K X.mg X.base A X.stack s H) (I : Inv X pins σ H s) (ha : IsS X.K H a m) (hb : IsS X.K H b n) (sm : SmP m n)
    (q : ∀ H', Same H H' → Q (eqP m n) H') : wpAny (model X.prog X.w) A (eqBool (.ref a) (.ref b)) (fun r s' => ∃ H', Inv X pins σ H' s' ∧ Q r H') X.xe s := by
  obtain ⟨da, ha'⟩ := id ha
  obtain ⟨db, hb'⟩ := id hb
  refine W.eq1S A pins s σ H a b da db _ _ Q hr hr.units0 e0 I ha' hb' (fun e => ?_) ⟨a, .ref b, m.1, m.2, n.1, n.2, rfl, ha, .inl ⟨b, rfl, hb⟩, sm, fun H' s' => ⟨_, rfl, q H' s'⟩⟩
  subst e
  rw [isS_one ha hb] at q
  have := q H (Same.refl _)
  rw [eqP_self] at this
  exact this
theorem Wd.opEqT (W : Wd X.K X.mg) (hr : Room 4 X.A) : OpR X (compareOp .Eq) (rT3 X.K) := by
  intro pins s σ H x y v u Q I rx ry h
  obtain ⟨p, q, a0, a1, a2, b0, b1, b2, m0, m1, m2, n0, n1, n2, rfl, rfl, hp, hq, h0, h1, h2, k0, k1, k2, s0, s1, s2, k⟩ := h
  cases (show v = Value.ref p from rx)
  cases (show u = Value.ref q from ry)
  obtain ⟨its, rv, ⟨⟨cls, dd, data, sl⟩, ho, hc, n, hd⟩, _⟩ := I.tuple (SqT.of hp)
  obtain ⟨its2, rv2, ⟨⟨cls2, dd2, data2, sl2⟩, ho2, hc2, n2', hd2⟩, _⟩ := I.tuple (SqT.of hq)
  simp only at hc hd hc2 hd2
  subst hc hd hc2 hd2
  have e1 : its = [.ref a0, .ref a1, .ref a2] := by
    cases rv with
    | cons r1 rv =>
      cases rv with
      | cons r2 rv =>
        cases rv with
        | cons r3 rv =>
          cases rv
          cases r1
          cases r2
          cases r3
          rfl
  have e2 : its2 = [.ref b0, .ref b1, .ref b2] := by
    cases rv2 with
    | cons r1 rv =>
      cases rv with
      | cons r2 rv =>
        cases rv with
        | cons r3 rv =>
          cases rv
          cases r1
          cases r2
          cases r3
          rfl
  subst e1 e2
  have hu : X.A.units < cLine := hr.units0
  refine wpAny_richCompare_same_room (op := .Eq) ⟨_, ho, rfl⟩ ⟨_, ho2, rfl⟩ F.slot_tuple_eq (GQ.call_here F.slot_tuple_eq ⟨_, ho, rfl⟩ F.entry_tuple_eq (F.args_tuple_eq_2 _ _) ?_) hu
  refine wpAny_mono (T3X.tup3 (R := wants (fun v s' => v ≠ .notImplemented ∧ EP X pins σ Q v s') X.xe) ho ho2 ?_) (fun fin s' z => ?_) fun _ _ x => x
  · have fin : ∀ (r : Bool) (s' : Shared) (H' : Hp), Inv X pins σ H' s' → Q (.bl r) H' → wants (fun v s' => v ≠ .notImplemented ∧ EP X pins σ Q v s') X.xe (.ok (.ret (.bool r))) s' := fun r s' H' I' q => ⟨(fun x => nomatch x), .bl r, H', I', rfl, q⟩
    have r3 : Room 3 X.A.in1 := hr.in1
    refine wpAny_mono (W.eqShare (Q := fun r H' => Same H H' ∧ r = eqP m0 n0) r3 I.env0.in1 I h0 k0 s0 fun H' s' => ⟨s', rfl⟩) (fun r t1 z => ?_) fun _ _ x => x
    obtain ⟨H1, I1, u1, er⟩ := z
    rw [er]
    cases hA : eqP m0 n0 with
    | false =>
      have kk := k H1 u1
      rw [hA, Bool.false_and] at kk
      exact fin _ _ _ I1 kk
    | true =>
      rw [if_pos rfl]
      refine wpAny_mono (W.eqShare (Q := fun r H' => Same H1 H' ∧ r = eqP m1 n1) r3 I1.env0.in1 I1 (h1.same u1) (k1.same u1) s1 fun H' s' => ⟨s', rfl⟩) (fun r t2 z => ?_) fun _ _ x => x
      obtain ⟨H2, I2, u2, er⟩ := z
      rw [er]
      cases hB : eqP m1 n1 with
      | false =>
        have kk := k H2 (u1.trans u2)
        rw [hA, hB, Bool.false_and, Bool.and_false] at kk
        exact fin _ _ _ I2 kk
      | true =>
        rw [if_pos rfl]
        refine wpAny_mono (W.eqShare (Q := fun r H' => Same H2 H' ∧ r = eqP m2 n2) r3 I2.env0.in1 I2 (h2.same (u1.trans u2)) (k2.same (u1.trans u2)) s2 fun H' s' => ⟨s', rfl⟩) (fun r t3 z => ?_) fun _ _ x => x
        obtain ⟨H3, I3, u3, er⟩ := z
        have kk := k H3 ((u1.trans u2).trans u3)
        rw [hA, hB, Bool.true_and, Bool.true_and] at kk
        rw [er]
        exact fin _ _ _ I3 kk
  · obtain ⟨v, rfl, z⟩ := z
    exact z
end
/-! ### terms compared -/
section
variable {P : Program} {w : World} {K : PySem.W.Frag} {mg : Str → Option Value} {base : Heap}
def eqT (m t0 t1 t2 n u0 u1 u2 : Int × Int) : Bool := eqP m n && (eqP t0 u0 && (eqP t1 u1 && eqP t2 u2))
theorem look_num (n t : V) : List.lookup ("number" : Str) [(("number" : Str), n), (("times" : Str), t)] = some n := rfl
theorem look_tim (n t : V) : List.lookup ("times" : Str) [(("number" : Str), n), (("times" : Str), t)] = some t := rfl
/-- term == v -/
def spTEq (K : PySem.W.Frag) : Sp := fun vs H Q _ => ∃ (x : Addr) (v : V), vs = [.ref x, v] ∧ ((∃ t, TyOf K H v t ∧ PySem.W.kitOne K t (.ref (He.ga K "Term")) = some false ∧ Q (.bl false) H) ∨
  ∃ (y : Addr) (m t0 t1 t2 n u0 u1 u2 : Int × Int), v = .ref y ∧ IsTm K H x m t0 t1 t2 ∧ IsTm K H y n u0 u1 u2 ∧ SmP m n ∧ SmP t0 u0 ∧ SmP t1 u1 ∧ SmP t2 u2 ∧ ∀ H', Same H H' → Q (.bl (eqT m t0 t1 t2 n u0 u1 u2)) H')
theorem ok_teq (W : Wd K mg) : ∃ fd, FnOk P w K mg base CX0 5 (He.ma K (He.ga K "Term") "__eq__") fd ["self", "other"] (spTEq K) ∧ Binds K fd ["self", "other"] [] := by
  obtain ⟨fd, F⟩ := W.F_Term_eq
  refine ⟨fd, F.ok scTEq (fun vs H Q E h => ?_) (fun cdv A outer s H vs Q E hr h => ?_), FunD.bindsN F fun _ _ _ _ _ _ us hl => match us, hl with | [_, _], _ => rfl⟩
  · obtain ⟨x, v, rfl, _⟩ := h
    rfl
  · obtain ⟨x, v, rfl, h⟩ := h
    have r3 : Room 3 _ := hr.mono (by decide)
    refine ⟨_, PSs.nox (pss_one (ps_ret (pe_and (pe_callB isi_G (by rfl) W.f_isinstance boot_isinstance (pa_cons (pv 1) (pa_cons (pe_glob (v := .ref (He.ga K "Term")) rfl W.g_Term rfl) pa_nil)))
      (pe_and (pe_cmpR (W.opEq r3) (pe_fld (pv 0) rfl) (pe_fld (pv 1) rfl) (nomark _)) (pe_one (pe_cmpR (W.opEqT hr) (pe_fld (pv 0) rfl) (pe_fld (pv 1) rfl) (nomark _))))))), ?_⟩
    simp -dsimp [tSeq, tAsg, tRet, tIfS, tIf, tTest, tVar, tCons, tNil, tC, tOp, tUn, rI, rI0, rU, tCB, tLst_A, tTup_A, gName, L2.start, CMul, CPow, CDiv, tDrop, tBM, tBM0, tNext, tPar, gSub, rSetL, rIxL, rIxT, tChain, tB, tNot, tNotV, tAnd, tOr, tAndV, tOrV, tFld, tCall, rIxLH, rIxTH, atI, ixN, upd_same, cxK, ex2, ex3, ex3b, rIs1, rIs2, rNe2, tyN, kb1, kb2, kb3, kb4, kb5, kb6, rEq, rNe, scal, tMake_S, tMakeK_S, tMakeN_S]
    rcases h with ⟨t, ty, k, q⟩ | ⟨y, m, t0, t1, t2, n, u0, u1, u2, rfl, hx, hy, s0, s1, s2, s3, q⟩
    · exact ⟨_, _, t, _, false, rfl, .own _, ty, k, .inl ⟨rfl, q⟩⟩
    · refine ⟨_, _, _, _, true, rfl, .own _, W.isTm hy, of_decide_eq_true (W.ex 30 rfl), .inr ⟨rfl, ?_⟩⟩
      obtain ⟨dx, a, tp, a0, a1, a2, e1, e2, e3, e4, e5, e6⟩ := id hx
      obtain ⟨dy, b, tq, b0, b1, b2, f1, f2, f3, f4, f5, f6⟩ := id hy
      simp -dsimp [tSeq, tAsg, tRet, tIfS, tIf, tTest, tVar, tCons, tNil, tC, tOp, tUn, rI, rI0, rU, tCB, tLst_A, tTup_A, gName, L2.start, CMul, CPow, CDiv, tDrop, tBM, tBM0, tNext, tPar, gSub, rSetL, rIxL, rIxT, tChain, tB, tNot, tNotV, tAnd, tOr, tAndV, tOrV, tFld, tCall, rIxLH, rIxTH, atI, ixN, upd_same, cxK, ex2, ex3, ex3b, rIs1, rIs2, rNe2, tyN, kb1, kb2, kb3, kb4, kb5, kb6, rEq, rNe, scal, tMake_S, tMakeK_S, tMakeN_S, e1, f1, termO, W.cls_Term, W.n_Term_number, W.n_Term_times, look_num, look_tim]
      refine ⟨m.1, m.2, n.1, n.2, .inl ⟨a, rfl, e2⟩, .inl ⟨b, rfl, f2⟩, s0, .inl ⟨a, rfl⟩, fun H1 s' => ?_⟩
      cases hA : eqP m n with
      | false =>
        have k := q H1 s'
        unfold eqT at k
        rw [hA, Bool.false_and] at k
        exact .inl ⟨congrArg V.bl hA, k⟩
      | true =>
        refine .inr ⟨congrArg V.bl hA, _, dx, _, s' _ _ e1, W.cls_Term, W.n_Term_times, _, rfl, _, dy, _, s' _ _ f1, W.cls_Term, W.n_Term_times, _, rfl, tp, tq, a0, a1, a2, b0, b1, b2, t0, t1, t2, u0, u1, u2, rfl, rfl, s' _ _ e3, s' _ _ f3, e4.same s', e5.same s', e6.same s', f4.same s', f5.same s', f6.same s', s1, s2, s3, fun H2 s2' => ?_⟩
        have k := q H2 (s'.trans s2')
        unfold eqT at k
        rw [hA, Bool.true_and] at k
        exact k
end
section
variable {X : Cx}
theorem Wd.cmpT (W : Wd X.K X.mg) : CmX.CmpC X.K (He.ga X.K "Term") := CmX.cmpB_ok (W.ex 22 rfl)
/-- what is compared with a term -/
def TmOr (K : PySem.W.Frag) (H : Hp) (x : Addr) (v : V) (R : Bool → Hp → Prop) : Prop := (∃ t, TyOf K H v t ∧ PySem.W.kitOne K t (.ref (He.ga K "Term")) = some false ∧ CmX.Beside K (He.ga K "Term") t ∧ R false H) ∨
  ∃ (y : Addr) (m t0 t1 t2 n u0 u1 u2 : Int × Int), v = .ref y ∧ IsTm K H x m t0 t1 t2 ∧ IsTm K H y n u0 u1 u2 ∧ SmP m n ∧ SmP t0 u0 ∧ SmP t1 u1 ∧ SmP t2 u2 ∧ ∀ H', Same H H' → R (eqT m t0 t1 t2 n u0 u1 u2) H'
def rTE (K : PySem.W.Frag) (f : Bool → Bool) : R2 := fun x y H Q => ∃ (z : Addr) (m t0 t1 t2 : Int × Int), x = .ref z ∧ IsTm K H z m t0 t1 t2 ∧ TmOr K H z y (fun b H' => Q (.bl (f b)) H')
theorem TmOr.sp {K : PySem.W.Frag} {H : Hp} {x : Addr} {v : V} {R : Bool → Hp → Prop} {Q : VK} {E : XK} (h : TmOr K H x v R) (k : ∀ b H', R b H' → Q (.bl b) H') : spTEq K [.ref x, v] H Q E := by
  rcases h with ⟨t, ty, kt, _, r⟩ | ⟨y, m, t0, t1, t2, n, u0, u1, u2, e, hx, hy, s0, s1, s2, s3, r⟩
  · exact ⟨x, v, rfl, .inl ⟨t, ty, kt, k _ _ r⟩⟩
  · exact ⟨x, v, rfl, .inr ⟨y, m, t0, t1, t2, n, u0, u1, u2, e, hx, hy, s0, s1, s2, s3, fun H' s' => k _ _ (r H' s')⟩⟩
theorem TmOr.ty {K : PySem.W.Frag} {mg : Str → Option Value} (W : Wd K mg) {H : Hp} {x : Addr} {v : V} {R : Bool → Hp → Prop} (h : TmOr K H x v R) : ∃ t, TyOf K H v t ∧ CmX.Beside K (He.ga K "Term") t := by
  rcases h with ⟨t, ty, kt, b, r⟩ | ⟨y, m, t0, t1, t2, n, u0, u1, u2, rfl, hx, hy, s0, s1, s2, s3, r⟩
  · exact ⟨t, ty, b⟩
  · exact ⟨_, W.isTm hy, .inl rfl⟩
theorem Wd.opTEq (W : Wd X.K X.mg) (hr : Room 5 X.A) : OpR X (compareOp .Eq) (rTE X.K id) := by
  obtain ⟨f1, G1, b1⟩ := ok_teq (P := X.prog) (w := X.w) (base := X.base) W
  intro pins s σ H x y v u Q I rx ry h
  obtain ⟨z, m, t0, t1, t2, rfl, hz, h⟩ := h
  obtain ⟨t, ty, bs⟩ := h.ty W
  obtain ⟨dx, a, tp, a0, a1, a2, e1, _⟩ := id hz
  exact CmX.op_cmpL (E := E0) (fun _ _ => rfl) W.m_Term_eq.at_ W.m_Term_eq.fn (raw0 G1 b1) hr hr.units0 pass0 pins s σ H _ y v u Q I rx ry ⟨z, dx, _, t, rfl, e1, ty, bs, h.sp fun b H' r => r⟩
theorem Wd.opTNe (W : Wd X.K X.mg) (hr : Room 6 X.A) : OpR X (compareOp .NotEq) (rTE X.K not) := by
  obtain ⟨f1, G1, b1⟩ := ok_teq (P := X.prog) (w := X.w) (base := X.base) W
  intro pins s σ H x y v u Q I rx ry h
  obtain ⟨z, m, t0, t1, t2, rfl, hz, h⟩ := h
  obtain ⟨t, ty, bs⟩ := h.ty W
  obtain ⟨dx, a, tp, a0, a1, a2, e1, _⟩ := id hz
  exact CmX.op_neL (E := E0) W.cmpT W.m_Term_eq.at_ W.m_Term_eq.fn (raw0 G1 b1) hr (hu_of hr) pass0 pins s σ H _ y v u Q I rx ry ⟨z, dx, _, t, rfl, e1, ty, bs, h.sp fun b H' r => ⟨b, rfl, r⟩⟩
end
/-! ### Term.unknown -/
section
variable {P : Program} {w : World} {K : PySem.W.Frag} {mg : Str → Option Value} {base : Heap} {fd : FuncData}
theorem Wd.g_UNKNOWNS (W : Wd K mg) : ∃ t, mg "UNKNOWNS" = some (.int 3 t) := by
  obtain ⟨h0, X, G⟩ := W.X
  exact He.int_ok X G (W.c.fact 58 rfl)
theorem Wd.sm_constant (W : Wd K mg) : StX.SMet K (He.ga K "Term") "constant" (He.ma K (He.ga K "Term") "constant") (He5.wf K (He.ga K "Term") "staticmethod" "constant") := StX.smB_ok (W.ex 17 rfl)
theorem Wd.sm_unknown (W : Wd K mg) : StX.SMet K (He.ga K "Term") "unknown" (He.ma K (He.ga K "Term") "unknown") (He5.wf K (He.ga K "Term") "staticmethod" "unknown") := StX.smB_ok (W.ex 28 rfl)
theorem ok_nounknown (W : Wd K mg) (hP : SupX.PrgOk P) : ∃ fd, FnOk P w K mg base CX0 1 (He.ma K (He.ga K "NoUnknown") "__init__") fd ["self", "k"] (SupX.spExc (He.ga K "NoUnknown") "k") ∧ Binds K fd ["self", "k"] [] := by
  obtain ⟨cc, cda, T⟩ := SupX.supC_of hP (W.sup 0 rfl) (W.ex 23 rfl) (W.ex 24 rfl)
  exact SupX.exc_init T (NdefX.nscope_by (by decide +kernel)) W.n_NoUnknown_k (by decide +kernel) (fun _ _ _ _ us hl => match us, hl with | [_, _], _ => rfl) rfl rfl (fun env h => rfl) (fun env h => rfl) (fun env h => by unfold interactive; rw [h]; rfl) (fun env h => rfl) rfl rfl
theorem scUnk : FnScope ["k", "at"] ["k"] d_Term_unknown.scope := ⟨rfl, rfl, rfl, by decide +kernel, rfl, by decide +kernel, by decide +kernel⟩
/-- 1 at k, else 0 -/
def dl (k i : Int) : Int × Int := (if i = k then 1 else 0, 1)
def spUnk (K : PySem.W.Frag) : Sp := fun vs H Q _ => ∃ (k : Int), vs = [.int k] ∧ 0 ≤ k ∧ k < 3 ∧ ∀ z H', Same H H' → IsTm K H' z (0, 1) (dl k 0) (dl k 1) (dl k 2) → Q (.ref z) H'
theorem MkS.one {H : Hp} {b : Int} {Q : V → Hp → Prop} {E : XK} (h : ∀ z H', H z = none → Same H H' → IsSh K H' z b 1 → Q (.ref z) H') : MkS K H [.int b, .int 1] Q E := MkS.of rfl (by decide) (by decide +kernel) fun z H' n i s' => h z H' n s' (by
  rw [(one_fd b).1, (one_fd b).2] at i
  exact i)
theorem ok_unk (W : Wd K mg) : ∃ fd, FnOk P w K mg base CX0 5 (He5.wf K (He.ga K "Term") "staticmethod" "unknown") fd ["k"] (spUnk K) ∧ Binds K fd ["k"] [] := by
  obtain ⟨fdH, GH, FH⟩ := ok_init (P := P) (w := w) (base := base) W
  obtain ⟨ds1, v1, b1⟩ := bind2 FH
  obtain ⟨fdT, GT, bT⟩ := ok_tinit (P := P) (w := w) (base := base) W
  obtain ⟨fdI, GI, bI⟩ := ok_isInt (P := P) (w := w) (base := base) W
  have kI : PySem.W.keepIn K (.ref (He.ga K "is_integer")) = true := by obtain ⟨fd, F⟩ := W.F_is_integer; exact F.kp
  obtain ⟨tu, mU⟩ := W.g_UNKNOWNS
  obtain ⟨fd, F⟩ := W.F_Term_unknown
  refine ⟨fd, F.ok scUnk (fun vs H Q E h => ?_) (fun cdv A outer s H vs Q E hr h => ?_), FunD.bindsN F fun _ _ _ _ _ _ us hl => match us, hl with | [_], _ => rfl⟩
  · obtain ⟨k, rfl, _⟩ := h
    rfl
  · obtain ⟨k, rfl, k0, k1, q⟩ := h
    have r3 : Room 3 _ := hr.mono (by decide)
    have r2 : Room 2 _ := hr.mono (by decide)
    have r1 : Room 1 _ := hr.mono (by decide)
    refine ⟨_, PSs.nox (pss_cons (ps_if (PW.pt (pw_or (pt_not (pt_val (pe_call GI r1 rfl W.g_is_integer kI bI .nil pass0 (pa_cons (pv 0) pa_nil)))) (pw_or (pt_cmpR op_lt (pv 0) pe_int (nomark _)) (pw_or1 (pt_cmpR op_ge (pv 0) (pe_glob (v := .int 3) rfl mU ⟨_, rfl⟩) (nomark _)))))) pss_never pss_nil)
      (pss_one (ps_ret (pe_make W.mkr_Term GT r2 rfl W.g_Term bT .nil pass0 (pa_cons (pe_make W.mkr_Share GH r3 rfl W.g_Share b1 v1 pass0 (pa_cons pe_int pa_nil)) (pa_cons (pe_callTy call_tuple_of (by rfl) W.f_tuple (by decide +kernel) (pa_cons
        (pe_lc (own := [("at", 1)]) (g := gName 1) (tt := tYes) rfl scUnk.nd (pi_range1 rfl W.f_range (pa_cons (pe_glob (v := .int 3) rfl mU ⟨_, rfl⟩) pa_nil)) (blkOk_by (N := ["k", "at"]) (sc := defScope s_Term_unknown) (by decide +kernel))
          (fun _ _ _ _ _ => pg_name (i := 1) scUnk.nd rfl (Or.inl rfl)) (fun _ _ _ _ _ => pts_nil)
          (fun _ _ _ _ _ => pe_make W.mkr_Share GH r3 rfl W.g_Share b1 v1 pass0 (pa_cons (pe_ifExp (pt_cmpR op_eq (pv 1) (pv 0) (nomark _)) pe_int pe_int) pa_nil))) pa_nil)) pa_nil)))))), ?_⟩
    simp -dsimp [tSeq, tAsg, tRet, tIfS, tIf, tTest, tVar, tCons, tNil, tC, tOp, tUn, rI, rI0, rU, tCB, tLst_A, tTup_A, gName, L2.start, CMul, CPow, CDiv, tDrop, tBM, tBM0, tNext, tPar, gSub, rSetL, rIxL, rIxT, tChain, tB, tNot, tNotV, tAnd, tOr, tAndV, tOrV, tFld, tCall, rIxLH, rIxTH, atI, ixN, upd_same, cxK, ex2, ex3, ex3b, rIs1, rIs2, rNe2, tyN, kb1, kb2, kb3, kb4, kb5, kb6, rEq, rNe, scal, tMake_S, tMakeK_S, tMakeN_S, tMake_T]
    refine ⟨.int k, .type "int", true, rfl, .int k, ⟨true, false, kit_ty kb4, kit_ty kb3, rfl⟩, .inr ⟨rfl, ?_⟩⟩
    rw [if_neg (by omega), if_neg (by omega)]
    refine MkS.zero fun z1 H1 s1 i1 => ⟨3, rfl, by decide, by decide, fun D hD => ?_⟩
    have nD : ∀ {b : Addr} {o : HO}, H1 b = some o → b ≠ D := fun e => ne_of_none e hD
    refine lc_it (walk_range (lo := 0) (n := 3)) (fun i H' => Same H1 H' ∧ ∃ ss : List Addr, ss.length = i ∧ H' D = some (.lst (ss.map V.ref)) ∧ ∀ (j : Nat) (a : Addr), ss[j]? = some a → IsS K H' a (dl k j)) ⟨same_upd hD, [], rfl, upd_same, fun j a e => by simp at e⟩ (fun _ _ _ _ => True.intro) ?_ ?_
    · rintro i x H' H'' hi ⟨sm, ss, hl, hD', hs⟩ ⟨rfl, rfl⟩
      refine ⟨rfl, ?_⟩
      simp only [tYes, if_true]
      simp -dsimp [tSeq, tAsg, tRet, tIfS, tIf, tTest, tVar, tCons, tNil, tC, tOp, tUn, rI, rI0, rU, tCB, tLst_A, tTup_A, gName, L2.start, CMul, CPow, CDiv, tDrop, tBM, tBM0, tNext, tPar, gSub, rSetL, rIxL, rIxT, tChain, tB, tNot, tNotV, tAnd, tOr, tAndV, tOrV, tFld, tCall, rIxLH, rIxTH, atI, ixN, upd_same, cxK, ex2, ex3, ex3b, rIs1, rIs2, rNe2, tyN, kb1, kb2, kb3, kb4, kb5, kb6, rEq, rNe, scal, tMake_S, tMakeK_S, tMakeN_S, gName, wipe]
      have dD : H'' D = some (.lst (ss.map V.ref)) := hD'
      have fin : ∀ b : Int, dl k i = (b, 1) → MkS K H'' [V.int b, V.int 1] (fun y H4 => ∃ acc, H4 D = some (HO.lst acc) ∧ acc.length < sizeLine ∧ Same H1 (upd H4 D (HO.lst (acc ++ [y]))) ∧ ∃ ss : List Addr, ss.length = i + 1 ∧ acc ++ [y] = List.map V.ref ss ∧ ∀ (j : Nat) (a : Addr), ss[j]? = some a → IsS K (upd H4 D (HO.lst (acc ++ [y]))) a (dl k ↑j)) E0 := by
        intro b e
        refine MkS.one fun a H4 na s4 ia => ⟨ss.map V.ref, s4 _ _ dD, ?_, fun c o ec => ?_, ss ++ [a], by simp [hl], by simp, fun j c hj => ?_⟩
        · rw [List.length_map]
          exact small1000 (by omega)
        · rw [upd_ne (nD ec)]
          exact s4 _ _ (sm _ _ ec)
        · have hc : IsS K H4 c (dl k j) := by
            by_cases hji : j < ss.length
            · rw [List.getElem?_append_left hji] at hj
              exact (hs j c hj).same s4
            · rw [List.getElem?_append_right (by omega)] at hj
              have ej : j - ss.length = 0 := by
                rcases Nat.eq_zero_or_pos (j - ss.length) with h | h
                · exact h
                · rw [List.getElem?_eq_none (by simp; omega)] at hj
                  cases hj
              rw [ej] at hj
              cases hj
              have : j = i := by omega
              subst this
              rw [e]
              exact ia
          obtain ⟨dc, hc⟩ := hc
          refine ⟨dc, ?_⟩
          rw [upd_ne]
          · exact hc
          · intro ecD
            subst ecD
            rw [s4 _ _ dD] at hc
            cases hc
      split
      · rename_i hik
        exact fin 1 (by unfold dl; rw [if_pos hik])
      · rename_i hik
        exact fin 0 (by unfold dl; rw [if_neg hik])
    · rintro H' ⟨sm, ss, hl, hD', hs⟩
      match ss, hl with
      | [a0, a1, a2], _ =>
        have h0 := hs 0 a0 rfl
        have h1 := hs 1 a1 rfl
        have h2 := hs 2 a2 rfl
        refine ⟨D, rfl, _, .inl ⟨SqL.of hD', fun l hl => MkT.of rfl fun x dx H4 n4 e4 s4 => ?_⟩⟩
        have sl := same_upd hl (o := HO.tup ([a0, a1, a2].map V.ref))
        exact q x H4 (((s1.trans sm).trans sl).trans s4) ⟨dx, z1, l, a0, a1, a2, e4, (((show IsS K H1 z1 (0, 1) from i1).same sm).same sl).same s4, s4 _ _ upd_same, (h0.same sl).same s4, (h1.same sl).same s4, (h2.same sl).same s4⟩
end
/-! ### same, of things of every sort -/
/-- lists of two truths are equal -/
def rEq2 : R2 := fun x y H Q => ∃ (p q : Addr) (a b c d : Bool), x = .ref p ∧ y = .ref q ∧ H p = some (.lst [.bl a, .bl b]) ∧ H q = some (.lst [.bl c, .bl d]) ∧ Q (.bl (a == c && b == d)) H
/-- isinstance of two kinds, of a thing of a known class -/
def rIs2G (K : PySem.W.Frag) : List V → Hp → VK → Prop := fun xs H Q => ∃ (x : V) (tp : Addr) (T1 T2 : String) (t : Value) (b1 b2 : Bool), xs = [x, .ref tp] ∧ H tp = some (.tup [.ty T1, .ty T2]) ∧ TyOf K H x t ∧ PySem.W.kitOne K t (.type T1) = some b1 ∧ PySem.W.kitOne K t (.type T2) = some b2 ∧ Q (.bl (b1 || b2)) H
/-- neither list, tuple, truth nor int -/
def Plain (K : PySem.W.Frag) (t : Value) : Prop := PySem.W.kitOne K t (.type "list") = some false ∧ PySem.W.kitOne K t (.type "tuple") = some false ∧ PySem.W.kitOne K t (.type "bool") = some false ∧ PySem.W.kitOne K t (.type "int") = some false
def h60 (a b : Int) : Prop := a.natAbs < bigH ∧ b.natAbs < bigH
/-- what same compares by == at once -/
inductive Thp (K : PySem.W.Frag) (H : Hp) : V → Prop where
  | non : Thp K H .non
  | str (x : Str) : Thp K H (.str x)
  | dK {a : Addr} (e : H a = some (.dK [])) : Thp K H (.ref a)
  | sh {x : Addr} {a b : Int} (h : IsSh K H x a b) (m : h60 a b) : Thp K H (.ref x)
theorem Thp.same {K : PySem.W.Frag} {H H' : Hp} {v : V} (h : Thp K H v) (s : Same H H') : Thp K H' v := by
  cases h with
  | non => exact .non
  | str x => exact .str x
  | dK e => exact .dK (s _ _ e)
  | sh h m => exact .sh (h.same s) m
/-- things that same says True of, n deep -/
inductive SmV (K : PySem.W.Frag) (H : Hp) : Nat → V → V → Prop where
  | int (n : Nat) (i : Int) : SmV K H n (.int i) (.int i)
  | bl (n : Nat) (i : Bool) : SmV K H n (.bl i) (.bl i)
  | thp (n : Nat) {v : V} (h : Thp K H v) : SmV K H n v v
  | lst (n : Nat) {p q : Addr} {xs ys : List V} (hp : H p = some (.lst xs)) (hq : H q = some (.lst ys)) (hl : xs.length = ys.length) (hb : xs.length ≤ 100) (h : ∀ (i : Nat) (x y : V), xs[i]? = some x → ys[i]? = some y → SmV K H n x y) : SmV K H (n + 1) (.ref p) (.ref q)
  | tup (n : Nat) {p q : Addr} {xs ys : List V} (hp : H p = some (.tup xs)) (hq : H q = some (.tup ys)) (hl : xs.length = ys.length) (hb : xs.length ≤ 100) (h : ∀ (i : Nat) (x y : V), xs[i]? = some x → ys[i]? = some y → SmV K H n x y) : SmV K H (n + 1) (.ref p) (.ref q)
theorem SmV.same {K : PySem.W.Frag} {H H' : Hp} {n : Nat} {u v : V} (h : SmV K H n u v) (s : Same H H') : SmV K H' n u v := by
  induction h with
  | int n i => exact .int n i
  | bl n i => exact .bl n i
  | thp n h => exact .thp n (h.same s)
  | lst n hp hq hl hb h ih => exact .lst n (s _ _ hp) (s _ _ hq) hl hb ih
  | tup n hp hq hl hb h ih => exact .tup n (s _ _ hp) (s _ _ hq) hl hb ih
theorem SmV.up {K : PySem.W.Frag} {H : Hp} {n : Nat} {u v : V} (h : SmV K H n u v) : SmV K H (n + 1) u v := by
  induction h with
  | int n i => exact .int _ i
  | bl n i => exact .bl _ i
  | thp n h => exact .thp _ h
  | lst n hp hq hl hb h ih => exact .lst _ hp hq hl hb ih
  | tup n hp hq hl hb h ih => exact .tup _ hp hq hl hb ih
def rThp (K : PySem.W.Frag) : R2 := fun x y H Q => x = y ∧ Thp K H x ∧ ∀ H', Same H H' → Q (.bl true) H'
section
variable {X : Cx}
theorem op_eq2 (hu : X.A.units + 64 < cLine) : OpR X (compareOp .Eq) rEq2 := by
  intro pins s σ H x y v u Q I rx ry h
  obtain ⟨p, q, a, b, c, d, e1, e2, hp, hq, k⟩ := h
  refine op_eqD hu pins s σ H x y v u Q I rx ry ⟨.list [.bool a, .bool b], .list [.bool c, .bool d], ?_, ?_, ?_, ?_, ?_⟩
  · rw [e1]
    exact .lst (SqL.of hp) (.cons (.bl _) (.cons (.bl _) .nil))
  · rw [e2]
    exact .lst (SqL.of hq) (.cons (.bl _) (.cons (.bl _) .nil))
  · cases a <;> cases b <;> decide +kernel
  · cases c <;> cases d <;> decide +kernel
  · have e : PyData.eqv (.list [.bool a, .bool b]) (.list [.bool c, .bool d]) = (a == c && b == d) := by
      show ((a == c) && ((b == d) && true)) = _
      rw [Bool.and_true]
    rw [e]
    exact k
theorem isi_2G : CallR X (.builtin "isinstance") (rIs2G X.K) := by
  intro pins s σ H xs us Q I r h
  obtain ⟨x, tp, T1, T2, t, b1, b2, e, hT, ty, k1, k2, q⟩ := h
  refine call_isiT pins s σ H xs us Q I r ⟨x, tp, _, t, [.type T1, .type T2], b1 || b2, e, hT, .cons (.ty T1) (.cons (.ty T2) .nil), .base ty, ?_, q⟩
  refine kitAny_cons k1 (fun f => ?_) (fun f => by rw [f]; rfl)
  rw [f]
  refine kitAny_cons k2 (fun f => ?_) (fun f => by rw [f]; rfl)
  rw [f]
  exact kitAny_nil
theorem Wd.opThp (W : Wd X.K X.mg) (hr : Room 3 X.A) : OpR X (compareOp .Eq) (rThp X.K) := by
  intro pins s σ H x y v u Q I rx ry h
  obtain ⟨rfl, t, q⟩ := h
  cases t with
  | non => exact op_eq pins s σ H _ _ v u Q I rx ry ⟨rfl, q H (Same.refl _)⟩
  | str x => exact op_eq pins s σ H _ _ v u Q I rx ry ⟨rfl, by
      have e : decide (V.str x = V.str x) = true := by simp only [decide_true]
      rw [e]
      exact q H (Same.refl _)⟩
  | @dK a e => exact op_eq_dict hr.units0 pins s σ H _ _ v u Q I rx ry ⟨a, a, [], rfl, rfl, e, e, List.nodup_nil, (fun p hp => by cases hp), q H (Same.refl _)⟩
  | @sh x a b h m => exact W.opEq hr pins s σ H _ _ v u Q I rx ry ⟨a, b, a, b, .inl ⟨x, rfl, h⟩, .inl ⟨x, rfl, h⟩, ⟨m.1, m.2, m.1, m.2⟩, .inl ⟨x, rfl⟩, fun H' s' => by
      rw [Int.sub_self]
      exact q H' s'⟩
end
section
variable {P : Program} {w : World} {K : PySem.W.Frag} {mg : Str → Option Value} {base : Heap}
theorem Wd.thpTy (W : Wd K mg) {H : Hp} {v : V} (h : Thp K H v) : ∃ t, TyOf K H v t ∧ Plain K t := by
  cases h with
  | non => exact ⟨_, .non, kit_ty (by decide +kernel), kit_ty (by decide +kernel), kit_ty (by decide +kernel), kit_ty (by decide +kernel)⟩
  | str x => exact ⟨_, .str x, kit_ty (by decide +kernel), kit_ty (by decide +kernel), kit_ty (by decide +kernel), kit_ty (by decide +kernel)⟩
  | dK e => exact ⟨_, .dK e, kit_ty (by decide +kernel), kit_ty (by decide +kernel), kit_ty (by decide +kernel), kit_ty (by decide +kernel)⟩
  | sh h m =>
    have f := List.all_eq_true.mp (W.ex 31 rfl)
    exact ⟨_, W.isSh h, of_decide_eq_true (f "list" (by decide)), of_decide_eq_true (f "tuple" (by decide)), of_decide_eq_true (f "bool" (by decide)), of_decide_eq_true (f "int" (by decide))⟩
def spSame (K : PySem.W.Frag) (n : Nat) : Sp := fun vs H Q _ => ∃ (u v : V), vs = [u, v] ∧ SmV K H n u v ∧ ∀ H', Same H H' → Q (.bl true) H'
theorem kb7 : kitB "bool" "list" = some false := by decide +kernel
theorem kb8 : kitB "bool" "tuple" = some false := by decide +kernel
theorem kb9 : kitB "bool" "bool" = some true := by decide +kernel
theorem kb10 : kitB "bool" "int" = some true := by decide +kernel
theorem kb11 : kitB "list" "list" = some true := by decide +kernel
theorem kb12 : kitB "list" "tuple" = some false := by decide +kernel
theorem ok_same0 (W : Wd K mg) (n : Nat) (deep : n = 0 ∨ ∃ (m : Nat) (fd : FuncData), n = m + 1 ∧ FnOk P w K mg base CX0 (m + 4) (He.ga K "_law_same") fd ["_law_found", "_law_due"] (spSame K m) ∧ Binds K fd ["_law_found", "_law_due"] []) :
    ∃ fd, FnOk P w K mg base CX0 (n + 4) (He.ga K "_law_same") fd ["_law_found", "_law_due"] (spSame K n) ∧ Binds K fd ["_law_found", "_law_due"] [] := by
  obtain ⟨fd, F⟩ := W.F_same
  refine ⟨fd, F.ok scSame (fun vs H Q E h => ?_) (fun cdv A outer s H vs Q E hr h => ?_), FunD.bindsN F fun _ _ _ _ _ _ us hl => match us, hl with | [_, _], _ => rfl⟩
  · obtain ⟨u, v, rfl, _⟩ := h
    rfl
  · obtain ⟨u, v, rfl, h, k⟩ := h
    have r3 : Room 3 _ := hr.mono (by omega)
    cases h with
    | int n i =>
      refine ⟨_, PSs.nox (pss_cons (ps_set (i := 2) scSame.nd rfl (Or.inl rfl) (pe_lst (pa_cons (pe_callB isi_1 (by rfl) W.f_isinstance boot_isinstance (pa_cons (pv 0) (pa_cons (pe_bltn (v := .ty "list") (by rfl) W.f_list (by decide +kernel) rfl) pa_nil))) (pa_cons (pe_callB isi_1 (by rfl) W.f_isinstance boot_isinstance (pa_cons (pv 0) (pa_cons (pe_bltn (v := .ty "tuple") (by rfl) W.f_tuple (by decide +kernel) rfl) pa_nil))) pa_nil))))
    (pss_cons (ps_if (pt_val (pe_callB isi_2 (by rfl) W.f_isinstance boot_isinstance (pa_cons (pv 1) (pa_cons (pe_tup (pa_cons (pe_bltn (v := .ty "list") (by rfl) W.f_list (by decide +kernel) rfl) (pa_cons (pe_bltn (v := .ty "tuple") (by rfl) W.f_tuple (by decide +kernel) rfl) pa_nil))) pa_nil)))) pss_never pss_nil)
    (pss_cons (ps_if (pt_val (pe_callB isi_2 (by rfl) W.f_isinstance boot_isinstance (pa_cons (pv 1) (pa_cons (pe_tup (pa_cons (pe_bltn (v := .ty "bool") (by rfl) W.f_bool (by decide +kernel) rfl) (pa_cons (pe_bltn (v := .ty "int") (by rfl) W.f_int (by decide +kernel) rfl) pa_nil))) pa_nil)))) (pss_one (ps_ret (pe_and (pe_callB isi_1 (by rfl) W.f_isinstance boot_isinstance (pa_cons (pv 0) (pa_cons (pe_bltn (v := .ty "int") (by rfl) W.f_int (by decide +kernel) rfl) pa_nil))) (pe_and (pe_cmpR op_eq (pe_callB isi_1 (by rfl) W.f_isinstance boot_isinstance (pa_cons (pv 0) (pa_cons (pe_bltn (v := .ty "bool") (by rfl) W.f_bool (by decide +kernel) rfl) pa_nil))) (pe_callB isi_1 (by rfl) W.f_isinstance boot_isinstance (pa_cons (pv 1) (pa_cons (pe_bltn (v := .ty "bool") (by rfl) W.f_bool (by decide +kernel) rfl) pa_nil))) (nomark _)) (pe_one (pe_cmpR op_eq (pv 0) (pv 1) (nomark _))))))) pss_nil)
    pss_never))), ?_⟩
      simp -dsimp [tSeq, tAsg, tRet, tIfS, tIf, tTest, tVar, tCons, tNil, tC, tOp, tUn, rI, rI0, rU, tCB, tLst_A, tTup_A, gName, L2.start, CMul, CPow, CDiv, tDrop, tBM, tBM0, tNext, tPar, gSub, rSetL, rIxL, rIxT, tChain, tB, tNot, tNotV, tAnd, tOr, tAndV, tOrV, tFld, tCall, rIxLH, rIxTH, atI, ixN, upd_same, cxK, ex2, ex3, ex3b, rIs1, rIs2, rNe2, tyN, kb1, kb2, kb3, kb4, kb5, kb6, rEq, rNe, scal, tMake_S, tMakeK_S, tMakeN_S]
      refine ⟨le2, Alloc.of fun p1 H1 n1 e1 s1 => ?_⟩
      try simp -dsimp [tSeq, tAsg, tRet, tIfS, tIf, tTest, tVar, tCons, tNil, tC, tOp, tUn, rI, rI0, rU, tCB, tLst_A, tTup_A, gName, L2.start, CMul, CPow, CDiv, tDrop, tBM, tBM0, tNext, tPar, gSub, rSetL, rIxL, rIxT, tChain, tB, tNot, tNotV, tAnd, tOr, tAndV, tOrV, tFld, tCall, rIxLH, rIxTH, atI, ixN, upd_same, cxK, ex2, ex3, ex3b, rIs1, rIs2, rNe2, tyN, kb1, kb2, kb3, kb4, kb5, kb6, rEq, rNe, scal, tMake_S, tMakeK_S, tMakeN_S]
      refine ⟨le2, Alloc.of fun p2 H2 n2 e2 s2 => ?_⟩
      simp -dsimp [tSeq, tAsg, tRet, tIfS, tIf, tTest, tVar, tCons, tNil, tC, tOp, tUn, rI, rI0, rU, tCB, tLst_A, tTup_A, gName, L2.start, CMul, CPow, CDiv, tDrop, tBM, tBM0, tNext, tPar, gSub, rSetL, rIxL, rIxT, tChain, tB, tNot, tNotV, tAnd, tOr, tAndV, tOrV, tFld, tCall, rIxLH, rIxTH, atI, ixN, upd_same, cxK, ex2, ex3, ex3b, rIs1, rIs2, rNe2, tyN, kb1, kb2, kb3, kb4, kb5, kb6, rEq, rNe, scal, tMake_S, tMakeK_S, tMakeN_S, e2]
      refine ⟨le2, Alloc.of fun p3 H3 n3 e3 s3 => ?_⟩
      simp -dsimp [tSeq, tAsg, tRet, tIfS, tIf, tTest, tVar, tCons, tNil, tC, tOp, tUn, rI, rI0, rU, tCB, tLst_A, tTup_A, gName, L2.start, CMul, CPow, CDiv, tDrop, tBM, tBM0, tNext, tPar, gSub, rSetL, rIxL, rIxT, tChain, tB, tNot, tNotV, tAnd, tOr, tAndV, tOrV, tFld, tCall, rIxLH, rIxTH, atI, ixN, upd_same, cxK, ex2, ex3, ex3b, rIs1, rIs2, rNe2, tyN, kb1, kb2, kb3, kb4, kb5, kb6, rEq, rNe, scal, tMake_S, tMakeK_S, tMakeN_S, e3]
      exact k _ ((s1.trans s2).trans s3)
    | bl n i =>
      refine ⟨_, PSs.nox (pss_cons (ps_set (i := 2) scSame.nd rfl (Or.inl rfl) (pe_lst (pa_cons (pe_callB isi_1 (by rfl) W.f_isinstance boot_isinstance (pa_cons (pv 0) (pa_cons (pe_bltn (v := .ty "list") (by rfl) W.f_list (by decide +kernel) rfl) pa_nil))) (pa_cons (pe_callB isi_1 (by rfl) W.f_isinstance boot_isinstance (pa_cons (pv 0) (pa_cons (pe_bltn (v := .ty "tuple") (by rfl) W.f_tuple (by decide +kernel) rfl) pa_nil))) pa_nil))))
    (pss_cons (ps_if (pt_val (pe_callB isi_2 (by rfl) W.f_isinstance boot_isinstance (pa_cons (pv 1) (pa_cons (pe_tup (pa_cons (pe_bltn (v := .ty "list") (by rfl) W.f_list (by decide +kernel) rfl) (pa_cons (pe_bltn (v := .ty "tuple") (by rfl) W.f_tuple (by decide +kernel) rfl) pa_nil))) pa_nil)))) pss_never pss_nil)
    (pss_cons (ps_if (pt_val (pe_callB isi_2 (by rfl) W.f_isinstance boot_isinstance (pa_cons (pv 1) (pa_cons (pe_tup (pa_cons (pe_bltn (v := .ty "bool") (by rfl) W.f_bool (by decide +kernel) rfl) (pa_cons (pe_bltn (v := .ty "int") (by rfl) W.f_int (by decide +kernel) rfl) pa_nil))) pa_nil)))) (pss_one (ps_ret (pe_and (pe_callB isi_1 (by rfl) W.f_isinstance boot_isinstance (pa_cons (pv 0) (pa_cons (pe_bltn (v := .ty "int") (by rfl) W.f_int (by decide +kernel) rfl) pa_nil))) (pe_and (pe_cmpR op_eq (pe_callB isi_1 (by rfl) W.f_isinstance boot_isinstance (pa_cons (pv 0) (pa_cons (pe_bltn (v := .ty "bool") (by rfl) W.f_bool (by decide +kernel) rfl) pa_nil))) (pe_callB isi_1 (by rfl) W.f_isinstance boot_isinstance (pa_cons (pv 1) (pa_cons (pe_bltn (v := .ty "bool") (by rfl) W.f_bool (by decide +kernel) rfl) pa_nil))) (nomark _)) (pe_one (pe_cmpR op_eq (pv 0) (pv 1) (nomark _))))))) pss_nil)
    pss_never))), ?_⟩
      simp -dsimp [tSeq, tAsg, tRet, tIfS, tIf, tTest, tVar, tCons, tNil, tC, tOp, tUn, rI, rI0, rU, tCB, tLst_A, tTup_A, gName, L2.start, CMul, CPow, CDiv, tDrop, tBM, tBM0, tNext, tPar, gSub, rSetL, rIxL, rIxT, tChain, tB, tNot, tNotV, tAnd, tOr, tAndV, tOrV, tFld, tCall, rIxLH, rIxTH, atI, ixN, upd_same, cxK, ex2, ex3, ex3b, rIs1, rIs2, rNe2, tyN, kb1, kb2, kb3, kb4, kb5, kb6, rEq, rNe, scal, tMake_S, tMakeK_S, tMakeN_S, kb7, kb8, kb9, kb10]
      refine ⟨le2, Alloc.of fun p1 H1 n1 e1 s1 => ?_⟩
      try simp -dsimp [tSeq, tAsg, tRet, tIfS, tIf, tTest, tVar, tCons, tNil, tC, tOp, tUn, rI, rI0, rU, tCB, tLst_A, tTup_A, gName, L2.start, CMul, CPow, CDiv, tDrop, tBM, tBM0, tNext, tPar, gSub, rSetL, rIxL, rIxT, tChain, tB, tNot, tNotV, tAnd, tOr, tAndV, tOrV, tFld, tCall, rIxLH, rIxTH, atI, ixN, upd_same, cxK, ex2, ex3, ex3b, rIs1, rIs2, rNe2, tyN, kb1, kb2, kb3, kb4, kb5, kb6, rEq, rNe, scal, tMake_S, tMakeK_S, tMakeN_S, kb7, kb8, kb9, kb10]
      refine ⟨le2, Alloc.of fun p2 H2 n2 e2 s2 => ?_⟩
      simp -dsimp [tSeq, tAsg, tRet, tIfS, tIf, tTest, tVar, tCons, tNil, tC, tOp, tUn, rI, rI0, rU, tCB, tLst_A, tTup_A, gName, L2.start, CMul, CPow, CDiv, tDrop, tBM, tBM0, tNext, tPar, gSub, rSetL, rIxL, rIxT, tChain, tB, tNot, tNotV, tAnd, tOr, tAndV, tOrV, tFld, tCall, rIxLH, rIxTH, atI, ixN, upd_same, cxK, ex2, ex3, ex3b, rIs1, rIs2, rNe2, tyN, kb1, kb2, kb3, kb4, kb5, kb6, rEq, rNe, scal, tMake_S, tMakeK_S, tMakeN_S, kb7, kb8, kb9, kb10, e2]
      refine ⟨le2, Alloc.of fun p3 H3 n3 e3 s3 => ?_⟩
      simp -dsimp [tSeq, tAsg, tRet, tIfS, tIf, tTest, tVar, tCons, tNil, tC, tOp, tUn, rI, rI0, rU, tCB, tLst_A, tTup_A, gName, L2.start, CMul, CPow, CDiv, tDrop, tBM, tBM0, tNext, tPar, gSub, rSetL, rIxL, rIxT, tChain, tB, tNot, tNotV, tAnd, tOr, tAndV, tOrV, tFld, tCall, rIxLH, rIxTH, atI, ixN, upd_same, cxK, ex2, ex3, ex3b, rIs1, rIs2, rNe2, tyN, kb1, kb2, kb3, kb4, kb5, kb6, rEq, rNe, scal, tMake_S, tMakeK_S, tMakeN_S, kb7, kb8, kb9, kb10, e3]
      exact k _ ((s1.trans s2).trans s3)
    | thp n h =>
      obtain ⟨t, ty, k1, k2, k3, k4⟩ := W.thpTy h
      refine ⟨_, PSs.nox (pss_cons (ps_set (i := 2) scSame.nd rfl (Or.inl rfl) (pe_lst (pa_cons (pe_callB isi_G (by rfl) W.f_isinstance boot_isinstance (pa_cons (pv 0) (pa_cons (pe_bltn (v := .ty "list") (by rfl) W.f_list (by decide +kernel) rfl) pa_nil))) (pa_cons (pe_callB isi_G (by rfl) W.f_isinstance boot_isinstance (pa_cons (pv 0) (pa_cons (pe_bltn (v := .ty "tuple") (by rfl) W.f_tuple (by decide +kernel) rfl) pa_nil))) pa_nil))))
    (pss_cons (ps_if (pt_val (pe_callB isi_2G (by rfl) W.f_isinstance boot_isinstance (pa_cons (pv 1) (pa_cons (pe_tup (pa_cons (pe_bltn (v := .ty "list") (by rfl) W.f_list (by decide +kernel) rfl) (pa_cons (pe_bltn (v := .ty "tuple") (by rfl) W.f_tuple (by decide +kernel) rfl) pa_nil))) pa_nil)))) pss_never pss_nil)
    (pss_cons (ps_if (pt_val (pe_callB isi_2G (by rfl) W.f_isinstance boot_isinstance (pa_cons (pv 1) (pa_cons (pe_tup (pa_cons (pe_bltn (v := .ty "bool") (by rfl) W.f_bool (by decide +kernel) rfl) (pa_cons (pe_bltn (v := .ty "int") (by rfl) W.f_int (by decide +kernel) rfl) pa_nil))) pa_nil)))) pss_never pss_nil)
    (pss_one (ps_ret (pe_and (pe_cmpR (op_eq2 hr.units) (pv 2) (pe_lst (pa_cons pe_bl (pa_cons pe_bl pa_nil))) (nomark _)) (pe_and (pe_not (pe_callB isi_2G (by rfl) W.f_isinstance boot_isinstance (pa_cons (pv 0) (pa_cons (pe_tup (pa_cons (pe_bltn (v := .ty "bool") (by rfl) W.f_bool (by decide +kernel) rfl) (pa_cons (pe_bltn (v := .ty "int") (by rfl) W.f_int (by decide +kernel) rfl) pa_nil))) pa_nil)))) (pe_one (pe_cmpR (W.opThp r3) (pv 0) (pv 1) (nomark _)))))))))), ?_⟩
      simp -dsimp [tSeq, tAsg, tRet, tIfS, tIf, tTest, tVar, tCons, tNil, tC, tOp, tUn, rI, rI0, rU, tCB, tLst_A, tTup_A, gName, L2.start, CMul, CPow, CDiv, tDrop, tBM, tBM0, tNext, tPar, gSub, rSetL, rIxL, rIxT, tChain, tB, tNot, tNotV, tAnd, tOr, tAndV, tOrV, tFld, tCall, rIxLH, rIxTH, atI, ixN, upd_same, cxK, ex2, ex3, ex3b, rIs1, rIs2, rNe2, tyN, kb1, kb2, kb3, kb4, kb5, kb6, rEq, rNe, scal, tMake_S, tMakeK_S, tMakeN_S]
      refine ⟨u, _, t, _, false, rfl, .ty "list", ty, k1, u, _, t, _, false, rfl, .ty "tuple", ty, k2, le2, Alloc.of fun p1 H1 n1 e1 s1 => ⟨le2, Alloc.of fun p2 H2 n2 e2 s2 => ?_⟩⟩
      have s12 := s1.trans s2
      obtain ⟨t2, ty2, k12, k22, k32, k42⟩ := W.thpTy (h.same s12)
      refine ⟨u, p2, _, _, t2, false, false, rfl, e2, ty2, k12, k22, .inl ⟨rfl, le2, Alloc.of fun p3 H3 n3 e3 s3 => ?_⟩⟩
      have s13 := s12.trans s3
      obtain ⟨t3, ty3, k13, k23, k33, k43⟩ := W.thpTy (h.same s13)
      refine ⟨u, p3, _, _, t3, false, false, rfl, e3, ty3, k33, k43, .inl ⟨rfl, le2, Alloc.of fun p4 H4 n4 e4 s4 => ?_⟩⟩
      refine ⟨p1, p4, false, false, false, false, rfl, rfl, s4 _ _ (s3 _ _ (s2 _ _ e1)), e4, .inr ⟨rfl, le2, Alloc.of fun p5 H5 n5 e5 s5 => ?_⟩⟩
      have s15 := (s13.trans s4).trans s5
      obtain ⟨t5, ty5, k15, k25, k35, k45⟩ := W.thpTy (h.same s15)
      exact ⟨u, p5, _, _, t5, false, false, rfl, e5, ty5, k35, k45, .inl ⟨rfl, rfl, h.same s15, fun H' s' => k _ (s15.trans s')⟩⟩
    | @lst m p q xs ys hp hq hl hb h =>
      obtain ⟨fdI, GI, bI⟩ : ∃ fdI, FnOk P w K mg base CX0 (m + 4) (He.ga K "_law_same") fdI ["_law_found", "_law_due"] (spSame K m) ∧ Binds K fdI ["_law_found", "_law_due"] [] := by
        rcases deep with e | ⟨m', fd', e, G, b⟩
        · cases e
        · cases e
          exact ⟨fd', G, b⟩
      have hI : Room (m + 4) _ := hr.mono (by omega)
      refine ⟨_, PSs.nox (pss_cons (ps_set (i := 2) scSame.nd rfl (Or.inl rfl) (pe_lst (pa_cons (pe_callB isi_1 (by rfl) W.f_isinstance boot_isinstance (pa_cons (pv 0) (pa_cons (pe_bltn (v := .ty "list") (by rfl) W.f_list (by decide +kernel) rfl) pa_nil))) (pa_cons (pe_callB isi_1 (by rfl) W.f_isinstance boot_isinstance (pa_cons (pv 0) (pa_cons (pe_bltn (v := .ty "tuple") (by rfl) W.f_tuple (by decide +kernel) rfl) pa_nil))) pa_nil))))
    (pss_cons (ps_if (pt_val (pe_callB isi_2 (by rfl) W.f_isinstance boot_isinstance (pa_cons (pv 1) (pa_cons (pe_tup (pa_cons (pe_bltn (v := .ty "list") (by rfl) W.f_list (by decide +kernel) rfl) (pa_cons (pe_bltn (v := .ty "tuple") (by rfl) W.f_tuple (by decide +kernel) rfl) pa_nil))) pa_nil)))) (pss_cons (ps_if (PW.pt (pw_or (pt_cmpR (op_ne2 hr.units) (pv 2) (pe_lst (pa_cons (pe_callB isi_1 (by rfl) W.f_isinstance boot_isinstance (pa_cons (pv 1) (pa_cons (pe_bltn (v := .ty "list") (by rfl) W.f_list (by decide +kernel) rfl) pa_nil))) (pa_cons (pe_callB isi_1 (by rfl) W.f_isinstance boot_isinstance (pa_cons (pv 1) (pa_cons (pe_bltn (v := .ty "tuple") (by rfl) W.f_tuple (by decide +kernel) rfl) pa_nil))) pa_nil))) (nomark _)) (pw_or1 (pt_cmpR op_ne (pe_callB len_lstH (by rfl) W.f_len boot_len (pa_cons (pv 0) pa_nil)) (pe_callB len_lstH (by rfl) W.f_len boot_len (pa_cons (pv 1) pa_nil)) (nomark _))))) (pss_one (ps_ret pe_bl)) pss_nil)
    (pss_one (ps_ret (pe_callB (cr_all rfl) (by rfl) W.f_all boot_all (pa_cons (pe_lc (own := [("_law_left", 3), ("_law_right", 4)]) (g := gTup K 2 (gCons (gName 3) (gCons (gName 4) gNil))) (tt := tYes) rfl scSame.nd (RZ.pi_zipA (by rfl) W.f_zip (pa_cons (pv 0) (pa_cons (pv 1) pa_nil))) (blkOk_by (N := ["_law_found", "_law_due", "_law_kinds", "_law_left", "_law_right"]) (sc := defScope s_same) (by decide +kernel))
            (fun _ _ _ _ _ => (pg_tup rfl (pgs_cons (pg_name (i := 3) scSame.nd rfl (Or.inl rfl)) (pgs_cons (pg_name (i := 4) scSame.nd rfl (Or.inl rfl)) pgs_nil)))) (fun _ _ _ _ _ => pts_nil)
            (fun _ _ _ _ _ => (pe_call GI hI rfl W.g_law_same F.kp bI .nil pass0 (pa_cons (pv 3) (pa_cons (pv 4) pa_nil))))) pa_nil))))) pss_nil)
    pss_never)), ?_⟩
      simp -dsimp [tSeq, tAsg, tRet, tIfS, tIf, tTest, tVar, tCons, tNil, tC, tOp, tUn, rI, rI0, rU, tCB, tLst_A, tTup_A, gName, L2.start, CMul, CPow, CDiv, tDrop, tBM, tBM0, tNext, tPar, gSub, rSetL, rIxL, rIxT, tChain, tB, tNot, tNotV, tAnd, tOr, tAndV, tOrV, tFld, tCall, rIxLH, rIxTH, atI, ixN, upd_same, cxK, ex2, ex3, ex3b, rIs1, rIs2, rNe2, tyN, kb1, kb2, kb3, kb4, kb5, kb6, rEq, rNe, scal, tMake_S, tMakeK_S, tMakeN_S, kb11, kb12, hp, hq, hl]
      refine ⟨le2, Alloc.of fun p1 H1 n1 e1 s1 => ?_⟩
      have hp1 := s1 _ _ hp
      have hq1 := s1 _ _ hq
      try simp -dsimp [tSeq, tAsg, tRet, tIfS, tIf, tTest, tVar, tCons, tNil, tC, tOp, tUn, rI, rI0, rU, tCB, tLst_A, tTup_A, gName, L2.start, CMul, CPow, CDiv, tDrop, tBM, tBM0, tNext, tPar, gSub, rSetL, rIxL, rIxT, tChain, tB, tNot, tNotV, tAnd, tOr, tAndV, tOrV, tFld, tCall, rIxLH, rIxTH, atI, ixN, upd_same, cxK, ex2, ex3, ex3b, rIs1, rIs2, rNe2, tyN, kb1, kb2, kb3, kb4, kb5, kb6, rEq, rNe, scal, tMake_S, tMakeK_S, tMakeN_S]
      refine ⟨le2, Alloc.of fun p2 H2 n2 e2 s2 => ?_⟩
      have hp2 := s2 _ _ hp1
      have hq2 := s2 _ _ hq1
      have e12 := s2 _ _ e1
      simp -dsimp [tSeq, tAsg, tRet, tIfS, tIf, tTest, tVar, tCons, tNil, tC, tOp, tUn, rI, rI0, rU, tCB, tLst_A, tTup_A, gName, L2.start, CMul, CPow, CDiv, tDrop, tBM, tBM0, tNext, tPar, gSub, rSetL, rIxL, rIxT, tChain, tB, tNot, tNotV, tAnd, tOr, tAndV, tOrV, tFld, tCall, rIxLH, rIxTH, atI, ixN, upd_same, cxK, ex2, ex3, ex3b, rIs1, rIs2, rNe2, tyN, kb1, kb2, kb3, kb4, kb5, kb6, rEq, rNe, scal, tMake_S, tMakeK_S, tMakeN_S, kb11, kb12, e2, hp2, hq2]
      refine ⟨le2, Alloc.of fun p3 H3 n3 e3 s3 => ?_⟩
      have hp3 := s3 _ _ hp2
      have hq3 := s3 _ _ hq2
      have e13 := s3 _ _ e12
      simp -dsimp [tSeq, tAsg, tRet, tIfS, tIf, tTest, tVar, tCons, tNil, tC, tOp, tUn, rI, rI0, rU, tCB, tLst_A, tTup_A, gName, L2.start, CMul, CPow, CDiv, tDrop, tBM, tBM0, tNext, tPar, gSub, rSetL, rIxL, rIxT, tChain, tB, tNot, tNotV, tAnd, tOr, tAndV, tOrV, tFld, tCall, rIxLH, rIxTH, atI, ixN, upd_same, cxK, ex2, ex3, ex3b, rIs1, rIs2, rNe2, tyN, kb1, kb2, kb3, kb4, kb5, kb6, rEq, rNe, scal, tMake_S, tMakeK_S, tMakeN_S, kb11, kb12, e3, hp3, hq3, e13, hl]
      refine ⟨_, rfl, _, rfl, p, q, _, _, rfl, .inl ⟨SqL.of hp3, SqL.of hq3, fun D hD => ?_⟩⟩
      have nD : ∀ {b : Addr} {o : HO}, H3 b = some o → b ≠ D := fun e => ne_of_none e hD
      refine lc_it (walk_zip (xs := xs) (ys := ys) (n := xs.length) (by omega)) (fun i H' => Same H3 H' ∧ H' D = some (.lst (List.replicate i (.bl true)))) ⟨same_upd hD, upd_same⟩ (fun i H' _ h => ⟨SqL.of (h.1 _ _ hp3), SqL.of (h.1 _ _ hq3)⟩) ?_ ?_
      · rintro i x H' H'' hi ⟨sm, hD'⟩ ⟨T, x', y', rfl, hT, rfl, fx, fy⟩
        have hz := ((h i x' y' fx fy).same (((s1.trans s2).trans s3).trans sm)).same (same_upd hT (o := HO.tup [x', y']))
        refine ⟨T, _, rfl, SqT.of upd_same, rfl, _, _, rfl, _, _, rfl, rfl, rfl, ?_⟩
        simp only [tYes, if_true]
        refine ⟨_, rfl, _, rfl, x', y', rfl, hz, fun H4 s4 => ⟨List.replicate i (.bl true), ?_, ?_, ?_, ?_⟩⟩
        · exact s4 _ _ (by rw [upd_ne (ne_of_none hD' hT)]; exact hD')
        · rw [List.length_replicate]
          exact small1000 (by omega)
        · intro b' o e
          rw [upd_ne (nD e)]
          exact s4 _ _ (same_upd hT _ _ (sm _ _ e))
        · rw [upd_same, ← List.replicate_succ']
      · rintro H' ⟨sm, hD'⟩
        refine ⟨D, List.replicate xs.length true, rfl, ?_, ?_⟩
        · rw [List.map_replicate]
          exact SqL.of hD'
        · have e : (List.replicate xs.length true).all id = true := by
            rw [List.all_eq_true]
            intro x hx
            exact (List.eq_of_mem_replicate hx)
          rw [e]
          exact k _ (((s1.trans s2).trans s3).trans sm)
    | @tup m p q xs ys hp hq hl hb h =>
      obtain ⟨fdI, GI, bI⟩ : ∃ fdI, FnOk P w K mg base CX0 (m + 4) (He.ga K "_law_same") fdI ["_law_found", "_law_due"] (spSame K m) ∧ Binds K fdI ["_law_found", "_law_due"] [] := by
        rcases deep with e | ⟨m', fd', e, G, b⟩
        · cases e
        · cases e
          exact ⟨fd', G, b⟩
      have hI : Room (m + 4) _ := hr.mono (by omega)
      refine ⟨_, PSs.nox (pss_cons (ps_set (i := 2) scSame.nd rfl (Or.inl rfl) (pe_lst (pa_cons (pe_callB isi_1 (by rfl) W.f_isinstance boot_isinstance (pa_cons (pv 0) (pa_cons (pe_bltn (v := .ty "list") (by rfl) W.f_list (by decide +kernel) rfl) pa_nil))) (pa_cons (pe_callB isi_1 (by rfl) W.f_isinstance boot_isinstance (pa_cons (pv 0) (pa_cons (pe_bltn (v := .ty "tuple") (by rfl) W.f_tuple (by decide +kernel) rfl) pa_nil))) pa_nil))))
    (pss_cons (ps_if (pt_val (pe_callB isi_2 (by rfl) W.f_isinstance boot_isinstance (pa_cons (pv 1) (pa_cons (pe_tup (pa_cons (pe_bltn (v := .ty "list") (by rfl) W.f_list (by decide +kernel) rfl) (pa_cons (pe_bltn (v := .ty "tuple") (by rfl) W.f_tuple (by decide +kernel) rfl) pa_nil))) pa_nil)))) (pss_cons (ps_if (PW.pt (pw_or (pt_cmpR (op_ne2 hr.units) (pv 2) (pe_lst (pa_cons (pe_callB isi_1 (by rfl) W.f_isinstance boot_isinstance (pa_cons (pv 1) (pa_cons (pe_bltn (v := .ty "list") (by rfl) W.f_list (by decide +kernel) rfl) pa_nil))) (pa_cons (pe_callB isi_1 (by rfl) W.f_isinstance boot_isinstance (pa_cons (pv 1) (pa_cons (pe_bltn (v := .ty "tuple") (by rfl) W.f_tuple (by decide +kernel) rfl) pa_nil))) pa_nil))) (nomark _)) (pw_or1 (pt_cmpR op_ne (pe_callB len_tupH (by rfl) W.f_len boot_len (pa_cons (pv 0) pa_nil)) (pe_callB len_tupH (by rfl) W.f_len boot_len (pa_cons (pv 1) pa_nil)) (nomark _))))) (pss_one (ps_ret pe_bl)) pss_nil)
    (pss_one (ps_ret (pe_callB (cr_all rfl) (by rfl) W.f_all boot_all (pa_cons (pe_lc (own := [("_law_left", 3), ("_law_right", 4)]) (g := gTup K 2 (gCons (gName 3) (gCons (gName 4) gNil))) (tt := tYes) rfl scSame.nd (RZ.pi_zipA (by rfl) W.f_zip (pa_cons (pv 0) (pa_cons (pv 1) pa_nil))) (blkOk_by (N := ["_law_found", "_law_due", "_law_kinds", "_law_left", "_law_right"]) (sc := defScope s_same) (by decide +kernel))
            (fun _ _ _ _ _ => (pg_tup rfl (pgs_cons (pg_name (i := 3) scSame.nd rfl (Or.inl rfl)) (pgs_cons (pg_name (i := 4) scSame.nd rfl (Or.inl rfl)) pgs_nil)))) (fun _ _ _ _ _ => pts_nil)
            (fun _ _ _ _ _ => (pe_call GI hI rfl W.g_law_same F.kp bI .nil pass0 (pa_cons (pv 3) (pa_cons (pv 4) pa_nil))))) pa_nil))))) pss_nil)
    pss_never)), ?_⟩
      simp -dsimp [tSeq, tAsg, tRet, tIfS, tIf, tTest, tVar, tCons, tNil, tC, tOp, tUn, rI, rI0, rU, tCB, tLst_A, tTup_A, gName, L2.start, CMul, CPow, CDiv, tDrop, tBM, tBM0, tNext, tPar, gSub, rSetL, rIxL, rIxT, tChain, tB, tNot, tNotV, tAnd, tOr, tAndV, tOrV, tFld, tCall, rIxLH, rIxTH, atI, ixN, upd_same, cxK, ex2, ex3, ex3b, rIs1, rIs2, rNe2, tyN, kb1, kb2, kb3, kb4, kb5, kb6, rEq, rNe, scal, tMake_S, tMakeK_S, tMakeN_S, kb5, kb6, hp, hq, hl]
      refine ⟨le2, Alloc.of fun p1 H1 n1 e1 s1 => ?_⟩
      have hp1 := s1 _ _ hp
      have hq1 := s1 _ _ hq
      try simp -dsimp [tSeq, tAsg, tRet, tIfS, tIf, tTest, tVar, tCons, tNil, tC, tOp, tUn, rI, rI0, rU, tCB, tLst_A, tTup_A, gName, L2.start, CMul, CPow, CDiv, tDrop, tBM, tBM0, tNext, tPar, gSub, rSetL, rIxL, rIxT, tChain, tB, tNot, tNotV, tAnd, tOr, tAndV, tOrV, tFld, tCall, rIxLH, rIxTH, atI, ixN, upd_same, cxK, ex2, ex3, ex3b, rIs1, rIs2, rNe2, tyN, kb1, kb2, kb3, kb4, kb5, kb6, rEq, rNe, scal, tMake_S, tMakeK_S, tMakeN_S]
      refine ⟨le2, Alloc.of fun p2 H2 n2 e2 s2 => ?_⟩
      have hp2 := s2 _ _ hp1
      have hq2 := s2 _ _ hq1
      have e12 := s2 _ _ e1
      simp -dsimp [tSeq, tAsg, tRet, tIfS, tIf, tTest, tVar, tCons, tNil, tC, tOp, tUn, rI, rI0, rU, tCB, tLst_A, tTup_A, gName, L2.start, CMul, CPow, CDiv, tDrop, tBM, tBM0, tNext, tPar, gSub, rSetL, rIxL, rIxT, tChain, tB, tNot, tNotV, tAnd, tOr, tAndV, tOrV, tFld, tCall, rIxLH, rIxTH, atI, ixN, upd_same, cxK, ex2, ex3, ex3b, rIs1, rIs2, rNe2, tyN, kb1, kb2, kb3, kb4, kb5, kb6, rEq, rNe, scal, tMake_S, tMakeK_S, tMakeN_S, kb5, kb6, e2, hp2, hq2]
      refine ⟨le2, Alloc.of fun p3 H3 n3 e3 s3 => ?_⟩
      have hp3 := s3 _ _ hp2
      have hq3 := s3 _ _ hq2
      have e13 := s3 _ _ e12
      simp -dsimp [tSeq, tAsg, tRet, tIfS, tIf, tTest, tVar, tCons, tNil, tC, tOp, tUn, rI, rI0, rU, tCB, tLst_A, tTup_A, gName, L2.start, CMul, CPow, CDiv, tDrop, tBM, tBM0, tNext, tPar, gSub, rSetL, rIxL, rIxT, tChain, tB, tNot, tNotV, tAnd, tOr, tAndV, tOrV, tFld, tCall, rIxLH, rIxTH, atI, ixN, upd_same, cxK, ex2, ex3, ex3b, rIs1, rIs2, rNe2, tyN, kb1, kb2, kb3, kb4, kb5, kb6, rEq, rNe, scal, tMake_S, tMakeK_S, tMakeN_S, kb5, kb6, e3, hp3, hq3, e13, hl]
      refine ⟨_, rfl, _, rfl, p, q, _, _, rfl, .inr ⟨SqT.of hp3, SqT.of hq3, fun D hD => ?_⟩⟩
      have nD : ∀ {b : Addr} {o : HO}, H3 b = some o → b ≠ D := fun e => ne_of_none e hD
      refine lc_it (walk_zipT (xs := xs) (ys := ys) (n := xs.length) rfl hl.symm) (fun i H' => Same H3 H' ∧ H' D = some (.lst (List.replicate i (.bl true)))) ⟨same_upd hD, upd_same⟩ (fun i H' _ h => ⟨SqT.of (h.1 _ _ hp3), SqT.of (h.1 _ _ hq3)⟩) ?_ ?_
      · rintro i x H' H'' hi ⟨sm, hD'⟩ ⟨T, x', y', rfl, hT, rfl, fx, fy⟩
        have hz := ((h i x' y' fx fy).same (((s1.trans s2).trans s3).trans sm)).same (same_upd hT (o := HO.tup [x', y']))
        refine ⟨T, _, rfl, SqT.of upd_same, rfl, _, _, rfl, _, _, rfl, rfl, rfl, ?_⟩
        simp only [tYes, if_true]
        refine ⟨_, rfl, _, rfl, x', y', rfl, hz, fun H4 s4 => ⟨List.replicate i (.bl true), ?_, ?_, ?_, ?_⟩⟩
        · exact s4 _ _ (by rw [upd_ne (ne_of_none hD' hT)]; exact hD')
        · rw [List.length_replicate]
          exact small1000 (by omega)
        · intro b' o e
          rw [upd_ne (nD e)]
          exact s4 _ _ (same_upd hT _ _ (sm _ _ e))
        · rw [upd_same, ← List.replicate_succ']
      · rintro H' ⟨sm, hD'⟩
        refine ⟨D, List.replicate xs.length true, rfl, ?_, ?_⟩
        · rw [List.map_replicate]
          exact SqL.of hD'
        · have e : (List.replicate xs.length true).all id = true := by
            rw [List.all_eq_true]
            intro x hx
            exact (List.eq_of_mem_replicate hx)
          rw [e]
          exact k _ (((s1.trans s2).trans s3).trans sm)
theorem ok_same (W : Wd K mg) (n : Nat) : ∃ fd, FnOk P w K mg base CX0 (n + 4) (He.ga K "_law_same") fd ["_law_found", "_law_due"] (spSame K n) ∧ Binds K fd ["_law_found", "_law_due"] [] := by
  induction n with
  | zero => exact ok_same0 W 0 (.inl rfl)
  | succ n ih =>
    obtain ⟨fd, G, b⟩ := ih
    exact ok_same0 W (n + 1) (.inr ⟨n, fd, rfl, G, b⟩)
end
/-! ### comprehensions whose items keep what is there -/
/-- all but what stands at l is kept -/
def SameN (l : Addr) (H H' : Hp) : Prop := ∀ b o, b ≠ l → H b = some o → H' b = some o
theorem SameN.of {l : Addr} {H H' : Hp} (h : Same H H') : SameN l H H' := fun b o _ e => h b o e
theorem SameN.trans {l : Addr} {H1 H2 H3 : Hp} (h : SameN l H1 H2) (k : SameN l H2 H3) : SameN l H1 H3 := fun b o n e => k b o n (h b o n e)
theorem SameN.upd {l : Addr} {H : Hp} {o : HO} : SameN l H (upd H l o) := fun b u n e => by rw [upd_ne n]; exact e
/-- what a list at D doesn't matter to -/
def Mono (P : V → Hp → Prop) : Prop := ∀ (D : Addr) (xs : List V) (v : V) (H H' : Hp), H D = some (.lst xs) → SameN D H H' → P v H → P v H'
/-- one item more -/
theorem lc_step {P : Nat → V → Hp → Prop} {D : Addr} {H H' : Hp} {i : Nat} {vs : List V} {R : Hp → Prop} (mono : ∀ j, Mono (P j)) (sm : Same H H') (hD : H D = none) (hl : vs.length = i) (hi : i < 1000) (dD : H' D = some (.lst vs)) (hs : ∀ (j : Nat) (v : V), vs[j]? = some v → P j v H')
    (k : ∀ H2, (Same H H2 ∧ ∃ vs : List V, vs.length = i + 1 ∧ H2 D = some (.lst vs) ∧ ∀ (j : Nat) (v : V), vs[j]? = some v → P j v H2) → R H2) (y : V) (H4 : Hp) (s4 : Same H' H4) (py : P i y H4) : ∃ acc, H4 D = some (.lst acc) ∧ acc.length < sizeLine ∧ R (upd H4 D (.lst (acc ++ [y]))) := by
  have d4 := s4 _ _ dD
  refine ⟨vs, d4, small1000 (by omega), k _ ⟨fun b o e => ?_, vs ++ [y], by simp [hl], upd_same, fun j v hj => ?_⟩⟩
  · rw [upd_ne (ne_of_none e hD)]
    exact s4 _ _ (sm _ _ e)
  · by_cases hji : j < vs.length
    · rw [List.getElem?_append_left hji] at hj
      exact mono j D vs v _ _ d4 .upd (mono j D vs v _ _ dD (.of s4) (hs j v hj))
    · rw [List.getElem?_append_right (by omega)] at hj
      have ej : j - vs.length = 0 := by
        rcases Nat.eq_zero_or_pos (j - vs.length) with h | h
        · exact h
        · rw [List.getElem?_eq_none (by simp; omega)] at hj
          cases hj
      rw [ej] at hj
      cases hj
      have : j = i := by omega
      subst this
      exact mono j D vs _ _ _ d4 .upd py
theorem lc_rng {n i0 : Nat} {te : TE} {σ : List (Option V)} {H : Hp} {Q : V → Hp → Prop} (P : Nat → V → Hp → Prop) (hn : n < 1000) (mono : ∀ j, Mono (P j)) (hw : ∀ x : V, wipe ((wipe σ [i0]).set i0 (some x)) [i0] = wipe σ [i0])
    (he : ∀ (j : Nat) (H' : Hp) (R : V → Hp → Prop), j < n → Same H H' → (∀ y H4, Same H' H4 → P j y H4 → R y H4) → te ((wipe σ [i0]).set i0 (some (.int (j : Int)))) H' R)
    (hq : ∀ (D : Addr) (H' : Hp) (vs : List V), Same H H' → vs.length = n → H' D = some (.lst vs) → (∀ (j : Nat) (v : V), vs[j]? = some v → P j v H') → Q (.ref D) H') : tLc (iRng1 (tCons (tC (V.int (n : Int))) tNil)) (gName i0) tYes te [i0] σ H Q := by
  refine ⟨(n : Int), rfl, by omega, by omega, fun D hD => ?_⟩
  rw [Int.toNat_natCast]
  refine lc_it (walk_range (lo := 0) (n := n)) (fun i H' => Same H H' ∧ ∃ vs : List V, vs.length = i ∧ H' D = some (.lst vs) ∧ ∀ (j : Nat) (v : V), vs[j]? = some v → P j v H') ⟨same_upd hD, [], rfl, upd_same, fun j a e => by simp at e⟩ (fun _ _ _ _ => True.intro) ?_ ?_
  · rintro i x H' H'' hi ⟨sm, vs, hl, dD, hs⟩ ⟨rfl, rfl⟩
    refine ⟨hw _, ?_⟩
    simp only [tYes, if_true]
    rw [Int.zero_add]
    exact he i H'' _ hi sm (lc_step mono sm hD hl (by omega) dD hs fun _ h => h)
  · rintro H' ⟨sm, vs, hl, dD, hs⟩
    exact hq D H' vs sm hl dD hs
/-- over the list at a -/
theorem lc_lst {K : PySem.W.Frag} {i0 : Nat} {tl : TE} {te : TE} {σ : List (Option V)} {H : Hp} {Q : V → Hp → Prop} (a : Addr) (xs : List V) (P : Nat → V → Hp → Prop) (hn : xs.length < 1000) (mono : ∀ j, Mono (P j)) (hw : ∀ x : V, wipe ((wipe σ [i0]).set i0 (some x)) [i0] = wipe σ [i0])
    (ha : H a = some (.lst xs)) (htl : ∀ R : V → Hp → Prop, R (.ref a) H → tl σ H R)
    (he : ∀ (j : Nat) (x : V) (H' : Hp) (R : V → Hp → Prop), xs[j]? = some x → Same H H' → (∀ y H4, Same H' H4 → P j y H4 → R y H4) → te ((wipe σ [i0]).set i0 (some x)) H' R)
    (hq : ∀ (D : Addr) (H' : Hp) (vs : List V), Same H H' → vs.length = xs.length → H' D = some (.lst vs) → (∀ (j : Nat) (v : V), vs[j]? = some v → P j v H') → Q (.ref D) H') : tLc (iList K tl) (gName i0) tYes te [i0] σ H Q := by
  refine htl _ ⟨a, rfl, ⟨xs, SqL.of ha⟩, fun D hD => ?_⟩
  refine lc_it (walk_list (K := K) (a := a) (xs := xs)) (fun i H' => Same H H' ∧ ∃ vs : List V, vs.length = i ∧ H' D = some (.lst vs) ∧ ∀ (j : Nat) (v : V), vs[j]? = some v → P j v H') ⟨same_upd hD, [], rfl, upd_same, fun j a e => by simp at e⟩ (fun _ _ _ h => SqL.of (h.1 _ _ ha)) ?_ ?_
  · rintro i x H' H'' hi ⟨sm, vs, hl, dD, hs⟩ ⟨rfl, fx⟩
    refine ⟨hw _, ?_⟩
    simp only [tYes, if_true]
    exact he i x _ _ fx sm (lc_step mono sm hD hl (by omega) dD hs fun _ h => h)
  · rintro H' ⟨sm, vs, hl, dD, hs⟩
    exact hq D H' vs sm hl dD hs
/-- over two tuples side by side -/
theorem lc_zip2 {K : PySem.W.Frag} {i0 i1 : Nat} {ta : TA} {te : TE} {σ : List (Option V)} {H : Hp} {Q : V → Hp → Prop} (a b : Addr) (xs ys : List V) (P : Nat → V → Hp → Prop) (hl : xs.length = ys.length) (hn : xs.length < 1000) (mono : ∀ j, Mono (P j))
    (hw : ∀ x y : V, wipe (((wipe σ [i0, i1]).set i0 (some x)).set i1 (some y)) [i0, i1] = wipe σ [i0, i1]) (ha : H a = some (.tup xs)) (hb : H b = some (.tup ys)) (hta : ∀ R : List V → Hp → Prop, R [.ref a, .ref b] H → ta σ H R)
    (he : ∀ (j : Nat) (x y : V) (H' : Hp) (R : V → Hp → Prop), xs[j]? = some x → ys[j]? = some y → Same H H' → (∀ v H4, Same H' H4 → P j v H4 → R v H4) → te (((wipe σ [i0, i1]).set i0 (some x)).set i1 (some y)) H' R)
    (hq : ∀ (D : Addr) (H' : Hp) (vs : List V), Same H H' → vs.length = xs.length → H' D = some (.lst vs) → (∀ (j : Nat) (v : V), vs[j]? = some v → P j v H') → Q (.ref D) H') : tLc (RZ.iZipA K ta) (gTup K 2 (gCons (gName i0) (gCons (gName i1) gNil))) tYes te [i0, i1] σ H Q := by
  refine hta _ ⟨a, b, xs, ys, rfl, .inr ⟨SqT.of ha, SqT.of hb, fun D hD => ?_⟩⟩
  refine lc_it (walk_zipT (K := K) (a := a) (b := b) (xs := xs) (ys := ys) (n := xs.length) rfl hl.symm) (fun i H' => Same H H' ∧ ∃ vs : List V, vs.length = i ∧ H' D = some (.lst vs) ∧ ∀ (j : Nat) (v : V), vs[j]? = some v → P j v H') ⟨same_upd hD, [], rfl, upd_same, fun j a e => by simp at e⟩ (fun _ _ _ h => ⟨SqT.of (h.1 _ _ ha), SqT.of (h.1 _ _ hb)⟩) ?_ ?_
  · rintro i x H' H'' hi ⟨sm, vs, hl, dD, hs⟩ ⟨T, x', y', rfl, hT, rfl, fx, fy⟩
    refine ⟨T, _, rfl, SqT.of upd_same, rfl, _, _, rfl, _, _, rfl, rfl, hw _ _, ?_⟩
    simp only [tYes, if_true]
    have sT : Same H' (upd H' T (HO.tup [x', y'])) := same_upd hT
    exact he i x' y' _ _ fx fy (sm.trans sT) fun v H4 s4 p => lc_step mono sm hD hl (by omega) dD hs (fun _ h => h) v H4 (sT.trans s4) p
  · rintro H' ⟨sm, vs, hl, dD, hs⟩
    exact hq D H' vs sm hl dD hs
/-- over the tuple at a -/
theorem lc_tup {K : PySem.W.Frag} {i0 : Nat} {tl : TE} {te : TE} {σ : List (Option V)} {H : Hp} {Q : V → Hp → Prop} (a : Addr) (xs : List V) (P : Nat → V → Hp → Prop) (hn : xs.length < 1000) (mono : ∀ j, Mono (P j)) (hw : ∀ x : V, wipe ((wipe σ [i0]).set i0 (some x)) [i0] = wipe σ [i0])
    (ha : H a = some (.tup xs)) (htl : ∀ R : V → Hp → Prop, R (.ref a) H → tl σ H R)
    (he : ∀ (j : Nat) (x : V) (H' : Hp) (R : V → Hp → Prop), xs[j]? = some x → Same H H' → (∀ y H4, Same H' H4 → P j y H4 → R y H4) → te ((wipe σ [i0]).set i0 (some x)) H' R)
    (hq : ∀ (D : Addr) (H' : Hp) (vs : List V), Same H H' → vs.length = xs.length → H' D = some (.lst vs) → (∀ (j : Nat) (v : V), vs[j]? = some v → P j v H') → Q (.ref D) H') : tLc (iTup K tl) (gName i0) tYes te [i0] σ H Q := by
  refine htl _ ⟨a, rfl, ⟨xs, SqT.of ha⟩, fun D hD => ?_⟩
  refine lc_it (walk_tup (K := K) (a := a) (xs := xs)) (fun i H' => Same H H' ∧ ∃ vs : List V, vs.length = i ∧ H' D = some (.lst vs) ∧ ∀ (j : Nat) (v : V), vs[j]? = some v → P j v H') ⟨same_upd hD, [], rfl, upd_same, fun j a e => by simp at e⟩ (fun _ _ _ h => SqT.of (h.1 _ _ ha)) ?_ ?_
  · rintro i x H' H'' hi ⟨sm, vs, hl, dD, hs⟩ ⟨rfl, fx⟩
    refine ⟨hw _, ?_⟩
    simp only [tYes, if_true]
    exact he i x _ _ fx sm (lc_step mono sm hD hl (by omega) dD hs fun _ h => h)
  · rintro H' ⟨sm, vs, hl, dD, hs⟩
    exact hq D H' vs sm hl dD hs
/-! ### numbers as pairs -/
theorem h_of {n : Nat} (h : n < 10 ^ 60) : n < bigH := Nat.lt_of_lt_of_le h (by unfold bigH; exact Nat.le_trans (by decide : (10 : Nat) ^ 60 ≤ 2 ^ 200) (Nat.pow_le_pow_right (by decide) (by decide)))
def lo (x y : Int) : Int × Int := (x.fdiv (side x y), y.fdiv (side x y))
def pAdd (p q : Int × Int) : Int × Int := lo (fAdd p.1 p.2 q.1 q.2) (gMul p.1 p.2 q.1 q.2)
def pSub (p q : Int × Int) : Int × Int := lo (fSub p.1 p.2 q.1 q.2) (gMul p.1 p.2 q.1 q.2)
def pMul (p q : Int × Int) : Int × Int := lo (fMul p.1 p.2 q.1 q.2) (gMul p.1 p.2 q.1 q.2)
/-- two numbers that may be reckoned with -/
def Ok2 (p q : Int × Int) : Prop := SmP p q ∧ p.2 ≠ 0 ∧ q.2 ≠ 0
theorem Ok2.nz {p q : Int × Int} (h : Ok2 p q) : gMul p.1 p.2 q.1 q.2 ≠ 0 := Int.mul_ne_zero h.2.1 h.2.2
theorem Ok2.swap {p q : Int × Int} (h : Ok2 p q) : Ok2 q p := ⟨sm_swap h.1, h.2.2, h.2.1⟩
/-- x op y, x a share -/
def rS (K : PySem.W.Frag) (f : Int × Int → Int × Int → Int × Int) : R2 := fun x y H Q => ∃ (z : Addr) (p q : Int × Int), x = .ref z ∧ IsS K H z p ∧ Nu K H y q.1 q.2 ∧ Ok2 p q ∧ ∀ (z' : Addr) (H' : Hp), Same H H' → IsS K H' z' (f p q) → Q (.ref z') H'
section
variable {X : Cx}
theorem Wd.sAdd (W : Wd X.K X.mg) (hr : Room 4 X.A) : OpR X (binaryOp .Add) (rS X.K pAdd) := by
  obtain ⟨f1, G1, b1⟩ := ok_add (P := X.prog) (w := X.w) (base := X.base) W
  intro pins s σ H x y v u Q I rx ry h
  obtain ⟨z, p, q, rfl, hz, hy, ok, k⟩ := h
  obtain ⟨dx, hd⟩ := id hz
  exact op_L W.opAdd (raw0 G1 b1) hr pass0 pins s σ H _ _ v u Q I rx ry ⟨z, dx, _, rfl, hd, hy.ins, z, y, p.1, p.2, q.1, q.2, rfl, hz, hy, ok.1, ok.nz, fun z' H' s' i => k z' H' s' i⟩
theorem Wd.sSub (W : Wd X.K X.mg) (hr : Room 4 X.A) : OpR X (binaryOp .Sub) (rS X.K pSub) := by
  obtain ⟨f1, G1, b1⟩ := ok_sub (P := X.prog) (w := X.w) (base := X.base) W
  intro pins s σ H x y v u Q I rx ry h
  obtain ⟨z, p, q, rfl, hz, hy, ok, k⟩ := h
  obtain ⟨dx, hd⟩ := id hz
  exact op_L W.opSub (raw0 G1 b1) hr pass0 pins s σ H _ _ v u Q I rx ry ⟨z, dx, _, rfl, hd, hy.ins, z, y, p.1, p.2, q.1, q.2, rfl, hz, hy, ok.1, ok.nz, fun z' H' s' i => k z' H' s' i⟩
theorem Wd.sMul (W : Wd X.K X.mg) (hr : Room 4 X.A) : OpR X (binaryOp .Mult) (rS X.K pMul) := by
  obtain ⟨f1, G1, b1⟩ := ok_mul (P := X.prog) (w := X.w) (base := X.base) W
  intro pins s σ H x y v u Q I rx ry h
  obtain ⟨z, p, q, rfl, hz, hy, ok, k⟩ := h
  obtain ⟨dx, hd⟩ := id hz
  exact op_L W.opMul (raw0 G1 b1) hr pass0 pins s σ H _ _ v u Q I rx ry ⟨z, dx, _, rfl, hd, hy.ins, z, y, p.1, p.2, q.1, q.2, rfl, hz, hy, ok.1, ok.nz, fun z' H' s' i => k z' H' s' i⟩
end
/-- three shares -/
def three (p0 p1 p2 : Int × Int) (j : Nat) : Int × Int := match j with
  | 0 => p0
  | 1 => p1
  | _ => p2
def IsAt (K : PySem.W.Frag) (g : Nat → Int × Int) (j : Nat) (v : V) (H : Hp) : Prop := ∃ y, v = .ref y ∧ IsS K H y (g j)
theorem mono_S (K : PySem.W.Frag) (g : Nat → Int × Int) (j : Nat) : Mono (IsAt K g j) := fun D xs v H H' hD s ⟨y, e, dx, h⟩ => ⟨y, e, dx, s _ _ (fun e' => by rw [e', hD] at h; cases h) h⟩
/-! ### what is a term of; sums and differences of terms -/
/-- a term or a number, as a term -/
def TN (K : PySem.W.Frag) (H : Hp) (v : V) (n u0 u1 u2 : Int × Int) : Prop := (∃ y, v = .ref y ∧ IsTm K H y n u0 u1 u2) ∨ (Nu K H v n.1 n.2 ∧ u0 = (0, 1) ∧ u1 = (0, 1) ∧ u2 = (0, 1))
theorem TN.same {K : PySem.W.Frag} {H H' : Hp} {v : V} {n u0 u1 u2 : Int × Int} (h : TN K H v n u0 u1 u2) (s : Same H H') : TN K H' v n u0 u1 u2 := by
  rcases h with ⟨y, e, h⟩ | ⟨h, e⟩
  · exact .inl ⟨y, e, h.same s⟩
  · exact .inr ⟨h.same s, e⟩
section
variable {P : Program} {w : World} {K : PySem.W.Frag} {mg : Str → Option Value} {base : Heap} {fd : FuncData}
theorem Wd.nuTm (W : Wd K mg) {H : Hp} {v : V} {c d : Int} (h : Nu K H v c d) : ∃ t, TyOf K H v t ∧ NuX.KN K t true ∧ PySem.W.kitOne K t (.ref (He.ga K "Term")) = some false ∧ CmX.Beside K (He.ga K "Term") t := by
  rcases h with ⟨z, rfl, h⟩ | ⟨rfl, _⟩
  · exact ⟨_, W.isSh h, W.knS, of_decide_eq_true (W.ex 18 rfl), .inr (of_decide_eq_true (W.ex 20 rfl))⟩
  · have kT := List.all_eq_true.mp (W.ex 29 rfl)
    have cT : CmX.CmpC K (He.ga K "Term") := CmX.cmpB_ok (W.ex 22 rfl)
    exact ⟨_, .int _, W.knI, of_decide_eq_true (kT "int" (by decide)), .inr (cT.no "int" (by decide)).1⟩
def spTermOf (K : PySem.W.Frag) : Sp := fun vs H Q _ => ∃ (v : V) (n u0 u1 u2 : Int × Int), vs = [v] ∧ TN K H v n u0 u1 u2 ∧ ∀ z H', Same H H' → IsTm K H' z n u0 u1 u2 → Q (.ref z) H'
/-- a term and a term or number -/
def spT2 (K : PySem.W.Frag) (f : Int × Int → Int × Int → Int × Int) : Sp := fun vs H Q _ => ∃ (x : Addr) (v : V) (m t0 t1 t2 n u0 u1 u2 : Int × Int), vs = [.ref x, v] ∧ IsTm K H x m t0 t1 t2 ∧ TN K H v n u0 u1 u2 ∧ Ok2 m n ∧ Ok2 t0 u0 ∧ Ok2 t1 u1 ∧ Ok2 t2 u2 ∧ ∀ z H', Same H H' → IsTm K H' z (f m n) (f t0 u0) (f t1 u1) (f t2 u2) → Q (.ref z) H'
theorem spT2_len {K : PySem.W.Frag} {f : Int × Int → Int × Int → Int × Int} {vs : List V} {H : Hp} {Q : VK} {E : XK} (h : spT2 K f vs H Q E) : vs.length = 2 := by
  obtain ⟨x, v, _, _, _, _, _, _, _, _, rfl, _⟩ := h
  rfl
theorem scTermOf : FnScope ["thing"] ["thing"] d_term_of.scope := ⟨rfl, rfl, rfl, by decide +kernel, rfl, by decide +kernel, by decide +kernel⟩
theorem ok_termOf (W : Wd K mg) : ∃ fd, FnOk P w K mg base CX0 6 (He.ga K "term_of") fd ["thing"] (spTermOf K) ∧ Binds K fd ["thing"] [] := by
  obtain ⟨fd_isNum, G_isNum, b_isNum⟩ := ok_isNum (P := P) (w := w) (base := base) W
  have k_isNum : PySem.W.keepIn K (.ref (He.ga K "is_number")) = true := by obtain ⟨fd, F⟩ := W.F_is_number; exact F.kp
  obtain ⟨fd_const, G_const, b_const⟩ := ok_const (P := P) (w := w) (base := base) W
  obtain ⟨fd, F⟩ := W.F_term_of
  refine ⟨fd, F.ok scTermOf (fun vs H Q E h => ?_) (fun cdv A outer s H vs Q E hr h => ?_), FunD.bindsN F fun _ _ _ _ _ _ us hl => match us, hl with | [_], _ => rfl⟩
  · obtain ⟨v, n, u0, u1, u2, rfl, _⟩ := h
    rfl
  · obtain ⟨v, n, u0, u1, u2, rfl, h, q⟩ := h
    have r1 : Room 1 _ := hr.mono (by decide)
    have r2 : Room 2 _ := hr.mono (by decide)
    have r3 : Room 3 _ := hr.mono (by decide)
    have r4 : Room 4 _ := hr.mono (by decide)
    have r5 : Room 5 _ := hr.mono (by decide)
    refine ⟨_, PSs.nox (pss_cons (ps_if (pt_val (pe_callB isi_G (by rfl) W.f_isinstance boot_isinstance (pa_cons (pv 0) (pa_cons (pe_glob (v := .ref (He.ga K "Term")) rfl W.g_Term rfl) pa_nil)))) (pss_one (ps_ret (pv 0))) pss_nil)
    (pss_cons (ps_if (pt_val (pe_call G_isNum r2 rfl W.g_is_number k_isNum b_isNum .nil pass0 (pa_cons (pv 0) pa_nil))) (pss_one (ps_ret (StX.pe_smeth (pe_glob (v := .ref (He.ga K "Term")) rfl W.g_Term rfl) W.sm_constant G_const r5 b_const .nil pass0 (pa_cons (pv 0) pa_nil)))) pss_nil)
    (pss_one (ps_ret pe_non)))), ?_⟩
    simp -dsimp [tSeq, tAsg, tRet, tIfS, tIf, tTest, tVar, tCons, tNil, tC, tOp, tUn, rI, rI0, rU, tCB, tLst_A, tTup_A, gName, L2.start, CMul, CPow, CDiv, tDrop, tBM, tBM0, tNext, tPar, gSub, rSetL, rIxL, rIxT, tChain, tB, tNot, tNotV, tAnd, tOr, tAndV, tOrV, tFld, tCall, rIxLH, rIxTH, atI, ixN, upd_same, cxK, ex2, ex3, ex3b, rIs1, rIs2, rNe2, tyN, kb1, kb2, kb3, kb4, kb5, kb6, rEq, rNe, scal, tMake_S, tMakeK_S, tMakeN_S, StX.tSMeth]
    rcases h with ⟨y, rfl, hy⟩ | ⟨hn, rfl, rfl, rfl⟩
    · exact ⟨_, _, _, _, true, rfl, .own _, W.isTm hy, of_decide_eq_true (W.ex 30 rfl), .inr ⟨rfl, q y H (Same.refl _) hy⟩⟩
    · obtain ⟨t, ty, kn, kt, _⟩ := W.nuTm hn
      exact ⟨_, _, t, _, false, rfl, .own _, ty, kt, .inl ⟨rfl, _, t, true, rfl, ty, kn, .inr ⟨rfl, v, n.1, n.2, rfl, hn, q⟩⟩⟩
theorem scTermAdd : FnScope ["self", "other", "right", "a", "b"] ["self", "other"] d_Term_add.scope := ⟨rfl, rfl, rfl, by decide +kernel, rfl, by decide +kernel, by decide +kernel⟩
theorem ok_tadd (W : Wd K mg) : ∃ fd, FnOk P w K mg base CX0 7 (aT K "__add__") fd ["self", "other"] (spT2 K pAdd) ∧ Binds K fd ["self", "other"] [] := by
  obtain ⟨fd_tinit, G_tinit, b_tinit⟩ := ok_tinit (P := P) (w := w) (base := base) W
  obtain ⟨fd_termOf, G_termOf, b_termOf⟩ := ok_termOf (P := P) (w := w) (base := base) W
  have k_termOf : PySem.W.keepIn K (.ref (He.ga K "term_of")) = true := by obtain ⟨fd, F⟩ := W.F_term_of; exact F.kp
  obtain ⟨fd, F⟩ := W.F_Term_add
  refine ⟨fd, F.ok scTermAdd (fun vs H Q E h => ?_) (fun cdv A outer s H vs Q E hr h => ?_), FunD.bindsN F fun _ _ _ _ _ _ us hl => match us, hl with | [_, _], _ => rfl⟩
  · obtain ⟨x, v, _, _, _, _, _, _, _, _, rfl, _⟩ := h
    rfl
  · obtain ⟨x, v, m, t0, t1, t2, n, u0, u1, u2, rfl, hx, hv, ok, ok0, ok1, ok2, q⟩ := h
    have r1 : Room 1 _ := hr.mono (by decide)
    have r2 : Room 2 _ := hr.mono (by decide)
    have r3 : Room 3 _ := hr.mono (by decide)
    have r4 : Room 4 _ := hr.mono (by decide)
    have r5 : Room 5 _ := hr.mono (by decide)
    have r6 : Room 6 _ := hr.mono (by decide)
    refine ⟨_, PSs.nox (pss_cons (ps_set (i := 2) scTermAdd.nd rfl (Or.inl rfl) (pe_call G_termOf r6 rfl W.g_term_of k_termOf b_termOf .nil pass0 (pa_cons (pv 1) pa_nil)))
    (pss_cons (ps_if (pt_cmpR op_isN (pv 2) pe_non (nomark _)) pss_never pss_nil)
    (pss_one (ps_ret (pe_make W.mkr_Term G_tinit r2 rfl W.g_Term b_tinit .nil pass0 (pa_cons (pe_op (W.sAdd r4) (pe_fld (pv 0) rfl) (pe_fld (pv 2) rfl)) (pa_cons (pe_callTy call_tuple_of (by rfl) W.f_tuple (by decide +kernel) (pa_cons (pe_lc (own := [("a", 3), ("b", 4)]) (g := gTup K 2 (gCons (gName 3) (gCons (gName 4) gNil))) (tt := tYes) rfl scTermAdd.nd (RZ.pi_zipA (by rfl) W.f_zip (pa_cons (pe_fld (pv 0) rfl) (pa_cons (pe_fld (pv 2) rfl) pa_nil))) (blkOk_by (N := ["self", "other", "right", "a", "b"]) (sc := defScope s_Term_add) (by decide +kernel))
            (fun _ _ _ _ _ => (pg_tup rfl (pgs_cons (pg_name (i := 3) scTermAdd.nd rfl (Or.inl rfl)) (pgs_cons (pg_name (i := 4) scTermAdd.nd rfl (Or.inl rfl)) pgs_nil)))) (fun _ _ _ _ _ => pts_nil)
            (fun _ _ _ _ _ => (pe_op (show OpR _ _ (rS K pAdd) from W.sAdd r4) (pv 3) (pv 4)))) pa_nil)) pa_nil))))))), ?_⟩
    obtain ⟨dx, a, tp, a0, a1, a2, e1, e2, e3, e4, e5, e6⟩ := id hx
    simp -dsimp [tSeq, tAsg, tRet, tIfS, tIf, tTest, tVar, tCons, tNil, tC, tOp, tUn, rI, rI0, rU, tCB, tLst_A, tTup_A, gName, L2.start, CMul, CPow, CDiv, tDrop, tBM, tBM0, tNext, tPar, gSub, rSetL, rIxL, rIxT, tChain, tB, tNot, tNotV, tAnd, tOr, tAndV, tOrV, tFld, tCall, rIxLH, rIxTH, atI, ixN, upd_same, cxK, ex2, ex3, ex3b, rIs1, rIs2, rNe2, tyN, kb1, kb2, kb3, kb4, kb5, kb6, rEq, rNe, scal, tMake_S, tMakeK_S, tMakeN_S, tMake_T]
    refine ⟨v, n, u0, u1, u2, rfl, hv, fun z H1 s1 iz => ?_⟩
    obtain ⟨dz, b, tq, b0, b1, b2, f1, f2, f3, f4, f5, f6⟩ := id iz
    have g1 := s1 _ _ e1
    have g3 := s1 _ _ e3
    generalize hte : tOp (rS K pAdd) (tVar 3) (tVar 4) = te
    simp -dsimp [tSeq, tAsg, tRet, tIfS, tIf, tTest, tVar, tCons, tNil, tC, tOp, tUn, rI, rI0, rU, tCB, tLst_A, tTup_A, gName, L2.start, CMul, CPow, CDiv, tDrop, tBM, tBM0, tNext, tPar, gSub, rSetL, rIxL, rIxT, tChain, tB, tNot, tNotV, tAnd, tOr, tAndV, tOrV, tFld, tCall, rIxLH, rIxTH, atI, ixN, upd_same, cxK, ex2, ex3, ex3b, rIs1, rIs2, rNe2, tyN, kb1, kb2, kb3, kb4, kb5, kb6, rEq, rNe, scal, tMake_S, tMakeK_S, tMakeN_S, g1, f1, termO, W.cls_Term, W.n_Term_number, W.n_Term_times, look_num, look_tim]
    refine ⟨a, m, n, rfl, e2.same s1, .inl ⟨b, rfl, f2⟩, ok, fun c H2 s2 ic => ?_⟩
    have g1' := s2 _ _ g1
    have f1' := s2 _ _ f1
    refine lc_zip2 tp tq [.ref a0, .ref a1, .ref a2] [.ref b0, .ref b1, .ref b2] (IsAt K (three (pAdd t0 u0) (pAdd t1 u1) (pAdd t2 u2))) rfl (by show 3 < 1000; decide) (mono_S K _) (fun x y => rfl) (s2 _ _ g3) (s2 _ _ f3) (fun R h => by
      simp -dsimp [tSeq, tAsg, tRet, tIfS, tIf, tTest, tVar, tCons, tNil, tC, tOp, tUn, rI, rI0, rU, tCB, tLst_A, tTup_A, gName, L2.start, CMul, CPow, CDiv, tDrop, tBM, tBM0, tNext, tPar, gSub, rSetL, rIxL, rIxT, tChain, tB, tNot, tNotV, tAnd, tOr, tAndV, tOrV, tFld, tCall, rIxLH, rIxTH, atI, ixN, upd_same, cxK, ex2, ex3, ex3b, rIs1, rIs2, rNe2, tyN, kb1, kb2, kb3, kb4, kb5, kb6, rEq, rNe, scal, tMake_S, tMakeK_S, tMakeN_S, g1', f1', termO, W.cls_Term, W.n_Term_times, look_tim]
      exact h) (fun j x' y' H' R hx' hy' s' r => ?_) (fun D H3 vs s3 hl hD hs => ?_)
    · subst hte
      simp -dsimp [tSeq, tAsg, tRet, tIfS, tIf, tTest, tVar, tCons, tNil, tC, tOp, tUn, rI, rI0, rU, tCB, tLst_A, tTup_A, gName, L2.start, CMul, CPow, CDiv, tDrop, tBM, tBM0, tNext, tPar, gSub, rSetL, rIxL, rIxT, tChain, tB, tNot, tNotV, tAnd, tOr, tAndV, tOrV, tFld, tCall, rIxLH, rIxTH, atI, ixN, upd_same, cxK, ex2, ex3, ex3b, rIs1, rIs2, rNe2, tyN, kb1, kb2, kb3, kb4, kb5, kb6, rEq, rNe, scal, tMake_S, tMakeK_S, tMakeN_S, wipe]
      have s12 := s1.trans (s2.trans s')
      have s22 := s2.trans s'
      match j, hx', hy' with
      | 0, hx', hy' => cases hx'; cases hy'; exact ⟨a0, t0, u0, rfl, e4.same s12, .inl ⟨b0, rfl, f4.same s22⟩, ok0, fun y H4 s4 i4 => r _ _ s4 ⟨y, rfl, i4⟩⟩
      | 1, hx', hy' => cases hx'; cases hy'; exact ⟨a1, t1, u1, rfl, e5.same s12, .inl ⟨b1, rfl, f5.same s22⟩, ok1, fun y H4 s4 i4 => r _ _ s4 ⟨y, rfl, i4⟩⟩
      | 2, hx', hy' => cases hx'; cases hy'; exact ⟨a2, t2, u2, rfl, e6.same s12, .inl ⟨b2, rfl, f6.same s22⟩, ok2, fun y H4 s4 i4 => r _ _ s4 ⟨y, rfl, i4⟩⟩
    · match vs, hl with
      | [v0, v1, v2], _ =>
      obtain ⟨y0, rfl, h0⟩ := hs 0 v0 rfl
      obtain ⟨y1, rfl, h1⟩ := hs 1 v1 rfl
      obtain ⟨y2, rfl, h2⟩ := hs 2 v2 rfl
      refine ⟨D, rfl, _, .inl ⟨SqL.of hD, fun l nl => MkT.of rfl fun x' dx' H4 n4 e4' s4 => ?_⟩⟩
      have sl := same_upd nl (o := HO.tup [V.ref y0, V.ref y1, V.ref y2])
      exact q x' H4 (((s1.trans s2).trans s3).trans (sl.trans s4)) ⟨dx', c, l, y0, y1, y2, e4', ic.same (s3.trans (sl.trans s4)), s4 _ _ upd_same, h0.same (sl.trans s4), h1.same (sl.trans s4), h2.same (sl.trans s4)⟩
theorem scTermSub : FnScope ["self", "other", "right", "a", "b"] ["self", "other"] d_Term_sub.scope := ⟨rfl, rfl, rfl, by decide +kernel, rfl, by decide +kernel, by decide +kernel⟩
theorem ok_tsub (W : Wd K mg) : ∃ fd, FnOk P w K mg base CX0 7 (aT K "__sub__") fd ["self", "other"] (spT2 K pSub) ∧ Binds K fd ["self", "other"] [] := by
  obtain ⟨fd_tinit, G_tinit, b_tinit⟩ := ok_tinit (P := P) (w := w) (base := base) W
  obtain ⟨fd_termOf, G_termOf, b_termOf⟩ := ok_termOf (P := P) (w := w) (base := base) W
  have k_termOf : PySem.W.keepIn K (.ref (He.ga K "term_of")) = true := by obtain ⟨fd, F⟩ := W.F_term_of; exact F.kp
  obtain ⟨fd, F⟩ := W.F_Term_sub
  refine ⟨fd, F.ok scTermSub (fun vs H Q E h => ?_) (fun cdv A outer s H vs Q E hr h => ?_), FunD.bindsN F fun _ _ _ _ _ _ us hl => match us, hl with | [_, _], _ => rfl⟩
  · obtain ⟨x, v, _, _, _, _, _, _, _, _, rfl, _⟩ := h
    rfl
  · obtain ⟨x, v, m, t0, t1, t2, n, u0, u1, u2, rfl, hx, hv, ok, ok0, ok1, ok2, q⟩ := h
    have r1 : Room 1 _ := hr.mono (by decide)
    have r2 : Room 2 _ := hr.mono (by decide)
    have r3 : Room 3 _ := hr.mono (by decide)
    have r4 : Room 4 _ := hr.mono (by decide)
    have r5 : Room 5 _ := hr.mono (by decide)
    have r6 : Room 6 _ := hr.mono (by decide)
    refine ⟨_, PSs.nox (pss_cons (ps_set (i := 2) scTermSub.nd rfl (Or.inl rfl) (pe_call G_termOf r6 rfl W.g_term_of k_termOf b_termOf .nil pass0 (pa_cons (pv 1) pa_nil)))
    (pss_cons (ps_if (pt_cmpR op_isN (pv 2) pe_non (nomark _)) pss_never pss_nil)
    (pss_one (ps_ret (pe_make W.mkr_Term G_tinit r2 rfl W.g_Term b_tinit .nil pass0 (pa_cons (pe_op (W.sSub r4) (pe_fld (pv 0) rfl) (pe_fld (pv 2) rfl)) (pa_cons (pe_callTy call_tuple_of (by rfl) W.f_tuple (by decide +kernel) (pa_cons (pe_lc (own := [("a", 3), ("b", 4)]) (g := gTup K 2 (gCons (gName 3) (gCons (gName 4) gNil))) (tt := tYes) rfl scTermSub.nd (RZ.pi_zipA (by rfl) W.f_zip (pa_cons (pe_fld (pv 0) rfl) (pa_cons (pe_fld (pv 2) rfl) pa_nil))) (blkOk_by (N := ["self", "other", "right", "a", "b"]) (sc := defScope s_Term_sub) (by decide +kernel))
            (fun _ _ _ _ _ => (pg_tup rfl (pgs_cons (pg_name (i := 3) scTermSub.nd rfl (Or.inl rfl)) (pgs_cons (pg_name (i := 4) scTermSub.nd rfl (Or.inl rfl)) pgs_nil)))) (fun _ _ _ _ _ => pts_nil)
            (fun _ _ _ _ _ => (pe_op (show OpR _ _ (rS K pSub) from W.sSub r4) (pv 3) (pv 4)))) pa_nil)) pa_nil))))))), ?_⟩
    obtain ⟨dx, a, tp, a0, a1, a2, e1, e2, e3, e4, e5, e6⟩ := id hx
    simp -dsimp [tSeq, tAsg, tRet, tIfS, tIf, tTest, tVar, tCons, tNil, tC, tOp, tUn, rI, rI0, rU, tCB, tLst_A, tTup_A, gName, L2.start, CMul, CPow, CDiv, tDrop, tBM, tBM0, tNext, tPar, gSub, rSetL, rIxL, rIxT, tChain, tB, tNot, tNotV, tAnd, tOr, tAndV, tOrV, tFld, tCall, rIxLH, rIxTH, atI, ixN, upd_same, cxK, ex2, ex3, ex3b, rIs1, rIs2, rNe2, tyN, kb1, kb2, kb3, kb4, kb5, kb6, rEq, rNe, scal, tMake_S, tMakeK_S, tMakeN_S, tMake_T]
    refine ⟨v, n, u0, u1, u2, rfl, hv, fun z H1 s1 iz => ?_⟩
    obtain ⟨dz, b, tq, b0, b1, b2, f1, f2, f3, f4, f5, f6⟩ := id iz
    have g1 := s1 _ _ e1
    have g3 := s1 _ _ e3
    generalize hte : tOp (rS K pSub) (tVar 3) (tVar 4) = te
    simp -dsimp [tSeq, tAsg, tRet, tIfS, tIf, tTest, tVar, tCons, tNil, tC, tOp, tUn, rI, rI0, rU, tCB, tLst_A, tTup_A, gName, L2.start, CMul, CPow, CDiv, tDrop, tBM, tBM0, tNext, tPar, gSub, rSetL, rIxL, rIxT, tChain, tB, tNot, tNotV, tAnd, tOr, tAndV, tOrV, tFld, tCall, rIxLH, rIxTH, atI, ixN, upd_same, cxK, ex2, ex3, ex3b, rIs1, rIs2, rNe2, tyN, kb1, kb2, kb3, kb4, kb5, kb6, rEq, rNe, scal, tMake_S, tMakeK_S, tMakeN_S, g1, f1, termO, W.cls_Term, W.n_Term_number, W.n_Term_times, look_num, look_tim]
    refine ⟨a, m, n, rfl, e2.same s1, .inl ⟨b, rfl, f2⟩, ok, fun c H2 s2 ic => ?_⟩
    have g1' := s2 _ _ g1
    have f1' := s2 _ _ f1
    refine lc_zip2 tp tq [.ref a0, .ref a1, .ref a2] [.ref b0, .ref b1, .ref b2] (IsAt K (three (pSub t0 u0) (pSub t1 u1) (pSub t2 u2))) rfl (by show 3 < 1000; decide) (mono_S K _) (fun x y => rfl) (s2 _ _ g3) (s2 _ _ f3) (fun R h => by
      simp -dsimp [tSeq, tAsg, tRet, tIfS, tIf, tTest, tVar, tCons, tNil, tC, tOp, tUn, rI, rI0, rU, tCB, tLst_A, tTup_A, gName, L2.start, CMul, CPow, CDiv, tDrop, tBM, tBM0, tNext, tPar, gSub, rSetL, rIxL, rIxT, tChain, tB, tNot, tNotV, tAnd, tOr, tAndV, tOrV, tFld, tCall, rIxLH, rIxTH, atI, ixN, upd_same, cxK, ex2, ex3, ex3b, rIs1, rIs2, rNe2, tyN, kb1, kb2, kb3, kb4, kb5, kb6, rEq, rNe, scal, tMake_S, tMakeK_S, tMakeN_S, g1', f1', termO, W.cls_Term, W.n_Term_times, look_tim]
      exact h) (fun j x' y' H' R hx' hy' s' r => ?_) (fun D H3 vs s3 hl hD hs => ?_)
    · subst hte
      simp -dsimp [tSeq, tAsg, tRet, tIfS, tIf, tTest, tVar, tCons, tNil, tC, tOp, tUn, rI, rI0, rU, tCB, tLst_A, tTup_A, gName, L2.start, CMul, CPow, CDiv, tDrop, tBM, tBM0, tNext, tPar, gSub, rSetL, rIxL, rIxT, tChain, tB, tNot, tNotV, tAnd, tOr, tAndV, tOrV, tFld, tCall, rIxLH, rIxTH, atI, ixN, upd_same, cxK, ex2, ex3, ex3b, rIs1, rIs2, rNe2, tyN, kb1, kb2, kb3, kb4, kb5, kb6, rEq, rNe, scal, tMake_S, tMakeK_S, tMakeN_S, wipe]
      have s12 := s1.trans (s2.trans s')
      have s22 := s2.trans s'
      match j, hx', hy' with
      | 0, hx', hy' => cases hx'; cases hy'; exact ⟨a0, t0, u0, rfl, e4.same s12, .inl ⟨b0, rfl, f4.same s22⟩, ok0, fun y H4 s4 i4 => r _ _ s4 ⟨y, rfl, i4⟩⟩
      | 1, hx', hy' => cases hx'; cases hy'; exact ⟨a1, t1, u1, rfl, e5.same s12, .inl ⟨b1, rfl, f5.same s22⟩, ok1, fun y H4 s4 i4 => r _ _ s4 ⟨y, rfl, i4⟩⟩
      | 2, hx', hy' => cases hx'; cases hy'; exact ⟨a2, t2, u2, rfl, e6.same s12, .inl ⟨b2, rfl, f6.same s22⟩, ok2, fun y H4 s4 i4 => r _ _ s4 ⟨y, rfl, i4⟩⟩
    · match vs, hl with
      | [v0, v1, v2], _ =>
      obtain ⟨y0, rfl, h0⟩ := hs 0 v0 rfl
      obtain ⟨y1, rfl, h1⟩ := hs 1 v1 rfl
      obtain ⟨y2, rfl, h2⟩ := hs 2 v2 rfl
      refine ⟨D, rfl, _, .inl ⟨SqL.of hD, fun l nl => MkT.of rfl fun x' dx' H4 n4 e4' s4 => ?_⟩⟩
      have sl := same_upd nl (o := HO.tup [V.ref y0, V.ref y1, V.ref y2])
      exact q x' H4 (((s1.trans s2).trans s3).trans (sl.trans s4)) ⟨dx', c, l, y0, y1, y2, e4', ic.same (s3.trans (sl.trans s4)), s4 _ _ upd_same, h0.same (sl.trans s4), h1.same (sl.trans s4), h2.same (sl.trans s4)⟩
end
/-! ### multiples of terms -/
section
variable {P : Program} {w : World} {K : PySem.W.Frag} {mg : Str → Option Value} {base : Heap} {fd : FuncData}
/-- a term times a number -/
def spTM (K : PySem.W.Frag) : Sp := fun vs H Q _ => ∃ (x : Addr) (v : V) (m t0 t1 t2 n : Int × Int), vs = [.ref x, v] ∧ IsTm K H x m t0 t1 t2 ∧ Nu K H v n.1 n.2 ∧ Ok2 m n ∧ Ok2 t0 n ∧ Ok2 t1 n ∧ Ok2 t2 n ∧ ∀ z H', Same H H' → IsTm K H' z (pMul m n) (pMul t0 n) (pMul t1 n) (pMul t2 n) → Q (.ref z) H'
theorem scTermMul : FnScope ["self", "other", "times"] ["self", "other"] d_Term_mul.scope := ⟨rfl, rfl, rfl, by decide +kernel, rfl, by decide +kernel, by decide +kernel⟩
theorem ok_tmul (W : Wd K mg) : ∃ fd, FnOk P w K mg base CX0 5 (aT K "__mul__") fd ["self", "other"] (spTM K) ∧ Binds K fd ["self", "other"] [] := by
  obtain ⟨fd_tinit, G_tinit, b_tinit⟩ := ok_tinit (P := P) (w := w) (base := base) W
  obtain ⟨fd_isNum, G_isNum, b_isNum⟩ := ok_isNum (P := P) (w := w) (base := base) W
  have k_isNum : PySem.W.keepIn K (.ref (He.ga K "is_number")) = true := by obtain ⟨fd, F⟩ := W.F_is_number; exact F.kp
  obtain ⟨fd, F⟩ := W.F_Term_mul
  refine ⟨fd, F.ok scTermMul (fun vs H Q E h => ?_) (fun cdv A outer s H vs Q E hr h => ?_), FunD.bindsN F fun _ _ _ _ _ _ us hl => match us, hl with | [_, _], _ => rfl⟩
  · obtain ⟨x, v, _, _, _, _, _, rfl, _⟩ := h
    rfl
  · obtain ⟨x, v, m, t0, t1, t2, n, rfl, hx, hn, ok, ok0, ok1, ok2, q⟩ := h
    have r1 : Room 1 _ := hr.mono (by decide)
    have r2 : Room 2 _ := hr.mono (by decide)
    have r3 : Room 3 _ := hr.mono (by decide)
    have r4 : Room 4 _ := hr.mono (by decide)
    refine ⟨_, PSs.nox (pss_cons (ps_if (pt_val (pe_callB isi_G (by rfl) W.f_isinstance boot_isinstance (pa_cons (pv 1) (pa_cons (pe_glob (v := .ref (He.ga K "Term")) rfl W.g_Term rfl) pa_nil)))) pss_never pss_nil)
    (pss_cons (ps_if (pt_not (pt_val (pe_call G_isNum r2 rfl W.g_is_number k_isNum b_isNum .nil pass0 (pa_cons (pv 1) pa_nil)))) pss_never pss_nil)
    (pss_one (ps_ret (pe_make W.mkr_Term G_tinit r2 rfl W.g_Term b_tinit .nil pass0 (pa_cons (pe_op (W.sMul hr) (pe_fld (pv 0) rfl) (pv 1)) (pa_cons (pe_callTy call_tuple_of (by rfl) W.f_tuple (by decide +kernel) (pa_cons (pe_lc (own := [("times", 2)]) (g := gName 2) (tt := tYes) rfl scTermMul.nd (pi_tup (pe_fld (pv 0) rfl)) (blkOk_by (N := ["self", "other", "times"]) (sc := defScope s_Term_mul) (by decide +kernel))
            (fun _ _ _ _ _ => (pg_name (i := 2) scTermMul.nd rfl (Or.inl rfl))) (fun _ _ _ _ _ => pts_nil)
            (fun _ _ _ _ _ => (pe_op (show OpR _ _ (rS K pMul) from W.sMul hr) (pv 2) (pv 1)))) pa_nil)) pa_nil))))))), ?_⟩
    obtain ⟨dx, a, tp, a0, a1, a2, e1, e2, e3, e4, e5, e6⟩ := id hx
    obtain ⟨t, ty, kn, kt, _⟩ := W.nuTm hn
    generalize hte : tOp (rS K pMul) (tVar 2) (tVar 1) = te
    simp -dsimp [tSeq, tAsg, tRet, tIfS, tIf, tTest, tVar, tCons, tNil, tC, tOp, tUn, rI, rI0, rU, tCB, tLst_A, tTup_A, gName, L2.start, CMul, CPow, CDiv, tDrop, tBM, tBM0, tNext, tPar, gSub, rSetL, rIxL, rIxT, tChain, tB, tNot, tNotV, tAnd, tOr, tAndV, tOrV, tFld, tCall, rIxLH, rIxTH, atI, ixN, upd_same, cxK, ex2, ex3, ex3b, rIs1, rIs2, rNe2, tyN, kb1, kb2, kb3, kb4, kb5, kb6, rEq, rNe, scal, tMake_S, tMakeK_S, tMakeN_S, tMake_T]
    refine ⟨_, _, t, _, false, rfl, .own _, ty, kt, .inl ⟨rfl, _, t, true, rfl, ty, kn, .inr ⟨rfl, ?_⟩⟩⟩
    simp -dsimp [tSeq, tAsg, tRet, tIfS, tIf, tTest, tVar, tCons, tNil, tC, tOp, tUn, rI, rI0, rU, tCB, tLst_A, tTup_A, gName, L2.start, CMul, CPow, CDiv, tDrop, tBM, tBM0, tNext, tPar, gSub, rSetL, rIxL, rIxT, tChain, tB, tNot, tNotV, tAnd, tOr, tAndV, tOrV, tFld, tCall, rIxLH, rIxTH, atI, ixN, upd_same, cxK, ex2, ex3, ex3b, rIs1, rIs2, rNe2, tyN, kb1, kb2, kb3, kb4, kb5, kb6, rEq, rNe, scal, tMake_S, tMakeK_S, tMakeN_S, e1, termO, W.cls_Term, W.n_Term_number, W.n_Term_times, look_num, look_tim]
    refine ⟨a, m, n, rfl, e2, hn, ok, fun c H2 s2 ic => ?_⟩
    have e1' := s2 _ _ e1
    refine lc_tup (K := K) tp [.ref a0, .ref a1, .ref a2] (IsAt K (three (pMul t0 n) (pMul t1 n) (pMul t2 n))) (by show 3 < 1000; decide) (mono_S K _) (fun x => rfl) (s2 _ _ e3) (fun R h => by
      simp -dsimp [tSeq, tAsg, tRet, tIfS, tIf, tTest, tVar, tCons, tNil, tC, tOp, tUn, rI, rI0, rU, tCB, tLst_A, tTup_A, gName, L2.start, CMul, CPow, CDiv, tDrop, tBM, tBM0, tNext, tPar, gSub, rSetL, rIxL, rIxT, tChain, tB, tNot, tNotV, tAnd, tOr, tAndV, tOrV, tFld, tCall, rIxLH, rIxTH, atI, ixN, upd_same, cxK, ex2, ex3, ex3b, rIs1, rIs2, rNe2, tyN, kb1, kb2, kb3, kb4, kb5, kb6, rEq, rNe, scal, tMake_S, tMakeK_S, tMakeN_S, e1', termO, W.cls_Term, W.n_Term_times, look_tim]
      exact h) (fun j x' H' R hx' s' r => ?_) (fun D H3 vs s3 hl hD hs => ?_)
    · subst hte
      simp -dsimp [tSeq, tAsg, tRet, tIfS, tIf, tTest, tVar, tCons, tNil, tC, tOp, tUn, rI, rI0, rU, tCB, tLst_A, tTup_A, gName, L2.start, CMul, CPow, CDiv, tDrop, tBM, tBM0, tNext, tPar, gSub, rSetL, rIxL, rIxT, tChain, tB, tNot, tNotV, tAnd, tOr, tAndV, tOrV, tFld, tCall, rIxLH, rIxTH, atI, ixN, upd_same, cxK, ex2, ex3, ex3b, rIs1, rIs2, rNe2, tyN, kb1, kb2, kb3, kb4, kb5, kb6, rEq, rNe, scal, tMake_S, tMakeK_S, tMakeN_S, wipe]
      have s12 := s2.trans s'
      match j, hx' with
      | 0, hx' => cases hx'; exact ⟨a0, t0, n, rfl, e4.same s12, hn.same s12, ok0, fun y H4 s4 i4 => r _ _ s4 ⟨y, rfl, i4⟩⟩
      | 1, hx' => cases hx'; exact ⟨a1, t1, n, rfl, e5.same s12, hn.same s12, ok1, fun y H4 s4 i4 => r _ _ s4 ⟨y, rfl, i4⟩⟩
      | 2, hx' => cases hx'; exact ⟨a2, t2, n, rfl, e6.same s12, hn.same s12, ok2, fun y H4 s4 i4 => r _ _ s4 ⟨y, rfl, i4⟩⟩
    · match vs, hl with
      | [v0, v1, v2], _ =>
      obtain ⟨y0, rfl, h0⟩ := hs 0 v0 rfl
      obtain ⟨y1, rfl, h1⟩ := hs 1 v1 rfl
      obtain ⟨y2, rfl, h2⟩ := hs 2 v2 rfl
      refine ⟨D, rfl, _, .inl ⟨SqL.of hD, fun l nl => MkT.of rfl fun x' dx' H4 n4 e4' s4 => ?_⟩⟩
      have sl := same_upd nl (o := HO.tup [V.ref y0, V.ref y1, V.ref y2])
      exact q x' H4 ((s2.trans s3).trans (sl.trans s4)) ⟨dx', c, l, y0, y1, y2, e4', ic.same (s3.trans (sl.trans s4)), s4 _ _ upd_same, h0.same (sl.trans s4), h1.same (sl.trans s4), h2.same (sl.trans s4)⟩
/-- x op y of a term and a number -/
def rTM (K : PySem.W.Frag) : R2 := fun x y H Q => ∃ (m t0 t1 t2 n : Int × Int) (z : Addr), x = .ref z ∧ IsTm K H z m t0 t1 t2 ∧ Nu K H y n.1 n.2 ∧ Ok2 m n ∧ Ok2 t0 n ∧ Ok2 t1 n ∧ Ok2 t2 n ∧ ∀ z H', Same H H' → IsTm K H' z (pMul m n) (pMul t0 n) (pMul t1 n) (pMul t2 n) → Q (.ref z) H'
def rNM (K : PySem.W.Frag) : R2 := fun y x H Q => rTM K x y H Q
theorem IsTm.ins {H : Hp} {x : Addr} {m t0 t1 t2 : Int × Int} (h : IsTm K H x m t0 t1 t2) : ∃ (dx : Addr) (fs : List (Str × V)), H x = some (.ins (He.ga K "Term") dx fs) := by
  obtain ⟨dx, a, tp, a0, a1, a2, e1, _⟩ := h
  exact ⟨dx, _, e1⟩
end
section
variable {X : Cx}
theorem Wd.tMulN (W : Wd X.K X.mg) (hr : Room 5 X.A) : OpR X (binaryOp .Mult) (rTM X.K) := by
  obtain ⟨f1, G1, b1⟩ := ok_tmul (P := X.prog) (w := X.w) (base := X.base) W
  intro pins s σ H x y v u Q I rx ry h
  obtain ⟨m, t0, t1, t2, n, z, rfl, hz, hn, ok, ok0, ok1, ok2, q⟩ := h
  obtain ⟨dx, fs, hd⟩ := hz.ins
  rcases id hn with ⟨zy, rfl, dy, hy⟩ | ⟨rfl, _⟩
  · exact op_mixL W.tpMul W.opMul W.neST.symm (of_decide_eq_true (W.ex 20 rfl)) (raw0 G1 b1) hr pass0 pins s σ H _ _ v u Q I rx ry ⟨z, dx, zy, dy, fs, _, rfl, hd, rfl, hy, z, _, m, t0, t1, t2, n, rfl, hz, hn, ok, ok0, ok1, ok2, q⟩
  · exact op_L W.tpMul (raw0 G1 b1) hr pass0 pins s σ H _ _ v u Q I rx ry ⟨z, dx, fs, rfl, hd, .inr ⟨_, rfl⟩, z, _, m, t0, t1, t2, n, rfl, hz, hn, ok, ok0, ok1, ok2, q⟩
end
section
variable {P : Program} {w : World} {K : PySem.W.Frag} {mg : Str → Option Value} {base : Heap} {fd : FuncData}
theorem scTermRmul : FnScope ["self", "other"] ["self", "other"] d_Term_rmul.scope := ⟨rfl, rfl, rfl, by decide +kernel, rfl, by decide +kernel, by decide +kernel⟩
theorem ok_trmul (W : Wd K mg) : ∃ fd, FnOk P w K mg base CX0 6 (aT K "__rmul__") fd ["self", "other"] (spTM K) ∧ Binds K fd ["self", "other"] [] := by
  obtain ⟨fd_isNum, G_isNum, b_isNum⟩ := ok_isNum (P := P) (w := w) (base := base) W
  have k_isNum : PySem.W.keepIn K (.ref (He.ga K "is_number")) = true := by obtain ⟨fd, F⟩ := W.F_is_number; exact F.kp
  obtain ⟨fd, F⟩ := W.F_Term_rmul
  refine ⟨fd, F.ok scTermRmul (fun vs H Q E h => ?_) (fun cdv A outer s H vs Q E hr h => ?_), FunD.bindsN F fun _ _ _ _ _ _ us hl => match us, hl with | [_, _], _ => rfl⟩
  · obtain ⟨x, v, _, _, _, _, _, rfl, _⟩ := h
    rfl
  · obtain ⟨x, v, m, t0, t1, t2, n, rfl, hx, hn, ok, ok0, ok1, ok2, q⟩ := h
    have r1 : Room 1 _ := hr.mono (by decide)
    have r2 : Room 2 _ := hr.mono (by decide)
    have r3 : Room 3 _ := hr.mono (by decide)
    have r4 : Room 4 _ := hr.mono (by decide)
    have r5 : Room 5 _ := hr.mono (by decide)
    refine ⟨_, PSs.nox (pss_cons (ps_if (pt_not (pt_val (pe_call G_isNum r2 rfl W.g_is_number k_isNum b_isNum .nil pass0 (pa_cons (pv 1) pa_nil)))) pss_never pss_nil)
    (pss_one (ps_ret (pe_op (W.tMulN hr) (pv 0) (pv 1))))), ?_⟩
    obtain ⟨t, ty, kn, kt, _⟩ := W.nuTm hn
    simp -dsimp [tSeq, tAsg, tRet, tIfS, tIf, tTest, tVar, tCons, tNil, tC, tOp, tUn, rI, rI0, rU, tCB, tLst_A, tTup_A, gName, L2.start, CMul, CPow, CDiv, tDrop, tBM, tBM0, tNext, tPar, gSub, rSetL, rIxL, rIxT, tChain, tB, tNot, tNotV, tAnd, tOr, tAndV, tOrV, tFld, tCall, rIxLH, rIxTH, atI, ixN, upd_same, cxK, ex2, ex3, ex3b, rIs1, rIs2, rNe2, tyN, kb1, kb2, kb3, kb4, kb5, kb6, rEq, rNe, scal, tMake_S, tMakeK_S, tMakeN_S]
    exact ⟨_, t, true, rfl, ty, kn, .inr ⟨rfl, m, t0, t1, t2, n, x, rfl, hx, hn, ok, ok0, ok1, ok2, q⟩⟩
/-- what a share's own def declines -/
def spNI (K : PySem.W.Frag) : List V → Hp → (Hp → Prop) → Prop := fun vs H R => ∃ (x v : V) (t : Value), vs = [x, v] ∧ TyOf K H v t ∧ NuX.KN K t false ∧ R H
theorem ni_add (W : Wd K mg) : NiX.FnN P w K mg base 3 (aS K "__add__") (spNI K) := by
  obtain ⟨fdN, GN, bN⟩ := ok_isNum (P := P) (w := w) (base := base) W
  have kN : PySem.W.keepIn K (.ref (He.ga K "is_number")) = true := by obtain ⟨fd, F⟩ := W.F_is_number; exact F.kp
  obtain ⟨fd, F⟩ := W.F_Share_add
  refine NiX.fnN (N := _) (ps := ["self", "other"]) F scAdd (by decide +kernel) (fun _ _ _ _ _ _ us hl => match us, hl with | [_, _], _ => rfl) rfl (fun _ _ _ => rfl) W.f_NotImplemented (fun vs H R h => by
    obtain ⟨x, v, t, rfl, _⟩ := h
    rfl) (fun cdv A outer s H vs R hr h => ?_)
  obtain ⟨x, v, t, rfl, ty, kn, r⟩ := h
  refine ⟨_, pt_not (pt_val (pe_call GN hr rfl W.g_is_number kN bN .nil pass0 (pa_cons (pv 1) pa_nil))), ?_⟩
  simp -dsimp [tSeq, tAsg, tRet, tIfS, tIf, tTest, tVar, tCons, tNil, tC, tOp, tUn, rI, rI0, rU, tCB, tLst_A, tTup_A, gName, L2.start, CMul, CPow, CDiv, tDrop, tBM, tBM0, tNext, tPar, gSub, rSetL, rIxL, rIxT, tChain, tB, tNot, tNotV, tAnd, tOr, tAndV, tOrV, tFld, tCall, rIxLH, rIxTH, atI, ixN, upd_same, cxK, ex2, ex3, ex3b, rIs1, rIs2, rNe2, tyN, kb1, kb2, kb3, kb4, kb5, kb6, rEq, rNe, scal, tMake_S, tMakeK_S, tMakeN_S]
  exact ⟨_, t, false, rfl, ty, kn, rfl, r⟩
theorem ni_sub (W : Wd K mg) : NiX.FnN P w K mg base 3 (aS K "__sub__") (spNI K) := by
  obtain ⟨fdN, GN, bN⟩ := ok_isNum (P := P) (w := w) (base := base) W
  have kN : PySem.W.keepIn K (.ref (He.ga K "is_number")) = true := by obtain ⟨fd, F⟩ := W.F_is_number; exact F.kp
  obtain ⟨fd, F⟩ := W.F_Share_sub
  refine NiX.fnN (N := _) (ps := ["self", "other"]) F scSub (by decide +kernel) (fun _ _ _ _ _ _ us hl => match us, hl with | [_, _], _ => rfl) rfl (fun _ _ _ => rfl) W.f_NotImplemented (fun vs H R h => by
    obtain ⟨x, v, t, rfl, _⟩ := h
    rfl) (fun cdv A outer s H vs R hr h => ?_)
  obtain ⟨x, v, t, rfl, ty, kn, r⟩ := h
  refine ⟨_, pt_not (pt_val (pe_call GN hr rfl W.g_is_number kN bN .nil pass0 (pa_cons (pv 1) pa_nil))), ?_⟩
  simp -dsimp [tSeq, tAsg, tRet, tIfS, tIf, tTest, tVar, tCons, tNil, tC, tOp, tUn, rI, rI0, rU, tCB, tLst_A, tTup_A, gName, L2.start, CMul, CPow, CDiv, tDrop, tBM, tBM0, tNext, tPar, gSub, rSetL, rIxL, rIxT, tChain, tB, tNot, tNotV, tAnd, tOr, tAndV, tOrV, tFld, tCall, rIxLH, rIxTH, atI, ixN, upd_same, cxK, ex2, ex3, ex3b, rIs1, rIs2, rNe2, tyN, kb1, kb2, kb3, kb4, kb5, kb6, rEq, rNe, scal, tMake_S, tMakeK_S, tMakeN_S]
  exact ⟨_, t, false, rfl, ty, kn, rfl, r⟩
theorem ni_mul (W : Wd K mg) : NiX.FnN P w K mg base 3 (aS K "__mul__") (spNI K) := by
  obtain ⟨fdN, GN, bN⟩ := ok_isNum (P := P) (w := w) (base := base) W
  have kN : PySem.W.keepIn K (.ref (He.ga K "is_number")) = true := by obtain ⟨fd, F⟩ := W.F_is_number; exact F.kp
  obtain ⟨fd, F⟩ := W.F_Share_mul
  refine NiX.fnN (N := _) (ps := ["self", "other"]) F scMul (by decide +kernel) (fun _ _ _ _ _ _ us hl => match us, hl with | [_, _], _ => rfl) rfl (fun _ _ _ => rfl) W.f_NotImplemented (fun vs H R h => by
    obtain ⟨x, v, t, rfl, _⟩ := h
    rfl) (fun cdv A outer s H vs R hr h => ?_)
  obtain ⟨x, v, t, rfl, ty, kn, r⟩ := h
  refine ⟨_, pt_not (pt_val (pe_call GN hr rfl W.g_is_number kN bN .nil pass0 (pa_cons (pv 1) pa_nil))), ?_⟩
  simp -dsimp [tSeq, tAsg, tRet, tIfS, tIf, tTest, tVar, tCons, tNil, tC, tOp, tUn, rI, rI0, rU, tCB, tLst_A, tTup_A, gName, L2.start, CMul, CPow, CDiv, tDrop, tBM, tBM0, tNext, tPar, gSub, rSetL, rIxL, rIxT, tChain, tB, tNot, tNotV, tAnd, tOr, tAndV, tOrV, tFld, tCall, rIxLH, rIxTH, atI, ixN, upd_same, cxK, ex2, ex3, ex3b, rIs1, rIs2, rNe2, tyN, kb1, kb2, kb3, kb4, kb5, kb6, rEq, rNe, scal, tMake_S, tMakeK_S, tMakeN_S]
  exact ⟨_, t, false, rfl, ty, kn, rfl, r⟩
end
section
variable {X : Cx}
theorem Wd.nMulT (W : Wd X.K X.mg) (hr : Room 6 X.A) : OpR X (binaryOp .Mult) (rNM X.K) := by
  obtain ⟨f1, G1, b1⟩ := ok_trmul (P := X.prog) (w := X.w) (base := X.base) W
  have r3 : Room 3 X.A := hr.mono (by decide)
  intro pins s σ H x y v u Q I rx ry h
  obtain ⟨m, t0, t1, t2, n, z, rfl, hz, hn, ok, ok0, ok1, ok2, q⟩ := h
  obtain ⟨dx, fs, hd⟩ := hz.ins
  rcases id hn with ⟨zy, rfl, dy, hy⟩ | ⟨rfl, _⟩
  · exact op_mixR W.opMul W.tpMul W.neST (of_decide_eq_true (W.ex 19 rfl)) (ni_mul W) (raw0 G1 b1) r3 hr pass0 pins s σ H _ _ v u Q I rx ry ⟨zy, z, rfl, rfl, ⟨dy, _, hy⟩, ⟨dx, fs, hd⟩, _, _, _, rfl, W.isTm hz, W.knT, ⟨dy, _, hy⟩, ⟨dx, fs, hd⟩, z, _, m, t0, t1, t2, n, rfl, hz, hn, ok, ok0, ok1, ok2, q⟩
  · exact op_Rt W.tpMul (raw0 G1 b1) hr pass0 pins s σ H _ _ v u Q I rx ry ⟨_, z, dx, fs, rfl, rfl, hd, z, _, m, t0, t1, t2, n, rfl, hz, hn, ok, ok0, ok1, ok2, q⟩
end
/-! ### sums and differences -/
/-- x op y, x a term, y a term or a number -/
def rTT (K : PySem.W.Frag) (f : Int × Int → Int × Int → Int × Int) : R2 := fun x y H Q => ∃ (m t0 t1 t2 n u0 u1 u2 : Int × Int) (z : Addr), x = .ref z ∧ IsTm K H z m t0 t1 t2 ∧ TN K H y n u0 u1 u2 ∧ Ok2 m n ∧ Ok2 t0 u0 ∧ Ok2 t1 u1 ∧ Ok2 t2 u2 ∧ ∀ z H', Same H H' → IsTm K H' z (f m n) (f t0 u0) (f t1 u1) (f t2 u2) → Q (.ref z) H'
/-- x a number, y a term -/
def rNT (K : PySem.W.Frag) (f : Int × Int → Int × Int → Int × Int) : R2 := fun x y H Q => ∃ (m t0 t1 t2 n : Int × Int) (z : Addr), y = .ref z ∧ IsTm K H z m t0 t1 t2 ∧ Nu K H x n.1 n.2 ∧ Ok2 m n ∧ Ok2 t0 (0, 1) ∧ Ok2 t1 (0, 1) ∧ Ok2 t2 (0, 1) ∧ ∀ z H', Same H H' → IsTm K H' z (f n m) (f (0, 1) t0) (f (0, 1) t1) (f (0, 1) t2) → Q (.ref z) H'
section
variable {X : Cx}
theorem Wd.tAddT (W : Wd X.K X.mg) (hr : Room 7 X.A) : OpR X (binaryOp .Add) (rTT X.K pAdd) := by
  obtain ⟨f1, G1, b1⟩ := ok_tadd (P := X.prog) (w := X.w) (base := X.base) W
  intro pins s σ H x y v u Q I rx ry h
  obtain ⟨m, t0, t1, t2, n, u0, u1, u2, z, rfl, hz, hn, ok, ok0, ok1, ok2, q⟩ := h
  obtain ⟨dx, fs, hd⟩ := hz.ins
  rcases id hn with ⟨zy, rfl, hy⟩ | ⟨⟨zy, rfl, dy, hy⟩ | ⟨rfl, _⟩, _⟩
  · obtain ⟨dy, gs, hdy⟩ := hy.ins
    exact op_L W.tpAdd (raw0 G1 b1) hr pass0 pins s σ H _ _ v u Q I rx ry ⟨z, dx, fs, rfl, hd, .inl ⟨zy, dy, gs, rfl, hdy⟩, z, _, m, t0, t1, t2, n, u0, u1, u2, rfl, hz, hn, ok, ok0, ok1, ok2, q⟩
  · exact op_mixL W.tpAdd W.opAdd W.neST.symm (of_decide_eq_true (W.ex 20 rfl)) (raw0 G1 b1) hr pass0 pins s σ H _ _ v u Q I rx ry ⟨z, dx, zy, dy, fs, _, rfl, hd, rfl, hy, z, _, m, t0, t1, t2, n, u0, u1, u2, rfl, hz, hn, ok, ok0, ok1, ok2, q⟩
  · exact op_L W.tpAdd (raw0 G1 b1) hr pass0 pins s σ H _ _ v u Q I rx ry ⟨z, dx, fs, rfl, hd, .inr ⟨_, rfl⟩, z, _, m, t0, t1, t2, n, u0, u1, u2, rfl, hz, hn, ok, ok0, ok1, ok2, q⟩
end
section
variable {P : Program} {w : World} {K : PySem.W.Frag} {mg : Str → Option Value} {base : Heap} {fd : FuncData}
theorem scTermRadd : FnScope ["self", "other", "left"] ["self", "other"] d_Term_radd.scope := ⟨rfl, rfl, rfl, by decide +kernel, rfl, by decide +kernel, by decide +kernel⟩
theorem ok_tradd (W : Wd K mg) : ∃ fd, FnOk P w K mg base CX0 8 (aT K "__radd__") fd ["self", "other"] (spT2 K fun p q => pAdd q p) ∧ Binds K fd ["self", "other"] [] := by
  obtain ⟨fd_termOf, G_termOf, b_termOf⟩ := ok_termOf (P := P) (w := w) (base := base) W
  have k_termOf : PySem.W.keepIn K (.ref (He.ga K "term_of")) = true := by obtain ⟨fd, F⟩ := W.F_term_of; exact F.kp
  obtain ⟨fd, F⟩ := W.F_Term_radd
  refine ⟨fd, F.ok scTermRadd (fun vs H Q E h => ?_) (fun cdv A outer s H vs Q E hr h => ?_), FunD.bindsN F fun _ _ _ _ _ _ us hl => match us, hl with | [_, _], _ => rfl⟩
  · obtain ⟨x, v, _, _, _, _, _, _, _, _, rfl, _⟩ := h
    rfl
  · obtain ⟨x, v, m, t0, t1, t2, n, u0, u1, u2, rfl, hx, hv, ok, ok0, ok1, ok2, q⟩ := h
    have r1 : Room 1 _ := hr.mono (by decide)
    have r2 : Room 2 _ := hr.mono (by decide)
    have r3 : Room 3 _ := hr.mono (by decide)
    have r4 : Room 4 _ := hr.mono (by decide)
    have r5 : Room 5 _ := hr.mono (by decide)
    have r6 : Room 6 _ := hr.mono (by decide)
    have r7 : Room 7 _ := hr.mono (by decide)
    refine ⟨_, PSs.nox (pss_cons (ps_set (i := 2) scTermRadd.nd rfl (Or.inl rfl) (pe_call G_termOf r6 rfl W.g_term_of k_termOf b_termOf .nil pass0 (pa_cons (pv 1) pa_nil)))
    (pss_cons (ps_if (pt_cmpR op_isN (pv 2) pe_non (nomark _)) pss_never pss_nil)
    (pss_one (ps_ret (pe_op (W.tAddT hr) (pv 2) (pv 0)))))), ?_⟩
    simp -dsimp [tSeq, tAsg, tRet, tIfS, tIf, tTest, tVar, tCons, tNil, tC, tOp, tUn, rI, rI0, rU, tCB, tLst_A, tTup_A, gName, L2.start, CMul, CPow, CDiv, tDrop, tBM, tBM0, tNext, tPar, gSub, rSetL, rIxL, rIxT, tChain, tB, tNot, tNotV, tAnd, tOr, tAndV, tOrV, tFld, tCall, rIxLH, rIxTH, atI, ixN, upd_same, cxK, ex2, ex3, ex3b, rIs1, rIs2, rNe2, tyN, kb1, kb2, kb3, kb4, kb5, kb6, rEq, rNe, scal, tMake_S, tMakeK_S, tMakeN_S]
    refine ⟨v, n, u0, u1, u2, rfl, hv, fun z H1 s1 iz => ?_⟩
    simp -dsimp [tSeq, tAsg, tRet, tIfS, tIf, tTest, tVar, tCons, tNil, tC, tOp, tUn, rI, rI0, rU, tCB, tLst_A, tTup_A, gName, L2.start, CMul, CPow, CDiv, tDrop, tBM, tBM0, tNext, tPar, gSub, rSetL, rIxL, rIxT, tChain, tB, tNot, tNotV, tAnd, tOr, tAndV, tOrV, tFld, tCall, rIxLH, rIxTH, atI, ixN, upd_same, cxK, ex2, ex3, ex3b, rIs1, rIs2, rNe2, tyN, kb1, kb2, kb3, kb4, kb5, kb6, rEq, rNe, scal, tMake_S, tMakeK_S, tMakeN_S]
    exact ⟨n, u0, u1, u2, m, t0, t1, t2, z, rfl, iz, .inl ⟨x, rfl, hx.same s1⟩, ok.swap, ok0.swap, ok1.swap, ok2.swap, fun z' H' s' i' => q z' H' (s1.trans s') i'⟩
end
section
variable {X : Cx}
theorem Wd.nAddT (W : Wd X.K X.mg) (hr : Room 8 X.A) : OpR X (binaryOp .Add) (rNT X.K pAdd) := by
  obtain ⟨f1, G1, b1⟩ := ok_tradd (P := X.prog) (w := X.w) (base := X.base) W
  have r3 : Room 3 X.A := hr.mono (by decide)
  intro pins s σ H x y v u Q I rx ry h
  obtain ⟨m, t0, t1, t2, n, z, rfl, hz, hn, ok, ok0, ok1, ok2, q⟩ := h
  obtain ⟨dx, fs, hd⟩ := hz.ins
  have tn : TN X.K H x n (0, 1) (0, 1) (0, 1) := .inr ⟨hn, rfl, rfl, rfl⟩
  rcases id hn with ⟨zy, rfl, dy, hy⟩ | ⟨rfl, _⟩
  · exact op_mixR W.opAdd W.tpAdd W.neST (of_decide_eq_true (W.ex 19 rfl)) (ni_add W) (raw0 G1 b1) r3 hr pass0 pins s σ H _ _ v u Q I rx ry ⟨zy, z, rfl, rfl, ⟨dy, _, hy⟩, ⟨dx, fs, hd⟩, _, _, _, rfl, W.isTm hz, W.knT, ⟨dy, _, hy⟩, ⟨dx, fs, hd⟩, z, _, m, t0, t1, t2, n, _, _, _, rfl, hz, tn, ok, ok0, ok1, ok2, q⟩
  · exact op_Rt W.tpAdd (raw0 G1 b1) hr pass0 pins s σ H _ _ v u Q I rx ry ⟨_, z, dx, fs, rfl, rfl, hd, z, _, m, t0, t1, t2, n, _, _, _, rfl, hz, tn, ok, ok0, ok1, ok2, q⟩
end
section
variable {X : Cx}
theorem Wd.tSubT (W : Wd X.K X.mg) (hr : Room 7 X.A) : OpR X (binaryOp .Sub) (rTT X.K pSub) := by
  obtain ⟨f1, G1, b1⟩ := ok_tsub (P := X.prog) (w := X.w) (base := X.base) W
  intro pins s σ H x y v u Q I rx ry h
  obtain ⟨m, t0, t1, t2, n, u0, u1, u2, z, rfl, hz, hn, ok, ok0, ok1, ok2, q⟩ := h
  obtain ⟨dx, fs, hd⟩ := hz.ins
  rcases id hn with ⟨zy, rfl, hy⟩ | ⟨⟨zy, rfl, dy, hy⟩ | ⟨rfl, _⟩, _⟩
  · obtain ⟨dy, gs, hdy⟩ := hy.ins
    exact op_L W.tpSub (raw0 G1 b1) hr pass0 pins s σ H _ _ v u Q I rx ry ⟨z, dx, fs, rfl, hd, .inl ⟨zy, dy, gs, rfl, hdy⟩, z, _, m, t0, t1, t2, n, u0, u1, u2, rfl, hz, hn, ok, ok0, ok1, ok2, q⟩
  · exact op_mixL W.tpSub W.opSub W.neST.symm (of_decide_eq_true (W.ex 20 rfl)) (raw0 G1 b1) hr pass0 pins s σ H _ _ v u Q I rx ry ⟨z, dx, zy, dy, fs, _, rfl, hd, rfl, hy, z, _, m, t0, t1, t2, n, u0, u1, u2, rfl, hz, hn, ok, ok0, ok1, ok2, q⟩
  · exact op_L W.tpSub (raw0 G1 b1) hr pass0 pins s σ H _ _ v u Q I rx ry ⟨z, dx, fs, rfl, hd, .inr ⟨_, rfl⟩, z, _, m, t0, t1, t2, n, u0, u1, u2, rfl, hz, hn, ok, ok0, ok1, ok2, q⟩
end
section
variable {P : Program} {w : World} {K : PySem.W.Frag} {mg : Str → Option Value} {base : Heap} {fd : FuncData}
theorem scTermRsub : FnScope ["self", "other", "left"] ["self", "other"] d_Term_rsub.scope := ⟨rfl, rfl, rfl, by decide +kernel, rfl, by decide +kernel, by decide +kernel⟩
theorem ok_trsub (W : Wd K mg) : ∃ fd, FnOk P w K mg base CX0 8 (aT K "__rsub__") fd ["self", "other"] (spT2 K fun p q => pSub q p) ∧ Binds K fd ["self", "other"] [] := by
  obtain ⟨fd_termOf, G_termOf, b_termOf⟩ := ok_termOf (P := P) (w := w) (base := base) W
  have k_termOf : PySem.W.keepIn K (.ref (He.ga K "term_of")) = true := by obtain ⟨fd, F⟩ := W.F_term_of; exact F.kp
  obtain ⟨fd, F⟩ := W.F_Term_rsub
  refine ⟨fd, F.ok scTermRsub (fun vs H Q E h => ?_) (fun cdv A outer s H vs Q E hr h => ?_), FunD.bindsN F fun _ _ _ _ _ _ us hl => match us, hl with | [_, _], _ => rfl⟩
  · obtain ⟨x, v, _, _, _, _, _, _, _, _, rfl, _⟩ := h
    rfl
  · obtain ⟨x, v, m, t0, t1, t2, n, u0, u1, u2, rfl, hx, hv, ok, ok0, ok1, ok2, q⟩ := h
    have r1 : Room 1 _ := hr.mono (by decide)
    have r2 : Room 2 _ := hr.mono (by decide)
    have r3 : Room 3 _ := hr.mono (by decide)
    have r4 : Room 4 _ := hr.mono (by decide)
    have r5 : Room 5 _ := hr.mono (by decide)
    have r6 : Room 6 _ := hr.mono (by decide)
    have r7 : Room 7 _ := hr.mono (by decide)
    refine ⟨_, PSs.nox (pss_cons (ps_set (i := 2) scTermRsub.nd rfl (Or.inl rfl) (pe_call G_termOf r6 rfl W.g_term_of k_termOf b_termOf .nil pass0 (pa_cons (pv 1) pa_nil)))
    (pss_cons (ps_if (pt_cmpR op_isN (pv 2) pe_non (nomark _)) pss_never pss_nil)
    (pss_one (ps_ret (pe_op (W.tSubT hr) (pv 2) (pv 0)))))), ?_⟩
    simp -dsimp [tSeq, tAsg, tRet, tIfS, tIf, tTest, tVar, tCons, tNil, tC, tOp, tUn, rI, rI0, rU, tCB, tLst_A, tTup_A, gName, L2.start, CMul, CPow, CDiv, tDrop, tBM, tBM0, tNext, tPar, gSub, rSetL, rIxL, rIxT, tChain, tB, tNot, tNotV, tAnd, tOr, tAndV, tOrV, tFld, tCall, rIxLH, rIxTH, atI, ixN, upd_same, cxK, ex2, ex3, ex3b, rIs1, rIs2, rNe2, tyN, kb1, kb2, kb3, kb4, kb5, kb6, rEq, rNe, scal, tMake_S, tMakeK_S, tMakeN_S]
    refine ⟨v, n, u0, u1, u2, rfl, hv, fun z H1 s1 iz => ?_⟩
    simp -dsimp [tSeq, tAsg, tRet, tIfS, tIf, tTest, tVar, tCons, tNil, tC, tOp, tUn, rI, rI0, rU, tCB, tLst_A, tTup_A, gName, L2.start, CMul, CPow, CDiv, tDrop, tBM, tBM0, tNext, tPar, gSub, rSetL, rIxL, rIxT, tChain, tB, tNot, tNotV, tAnd, tOr, tAndV, tOrV, tFld, tCall, rIxLH, rIxTH, atI, ixN, upd_same, cxK, ex2, ex3, ex3b, rIs1, rIs2, rNe2, tyN, kb1, kb2, kb3, kb4, kb5, kb6, rEq, rNe, scal, tMake_S, tMakeK_S, tMakeN_S]
    exact ⟨n, u0, u1, u2, m, t0, t1, t2, z, rfl, iz, .inl ⟨x, rfl, hx.same s1⟩, ok.swap, ok0.swap, ok1.swap, ok2.swap, fun z' H' s' i' => q z' H' (s1.trans s') i'⟩
end
section
variable {X : Cx}
theorem Wd.nSubT (W : Wd X.K X.mg) (hr : Room 8 X.A) : OpR X (binaryOp .Sub) (rNT X.K pSub) := by
  obtain ⟨f1, G1, b1⟩ := ok_trsub (P := X.prog) (w := X.w) (base := X.base) W
  have r3 : Room 3 X.A := hr.mono (by decide)
  intro pins s σ H x y v u Q I rx ry h
  obtain ⟨m, t0, t1, t2, n, z, rfl, hz, hn, ok, ok0, ok1, ok2, q⟩ := h
  obtain ⟨dx, fs, hd⟩ := hz.ins
  have tn : TN X.K H x n (0, 1) (0, 1) (0, 1) := .inr ⟨hn, rfl, rfl, rfl⟩
  rcases id hn with ⟨zy, rfl, dy, hy⟩ | ⟨rfl, _⟩
  · exact op_mixR W.opSub W.tpSub W.neST (of_decide_eq_true (W.ex 19 rfl)) (ni_sub W) (raw0 G1 b1) r3 hr pass0 pins s σ H _ _ v u Q I rx ry ⟨zy, z, rfl, rfl, ⟨dy, _, hy⟩, ⟨dx, fs, hd⟩, _, _, _, rfl, W.isTm hz, W.knT, ⟨dy, _, hy⟩, ⟨dx, fs, hd⟩, z, _, m, t0, t1, t2, n, _, _, _, rfl, hz, tn, ok, ok0, ok1, ok2, q⟩
  · exact op_Rt W.tpSub (raw0 G1 b1) hr pass0 pins s σ H _ _ v u Q I rx ry ⟨_, z, dx, fs, rfl, rfl, hd, z, _, m, t0, t1, t2, n, _, _, _, rfl, hz, tn, ok, ok0, ok1, ok2, q⟩
end
/-! ### comparisons between two own classes, the left one declining -/
namespace CmX
open PySem.W (InstAt findIn isFn mroIn typeIn subIn looks_subIn looks_mroIn looks_findIn instObj ifBound_K Looks)
section
variable {prog : Program} {w : World} {A : Around} {E : Value → Shared → Prop} {s : Shared} {K : PySem.W.Frag} {x C f : Addr} {ox : Obj} {od : Option Obj} {a b ta tb : Value} {op : CmpOp}
theorem rc_swap {Q : Value → Shared → Prop} (hu : A.units < cLine) (ho : oneThing? op a b = none) (la : Looks (model prog w) s.heap (typeOf a) ta) (lb : Looks (model prog w) s.heap (typeOf b) tb)
    (hn : Looks (model prog w) s.heap (isSubtype tb ta) false)
    (one : wpAny (model prog w) A (tryCompare a (cmpInfo op).2.1 b) (fun r s' => r = none ∧ wpAny (model prog w) A (tryCompare b (cmpInfo op).2.2 a) (fun r s' => ∃ v, r = some v ∧ Q v s') E s') E s) : wpAny (model prog w) A (richCompare op a b) Q E s := by
  unfold richCompare
  simp only [ho]
  refine wpAny_holding (wpAny_bind (wpAny_cRoomFor hu ?_))
  refine wpAny_bind (la.here (wpAny_bind (lb.here ?_)))
  split
  · refine wpAny_bind (hn.here ?_)
    simp only [Bool.false_eq_true, if_false, Bool.not_false, if_true]
    refine wpAny_bind (wpAny_mono one (fun r s' z => ?_) fun _ _ e => e)
    obtain ⟨rfl, two⟩ := z
    refine wpAny_bind (wpAny_mono two (fun r s' z => ?_) fun _ _ e => e)
    obtain ⟨v, rfl, hq⟩ := z
    exact wpAny_pure hq
  · refine wpAny_bind (wpAny_pure ?_)
    simp only [Bool.false_eq_true, if_false, Bool.not_false, if_true]
    refine wpAny_bind (wpAny_mono one (fun r s' z => ?_) fun _ _ e => e)
    obtain ⟨rfl, two⟩ := z
    refine wpAny_bind (wpAny_mono two (fun r s' z => ?_) fun _ _ e => e)
    obtain ⟨v, rfl, hq⟩ := z
    exact wpAny_pure hq
theorem try_own_no {name : Str} {Q : Shared → Prop} (X : K.In s.heap) (I : InstAt s.heap x ox C od) (hs : findIn K (.ref C) name = some (some (.ref f))) (hf : isFn K (.ref f) = true)
    (h : wpAny (model prog w) A (call (.ref f) [.ref x, b]) (fun v s' => v = .notImplemented ∧ Q s') E s) : wpAny (model prog w) A (tryCompare (.ref x) name b) (fun r s' => r = none ∧ Q s') E s := by
  unfold tryCompare
  refine wpAny_bind (ifBound_K X I hs hf (wpAny_mono h (fun v s' hv => ?_) fun _ _ e => e))
  obtain ⟨rfl, q⟩ := hv
  exact wpAny_pure ⟨rfl, q⟩
end
section
variable {X : Cx} {CX : CXT} {n m : Nat} {sp : Sp} {spn : List V → Hp → (Hp → Prop) → Prop} {E : XK} {C D f g : Addr} {op : CmpOp}
/-- x op y by y's own def, x's own one declining: as rMixR -/
theorem op_cmpMixR (hc : ∀ a b, compareOp op a b = richCompare op a b) (hs : findIn X.K (.ref C) (cmpInfo op).2.1 = some (some (.ref f))) (hf : isFn X.K (.ref f) = true) (ht : findIn X.K (.ref D) (cmpInfo op).2.2 = some (some (.ref g))) (hg : isFn X.K (.ref g) = true)
    (hsub : subIn X.K (.ref D) (.ref C) = some false) (N : NiX.FnN X.prog X.w X.K X.mg X.base m f spn) (F : FnR X.prog X.w X.K X.mg X.base CX n g sp) (hrN : Room m X.A) (hr : Room n X.A) (hx : Passes CX X E) : OpR X (compareOp op) (rMixR C D spn sp E) := by
  intro pins s σ H x y v u Q I rx ry h
  obtain ⟨a, b, rfl, rfl, ⟨dx, fs, ha⟩, ⟨dy, gs, hb⟩, q⟩ := h
  cases (show v = Value.ref a from rx)
  cases (show u = Value.ref b from ry)
  obtain ⟨mA, O, _⟩ := ins_get I.hok ha
  obtain ⟨od, J, _⟩ := O.look
  obtain ⟨mB, O', _⟩ := ins_get I.hok hb
  obtain ⟨od', J', _⟩ := O'.look
  rw [hc]
  refine rc_swap hr.units0 rfl J.type J'.type (looks_subIn I.kIn hsub) (try_own_no I.kIn J hs hf (wpAny_mono (wpAny_call (run_fnN (us := [.ref a, .ref b]) (vs := [.ref a, .ref b]) N hrN I (.cons rfl (.cons rfl .nil)) q)) (fun w s' z => ?_) fun _ _ x => x))
  obtain ⟨rfl, H1, I1, _, ⟨dy1, gs1, hb1⟩, q1⟩ := z
  obtain ⟨mB1, O1', _⟩ := ins_get I1.hok hb1
  obtain ⟨od1', J1', _⟩ := O1'.look
  exact ⟨rfl, try_own I1.kIn J1' ht hg (wpAny_mono (wpAny_call (run_fnR (us := [.ref b, .ref a]) (vs := [.ref b, .ref a]) F hr hx I1 (.cons rfl (.cons rfl .nil)) q1)) (fun w s' z => by
      obtain ⟨z', H', I', rz, qz⟩ := z
      exact SlX.cmpback rz ⟨z', H', I', rz, qz⟩) fun _ _ x => x)⟩
end
end CmX
/-! ### zip of a tuple and a list, of any lengths -/
namespace ZmY
open PySem PySem.Spec PyProof.Rows L2
/-- the tuple at a and the list at b -/
def ItzM (K : PySem.W.Frag) (a b : Addr) : It where
  go := fun i H => ∃ (xs ys : List V) (x y : V), (SqT K H a xs ∧ SqL K H b ys) ∧ xs[i]? = some x ∧ ys[i]? = some y
  yld := fun i H v H' => ∃ (T : Addr) (x y : V), v = .ref T ∧ H T = none ∧ H' = upd H T (.tup [x, y]) ∧ (∀ xs, SqT K H a xs → xs[i]? = some x) ∧ ∀ ys, SqL K H b ys → ys[i]? = some y
  stop := fun i H => ∃ xs ys : List V, (SqT K H a xs ∧ SqL K H b ys) ∧ i ≤ xs.length ∧ i ≤ ys.length ∧ (i = xs.length ∨ i = ys.length)
theorem sep {z TI TO i1 i2 a b : Addr} (D : ZipApart z TI TO i1 i2 a b) : ZipSep2 z TI TO i1 i2 [i1, a] [i2, b] where
  TIz := D.TIz
  TOz := D.TOz
  TITO := D.TITO
  TIi1 := D.TIi1
  mem1 := by simp -dsimp [tSeq, tAsg, tRet, tIfS, tIf, tTest, tVar, tCons, tNil, tC, tOp, tUn, rI, rI0, rU, tCB, tLst_A, tTup_A, gName, L2.start, CMul, CPow, CDiv, tDrop, tBM, tBM0, tNext, tPar, gSub, rSetL, rIxL, rIxT, tChain, tB, tNot, tNotV, tAnd, tOr, tAndV, tOrV, tFld, tCall, rIxLH, rIxTH, atI, ixN, upd_same, cxK, ex2, ex3, ex3b, rIs1, rIs2, rNe2, tyN, kb1, kb2, kb3, kb4, kb5, kb6, rEq, rNe, scal, tMake_S, tMakeK_S, tMakeN_S]
  zf1 := by simp; exact ⟨D.i1z.symm, D.l1z.symm⟩
  Tf1 := by simp; exact ⟨D.TOi1, D.l1TO.symm⟩
  TIi2 := D.TIi2
  mem2 := by simp -dsimp [tSeq, tAsg, tRet, tIfS, tIf, tTest, tVar, tCons, tNil, tC, tOp, tUn, rI, rI0, rU, tCB, tLst_A, tTup_A, gName, L2.start, CMul, CPow, CDiv, tDrop, tBM, tBM0, tNext, tPar, gSub, rSetL, rIxL, rIxT, tChain, tB, tNot, tNotV, tAnd, tOr, tAndV, tOrV, tFld, tCall, rIxLH, rIxTH, atI, ixN, upd_same, cxK, ex2, ex3, ex3b, rIs1, rIs2, rNe2, tyN, kb1, kb2, kb3, kb4, kb5, kb6, rEq, rNe, scal, tMake_S, tMakeK_S, tMakeN_S]
  zf2 := by simp; exact ⟨D.i2z.symm, D.l2z.symm⟩
  Tf2 := by simp; exact ⟨D.TOi2, D.l2TO.symm⟩
  sep1_2 := by simp; exact ⟨D.i12, D.l2i1.symm⟩
  sep2_1 := by simp; exact ⟨D.i12.symm, D.l1i2.symm⟩
abbrev StM (z TI TO i1 i2 a b : Addr) : Nat → Heap → Prop := fun i h => (IsZip h z TI TO .none ∧ IsPair h TI (.ref i1) (.ref i2)) ∧ (∃ x y, IsPair h TO x y) ∧ h.IsTupleIter i1 a i ∧ h.IsListIter i2 b i
theorem five {z TI TO i1 i2 c : Addr} (h : c ∈ [z, TI, TO, i1, i2]) : c = z ∨ c = TI ∨ c = TO ∨ c = i1 ∨ c = i2 := by simpa using h
theorem turn {P : Program} {w : World} {K : PySem.W.Frag} {el : List Expr} {k : Nat} {tp : Pos} {a b z TI TO i1 i2 : Addr} (D : ZipApart z TI TO i1 i2 a b) :
    Turn P w K (.Tuple el k tp) (ItzM K a b) [z, TI, TO, i1, i2] z (StM z TI TO i1 i2 a b) where
  mem := List.mem_cons_self
  obj := fun i h st c hc => by
    obtain ⟨⟨g1, g2⟩, ⟨x, y, g3⟩, ⟨o1, g4, _, d1⟩, ⟨o2, g5, _, d2⟩⟩ := st
    rcases five hc with rfl | rfl | rfl | rfl | rfl
    · exact ⟨_, g1, fun v e => nomatch e⟩
    · exact ⟨_, g2, fun v e => nomatch e⟩
    · exact ⟨_, g3, fun v e => nomatch e⟩
    · exact ⟨o1, g4, fun v e => by rw [d1] at e; cases e⟩
    · exact ⟨o2, g5, fun v e => by rw [d2] at e; cases e⟩
  keep := fun i h h' st kp => by
    obtain ⟨⟨g1, g2⟩, ⟨x, y, g3⟩, g4, g5⟩ := st
    exact ⟨⟨kp _ (by simp -dsimp [tSeq, tAsg, tRet, tIfS, tIf, tTest, tVar, tCons, tNil, tC, tOp, tUn, rI, rI0, rU, tCB, tLst_A, tTup_A, gName, L2.start, CMul, CPow, CDiv, tDrop, tBM, tBM0, tNext, tPar, gSub, rSetL, rIxL, rIxT, tChain, tB, tNot, tNotV, tAnd, tOr, tAndV, tOrV, tFld, tCall, rIxLH, rIxTH, atI, ixN, upd_same, cxK, ex2, ex3, ex3b, rIs1, rIs2, rNe2, tyN, kb1, kb2, kb3, kb4, kb5, kb6, rEq, rNe, scal, tMake_S, tMakeK_S, tMakeN_S]) _ g1, kp _ (by simp -dsimp [tSeq, tAsg, tRet, tIfS, tIf, tTest, tVar, tCons, tNil, tC, tOp, tUn, rI, rI0, rU, tCB, tLst_A, tTup_A, gName, L2.start, CMul, CPow, CDiv, tDrop, tBM, tBM0, tNext, tPar, gSub, rSetL, rIxL, rIxT, tChain, tB, tNot, tNotV, tAnd, tOr, tAndV, tOrV, tFld, tCall, rIxLH, rIxTH, atI, ixN, upd_same, cxK, ex2, ex3, ex3b, rIs1, rIs2, rNe2, tyN, kb1, kb2, kb3, kb4, kb5, kb6, rEq, rNe, scal, tMake_S, tMakeK_S, tMakeN_S]) _ g2⟩, ⟨x, y, kp _ (by simp -dsimp [tSeq, tAsg, tRet, tIfS, tIf, tTest, tVar, tCons, tNil, tC, tOp, tUn, rI, rI0, rU, tCB, tLst_A, tTup_A, gName, L2.start, CMul, CPow, CDiv, tDrop, tBM, tBM0, tNext, tPar, gSub, rSetL, rIxL, rIxT, tChain, tB, tNot, tNotV, tAnd, tOr, tAndV, tOrV, tFld, tCall, rIxLH, rIxTH, atI, ixN, upd_same, cxK, ex2, ex3, ex3b, rIs1, rIs2, rNe2, tyN, kb1, kb2, kb3, kb4, kb5, kb6, rEq, rNe, scal, tMake_S, tMakeK_S, tMakeN_S]) _ g3⟩, g4.at fun o e => kp _ (by simp -dsimp [tSeq, tAsg, tRet, tIfS, tIf, tTest, tVar, tCons, tNil, tC, tOp, tUn, rI, rI0, rU, tCB, tLst_A, tTup_A, gName, L2.start, CMul, CPow, CDiv, tDrop, tBM, tBM0, tNext, tPar, gSub, rSetL, rIxL, rIxT, tChain, tB, tNot, tNotV, tAnd, tOr, tAndV, tOrV, tFld, tCall, rIxLH, rIxTH, atI, ixN, upd_same, cxK, ex2, ex3, ex3b, rIs1, rIs2, rNe2, tyN, kb1, kb2, kb3, kb4, kb5, kb6, rEq, rNe, scal, tMake_S, tMakeK_S, tMakeN_S]) o e, g5.at fun o e => kp _ (by simp -dsimp [tSeq, tAsg, tRet, tIfS, tIf, tTest, tVar, tCons, tNil, tC, tOp, tUn, rI, rI0, rU, tCB, tLst_A, tTup_A, gName, L2.start, CMul, CPow, CDiv, tDrop, tBM, tBM0, tNext, tPar, gSub, rSetL, rIxL, rIxT, tChain, tB, tNot, tNotV, tAnd, tOr, tAndV, tOrV, tFld, tCall, rIxLH, rIxTH, atI, ixN, upd_same, cxK, ex2, ex3, ex3b, rIs1, rIs2, rNe2, tyN, kb1, kb2, kb3, kb4, kb5, kb6, rEq, rNe, scal, tMake_S, tMakeK_S, tMakeN_S]) o e⟩
  item := by
    intro X eP ew eK hc i pins s σ H E I hf st hg
    subst eP ew eK
    obtain ⟨⟨g1, g2⟩, ⟨x0, y0, g3⟩, g4, g5⟩ := st
    obtain ⟨xs, ys, x, y, ⟨qx, qy⟩, hx, hy⟩ := hg
    obtain ⟨its, rv, p, _⟩ := I.tuple qx
    obtain ⟨its2, rv2, p2, _⟩ := I.list qy
    obtain ⟨u, hu, ru⟩ := rv.get hx
    obtain ⟨u2, hu2, ru2⟩ := rv2.get hy
    have hh : X.A.in1.handled = none := I.ok.hd hc
    have lz : z < s.heap.objs.size := Heap.lt_size g1
    have lu : i < its.toArray.size := by
      have := (List.getElem?_eq_some_iff.mp hu).1
      simpa using this
    have lu2 : i < its2.toArray.size := by
      have := (List.getElem?_eq_some_iff.mp hu2).1
      simpa using this
    refine wpAny_pyNext_zipD2_item (sep D) (Draws.tuple hh i1 a D.l1i1 its.toArray) (Draws.list hh i2 b D.l2i2 its2.toArray) g1 g2 g3 ⟨g4, p⟩ ⟨g5, p2.isList⟩ lu lu2 fun v1 v2 h' tk e1 e2 z' TO' s1 s2 hT hsz hk => ?_
    have ev1 : v1 = u := by
      have : its[i]? = some v1 := by simpa using e1
      rw [hu] at this
      exact (Option.some.inj this).symm
    have ev2 : v2 = u2 := by
      have : its2[i]? = some v2 := by simpa using e2
      rw [hu2] at this
      exact (Option.some.inj this).symm
    subst ev1 ev2
    refine ⟨_, rfl, wpAny_letOwnedTupleGo_zip (s := { s with heap := h', toks := tk }) z' fun h'' z'' sb => ?_⟩
    have hT2 : h''.get? s.heap.objs.size = some { cls := .type "tuple", data := .seq #[v1, v2] } := (sb.2 _ (Nat.ne_of_gt lz)).trans hT
    have nw : ObjOk X.prog X.w (upd H s.heap.objs.size (.tup [x, y])) h'' s.heap.objs.size (.tup [x, y]) := ⟨(by show 2 ≤ sizeLine; decide), [v1, v2], .cons ru (.cons ru2 .nil), _, hT2, rfl, _, rfl⟩
    have I1 : Inv X pins σ (upd H s.heap.objs.size (.tup [x, y])) { s with heap := h'', toks := tk } := I.turnedNew (ch := [z, TI, TO, i1, i2]) (fun c o nb e => by
      have nz : c ≠ z := fun k => nb (by rw [k]; simp -dsimp [tSeq, tAsg, tRet, tIfS, tIf, tTest, tVar, tCons, tNil, tC, tOp, tUn, rI, rI0, rU, tCB, tLst_A, tTup_A, gName, L2.start, CMul, CPow, CDiv, tDrop, tBM, tBM0, tNext, tPar, gSub, rSetL, rIxL, rIxT, tChain, tB, tNot, tNotV, tAnd, tOr, tAndV, tOrV, tFld, tCall, rIxLH, rIxTH, atI, ixN, upd_same, cxK, ex2, ex3, ex3b, rIs1, rIs2, rNe2, tyN, kb1, kb2, kb3, kb4, kb5, kb6, rEq, rNe, scal, tMake_S, tMakeK_S, tMakeN_S])
      refine (sb.2 c nz).trans (hk c o nz (fun k => nb ?_) (fun k => nb ?_) (fun k => nb ?_) e)
      all_goals (rw [k]; simp -dsimp [tSeq, tAsg, tRet, tIfS, tIf, tTest, tVar, tCons, tNil, tC, tOp, tUn, rI, rI0, rU, tCB, tLst_A, tTup_A, gName, L2.start, CMul, CPow, CDiv, tDrop, tBM, tBM0, tNext, tPar, gSub, rSetL, rIxL, rIxT, tChain, tB, tNot, tNotV, tAnd, tOr, tAndV, tOrV, tFld, tCall, rIxLH, rIxTH, atI, ixN, upd_same, cxK, ex2, ex3, ex3b, rIs1, rIs2, rNe2, tyN, kb1, kb2, kb3, kb4, kb5, kb6, rEq, rNe, scal, tMake_S, tMakeK_S, tMakeN_S])) hf (Nat.le_refl _) nw
    refine ⟨.ref s.heap.objs.size, _, I1, rfl, ⟨_, x, y, rfl, I.hok.fresh (Nat.le_refl _), rfl, fun l hl => by rw [I.tuple_inj hl qx]; exact hx, fun l hl => by rw [I.list_inj hl qy]; exact hy⟩, ⟨⟨z'', ?_⟩, ⟨v1, v2, ?_⟩, ?_, ?_⟩, fun c hcm => ?_⟩
    · exact (sb.2 _ D.TIz).trans (hk _ _ D.TIz D.TITO D.TIi1 D.TIi2 g2)
    · exact (sb.2 _ D.TOz).trans TO'
    · exact s1.1.at fun o e => (sb.2 _ D.i1z).trans e
    · exact s2.1.at fun o e => (sb.2 _ D.i2z).trans e
    · have lt : c < s.heap.objs.size := by
        rcases five hcm with rfl | rfl | rfl | rfl | rfl
        · exact lz
        · exact Heap.lt_size g2
        · exact Heap.lt_size g3
        · obtain ⟨_, e, _⟩ := g4
          exact Heap.lt_size e
        · obtain ⟨_, e, _⟩ := g5
          exact Heap.lt_size e
      rw [upd_ne (Nat.ne_of_lt lt)]
      exact (hf c hcm).1
  done := by
    intro X eP ew eK hc i pins s σ H E I hf st hg
    subst eP ew eK
    obtain ⟨⟨g1, g2⟩, ⟨x0, y0, g3⟩, g4, g5⟩ := st
    obtain ⟨xs, ys, ⟨qx, qy⟩, hx, hy, he⟩ := hg
    obtain ⟨its, rv, p, _⟩ := I.tuple qx
    obtain ⟨its2, rv2, p2, _⟩ := I.list qy
    have l1 := rv.length
    have l2 := rv2.length
    have hh : X.A.in1.handled = none := I.ok.hd hc
    refine wpAny_pyNext_zipD2_end (sep D) (Draws.tuple hh i1 a D.l1i1 its.toArray) (Draws.list hh i2 b D.l2i2 its2.toArray) g1 g2 g3 ⟨g4, p⟩ ⟨g5, p2.isList⟩ (by simp; omega) (by simp; omega) (by simp; omega) fun h' tk hk => ⟨rfl, I.turnedL (ch := [z, TI, TO, i1, i2]) (fun c o nb e => ?_) hf⟩
    refine hk c o (fun k => nb ?_) (fun k => nb ?_) (fun k => nb ?_) (fun k => nb ?_) e
    all_goals (rw [k]; simp -dsimp [tSeq, tAsg, tRet, tIfS, tIf, tTest, tVar, tCons, tNil, tC, tOp, tUn, rI, rI0, rU, tCB, tLst_A, tTup_A, gName, L2.start, CMul, CPow, CDiv, tDrop, tBM, tBM0, tNext, tPar, gSub, rSetL, rIxL, rIxT, tChain, tB, tNot, tNotV, tAnd, tOr, tAndV, tOrV, tFld, tCall, rIxLH, rIxTH, atI, ixN, upd_same, cxK, ex2, ex3, ex3b, rIs1, rIs2, rNe2, tyN, kb1, kb2, kb3, kb4, kb5, kb6, rEq, rNe, scal, tMake_S, tMakeK_S, tMakeN_S])
  self := fun A i s Q E st h => wpAny_pyIter_zip st.1.1 h
def iZipM (K : PySem.W.Frag) (ta : TA) : TI := fun σ H R => ta σ H fun vs H1 => ∃ (a b : Addr) (xs ys : List V), vs = [.ref a, .ref b] ∧ SqT K H1 a xs ∧ ((SqL K H1 b ys ∧ R (ItzM K a b) H1) ∨ (SqT K H1 b ys ∧ R (RZ.ItzT K a b) H1))
theorem fresh5 {X : Cx} {pins : List (Addr × Obj)} {σ : L2.St} {H : Hp} {s : Shared} (I : Inv X pins σ H s) (c : Addr) (h : c ∈ [s.heap.objs.size + 4, s.heap.objs.size + 2, s.heap.objs.size + 3, s.heap.objs.size, s.heap.objs.size + 1]) : FpOk X pins H c := by
  have le : s.heap.objs.size ≤ c := by
    rcases five h with rfl | rfl | rfl | rfl | rfl <;> omega
  exact I.fpOk le (I.hok.fresh le)
/-- zip of a tuple, and a list or a tuple -/
theorem pi_zipM {X : Cx} {e e2 : Expr} {ta : TA} {p pos tp : Pos} {el : List Expr} {k : Nat} (hg : Gl X "zip") (hm : X.mg "zip" = none) (ha : PA X [e, e2] ta)
    (h1 : starEach [e, e2] X.env = (false, eval e X.env) :: starEach [e2] X.env := by rfl) (h2 : (backTo pos (starEach [e2] X.env)).any (·.1) = false := by rfl) :
    PI X (.Tuple el k tp) (.Call (.Name "zip" p) [e, e2] [] pos) (iZipM X.K ta) := by
  refine ⟨fun pins s σ H R I h => Call_ (ld_blt I hg hm PyProof.Rows.boot_zip (PyProof.Rows.callWith_type1 (thn (ha.run pos pins s σ H _ I h) fun us t ⟨vs, G, J, r, q⟩ => ?_) h1 h2))⟩
  obtain ⟨a, b, xs, ys, rfl, qa, q⟩ := q
  obtain ⟨u, u2, rfl, r1, r2⟩ : ∃ u u2, us = [u, u2] ∧ RelV (.ref a) u ∧ RelV (.ref b) u2 := by
    cases r with
    | cons r rr =>
      cases rr with
      | cons r' rr =>
        cases rr
        exact ⟨_, _, rfl, r, r'⟩
  cases r1
  cases r2
  obtain ⟨i1, v1, p1, _⟩ := J.tuple qa
  obtain ⟨o1, ho1, _⟩ := id p1
  rcases q with ⟨qb, q⟩ | ⟨qb, q⟩
  · obtain ⟨i2, v2, p2, _⟩ := J.list qb
    refine zip_begins2 (begins_tuple a i1.toArray) (begins_list b i2.toArray) p1 p2.isList fun h' g1 g2 g3 g4 g5 _ hk => wpAny_pyIter_zip g1 ?_
    exact ⟨_, _, _, _, G, rfl, J.kept (t' := t.toks) hk, turn (PySem.W.ktu_apart t.heap.objs.size a b (Heap.lt_size ho1) p2.lt), ⟨⟨g1, g2⟩, ⟨_, _, g3⟩, ⟨_, g4, rfl, rfl⟩, ⟨_, g5, rfl, rfl⟩⟩, fun c hc => fresh5 J c hc, q⟩
  · obtain ⟨i2, v2, p2, _⟩ := J.tuple qb
    obtain ⟨o2, ho2, _⟩ := id p2
    refine RZ.call_zipT p1 p2 fun h' g1 g2 g3 g4 g5 _ hk => wpAny_pyIter_zip g1 ?_
    exact ⟨_, _, _, _, G, rfl, J.kept (t' := t.toks) hk, RZ.turn_zipT (PySem.W.ktu_apart t.heap.objs.size a b (Heap.lt_size ho1) (Heap.lt_size ho2)), ⟨g1, g2, ⟨_, _, g3⟩, g4, g5⟩, fun c hc => fresh5 J c hc, q⟩
theorem walkM {K : PySem.W.Frag} {a b : Addr} {xs ys : List V} : Walk (ItzM K a b) (min xs.length ys.length) (fun H => SqT K H a xs ∧ SqL K H b ys) (YPair (fun i => xs[i]?) (fun i => ys[i]?)) where
  goes := fun i H hi h => ⟨xs, ys, xs[i]'(by omega), ys[i]'(by omega), h, List.getElem?_eq_getElem _, List.getElem?_eq_getElem _⟩
  stops := fun H h => ⟨xs, ys, h, by omega, by omega, by omega⟩
  yields := fun i H v H' hi h y => by
    obtain ⟨T, x, y, e, n, u, f, g⟩ := y
    exact ⟨T, x, y, e, n, u, f _ h.1, g _ h.2⟩
theorem walkT {K : PySem.W.Frag} {a b : Addr} {xs ys : List V} : Walk (RZ.ItzT K a b) (min xs.length ys.length) (fun H => SqT K H a xs ∧ SqT K H b ys) (YPair (fun i => xs[i]?) (fun i => ys[i]?)) where
  goes := fun i H hi h => ⟨xs, ys, xs[i]'(by omega), ys[i]'(by omega), h.1, h.2, List.getElem?_eq_getElem _, List.getElem?_eq_getElem _⟩
  stops := fun H h => ⟨xs, ys, h.1, h.2, by omega⟩
  yields := fun i H v H' hi h y => by
    obtain ⟨T, x, y, e, n, u, f, g⟩ := y
    exact ⟨T, x, y, e, n, u, f _ h.1, g _ h.2⟩
/-- a for over such a zip -/
theorem forM {K : PySem.W.Frag} {ta : TA} {g : TG} {tb : TS} {D : Ends} {σ : L2.St} {H : Hp} (a b : Addr) (xs ys : List V) (ha : H a = some (.tup xs)) (hb : H b = some (.lst ys) ∨ H b = some (.tup ys)) (hta : ∀ R : List V → Hp → Prop, R [.ref a, .ref b] H → ta σ H R)
    (Pv : Nat → L2.St → Hp → Prop) (h0 : Pv 0 σ H) (hG : ∀ i σ H', Pv i σ H' → ∀ c o, H c = some o → H' c = some o)
    (hs : ∀ (i : Nat) (x y : V) (σ : L2.St) (H' : Hp) (T : Addr), xs[i]? = some x → ys[i]? = some y → H' T = none → Pv i σ H' → g (.ref T) σ (upd H' T (.tup [x, y])) fun σ2 H2 => tb { D with nx := Pv (i + 1), ct := Pv (i + 1), bk := D.nx } σ2 H2) (hd : ∀ σ H', Pv (min xs.length ys.length) σ H' → D.nx σ H') : tFor (iZipM K ta) g tb D σ H := by
  refine hta _ ⟨a, b, xs, ys, rfl, SqT.of ha, ?_⟩
  rcases hb with hb | hb
  · refine .inl ⟨SqL.of hb, for_it walkM Pv h0 (fun i σ H' _ pv => ⟨SqT.of (hG _ _ _ pv _ _ ha), SqL.of (hG _ _ _ pv _ _ hb)⟩) (fun i v σ H' H'' hi pv y => ?_) hd⟩
    obtain ⟨T, x, y, rfl, n, rfl, e1, e2⟩ := y
    exact hs i x y σ H' T e1 e2 n pv
  · refine .inr ⟨SqT.of hb, for_it walkT Pv h0 (fun i σ H' _ pv => ⟨SqT.of (hG _ _ _ pv _ _ ha), SqT.of (hG _ _ _ pv _ _ hb)⟩) (fun i v σ H' H'' hi pv y => ?_) hd⟩
    obtain ⟨T, x, y, rfl, n, rfl, e1, e2⟩ := y
    exact hs i x y σ H' T e1 e2 n pv
end ZmY
/-! ### numbers in lowest terms, not too great -/
/-- all but lists is kept -/
def KeepL (H H' : Hp) : Prop := ∀ b o, H b = some o → (∀ xs, o ≠ .lst xs) → H' b = some o
theorem KeepL.of {H H' : Hp} (h : Same H H') : KeepL H H' := fun b o e _ => h b o e
theorem KeepL.trans {H1 H2 H3 : Hp} (h : KeepL H1 H2) (k : KeepL H2 H3) : KeepL H1 H3 := fun b o e n => k b o (h b o e n) n
theorem KeepL.sameN {l : Addr} {xs : List V} {H H' : Hp} (hl : H l = some (.lst xs)) (s : SameN l H H') : KeepL H H' := fun b o e n => s b o (fun eb => by
  subst eb
  rw [hl] at e
  cases e
  exact n _ rfl) e
theorem IsSh.keepL {K : PySem.W.Frag} {H H' : Hp} {x : Addr} {a b : Int} (h : IsSh K H x a b) (k : KeepL H H') : IsSh K H' x a b := by
  obtain ⟨dx, h⟩ := h
  exact ⟨dx, k _ _ h (fun xs e => by cases e)⟩
theorem IsTm.keepL {K : PySem.W.Frag} {H H' : Hp} {x : Addr} {n t0 t1 t2 : Int × Int} (h : IsTm K H x n t0 t1 t2) (k : KeepL H H') : IsTm K H' x n t0 t1 t2 := by
  obtain ⟨dx, a, tp, a0, a1, a2, h1, h2, h3, h4, h5, h6⟩ := h
  exact ⟨dx, a, tp, a0, a1, a2, k _ _ h1 (fun xs e => by cases e), IsSh.keepL h2 k, k _ _ h3 (fun xs e => by cases e), IsSh.keepL h4 k, IsSh.keepL h5 k, IsSh.keepL h6 k⟩
theorem Nu.keepL {K : PySem.W.Frag} {H H' : Hp} {v : V} {c d : Int} (h : Nu K H v c d) (k : KeepL H H') : Nu K H' v c d := by
  rcases h with ⟨y, e, h⟩ | h
  · exact .inl ⟨y, e, IsSh.keepL h k⟩
  · exact .inr h
theorem dl_pair (k i : Int) : ∃ b : Int, dl k i = (b, 1) ∧ (b = 0 ∨ b = 1) := by
  unfold dl
  split
  · exact ⟨1, rfl, .inr rfl⟩
  · exact ⟨0, rfl, .inl rfl⟩
theorem lo_low' {p : Int × Int} (h : Low p.1 p.2) : lo p.1 p.2 = p := Prod.ext (lo_low h).1 (lo_low h).2
theorem lo_int (a : Int) : lo a 1 = (a, 1) := Prod.ext (one_fd a).1 (one_fd a).2
theorem pAdd_int (a b : Int) : pAdd (a, 1) (b, 1) = (a + b, 1) := by
  show lo (a * 1 + b * 1) (1 * 1) = _
  rw [Int.mul_one, Int.mul_one, Int.mul_one, lo_int]
theorem pMul_int (a b : Int) : pMul (a, 1) (b, 1) = (a * b, 1) := by
  show lo (a * b) (1 * 1) = _
  rw [Int.mul_one, lo_int]
theorem pAdd_zero {p : Int × Int} (h : Low p.1 p.2) : pAdd p (0, 1) = p := by
  show lo (p.1 * 1 + 0 * p.2) (p.2 * 1) = _
  rw [Int.mul_one, Int.mul_one, Int.zero_mul, Int.add_zero, lo_low' h]
/-- a number in lowest terms, not too great -/
structure Gd (n : Nat) (p : Int × Int) : Prop where
  low : Low p.1 p.2
  n1 : p.1.natAbs < 10 ^ n
  n2 : p.2.natAbs < 10 ^ n
theorem Gd.ne {n : Nat} {p : Int × Int} (h : Gd n p) : p.2 ≠ 0 := Int.ne_of_gt h.low.1
theorem h_of400 {n : Nat} (h : n < 10 ^ 400) : n < bigH := Nat.lt_of_lt_of_le h (by unfold bigH; decide +kernel)
theorem p10 {n : Nat} (h : n ≤ 400) {x : Nat} (hx : x < 10 ^ n) : x < bigH := h_of400 (Nat.lt_of_lt_of_le hx (Nat.pow_le_pow_right (by decide) h))
theorem Gd.ok {m n : Nat} {p q : Int × Int} (h : Gd m p) (k : Gd n q) (hm : m ≤ 400 := by decide) (hn : n ≤ 400 := by decide) : Ok2 p q := ⟨⟨p10 hm h.n1, p10 hm h.n2, p10 hn k.n1, p10 hn k.n2⟩, h.ne, k.ne⟩
theorem Gd.int {n : Nat} {a : Int} (h : a.natAbs < 10 ^ (n + 1)) : Gd (n + 1) (a, 1) := ⟨low_one a, h, Nat.lt_of_lt_of_le (by decide : (1 : Nat) < 10 ^ 1) (Nat.pow_le_pow_right (by decide) (by omega))⟩
theorem Gd.dl (k i : Int) : Gd 1 (dl k i) := by
  unfold LW.dl
  split
  · exact ⟨low_one 1, by decide, by decide⟩
  · exact ⟨low_one 0, by decide, by decide⟩
theorem lo_gd {n : Nat} {x y : Int} (hy : y ≠ 0) (h1 : x.natAbs < 10 ^ n) (h2 : y.natAbs < 10 ^ n) : Gd n (lo x y) := by
  obtain ⟨d1, d2, d3⟩ := side_facts x y hy
  exact ⟨low_lo hy, Nat.lt_of_le_of_lt (fdiv_le d1 d3) h1, Nat.lt_of_le_of_lt (fdiv_le d2 d3) h2⟩
theorem mul10 {a b : Int} {m n : Nat} (ha : a.natAbs < 10 ^ m) (hb : b.natAbs < 10 ^ n) : (a * b).natAbs < 10 ^ (m + n) := by
  rw [Int.natAbs_mul, Nat.pow_add]
  exact Nat.mul_lt_mul'' ha hb
theorem Gd.mul {m n : Nat} {p q : Int × Int} (h : Gd m p) (k : Gd n q) : Gd (m + n) (pMul p q) := lo_gd (Int.mul_ne_zero h.ne k.ne) (mul10 h.n1 k.n1) (mul10 h.n2 k.n2)
theorem Gd.add {m n : Nat} {p q : Int × Int} (h : Gd m p) (k : Gd n q) : Gd (m + n + 1) (pAdd p q) := by
  refine lo_gd (Int.mul_ne_zero h.ne k.ne) ?_ (Nat.lt_of_lt_of_le (mul10 h.n2 k.n2) (Nat.pow_le_pow_right (by decide) (by omega)))
  have h1 := mul10 h.n1 k.n2
  have h2 := mul10 k.n1 h.n2
  rw [Nat.add_comm n m] at h2
  have : (p.1 * q.2 + q.1 * p.2).natAbs ≤ (p.1 * q.2).natAbs + (q.1 * p.2).natAbs := Int.natAbs_add_le _ _
  show (p.1 * q.2 + q.1 * p.2).natAbs < 10 ^ (m + n + 1)
  rw [Nat.pow_succ]
  omega
theorem Gd.sub {m n : Nat} {p q : Int × Int} (h : Gd m p) (k : Gd n q) : Gd (m + n + 1) (pSub p q) := by
  refine lo_gd (Int.mul_ne_zero h.ne k.ne) ?_ (Nat.lt_of_lt_of_le (mul10 h.n2 k.n2) (Nat.pow_le_pow_right (by decide) (by omega)))
  have h1 := mul10 h.n1 k.n2
  have h2 := mul10 k.n1 h.n2
  rw [Nat.add_comm n m] at h2
  have : (p.1 * q.2 - q.1 * p.2).natAbs ≤ (p.1 * q.2).natAbs + (q.1 * p.2).natAbs := by
    rw [Int.sub_eq_add_neg]
    refine Nat.le_trans (Int.natAbs_add_le _ _) ?_
    rw [Int.natAbs_neg]
    exact Nat.le_refl _
  show (p.1 * q.2 - q.1 * p.2).natAbs < 10 ^ (m + n + 1)
  rw [Nat.pow_succ]
  omega
theorem Gd.mono {m n : Nat} {p : Int × Int} (h : Gd m p) (k : m ≤ n) : Gd n p := ⟨h.low, Nat.lt_of_lt_of_le h.n1 (Nat.pow_le_pow_right (by decide) k), Nat.lt_of_lt_of_le h.n2 (Nat.pow_le_pow_right (by decide) k)⟩
/-! ### the one form of a row: gcd of the tops over lcm of the bottoms -/
/-- G over L is the greatest number of which all fractions so far are multiples -/
structure Cn (G L : Nat) (f : Nat → Nat) : Prop where
  pos : 0 < L
  co : Nat.gcd G L = 1
  eq : ∀ M, L ∣ M → f M = G * (M / L)
theorem Cn.zero : Cn 0 1 (fun _ => 0) := ⟨by decide, by decide, fun M _ => by rw [Nat.zero_mul]⟩
theorem co_of_dvd {a b c d : Nat} (h : Nat.gcd a b = 1) (hc : c ∣ a) (hd : d ∣ b) : Nat.gcd c d = 1 := by
  have : Nat.gcd c d ∣ Nat.gcd a b := Nat.dvd_gcd (Nat.dvd_trans (Nat.gcd_dvd_left c d) hc) (Nat.dvd_trans (Nat.gcd_dvd_right c d) hd)
  rw [h] at this
  exact Nat.dvd_one.mp this
theorem Cn.step {G L A b : Nat} {f : Nat → Nat} (h : Cn G L f) (hb : 0 < b) (hab : Nat.gcd A b = 1) : Cn (Nat.gcd G A) (L * b / Nat.gcd L b) (fun M => Nat.gcd (f M) (A * (M / b))) := by
  have hL := h.pos
  have hg : 0 < Nat.gcd L b := Nat.gcd_pos_of_pos_left b hL
  obtain ⟨L1, e1⟩ := Nat.gcd_dvd_left L b
  obtain ⟨b1, e2⟩ := Nat.gcd_dvd_right L b
  have co1 : Nat.gcd L1 b1 = 1 := by
    have e : Nat.gcd L b = Nat.gcd L b * Nat.gcd L1 b1 := by
      have := Nat.gcd_mul_left (Nat.gcd L b) L1 b1
      rw [← e1, ← e2] at this
      exact this
    exact Nat.eq_of_mul_eq_mul_left hg (by rw [Nat.mul_one]; exact e.symm)
  have eL : L * b / Nat.gcd L b = L * b1 := by
    have : L * b = Nat.gcd L b * (L * b1) := by
      calc L * b = L * (Nat.gcd L b * b1) := by rw [← e2]
        _ = Nat.gcd L b * (L * b1) := by rw [Nat.mul_left_comm]
    rw [this, Nat.mul_div_cancel_left _ hg]
  have b1p : 0 < b1 := Nat.pos_of_ne_zero fun e => by rw [e, Nat.mul_zero] at e2; omega
  have L1p : 0 < L1 := Nat.pos_of_ne_zero fun e => by rw [e, Nat.mul_zero] at e1; omega
  have dL1 : L1 ∣ L := ⟨Nat.gcd L b, by rw [Nat.mul_comm]; exact e1⟩
  have db1 : b1 ∣ b := ⟨Nat.gcd L b, by rw [Nat.mul_comm]; exact e2⟩
  have c1 : Nat.gcd G L1 = 1 := co_of_dvd h.co (Nat.dvd_refl G) dL1
  have c2 : Nat.gcd A b1 = 1 := co_of_dvd hab (Nat.dvd_refl A) db1
  refine ⟨?_, ?_, fun M hM => ?_⟩
  · rw [eL]
    exact Nat.mul_pos hL b1p
  · rw [eL]
    have d1 : Nat.Coprime (Nat.gcd G A) L := co_of_dvd h.co (Nat.gcd_dvd_left G A) (Nat.dvd_refl L)
    have d2 : Nat.Coprime (Nat.gcd G A) b1 := co_of_dvd c2 (Nat.gcd_dvd_right G A) (Nat.dvd_refl b1)
    exact Nat.Coprime.mul_right d1 d2
  · rw [eL] at hM ⊢
    obtain ⟨s, rfl⟩ := hM
    have m1 : L * b1 * s / L = b1 * s := by rw [Nat.mul_assoc, Nat.mul_div_cancel_left _ hL]
    have m2 : L * b1 * s / b = L1 * s := by
      have : L * b1 * s = b * (L1 * s) := by
        calc L * b1 * s = Nat.gcd L b * L1 * b1 * s := by rw [← e1]
          _ = Nat.gcd L b * b1 * (L1 * s) := by rw [Nat.mul_assoc (Nat.gcd L b), Nat.mul_comm L1 b1, ← Nat.mul_assoc (Nat.gcd L b), Nat.mul_assoc]
          _ = b * (L1 * s) := by rw [← e2]
      rw [this, Nat.mul_div_cancel_left _ hb]
    have m3 : L * b1 * s / (L * b1) = s := Nat.mul_div_cancel_left _ (Nat.mul_pos hL b1p)
    show Nat.gcd (f (L * b1 * s)) (A * (L * b1 * s / b)) = Nat.gcd G A * (L * b1 * s / (L * b1))
    rw [h.eq _ ⟨b1 * s, Nat.mul_assoc L b1 s⟩, m1, m2, m3, ← Nat.mul_assoc, ← Nat.mul_assoc, Nat.gcd_mul_right]
    congr 1
    have x1 : Nat.Coprime L1 (G * b1) := Nat.Coprime.mul_right (Nat.Coprime.symm c1) co1
    have x2 : Nat.Coprime b1 A := Nat.Coprime.symm c2
    rw [Nat.Coprime.gcd_mul_right_cancel_right A x1, Nat.Coprime.gcd_mul_right_cancel G x2]
/-! ### scale -/
def stpN (g : Nat × Nat) (p : Int × Int) : Nat × Nat := (Nat.gcd g.1 p.1.natAbs, g.2 * p.2.natAbs / Nat.gcd g.2 p.2.natAbs)
def glN (p0 p1 p2 p3 : Int × Int) (j : Nat) : Nat × Nat := match j with
  | 0 => (0, 1)
  | 1 => stpN (0, 1) p0
  | 2 => stpN (stpN (0, 1) p0) p1
  | 3 => stpN (stpN (stpN (0, 1) p0) p1) p2
  | _ => stpN (stpN (stpN (stpN (0, 1) p0) p1) p2) p3
/-- what a row's term is multiplied by -/
def scl (p0 p1 p2 p3 : Int × Int) : Int × Int := if (glN p0 p1 p2 p3 4).1 = 0 then (1, 1) else lo (glN p0 p1 p2 p3 4).2 (glN p0 p1 p2 p3 4).1
def nth4 (p0 p1 p2 p3 : Int × Int) (j : Nat) : Int × Int := match j with
  | 0 => p0
  | 1 => p1
  | 2 => p2
  | _ => p3
theorem glN_succ {p0 p1 p2 p3 : Int × Int} {j : Nat} (h : j < 4) : glN p0 p1 p2 p3 (j + 1) = stpN (glN p0 p1 p2 p3 j) (nth4 p0 p1 p2 p3 j) := by
  match j, h with
  | 0, _ => rfl
  | 1, _ => rfl
  | 2, _ => rfl
  | 3, _ => rfl
theorem stpN_pos {g : Nat × Nat} {p : Int × Int} (hg : 0 < g.2) (hp : 0 < p.2) : 0 < (stpN g p).2 := Nat.div_pos (Nat.le_of_dvd (Nat.mul_pos hg (by omega)) (Nat.dvd_trans (Nat.gcd_dvd_left _ _) ⟨_, rfl⟩)) (Nat.gcd_pos_of_pos_left _ hg)
theorem gl_facts {n : Nat} {p0 p1 p2 p3 : Int × Int} (h0 : Gd n p0) (h1 : Gd n p1) (h2 : Gd n p2) (h3 : Gd n p3) : ∀ j, j ≤ 4 → 0 < (glN p0 p1 p2 p3 j).2 ∧ (glN p0 p1 p2 p3 j).2 < 10 ^ (n * j + 1) ∧ (glN p0 p1 p2 p3 j).1 < 10 ^ (n + 1) := by
  have all : ∀ j, Gd n (nth4 p0 p1 p2 p3 j) := fun j => by
    match j with
    | 0 => exact h0
    | 1 => exact h1
    | 2 => exact h2
    | j + 3 => exact h3
  intro j
  induction j with
  | zero => exact fun _ => ⟨(by show 0 < 1; decide), Nat.lt_of_lt_of_le (by decide : 1 < 10 ^ 1) (Nat.pow_le_pow_right (by decide) (by omega)), Nat.pow_pos (by decide)⟩
  | succ j ih =>
    intro hj
    obtain ⟨i1, i2, i3⟩ := ih (by omega)
    have g := all j
    rw [glN_succ (by omega)]
    refine ⟨stpN_pos i1 g.low.1, ?_, ?_⟩
    · have : (stpN (glN p0 p1 p2 p3 j) (nth4 p0 p1 p2 p3 j)).2 ≤ (glN p0 p1 p2 p3 j).2 * (nth4 p0 p1 p2 p3 j).2.natAbs := Nat.div_le_self _ _
      refine Nat.lt_of_le_of_lt this ?_
      have e : n * (j + 1) + 1 = (n * j + 1) + n := by rw [Nat.mul_succ]; omega
      rw [e, Nat.pow_add]
      exact Nat.mul_lt_mul'' i2 g.n2
    · show Nat.gcd (glN p0 p1 p2 p3 j).1 (nth4 p0 p1 p2 p3 j).1.natAbs < 10 ^ (n + 1)
      by_cases hz : (nth4 p0 p1 p2 p3 j).1.natAbs = 0
      · rw [hz, Nat.gcd_zero_right]
        exact i3
      · exact Nat.lt_of_le_of_lt (Nat.gcd_le_right _ (by omega)) (Nat.lt_of_lt_of_le g.n1 (Nat.pow_le_pow_right (by decide) (by omega)))
theorem scl_gd {n : Nat} {p0 p1 p2 p3 : Int × Int} (h0 : Gd n p0) (h1 : Gd n p1) (h2 : Gd n p2) (h3 : Gd n p3) : Gd (n * 4 + 1) (scl p0 p1 p2 p3) := by
  obtain ⟨i1, i2, i3⟩ := gl_facts h0 h1 h2 h3 4 (by decide)
  unfold scl
  split
  · exact Gd.int (Nat.lt_of_lt_of_le (by decide : 1 < 10 ^ 1) (Nat.pow_le_pow_right (by decide) (by omega)))
  · exact lo_gd (by omega) (by rw [Int.natAbs_natCast]; exact i2) (Nat.lt_of_lt_of_le (show (glN p0 p1 p2 p3 4).1 < 10 ^ (n + 1) from i3) (Nat.pow_le_pow_right (by decide) (by omega)))
section
variable {P : Program} {w : World} {K : PySem.W.Frag} {mg : Str → Option Value} {base : Heap} {fd : FuncData}
def spScale (K : PySem.W.Frag) : Sp := fun vs H Q _ => ∃ (x : Addr) (p0 p1 p2 p3 : Int × Int) (n : Nat), vs = [.ref x] ∧ IsTm K H x p0 p1 p2 p3 ∧ Gd n p0 ∧ Gd n p1 ∧ Gd n p2 ∧ Gd n p3 ∧ n ≤ 60 ∧ ∀ z H', Same H H' → IsS K H' z (scl p0 p1 p2 p3) → Q (.ref z) H'
theorem scScale : FnScope ["term", "top", "bottom", "share"] ["term"] d_scale.scope := ⟨rfl, rfl, rfl, by decide +kernel, rfl, by decide +kernel, by decide +kernel⟩
theorem ok_scale (W : Wd K mg) : ∃ fd, FnOk P w K mg base CX0 4 (He.ga K "scale") fd ["term"] (spScale K) ∧ Binds K fd ["term"] [] := by
  obtain ⟨fd_init, G_init, F_init⟩ := ok_init (P := P) (w := w) (base := base) W
  obtain ⟨ds_init1, v_init1, b_init1⟩ := bind2 F_init
  obtain ⟨fd_divisor, G_divisor, b_divisor⟩ := ok_divisor (P := P) (w := w) (base := base) W
  have k_divisor : PySem.W.keepIn K (.ref (He.ga K "divisor")) = true := by obtain ⟨fd, F⟩ := W.F_divisor; exact F.kp
  obtain ⟨fd, F⟩ := W.F_scale
  refine ⟨fd, F.ok scScale (fun vs H Q E h => ?_) (fun cdv A outer s H vs Q E hr h => ?_), FunD.bindsN F fun _ _ _ _ _ _ us hl => match us, hl with | [_], _ => rfl⟩
  · obtain ⟨x, _, _, _, _, _, rfl, _⟩ := h
    rfl
  · obtain ⟨x, p0, p1, p2, p3, n, rfl, hx, g0, g1, g2, g3, hn, q⟩ := h
    have r1 : Room 1 _ := hr.mono (by decide)
    have r2 : Room 2 _ := hr.mono (by decide)
    have r3 : Room 3 _ := hr.mono (by decide)
    refine ⟨_, PSs.nox (pss_cons (ps_set (i := 1) scScale.nd rfl (Or.inl rfl) pe_int)
    (pss_cons (ps_set (i := 2) scScale.nd rfl (Or.inl rfl) pe_int)
    (pss_cons (ps_for PassesOwn.never rfl (pi_list (pe_lst (pa_cons (pe_fld (pv 0) rfl) (_root_.StX.pa_star (pe_fld (pv 0) rfl) pa_nil)))) (pg_name (i := 3) scScale.nd rfl (Or.inl rfl)) (pss_cons (ps_set (i := 1) scScale.nd rfl (Or.inl rfl) (pe_call G_divisor r1 rfl W.g_divisor k_divisor b_divisor .nil pass0 (pa_cons (pv 1) (pa_cons (pe_fld (pv 3) rfl) pa_nil))))
    (pss_one (ps_set (i := 2) scScale.nd rfl (Or.inl rfl) (pe_op op_fdivX (pe_op op_mulX9 (pv 2) (pe_fld (pv 3) rfl)) (pe_call G_divisor r1 rfl W.g_divisor k_divisor b_divisor .nil pass0 (pa_cons (pv 2) (pa_cons (pe_fld (pv 3) rfl) pa_nil))))))))
    (pss_cons (ps_if (pt_cmpR op_eq (pv 1) pe_int (nomark _)) (pss_one (ps_ret (pe_make W.mkr_Share G_init r3 rfl W.g_Share b_init1 v_init1 pass0 (pa_cons pe_int pa_nil)))) pss_nil)
    (pss_one (ps_ret (pe_make W.mkr_Share G_init r3 rfl W.g_Share (bind3 F_init) .nil pass0 (pa_cons (pv 2) (pa_cons (pv 1) pa_nil))))))))), ?_⟩
    obtain ⟨dx, a, tp, a0, a1, a2, e1, e2, e3, e4, e5, e6⟩ := id hx
    simp -dsimp [tSeq, tAsg, tRet, tIfS, tIf, tTest, tVar, tCons, tNil, tC, tOp, tUn, rI, rI0, rU, tCB, tLst_A, tTup_A, gName, L2.start, CMul, CPow, CDiv, tDrop, tBM, tBM0, tNext, tPar, gSub, rSetL, rIxL, rIxT, tChain, tB, tNot, tNotV, tAnd, tOr, tAndV, tOrV, tFld, tCall, rIxLH, rIxTH, atI, ixN, upd_same, cxK, ex2, ex3, ex3b, rIs1, rIs2, rNe2, tyN, kb1, kb2, kb3, kb4, kb5, kb6, rEq, rNe, scal, tMake_S, tMakeK_S, tMakeN_S, tFor_iL]
    refine ⟨_, dx, _, e1, W.cls_Term, W.n_Term_number, _, rfl, ?_⟩
    refine ⟨_, rfl, x, _, dx, _, _, rfl, e1, W.cls_Term, W.n_Term_times, rfl, tp, [.ref a0, .ref a1, .ref a2], rfl, .inl (SqT.of e3), ?_⟩
    refine ⟨by show 4 ≤ sizeLine; decide, Alloc.of fun pl H1 n1 el s1 => ⟨pl, rfl, ⟨_, SqL.of el⟩, ?_⟩⟩
    have sh : ∀ (j : Nat) (y : V), [V.ref a, V.ref a0, V.ref a1, V.ref a2][j]? = some y → j < 4 ∧ ∃ z, y = .ref z ∧ IsS K H1 z (nth4 p0 p1 p2 p3 j) := by
      intro j y hj
      match j, hj with
      | 0, hj => cases hj; exact ⟨by decide, a, rfl, e2.same s1⟩
      | 1, hj => cases hj; exact ⟨by decide, a0, rfl, e4.same s1⟩
      | 2, hj => cases hj; exact ⟨by decide, a1, rfl, e5.same s1⟩
      | 3, hj => cases hj; exact ⟨by decide, a2, rfl, e6.same s1⟩
    have gn : ∀ j, Gd n (nth4 p0 p1 p2 p3 j) := fun j => by
      match j with
      | 0 => exact g0
      | 1 => exact g1
      | 2 => exact g2
      | j + 3 => exact g3
    unfold ForW
    refine for_list (K := K) (a := pl) (xs := _) (fun j σ' H' => ∃ v3 : Option V, σ' = [some (.ref x), some (.int ((glN p0 p1 p2 p3 j).1 : Int)), some (.int ((glN p0 p1 p2 p3 j).2 : Int)), v3] ∧ Same H1 H') ⟨none, rfl, Same.refl _⟩ (fun j σ' H' _ ⟨_, _, s⟩ => SqL.of (s _ _ el)) ?_ ?_
    · rintro j y σ' H2 hj ⟨v3, rfl, s2⟩
      obtain ⟨hj4, z, rfl, iz⟩ := sh j y hj
      obtain ⟨i1, i2, i3⟩ := gl_facts g0 g1 g2 g3 j (by omega)
      obtain ⟨dz, hz⟩ := iz.same s2
      have gj := gn j
      rw [glN_succ hj4]
      have bL : (glN p0 p1 p2 p3 j).2 < bigH := p10 (n := n * j + 1) (by
        have := Nat.mul_le_mul hn (show j ≤ 4 by omega)
        omega) i2
      have bb : (nth4 p0 p1 p2 p3 j).2.natAbs < bigH := p10 (n := n) (by omega) gj.n2
      have eb : (nth4 p0 p1 p2 p3 j).2 = (((nth4 p0 p1 p2 p3 j).2.natAbs : Nat) : Int) := by have := gj.low.1; omega
      have e2' : ((((glN p0 p1 p2 p3 j).2 : Nat) : Int) * (nth4 p0 p1 p2 p3 j).2).fdiv ((Int.gcd (((glN p0 p1 p2 p3 j).2 : Nat) : Int) (nth4 p0 p1 p2 p3 j).2 : Nat) : Int) = (((stpN (glN p0 p1 p2 p3 j) (nth4 p0 p1 p2 p3 j)).2 : Nat) : Int) := by
        have e : (((glN p0 p1 p2 p3 j).2 : Nat) : Int) * (nth4 p0 p1 p2 p3 j).2 = (((glN p0 p1 p2 p3 j).2 * (nth4 p0 p1 p2 p3 j).2.natAbs : Nat) : Int) := by
          rw [Int.natCast_mul, ← eb]
        rw [e, ← Int.ofNat_fdiv]
        rfl
      have gp : 0 < Int.gcd (((glN p0 p1 p2 p3 j).2 : Nat) : Int) (nth4 p0 p1 p2 p3 j).2 := Nat.gcd_pos_of_pos_left _ i1
      have gb : Int.gcd (((glN p0 p1 p2 p3 j).2 : Nat) : Int) (nth4 p0 p1 p2 p3 j).2 < big9 := Nat.lt_of_le_of_lt (Nat.gcd_le_left _ i1) (Nat.lt_of_lt_of_le bL (by unfold bigH big9; exact Nat.pow_le_pow_right (by decide) (by decide)))
      simp -dsimp [tSeq, tAsg, tRet, tIfS, tIf, tTest, tVar, tCons, tNil, tC, tOp, tUn, rI, rI0, rU, tCB, tLst_A, tTup_A, gName, L2.start, CMul, CPow, CDiv, tDrop, tBM, tBM0, tNext, tPar, gSub, rSetL, rIxL, rIxT, tChain, tB, tNot, tNotV, tAnd, tOr, tAndV, tOrV, tFld, tCall, rIxLH, rIxTH, atI, ixN, upd_same, cxK, ex2, ex3, ex3b, rIs1, rIs2, rNe2, tyN, kb1, kb2, kb3, kb4, kb5, kb6, rEq, rNe, scal, tMake_S, tMakeK_S, tMakeN_S, hz, shareO, W.cls_Share, W.n_Share_top, W.n_Share_bottom, look_top, look_bot]
      exact ⟨_, _, rfl, _, dz, _, hz, W.cls_Share, W.n_Share_bottom, _, rfl, _, rfl, ⟨h_lt_M bL, h_lt_M bb⟩, _, dz, _, hz, W.cls_Share, W.n_Share_bottom, _, rfl, _, _, rfl, _, rfl, ⟨by omega, gb⟩, ⟨rfl, e2'⟩, s2⟩
    · rintro σ' H2 ⟨v3, rfl, s2⟩
      have s12 := s1.trans s2
      obtain ⟨i1, i2, i3⟩ := gl_facts g0 g1 g2 g3 4 (by decide)
      have e4 : (V.ref a :: ([V.ref a0, V.ref a1, V.ref a2] ++ [])).length = 4 := rfl
      rw [e4]
      simp -dsimp [tSeq, tAsg, tRet, tIfS, tIf, tTest, tVar, tCons, tNil, tC, tOp, tUn, rI, rI0, rU, tCB, tLst_A, tTup_A, gName, L2.start, CMul, CPow, CDiv, tDrop, tBM, tBM0, tNext, tPar, gSub, rSetL, rIxL, rIxT, tChain, tB, tNot, tNotV, tAnd, tOr, tAndV, tOrV, tFld, tCall, rIxLH, rIxTH, atI, ixN, upd_same, cxK, ex2, ex3, ex3b, rIs1, rIs2, rNe2, tyN, kb1, kb2, kb3, kb4, kb5, kb6, rEq, rNe, scal, tMake_S, tMakeK_S, tMakeN_S]
      by_cases hG : (glN p0 p1 p2 p3 4).1 = 0
      · rw [if_pos hG]
        refine MkS.one fun z H3 n3 s3 i3 => q z H3 (s12.trans s3) ?_
        unfold scl
        rw [if_pos hG]
        exact i3
      · rw [if_neg hG]
        refine MkS.of rfl (by omega) (by rw [Int.natAbs_natCast]; exact Nat.lt_of_lt_of_le (p10 (n := n + 1) (by omega) i3) (by unfold bigH big9; exact Nat.pow_le_pow_right (by decide) (by decide))) fun z H3 n3 i3 s3 => q z H3 (s12.trans s3) ?_
        unfold scl
        rw [if_neg hG]
        exact i3
end
/-! ### a row's numbers are those of lowest integers -/
def g4 (g0 g1 g2 g3 : Int) : Nat := Nat.gcd (Nat.gcd (Nat.gcd (Nat.gcd 0 g0.natAbs) g1.natAbs) g2.natAbs) g3.natAbs
def pr (c : Nat) (g : Int) : Int := if c = 0 then 0 else g.fdiv c
theorem dvd_lcm_l {L b : Nat} : L ∣ L * b / Nat.gcd L b := by
  obtain ⟨b1, e⟩ := Nat.gcd_dvd_right L b
  rw [Nat.mul_div_assoc _ (Nat.gcd_dvd_right L b)]
  exact ⟨_, rfl⟩
theorem dvd_lcm_r {L b : Nat} : b ∣ L * b / Nat.gcd L b := by
  rw [Nat.mul_comm, Nat.mul_div_assoc _ (Nat.gcd_dvd_left L b)]
  exact ⟨_, rfl⟩
theorem stpN_cn {g : Nat × Nat} {p : Int × Int} {f : Nat → Nat} (h : Cn g.1 g.2 f) (hp : Low p.1 p.2) : Cn (stpN g p).1 (stpN g p).2 (fun M => Nat.gcd (f M) (p.1.natAbs * (M / p.2.natAbs))) := by
  have := hp.1
  exact h.step (by omega) hp.2
theorem gcd4_mul {a b c d k : Nat} : Nat.gcd (Nat.gcd (Nat.gcd (Nat.gcd 0 (a * k)) (b * k)) (c * k)) (d * k) = Nat.gcd (Nat.gcd (Nat.gcd (Nat.gcd 0 a) b) c) d * k := by
  rw [Nat.gcd_zero_left, Nat.gcd_zero_left, Nat.gcd_mul_right, Nat.gcd_mul_right, Nat.gcd_mul_right]
theorem lowOne {p : Int × Int} (h : Low p.1 p.2) (hz : p.1 = 0) : p = (0, 1) := by
  obtain ⟨a, b⟩ := p
  have hz' : a = 0 := hz
  subst hz'
  have h2 : Int.gcd 0 b = 1 := h.2
  have h1 : 0 < b := h.1
  rw [Int.zero_gcd] at h2
  have : b = 1 := by omega
  rw [this]
theorem rowForm {p0 p1 p2 p3 : Int × Int} {g0 g1 g2 g3 D : Int} (l0 : Low p0.1 p0.2) (l1 : Low p1.1 p1.2) (l2 : Low p2.1 p2.2) (l3 : Low p3.1 p3.2) (hD : 0 < D) (e0 : p0.1 * D = g0 * p0.2) (e1 : p1.1 * D = g1 * p1.2) (e2 : p2.1 * D = g2 * p2.2) (e3 : p3.1 * D = g3 * p3.2) :
    pMul p0 (scl p0 p1 p2 p3) = (pr (g4 g0 g1 g2 g3) g0, 1) ∧ pMul p1 (scl p0 p1 p2 p3) = (pr (g4 g0 g1 g2 g3) g1, 1) ∧ pMul p2 (scl p0 p1 p2 p3) = (pr (g4 g0 g1 g2 g3) g2, 1) ∧ pMul p3 (scl p0 p1 p2 p3) = (pr (g4 g0 g1 g2 g3) g3, 1) := by
  have C := stpN_cn (stpN_cn (stpN_cn (stpN_cn (g := (0, 1)) Cn.zero l0) l1) l2) l3
  have eg : stpN (stpN (stpN (stpN (0, 1) p0) p1) p2) p3 = glN p0 p1 p2 p3 4 := rfl
  rw [eg] at C
  have b0 : p0.2.natAbs ∣ (glN p0 p1 p2 p3 4).2 := Nat.dvd_trans (Nat.dvd_trans (Nat.dvd_trans (dvd_lcm_r (L := 1)) dvd_lcm_l) dvd_lcm_l) dvd_lcm_l
  have b1 : p1.2.natAbs ∣ (glN p0 p1 p2 p3 4).2 := Nat.dvd_trans (Nat.dvd_trans dvd_lcm_r dvd_lcm_l) dvd_lcm_l
  have b2 : p2.2.natAbs ∣ (glN p0 p1 p2 p3 4).2 := Nat.dvd_trans dvd_lcm_r dvd_lcm_l
  have b3 : p3.2.natAbs ∣ (glN p0 p1 p2 p3 4).2 := dvd_lcm_r
  generalize hq : scl p0 p1 p2 p3 = q
  unfold scl at hq
  generalize (glN p0 p1 p2 p3 4).1 = G at C hq
  generalize (glN p0 p1 p2 p3 4).2 = L at C hq b0 b1 b2 b3
  have hL := C.pos
  have fL := C.eq L (Nat.dvd_refl L)
  rw [Nat.div_self hL, Nat.mul_one] at fL
  have nat : ∀ {p : Int × Int} {g : Int}, Low p.1 p.2 → p.1 * D = g * p.2 → p.2.natAbs ∣ L → p.1.natAbs * (L / p.2.natAbs) * D.natAbs = g.natAbs * L := by
    intro p g lp e hb
    have e' : p.1.natAbs * D.natAbs = g.natAbs * p.2.natAbs := by rw [← Int.natAbs_mul, ← Int.natAbs_mul, e]
    obtain ⟨k, rfl⟩ := hb
    have hp : 0 < p.2.natAbs := by have := lp.1; omega
    rw [Nat.mul_div_cancel_left _ hp]
    calc p.1.natAbs * k * D.natAbs = p.1.natAbs * D.natAbs * k := by rw [Nat.mul_right_comm]
      _ = g.natAbs * p.2.natAbs * k := by rw [e']
      _ = g.natAbs * (p.2.natAbs * k) := by rw [Nat.mul_assoc]
  have key : G * D.natAbs = g4 g0 g1 g2 g3 * L := by
    unfold g4
    rw [← fL, ← gcd4_mul, ← gcd4_mul, nat l0 e0 b0, nat l1 e1 b1, nat l2 e2 b2, nat l3 e3 b3]
  have dn : D.natAbs ≠ 0 := by omega
  by_cases hG : G = 0
  · rw [hG, Nat.zero_mul] at key
    have c0 : g4 g0 g1 g2 g3 = 0 := by
      rcases Nat.mul_eq_zero.mp key.symm with h | h
      · exact h
      · omega
    rw [if_pos hG] at hq
    subst hq
    have z : g0.natAbs = 0 ∧ g1.natAbs = 0 ∧ g2.natAbs = 0 ∧ g3.natAbs = 0 := by
      unfold g4 at c0
      have a3 := Nat.eq_zero_of_gcd_eq_zero_right c0
      have c1 := Nat.eq_zero_of_gcd_eq_zero_left c0
      have a2 := Nat.eq_zero_of_gcd_eq_zero_right c1
      have c2 := Nat.eq_zero_of_gcd_eq_zero_left c1
      have a1 := Nat.eq_zero_of_gcd_eq_zero_right c2
      have c3 := Nat.eq_zero_of_gcd_eq_zero_left c2
      have a0 := Nat.eq_zero_of_gcd_eq_zero_right c3
      exact ⟨a0, a1, a2, a3⟩
    have one : ∀ {p : Int × Int} {g : Int}, Low p.1 p.2 → p.1 * D = g * p.2 → g.natAbs = 0 → pMul p (1, 1) = (pr (g4 g0 g1 g2 g3) g, 1) := by
      intro p g lp e hz
      have g0' : g = 0 := by omega
      rw [g0', Int.zero_mul] at e
      have p0' : p.1 = 0 := by
        rcases Int.mul_eq_zero.mp e with h | h
        · exact h
        · omega
      rw [lowOne lp p0']
      unfold pr
      rw [if_pos c0]
      exact pMul_int 0 1
    exact ⟨one l0 e0 z.1, one l1 e1 z.2.1, one l2 e2 z.2.2.1, one l3 e3 z.2.2.2⟩
  · rw [if_neg hG] at hq
    have cn : g4 g0 g1 g2 g3 ≠ 0 := fun e => by
      rw [e, Nat.zero_mul] at key
      rcases Nat.mul_eq_zero.mp key with h | h
      · exact hG h
      · exact dn h
    have d : g4 g0 g1 g2 g3 ∣ g0.natAbs ∧ g4 g0 g1 g2 g3 ∣ g1.natAbs ∧ g4 g0 g1 g2 g3 ∣ g2.natAbs ∧ g4 g0 g1 g2 g3 ∣ g3.natAbs := by
      unfold g4
      refine ⟨?_, ?_, ?_, Nat.gcd_dvd_right _ _⟩
      · exact Nat.dvd_trans (Nat.gcd_dvd_left _ _) (Nat.dvd_trans (Nat.gcd_dvd_left _ _) (Nat.dvd_trans (Nat.gcd_dvd_left _ _) (Nat.gcd_dvd_right _ _)))
      · exact Nat.dvd_trans (Nat.gcd_dvd_left _ _) (Nat.dvd_trans (Nat.gcd_dvd_left _ _) (Nat.gcd_dvd_right _ _))
      · exact Nat.dvd_trans (Nat.gcd_dvd_left _ _) (Nat.gcd_dvd_right _ _)
    generalize g4 g0 g1 g2 g3 = c at key cn d
    have hGi : (G : Int) ≠ 0 := by omega
    have cr := lo_cross (x := (L : Int)) (y := (G : Int)) hGi
    have lq := low_lo (x := (L : Int)) (y := (G : Int)) hGi
    have hq1 : q.1 * (G : Int) = (L : Int) * q.2 := by rw [← hq]; exact cr
    have hq2 : q.2 ≠ 0 := by rw [← hq]; exact Int.ne_of_gt lq.1
    have keyI : (G : Int) * D = (c : Int) * (L : Int) := by
      have : ((G * D.natAbs : Nat) : Int) = ((c * L : Nat) : Int) := by rw [key]
      rw [Int.natCast_mul, Int.natCast_mul] at this
      rw [← this]
      congr 1
      omega
    have one : ∀ {p : Int × Int} {g : Int}, Low p.1 p.2 → p.1 * D = g * p.2 → c ∣ g.natAbs → pMul p q = (pr c g, 1) := by
      intro p g lp e hd
      have hdI : (c : Int) ∣ g := Int.ofNat_dvd_left.mpr hd
      obtain ⟨n, rfl⟩ := hdI
      have ci : (c : Int) ≠ 0 := by omega
      have epr : pr c ((c : Int) * n) = n := by
        unfold pr
        rw [if_neg cn, Int.fdiv_eq_ediv_of_dvd ⟨n, rfl⟩, Int.mul_ediv_cancel_left _ ci]
      rw [epr]
      have hy : p.2 * q.2 ≠ 0 := Int.mul_ne_zero (Int.ne_of_gt lp.1) hq2
      have fin : p.1 * q.1 * 1 = n * (p.2 * q.2) := by
        have hGD : (G : Int) * D ≠ 0 := Int.mul_ne_zero hGi (by omega)
        refine Int.eq_of_mul_eq_mul_right hGD ?_
        grind
      have := lo_eq hy (low_one n) fin
      exact Prod.ext this.1 this.2
    exact ⟨one l0 e0 d.1, one l1 e1 d.2.1, one l2 e2 d.2.2.1, one l3 e3 d.2.2.2⟩
/-! ### rows -/
def rowO (C dx : Addr) (t s : V) : HO := .ins C dx [("term", t), ("strict", s)]
/-- a row: whether it is strict, its term -/
def IsRow (K : PySem.W.Frag) (H : Hp) (z : Addr) (st : Bool) (m t0 t1 t2 : Int × Int) : Prop := ∃ dx tz, H z = some (rowO (He.ga K "Row") dx (.ref tz) (.bl st)) ∧ IsTm K H tz m t0 t1 t2
theorem IsRow.same {K : PySem.W.Frag} {H H' : Hp} {z : Addr} {st : Bool} {m t0 t1 t2 : Int × Int} (h : IsRow K H z st m t0 t1 t2) (s : Same H H') : IsRow K H' z st m t0 t1 t2 := by
  obtain ⟨dx, tz, h1, h2⟩ := h
  exact ⟨dx, tz, s _ _ h1, h2.same s⟩
/-- the row that says that a term is above 0 -/
def IsRw (K : PySem.W.Frag) (H : Hp) (z : Addr) (st : Bool) (q0 q1 q2 q3 : Int × Int) : Prop := IsRow K H z st (pMul q0 (scl q0 q1 q2 q3)) (pMul q1 (scl q0 q1 q2 q3)) (pMul q2 (scl q0 q1 q2 q3)) (pMul q3 (scl q0 q1 q2 q3))
/-- all but new objects without fields is kept -/
def KeepE (H H' : Hp) : Prop := ∀ b o, H b = some o → (∀ C dx, o ≠ .ins C dx []) → H' b = some o
theorem IsSh.keepE {K : PySem.W.Frag} {H H' : Hp} {x : Addr} {a b : Int} (h : IsSh K H x a b) (k : KeepE H H') : IsSh K H' x a b := by
  obtain ⟨dx, h⟩ := h
  exact ⟨dx, k _ _ h (fun C d e => by cases e)⟩
theorem IsTm.keepE {K : PySem.W.Frag} {H H' : Hp} {x : Addr} {n t0 t1 t2 : Int × Int} (h : IsTm K H x n t0 t1 t2) (k : KeepE H H') : IsTm K H' x n t0 t1 t2 := by
  obtain ⟨dx, a, tp, a0, a1, a2, h1, h2, h3, h4, h5, h6⟩ := h
  exact ⟨dx, a, tp, a0, a1, a2, k _ _ h1 (fun C d e => by cases e), IsSh.keepE h2 k, k _ _ h3 (fun C d e => by cases e), IsSh.keepE h4 k, IsSh.keepE h5 k, IsSh.keepE h6 k⟩
section
variable {P : Program} {w : World} {K : PySem.W.Frag} {mg : Str → Option Value} {base : Heap} {fd : FuncData}
def spRInit (K : PySem.W.Frag) : Sp := fun vs H Q _ => ∃ (z dx x : Addr) (st : Bool) (p0 p1 p2 p3 : Int × Int) (n : Nat), vs = [.ref z, .ref x, .bl st] ∧ H z = some (.ins (He.ga K "Row") dx []) ∧ IsTm K H x p0 p1 p2 p3 ∧ Gd n p0 ∧ Gd n p1 ∧ Gd n p2 ∧ Gd n p3 ∧ n ≤ 60 ∧
  ∀ tz H', Same H H' → IsTm K H' tz (pMul p0 (scl p0 p1 p2 p3)) (pMul p1 (scl p0 p1 p2 p3)) (pMul p2 (scl p0 p1 p2 p3)) (pMul p3 (scl p0 p1 p2 p3)) → Q .non (upd H' z (rowO (He.ga K "Row") dx (.ref tz) (.bl st)))
theorem pMul_r1 {n : Nat} {p : Int × Int} (g : Gd n p) : pMul p (1, 1) = p := by
  show lo (p.1 * 1) (p.2 * 1) = p
  rw [Int.mul_one, Int.mul_one]
  exact lo_low' g.low
theorem scRowInit : FnScope ["self", "term", "strict", "by"] ["self", "term", "strict"] d_Row_init.scope := ⟨rfl, rfl, rfl, by decide +kernel, rfl, by decide +kernel, by decide +kernel⟩
theorem ok_rinit (W : Wd K mg) : ∃ fd, FnOk P w K mg base CX0 6 (He.ma K (He.ga K "Row") "__init__") fd ["self", "term", "strict"] (spRInit K) ∧ Binds K fd ["self", "term", "strict"] [] := by
  obtain ⟨fd_scale, G_scale, b_scale⟩ := ok_scale (P := P) (w := w) (base := base) W
  have k_scale : PySem.W.keepIn K (.ref (He.ga K "scale")) = true := by obtain ⟨fd, F⟩ := W.F_scale; exact F.kp
  obtain ⟨fd, F⟩ := W.F_Row_init
  refine ⟨fd, F.ok scRowInit (fun vs H Q E h => ?_) (fun cdv A outer s H vs Q E hr h => ?_), FunD.bindsN F fun _ _ _ _ _ _ us hl => match us, hl with | [_, _, _], _ => rfl⟩
  · obtain ⟨z, dx, x, st, _, _, _, _, _, rfl, _⟩ := h
    rfl
  · obtain ⟨z, dx, x, st, p0, p1, p2, p3, n, rfl, hz, hx, g0, g1, g2, g3, hn, q⟩ := h
    have r1 : Room 1 _ := hr.mono (by decide)
    have r2 : Room 2 _ := hr.mono (by decide)
    have r3 : Room 3 _ := hr.mono (by decide)
    have r4 : Room 4 _ := hr.mono (by decide)
    have r5 : Room 5 _ := hr.mono (by decide)
    refine ⟨_, PSs.nox (pss_cons (ps_set (i := 3) scRowInit.nd rfl (Or.inl rfl) (pe_call G_scale r4 rfl W.g_scale k_scale b_scale .nil pass0 (pa_cons (pv 1) pa_nil)))
    (pss_cons (ps_fld (pv 0) (pe_ifExp (pt_cmpR (W.opEq r3) (pv 3) pe_int (nomark _)) (pv 1) (pe_op (W.tMulN hr) (pv 1) (pv 3))) rfl)
    (pss_one (ps_fld (pv 0) (pv 2) rfl)))), ?_⟩
    have gs := scl_gd g0 g1 g2 g3
    have l1 : n ≤ 400 := by omega
    have l2 : n * 4 + 1 ≤ 400 := by omega
    have pf : ∀ (u v : V), putF "strict" v (putF "term" u []) = [(("term" : Str), u), (("strict" : Str), v)] := fun u v => by
      show (if ("term" : Str) = "strict" then [(("term" : Str), v)] else (("term" : Str), u) :: putF "strict" v []) = _
      rw [if_neg (by decide +kernel)]
      rfl
    have pl : ∀ u : V, (putF "term" u []).length < 1000 := fun u => by
      show 1 < 1000
      decide
    simp -dsimp [tSeq, tAsg, tRet, tIfS, tIf, tTest, tVar, tCons, tNil, tC, tOp, tUn, rI, rI0, rU, tCB, tLst_A, tTup_A, gName, L2.start, CMul, CPow, CDiv, tDrop, tBM, tBM0, tNext, tPar, gSub, rSetL, rIxL, rIxT, tChain, tB, tNot, tNotV, tAnd, tOr, tAndV, tOrV, tFld, tCall, rIxLH, rIxTH, atI, ixN, upd_same, cxK, ex2, ex3, ex3b, rIs1, rIs2, rNe2, tyN, kb1, kb2, kb3, kb4, kb5, kb6, rEq, rNe, scal, tMake_S, tMakeK_S, tMakeN_S, sFld]
    refine ⟨x, p0, p1, p2, p3, n, rfl, hx, g0, g1, g2, g3, hn, fun sz H1 s1 is => ?_⟩
    refine ⟨_, _, 1, 1, .inl ⟨sz, rfl, is⟩, .inr ⟨rfl, rfl⟩, (gs.ok (Gd.int (n := 0) (a := 1) (by decide)) l2).1, .inl ⟨sz, rfl⟩, fun H2 s2 => ?_⟩
    have is2 := is.same s2
    have hx2 := (hx.same s1).same s2
    by_cases hs : (scl p0 p1 p2 p3).1 * 1 - 1 * (scl p0 p1 p2 p3).2 = 0
    · have e1 : scl p0 p1 p2 p3 = (1, 1) := by
        have e := gs.low.2
        have e0 := gs.low.1
        have ee : (scl p0 p1 p2 p3).1 = (scl p0 p1 p2 p3).2 := by omega
        rw [ee, Int.gcd_self] at e
        exact Prod.ext (by show _ = (1 : Int); omega) (by show _ = (1 : Int); omega)
      rw [e1] at q
      rw [pMul_r1 g0, pMul_r1 g1, pMul_r1 g2, pMul_r1 g3] at q
      have hz2 := (s1.trans s2) _ _ hz
      simp -dsimp [tSeq, tAsg, tRet, tIfS, tIf, tTest, tVar, tCons, tNil, tC, tOp, tUn, rI, rI0, rU, tCB, tLst_A, tTup_A, gName, L2.start, CMul, CPow, CDiv, tDrop, tBM, tBM0, tNext, tPar, gSub, rSetL, rIxL, rIxT, tChain, tB, tNot, tNotV, tAnd, tOr, tAndV, tOrV, tFld, tCall, rIxLH, rIxTH, atI, ixN, upd_same, cxK, ex2, ex3, ex3b, rIs1, rIs2, rNe2, tyN, kb1, kb2, kb3, kb4, kb5, kb6, rEq, rNe, scal, tMake_S, tMakeK_S, tMakeN_S, hs, sFld, hz2, W.cls_Row, W.n_Row_term, W.n_Row_strict, upd_upd, pf, pl]
      exact .inr ⟨by omega, q x H2 (s1.trans s2) hx2⟩
    · simp -dsimp [tSeq, tAsg, tRet, tIfS, tIf, tTest, tVar, tCons, tNil, tC, tOp, tUn, rI, rI0, rU, tCB, tLst_A, tTup_A, gName, L2.start, CMul, CPow, CDiv, tDrop, tBM, tBM0, tNext, tPar, gSub, rSetL, rIxL, rIxT, tChain, tB, tNot, tNotV, tAnd, tOr, tAndV, tOrV, tFld, tCall, rIxLH, rIxTH, atI, ixN, upd_same, cxK, ex2, ex3, ex3b, rIs1, rIs2, rNe2, tyN, kb1, kb2, kb3, kb4, kb5, kb6, rEq, rNe, scal, tMake_S, tMakeK_S, tMakeN_S]
      refine .inl ⟨by omega, p0, p1, p2, p3, scl p0 p1 p2 p3, x, rfl, hx2, .inl ⟨sz, rfl, is2⟩, g0.ok gs l1 l2, g1.ok gs l1 l2, g2.ok gs l1 l2, g3.ok gs l1 l2, fun tz H3 s3 it => ?_⟩
      have hz2 := ((s1.trans s2).trans s3) _ _ hz
      simp -dsimp [tSeq, tAsg, tRet, tIfS, tIf, tTest, tVar, tCons, tNil, tC, tOp, tUn, rI, rI0, rU, tCB, tLst_A, tTup_A, gName, L2.start, CMul, CPow, CDiv, tDrop, tBM, tBM0, tNext, tPar, gSub, rSetL, rIxL, rIxT, tChain, tB, tNot, tNotV, tAnd, tOr, tAndV, tOrV, tFld, tCall, rIxLH, rIxTH, atI, ixN, upd_same, cxK, ex2, ex3, ex3b, rIs1, rIs2, rNe2, tyN, kb1, kb2, kb3, kb4, kb5, kb6, rEq, rNe, scal, tMake_S, tMakeK_S, tMakeN_S, sFld, hz2, W.cls_Row, W.n_Row_term, W.n_Row_strict, upd_upd, pf, pl]
      exact q tz H3 ((s1.trans s2).trans s3) it
/-- a row is made -/
def MkR (K : PySem.W.Frag) (H : Hp) (vs : List V) (Q : V → Hp → Prop) (E : XK) (_ : Lk (Q, E) := ⟨⟩) : Prop :=
  ∀ x dx, H x = none → H dx = none → dx ≠ x → spRInit K (.ref x :: vs) (upd (upd H dx (.own x)) x (.ins (He.ga K "Row") dx [])) (fun v H2 => v = .non ∧ Q (.ref x) H2) E
theorem tMake_R {E : XK} {t : TA} {σ : List (Option V)} {H : Hp} {Q : V → Hp → Prop} : tMake (He.ga K "Row") (spRInit K) [] E t σ H Q = t σ H fun vs H1 => MkR K H1 vs Q E := by
  show (t σ H fun vs H1 => MkR K H1 (vs ++ []) Q E) = _
  simp only [List.append_nil]
theorem MkR.of {H : Hp} {vs : List V} {Q : V → Hp → Prop} {E : XK} {t : Addr} {st : Bool} {p0 p1 p2 p3 : Int × Int} {n : Nat} (e : vs = [.ref t, .bl st]) (it : IsTm K H t p0 p1 p2 p3) (g0 : Gd n p0) (g1 : Gd n p1) (g2 : Gd n p2) (g3 : Gd n p3) (hn : n ≤ 60)
    (h : ∀ z H', Same H H' → IsRw K H' z st p0 p1 p2 p3 → Q (.ref z) H') : MkR K H vs Q E := by
  intro x dx nx nd ne
  have s0 : Same H (upd (upd H dx (.own x)) x (.ins (He.ga K "Row") dx [])) := by
    intro c o ec
    rw [upd_ne (ne_of_none ec nx), upd_ne (ne_of_none ec nd)]
    exact ec
  refine ⟨x, dx, t, st, p0, p1, p2, p3, n, by rw [e], upd_same, it.same s0, g0, g1, g2, g3, hn, fun tz H1 s1 itz => ⟨rfl, h x _ ?_ ?_⟩⟩
  · intro c o ec
    rw [upd_ne (ne_of_none ec nx)]
    exact s1 _ _ (s0 _ _ ec)
  · have hx1 := s1 _ _ (upd_same (H := upd H dx (.own x)) (a := x) (o := .ins (He.ga K "Row") dx []))
    refine ⟨dx, tz, upd_same, itz.keepE fun b o eb nb => ?_⟩
    rw [upd_ne]
    · exact eb
    · intro ex
      subst ex
      rw [hx1] at eb
      cases eb
      exact nb _ _ rfl
/-- a term beside a term or number: the row of the difference -/
def spRC (K : PySem.W.Frag) (st fl : Bool) : Sp := fun vs H Q _ => ∃ (x : Addr) (v : V) (m t0 t1 t2 n u0 u1 u2 : Int × Int) (a b : Nat), vs = [.ref x, v] ∧ IsTm K H x m t0 t1 t2 ∧ TN K H v n u0 u1 u2 ∧ Gd a m ∧ Gd a t0 ∧ Gd a t1 ∧ Gd a t2 ∧ Gd b n ∧ Gd b u0 ∧ Gd b u1 ∧ Gd b u2 ∧ a + b + 1 ≤ 60 ∧
  ∀ z H', Same H H' → (if fl then IsRw K H' z st (pSub n m) (pSub u0 t0) (pSub u1 t1) (pSub u2 t2) else IsRw K H' z st (pSub m n) (pSub t0 u0) (pSub t1 u1) (pSub t2 u2)) → Q (.ref z) H'
theorem scTermLt : FnScope ["self", "other", "right"] ["self", "other"] d_Term_lt.scope := ⟨rfl, rfl, rfl, by decide +kernel, rfl, by decide +kernel, by decide +kernel⟩
theorem ok_tlt (W : Wd K mg) : ∃ fd, FnOk P w K mg base CX0 8 (aT K "__lt__") fd ["self", "other"] (spRC K true true) ∧ Binds K fd ["self", "other"] [] := by
  obtain ⟨fd_termOf, G_termOf, b_termOf⟩ := ok_termOf (P := P) (w := w) (base := base) W
  have k_termOf : PySem.W.keepIn K (.ref (He.ga K "term_of")) = true := by obtain ⟨fd, F⟩ := W.F_term_of; exact F.kp
  obtain ⟨fd_rinit, G_rinit, b_rinit⟩ := ok_rinit (P := P) (w := w) (base := base) W
  obtain ⟨fd, F⟩ := W.F_Term_lt
  refine ⟨fd, F.ok scTermLt (fun vs H Q E h => ?_) (fun cdv A outer s H vs Q E hr h => ?_), FunD.bindsN F fun _ _ _ _ _ _ us hl => match us, hl with | [_, _], _ => rfl⟩
  · obtain ⟨x, v, _, _, _, _, _, _, _, _, _, _, rfl, _⟩ := h
    rfl
  · obtain ⟨x, v, m, t0, t1, t2, n, u0, u1, u2, a, b, rfl, hx, hv, g0, g1, g2, g3, h0, h1, h2, h3, hab, q⟩ := h
    have r1 : Room 1 _ := hr.mono (by decide)
    have r2 : Room 2 _ := hr.mono (by decide)
    have r3 : Room 3 _ := hr.mono (by decide)
    have r4 : Room 4 _ := hr.mono (by decide)
    have r5 : Room 5 _ := hr.mono (by decide)
    have r6 : Room 6 _ := hr.mono (by decide)
    have r7 : Room 7 _ := hr.mono (by decide)
    refine ⟨_, PSs.nox (pss_cons (ps_set (i := 2) scTermLt.nd rfl (Or.inl rfl) (pe_call G_termOf r6 rfl W.g_term_of k_termOf b_termOf .nil pass0 (pa_cons (pv 1) pa_nil)))
    (pss_cons (ps_if (pt_cmpR op_isN (pv 2) pe_non (nomark _)) pss_never pss_nil)
    (pss_one (ps_ret (pe_make W.mkr_Row G_rinit r7 rfl W.g_Row b_rinit .nil pass0 (pa_cons (pe_op (W.tSubT hr) (pv 2) (pv 0)) (pa_cons pe_bl pa_nil))))))), ?_⟩
    have la : a ≤ 400 := by omega
    have lb : b ≤ 400 := by omega
    simp -dsimp [tSeq, tAsg, tRet, tIfS, tIf, tTest, tVar, tCons, tNil, tC, tOp, tUn, rI, rI0, rU, tCB, tLst_A, tTup_A, gName, L2.start, CMul, CPow, CDiv, tDrop, tBM, tBM0, tNext, tPar, gSub, rSetL, rIxL, rIxT, tChain, tB, tNot, tNotV, tAnd, tOr, tAndV, tOrV, tFld, tCall, rIxLH, rIxTH, atI, ixN, upd_same, cxK, ex2, ex3, ex3b, rIs1, rIs2, rNe2, tyN, kb1, kb2, kb3, kb4, kb5, kb6, rEq, rNe, scal, tMake_S, tMakeK_S, tMakeN_S]
    refine ⟨v, n, u0, u1, u2, rfl, hv, fun z H1 s1 iz => ?_⟩
    simp -dsimp [tSeq, tAsg, tRet, tIfS, tIf, tTest, tVar, tCons, tNil, tC, tOp, tUn, rI, rI0, rU, tCB, tLst_A, tTup_A, gName, L2.start, CMul, CPow, CDiv, tDrop, tBM, tBM0, tNext, tPar, gSub, rSetL, rIxL, rIxT, tChain, tB, tNot, tNotV, tAnd, tOr, tAndV, tOrV, tFld, tCall, rIxLH, rIxTH, atI, ixN, upd_same, cxK, ex2, ex3, ex3b, rIs1, rIs2, rNe2, tyN, kb1, kb2, kb3, kb4, kb5, kb6, rEq, rNe, scal, tMake_S, tMakeK_S, tMakeN_S, tMake_R]
    refine ⟨n, u0, u1, u2, m, t0, t1, t2, z, rfl, iz, .inl ⟨x, rfl, hx.same s1⟩, h0.ok g0 lb la, h1.ok g1 lb la, h2.ok g2 lb la, h3.ok g3 lb la, fun dz H2 s2 idz => ?_⟩
    have cc : b + a + 1 ≤ a + b + 1 := by omega
    refine MkR.of rfl idz ((h0.sub g0).mono cc) ((h1.sub g1).mono cc) ((h2.sub g2).mono cc) ((h3.sub g3).mono cc) hab fun rz H3 s3 ir => q rz H3 ((s1.trans s2).trans s3) ?_
    exact ir
theorem scTermLe : FnScope ["self", "other", "right"] ["self", "other"] d_Term_le.scope := ⟨rfl, rfl, rfl, by decide +kernel, rfl, by decide +kernel, by decide +kernel⟩
theorem ok_tle (W : Wd K mg) : ∃ fd, FnOk P w K mg base CX0 8 (aT K "__le__") fd ["self", "other"] (spRC K false true) ∧ Binds K fd ["self", "other"] [] := by
  obtain ⟨fd_termOf, G_termOf, b_termOf⟩ := ok_termOf (P := P) (w := w) (base := base) W
  have k_termOf : PySem.W.keepIn K (.ref (He.ga K "term_of")) = true := by obtain ⟨fd, F⟩ := W.F_term_of; exact F.kp
  obtain ⟨fd_rinit, G_rinit, b_rinit⟩ := ok_rinit (P := P) (w := w) (base := base) W
  obtain ⟨fd, F⟩ := W.F_Term_le
  refine ⟨fd, F.ok scTermLe (fun vs H Q E h => ?_) (fun cdv A outer s H vs Q E hr h => ?_), FunD.bindsN F fun _ _ _ _ _ _ us hl => match us, hl with | [_, _], _ => rfl⟩
  · obtain ⟨x, v, _, _, _, _, _, _, _, _, _, _, rfl, _⟩ := h
    rfl
  · obtain ⟨x, v, m, t0, t1, t2, n, u0, u1, u2, a, b, rfl, hx, hv, g0, g1, g2, g3, h0, h1, h2, h3, hab, q⟩ := h
    have r1 : Room 1 _ := hr.mono (by decide)
    have r2 : Room 2 _ := hr.mono (by decide)
    have r3 : Room 3 _ := hr.mono (by decide)
    have r4 : Room 4 _ := hr.mono (by decide)
    have r5 : Room 5 _ := hr.mono (by decide)
    have r6 : Room 6 _ := hr.mono (by decide)
    have r7 : Room 7 _ := hr.mono (by decide)
    refine ⟨_, PSs.nox (pss_cons (ps_set (i := 2) scTermLe.nd rfl (Or.inl rfl) (pe_call G_termOf r6 rfl W.g_term_of k_termOf b_termOf .nil pass0 (pa_cons (pv 1) pa_nil)))
    (pss_cons (ps_if (pt_cmpR op_isN (pv 2) pe_non (nomark _)) pss_never pss_nil)
    (pss_one (ps_ret (pe_make W.mkr_Row G_rinit r7 rfl W.g_Row b_rinit .nil pass0 (pa_cons (pe_op (W.tSubT hr) (pv 2) (pv 0)) (pa_cons pe_bl pa_nil))))))), ?_⟩
    have la : a ≤ 400 := by omega
    have lb : b ≤ 400 := by omega
    simp -dsimp [tSeq, tAsg, tRet, tIfS, tIf, tTest, tVar, tCons, tNil, tC, tOp, tUn, rI, rI0, rU, tCB, tLst_A, tTup_A, gName, L2.start, CMul, CPow, CDiv, tDrop, tBM, tBM0, tNext, tPar, gSub, rSetL, rIxL, rIxT, tChain, tB, tNot, tNotV, tAnd, tOr, tAndV, tOrV, tFld, tCall, rIxLH, rIxTH, atI, ixN, upd_same, cxK, ex2, ex3, ex3b, rIs1, rIs2, rNe2, tyN, kb1, kb2, kb3, kb4, kb5, kb6, rEq, rNe, scal, tMake_S, tMakeK_S, tMakeN_S]
    refine ⟨v, n, u0, u1, u2, rfl, hv, fun z H1 s1 iz => ?_⟩
    simp -dsimp [tSeq, tAsg, tRet, tIfS, tIf, tTest, tVar, tCons, tNil, tC, tOp, tUn, rI, rI0, rU, tCB, tLst_A, tTup_A, gName, L2.start, CMul, CPow, CDiv, tDrop, tBM, tBM0, tNext, tPar, gSub, rSetL, rIxL, rIxT, tChain, tB, tNot, tNotV, tAnd, tOr, tAndV, tOrV, tFld, tCall, rIxLH, rIxTH, atI, ixN, upd_same, cxK, ex2, ex3, ex3b, rIs1, rIs2, rNe2, tyN, kb1, kb2, kb3, kb4, kb5, kb6, rEq, rNe, scal, tMake_S, tMakeK_S, tMakeN_S, tMake_R]
    refine ⟨n, u0, u1, u2, m, t0, t1, t2, z, rfl, iz, .inl ⟨x, rfl, hx.same s1⟩, h0.ok g0 lb la, h1.ok g1 lb la, h2.ok g2 lb la, h3.ok g3 lb la, fun dz H2 s2 idz => ?_⟩
    have cc : b + a + 1 ≤ a + b + 1 := by omega
    refine MkR.of rfl idz ((h0.sub g0).mono cc) ((h1.sub g1).mono cc) ((h2.sub g2).mono cc) ((h3.sub g3).mono cc) hab fun rz H3 s3 ir => q rz H3 ((s1.trans s2).trans s3) ?_
    exact ir
theorem scTermGt : FnScope ["self", "other", "right"] ["self", "other"] d_Term_gt.scope := ⟨rfl, rfl, rfl, by decide +kernel, rfl, by decide +kernel, by decide +kernel⟩
theorem ok_tgt (W : Wd K mg) : ∃ fd, FnOk P w K mg base CX0 8 (aT K "__gt__") fd ["self", "other"] (spRC K true false) ∧ Binds K fd ["self", "other"] [] := by
  obtain ⟨fd_termOf, G_termOf, b_termOf⟩ := ok_termOf (P := P) (w := w) (base := base) W
  have k_termOf : PySem.W.keepIn K (.ref (He.ga K "term_of")) = true := by obtain ⟨fd, F⟩ := W.F_term_of; exact F.kp
  obtain ⟨fd_rinit, G_rinit, b_rinit⟩ := ok_rinit (P := P) (w := w) (base := base) W
  obtain ⟨fd, F⟩ := W.F_Term_gt
  refine ⟨fd, F.ok scTermGt (fun vs H Q E h => ?_) (fun cdv A outer s H vs Q E hr h => ?_), FunD.bindsN F fun _ _ _ _ _ _ us hl => match us, hl with | [_, _], _ => rfl⟩
  · obtain ⟨x, v, _, _, _, _, _, _, _, _, _, _, rfl, _⟩ := h
    rfl
  · obtain ⟨x, v, m, t0, t1, t2, n, u0, u1, u2, a, b, rfl, hx, hv, g0, g1, g2, g3, h0, h1, h2, h3, hab, q⟩ := h
    have r1 : Room 1 _ := hr.mono (by decide)
    have r2 : Room 2 _ := hr.mono (by decide)
    have r3 : Room 3 _ := hr.mono (by decide)
    have r4 : Room 4 _ := hr.mono (by decide)
    have r5 : Room 5 _ := hr.mono (by decide)
    have r6 : Room 6 _ := hr.mono (by decide)
    have r7 : Room 7 _ := hr.mono (by decide)
    refine ⟨_, PSs.nox (pss_cons (ps_set (i := 2) scTermGt.nd rfl (Or.inl rfl) (pe_call G_termOf r6 rfl W.g_term_of k_termOf b_termOf .nil pass0 (pa_cons (pv 1) pa_nil)))
    (pss_cons (ps_if (pt_cmpR op_isN (pv 2) pe_non (nomark _)) pss_never pss_nil)
    (pss_one (ps_ret (pe_make W.mkr_Row G_rinit r7 rfl W.g_Row b_rinit .nil pass0 (pa_cons (pe_op (W.tSubT hr) (pv 0) (pv 2)) (pa_cons pe_bl pa_nil))))))), ?_⟩
    have la : a ≤ 400 := by omega
    have lb : b ≤ 400 := by omega
    simp -dsimp [tSeq, tAsg, tRet, tIfS, tIf, tTest, tVar, tCons, tNil, tC, tOp, tUn, rI, rI0, rU, tCB, tLst_A, tTup_A, gName, L2.start, CMul, CPow, CDiv, tDrop, tBM, tBM0, tNext, tPar, gSub, rSetL, rIxL, rIxT, tChain, tB, tNot, tNotV, tAnd, tOr, tAndV, tOrV, tFld, tCall, rIxLH, rIxTH, atI, ixN, upd_same, cxK, ex2, ex3, ex3b, rIs1, rIs2, rNe2, tyN, kb1, kb2, kb3, kb4, kb5, kb6, rEq, rNe, scal, tMake_S, tMakeK_S, tMakeN_S]
    refine ⟨v, n, u0, u1, u2, rfl, hv, fun z H1 s1 iz => ?_⟩
    simp -dsimp [tSeq, tAsg, tRet, tIfS, tIf, tTest, tVar, tCons, tNil, tC, tOp, tUn, rI, rI0, rU, tCB, tLst_A, tTup_A, gName, L2.start, CMul, CPow, CDiv, tDrop, tBM, tBM0, tNext, tPar, gSub, rSetL, rIxL, rIxT, tChain, tB, tNot, tNotV, tAnd, tOr, tAndV, tOrV, tFld, tCall, rIxLH, rIxTH, atI, ixN, upd_same, cxK, ex2, ex3, ex3b, rIs1, rIs2, rNe2, tyN, kb1, kb2, kb3, kb4, kb5, kb6, rEq, rNe, scal, tMake_S, tMakeK_S, tMakeN_S, tMake_R]
    refine ⟨m, t0, t1, t2, n, u0, u1, u2, x, rfl, hx.same s1, .inl ⟨z, rfl, iz⟩, g0.ok h0 la lb, g1.ok h1 la lb, g2.ok h2 la lb, g3.ok h3 la lb, fun dz H2 s2 idz => ?_⟩
    refine MkR.of rfl idz (g0.sub h0) (g1.sub h1) (g2.sub h2) (g3.sub h3) hab fun rz H3 s3 ir => q rz H3 ((s1.trans s2).trans s3) ?_
    exact ir
theorem scTermGe : FnScope ["self", "other", "right"] ["self", "other"] d_Term_ge.scope := ⟨rfl, rfl, rfl, by decide +kernel, rfl, by decide +kernel, by decide +kernel⟩
theorem ok_tge (W : Wd K mg) : ∃ fd, FnOk P w K mg base CX0 8 (aT K "__ge__") fd ["self", "other"] (spRC K false false) ∧ Binds K fd ["self", "other"] [] := by
  obtain ⟨fd_termOf, G_termOf, b_termOf⟩ := ok_termOf (P := P) (w := w) (base := base) W
  have k_termOf : PySem.W.keepIn K (.ref (He.ga K "term_of")) = true := by obtain ⟨fd, F⟩ := W.F_term_of; exact F.kp
  obtain ⟨fd_rinit, G_rinit, b_rinit⟩ := ok_rinit (P := P) (w := w) (base := base) W
  obtain ⟨fd, F⟩ := W.F_Term_ge
  refine ⟨fd, F.ok scTermGe (fun vs H Q E h => ?_) (fun cdv A outer s H vs Q E hr h => ?_), FunD.bindsN F fun _ _ _ _ _ _ us hl => match us, hl with | [_, _], _ => rfl⟩
  · obtain ⟨x, v, _, _, _, _, _, _, _, _, _, _, rfl, _⟩ := h
    rfl
  · obtain ⟨x, v, m, t0, t1, t2, n, u0, u1, u2, a, b, rfl, hx, hv, g0, g1, g2, g3, h0, h1, h2, h3, hab, q⟩ := h
    have r1 : Room 1 _ := hr.mono (by decide)
    have r2 : Room 2 _ := hr.mono (by decide)
    have r3 : Room 3 _ := hr.mono (by decide)
    have r4 : Room 4 _ := hr.mono (by decide)
    have r5 : Room 5 _ := hr.mono (by decide)
    have r6 : Room 6 _ := hr.mono (by decide)
    have r7 : Room 7 _ := hr.mono (by decide)
    refine ⟨_, PSs.nox (pss_cons (ps_set (i := 2) scTermGe.nd rfl (Or.inl rfl) (pe_call G_termOf r6 rfl W.g_term_of k_termOf b_termOf .nil pass0 (pa_cons (pv 1) pa_nil)))
    (pss_cons (ps_if (pt_cmpR op_isN (pv 2) pe_non (nomark _)) pss_never pss_nil)
    (pss_one (ps_ret (pe_make W.mkr_Row G_rinit r7 rfl W.g_Row b_rinit .nil pass0 (pa_cons (pe_op (W.tSubT hr) (pv 0) (pv 2)) (pa_cons pe_bl pa_nil))))))), ?_⟩
    have la : a ≤ 400 := by omega
    have lb : b ≤ 400 := by omega
    simp -dsimp [tSeq, tAsg, tRet, tIfS, tIf, tTest, tVar, tCons, tNil, tC, tOp, tUn, rI, rI0, rU, tCB, tLst_A, tTup_A, gName, L2.start, CMul, CPow, CDiv, tDrop, tBM, tBM0, tNext, tPar, gSub, rSetL, rIxL, rIxT, tChain, tB, tNot, tNotV, tAnd, tOr, tAndV, tOrV, tFld, tCall, rIxLH, rIxTH, atI, ixN, upd_same, cxK, ex2, ex3, ex3b, rIs1, rIs2, rNe2, tyN, kb1, kb2, kb3, kb4, kb5, kb6, rEq, rNe, scal, tMake_S, tMakeK_S, tMakeN_S]
    refine ⟨v, n, u0, u1, u2, rfl, hv, fun z H1 s1 iz => ?_⟩
    simp -dsimp [tSeq, tAsg, tRet, tIfS, tIf, tTest, tVar, tCons, tNil, tC, tOp, tUn, rI, rI0, rU, tCB, tLst_A, tTup_A, gName, L2.start, CMul, CPow, CDiv, tDrop, tBM, tBM0, tNext, tPar, gSub, rSetL, rIxL, rIxT, tChain, tB, tNot, tNotV, tAnd, tOr, tAndV, tOrV, tFld, tCall, rIxLH, rIxTH, atI, ixN, upd_same, cxK, ex2, ex3, ex3b, rIs1, rIs2, rNe2, tyN, kb1, kb2, kb3, kb4, kb5, kb6, rEq, rNe, scal, tMake_S, tMakeK_S, tMakeN_S, tMake_R]
    refine ⟨m, t0, t1, t2, n, u0, u1, u2, x, rfl, hx.same s1, .inl ⟨z, rfl, iz⟩, g0.ok h0 la lb, g1.ok h1 la lb, g2.ok h2 la lb, g3.ok h3 la lb, fun dz H2 s2 idz => ?_⟩
    refine MkR.of rfl idz (g0.sub h0) (g1.sub h1) (g2.sub h2) (g3.sub h3) hab fun rz H3 s3 ir => q rz H3 ((s1.trans s2).trans s3) ?_
    exact ir
theorem ni_lt (W : Wd K mg) : NiX.FnN P w K mg base 3 (aS K "__lt__") (spNI K) := by
  obtain ⟨fdN, GN, bN⟩ := ok_isNum (P := P) (w := w) (base := base) W
  have kN : PySem.W.keepIn K (.ref (He.ga K "is_number")) = true := by obtain ⟨fd, F⟩ := W.F_is_number; exact F.kp
  obtain ⟨fd, F⟩ := W.F_Share_lt
  refine NiX.fnN (N := _) (ps := ["self", "other"]) F sc_lt (by decide +kernel) (fun _ _ _ _ _ _ us hl => match us, hl with | [_, _], _ => rfl) rfl (fun _ _ _ => rfl) W.f_NotImplemented (fun vs H R h => by
    obtain ⟨x, v, t, rfl, _⟩ := h
    rfl) (fun cdv A outer s H vs R hr h => ?_)
  obtain ⟨x, v, t, rfl, ty, kn, r⟩ := h
  refine ⟨_, pt_not (pt_val (pe_call GN hr rfl W.g_is_number kN bN .nil pass0 (pa_cons (pv 1) pa_nil))), ?_⟩
  simp -dsimp [tSeq, tAsg, tRet, tIfS, tIf, tTest, tVar, tCons, tNil, tC, tOp, tUn, rI, rI0, rU, tCB, tLst_A, tTup_A, gName, L2.start, CMul, CPow, CDiv, tDrop, tBM, tBM0, tNext, tPar, gSub, rSetL, rIxL, rIxT, tChain, tB, tNot, tNotV, tAnd, tOr, tAndV, tOrV, tFld, tCall, rIxLH, rIxTH, atI, ixN, upd_same, cxK, ex2, ex3, ex3b, rIs1, rIs2, rNe2, tyN, kb1, kb2, kb3, kb4, kb5, kb6, rEq, rNe, scal, tMake_S, tMakeK_S, tMakeN_S]
  exact ⟨_, t, false, rfl, ty, kn, rfl, r⟩
theorem ni_le (W : Wd K mg) : NiX.FnN P w K mg base 3 (aS K "__le__") (spNI K) := by
  obtain ⟨fdN, GN, bN⟩ := ok_isNum (P := P) (w := w) (base := base) W
  have kN : PySem.W.keepIn K (.ref (He.ga K "is_number")) = true := by obtain ⟨fd, F⟩ := W.F_is_number; exact F.kp
  obtain ⟨fd, F⟩ := W.F_Share_le
  refine NiX.fnN (N := _) (ps := ["self", "other"]) F sc_le (by decide +kernel) (fun _ _ _ _ _ _ us hl => match us, hl with | [_, _], _ => rfl) rfl (fun _ _ _ => rfl) W.f_NotImplemented (fun vs H R h => by
    obtain ⟨x, v, t, rfl, _⟩ := h
    rfl) (fun cdv A outer s H vs R hr h => ?_)
  obtain ⟨x, v, t, rfl, ty, kn, r⟩ := h
  refine ⟨_, pt_not (pt_val (pe_call GN hr rfl W.g_is_number kN bN .nil pass0 (pa_cons (pv 1) pa_nil))), ?_⟩
  simp -dsimp [tSeq, tAsg, tRet, tIfS, tIf, tTest, tVar, tCons, tNil, tC, tOp, tUn, rI, rI0, rU, tCB, tLst_A, tTup_A, gName, L2.start, CMul, CPow, CDiv, tDrop, tBM, tBM0, tNext, tPar, gSub, rSetL, rIxL, rIxT, tChain, tB, tNot, tNotV, tAnd, tOr, tAndV, tOrV, tFld, tCall, rIxLH, rIxTH, atI, ixN, upd_same, cxK, ex2, ex3, ex3b, rIs1, rIs2, rNe2, tyN, kb1, kb2, kb3, kb4, kb5, kb6, rEq, rNe, scal, tMake_S, tMakeK_S, tMakeN_S]
  exact ⟨_, t, false, rfl, ty, kn, rfl, r⟩
theorem ni_gt (W : Wd K mg) : NiX.FnN P w K mg base 3 (aS K "__gt__") (spNI K) := by
  obtain ⟨fdN, GN, bN⟩ := ok_isNum (P := P) (w := w) (base := base) W
  have kN : PySem.W.keepIn K (.ref (He.ga K "is_number")) = true := by obtain ⟨fd, F⟩ := W.F_is_number; exact F.kp
  obtain ⟨fd, F⟩ := W.F_Share_gt
  refine NiX.fnN (N := _) (ps := ["self", "other"]) F sc_gt (by decide +kernel) (fun _ _ _ _ _ _ us hl => match us, hl with | [_, _], _ => rfl) rfl (fun _ _ _ => rfl) W.f_NotImplemented (fun vs H R h => by
    obtain ⟨x, v, t, rfl, _⟩ := h
    rfl) (fun cdv A outer s H vs R hr h => ?_)
  obtain ⟨x, v, t, rfl, ty, kn, r⟩ := h
  refine ⟨_, pt_not (pt_val (pe_call GN hr rfl W.g_is_number kN bN .nil pass0 (pa_cons (pv 1) pa_nil))), ?_⟩
  simp -dsimp [tSeq, tAsg, tRet, tIfS, tIf, tTest, tVar, tCons, tNil, tC, tOp, tUn, rI, rI0, rU, tCB, tLst_A, tTup_A, gName, L2.start, CMul, CPow, CDiv, tDrop, tBM, tBM0, tNext, tPar, gSub, rSetL, rIxL, rIxT, tChain, tB, tNot, tNotV, tAnd, tOr, tAndV, tOrV, tFld, tCall, rIxLH, rIxTH, atI, ixN, upd_same, cxK, ex2, ex3, ex3b, rIs1, rIs2, rNe2, tyN, kb1, kb2, kb3, kb4, kb5, kb6, rEq, rNe, scal, tMake_S, tMakeK_S, tMakeN_S]
  exact ⟨_, t, false, rfl, ty, kn, rfl, r⟩
theorem ni_ge (W : Wd K mg) : NiX.FnN P w K mg base 3 (aS K "__ge__") (spNI K) := by
  obtain ⟨fdN, GN, bN⟩ := ok_isNum (P := P) (w := w) (base := base) W
  have kN : PySem.W.keepIn K (.ref (He.ga K "is_number")) = true := by obtain ⟨fd, F⟩ := W.F_is_number; exact F.kp
  obtain ⟨fd, F⟩ := W.F_Share_ge
  refine NiX.fnN (N := _) (ps := ["self", "other"]) F sc_ge (by decide +kernel) (fun _ _ _ _ _ _ us hl => match us, hl with | [_, _], _ => rfl) rfl (fun _ _ _ => rfl) W.f_NotImplemented (fun vs H R h => by
    obtain ⟨x, v, t, rfl, _⟩ := h
    rfl) (fun cdv A outer s H vs R hr h => ?_)
  obtain ⟨x, v, t, rfl, ty, kn, r⟩ := h
  refine ⟨_, pt_not (pt_val (pe_call GN hr rfl W.g_is_number kN bN .nil pass0 (pa_cons (pv 1) pa_nil))), ?_⟩
  simp -dsimp [tSeq, tAsg, tRet, tIfS, tIf, tTest, tVar, tCons, tNil, tC, tOp, tUn, rI, rI0, rU, tCB, tLst_A, tTup_A, gName, L2.start, CMul, CPow, CDiv, tDrop, tBM, tBM0, tNext, tPar, gSub, rSetL, rIxL, rIxT, tChain, tB, tNot, tNotV, tAnd, tOr, tAndV, tOrV, tFld, tCall, rIxLH, rIxTH, atI, ixN, upd_same, cxK, ex2, ex3, ex3b, rIs1, rIs2, rNe2, tyN, kb1, kb2, kb3, kb4, kb5, kb6, rEq, rNe, scal, tMake_S, tMakeK_S, tMakeN_S]
  exact ⟨_, t, false, rfl, ty, kn, rfl, r⟩
end
/-- x op y of terms and numbers, one of them a term -/
def rRow (K : PySem.W.Frag) (st fl : Bool) : R2 := fun x y H Q => ∃ (m t0 t1 t2 n u0 u1 u2 : Int × Int) (a b : Nat), TN K H x m t0 t1 t2 ∧ TN K H y n u0 u1 u2 ∧ ((∃ z, x = .ref z ∧ IsTm K H z m t0 t1 t2) ∨ ∃ z, y = .ref z ∧ IsTm K H z n u0 u1 u2) ∧ Gd a m ∧ Gd a t0 ∧ Gd a t1 ∧ Gd a t2 ∧ Gd b n ∧ Gd b u0 ∧ Gd b u1 ∧ Gd b u2 ∧ a + b + 1 ≤ 60 ∧
  ∀ z H', Same H H' → (if fl then IsRw K H' z st (pSub n m) (pSub u0 t0) (pSub u1 t1) (pSub u2 t2) else IsRw K H' z st (pSub m n) (pSub t0 u0) (pSub t1 u1) (pSub t2 u2)) → Q (.ref z) H'
section
variable {X : Cx}
theorem Wd.cLt (W : Wd X.K X.mg) (hr : Room 8 X.A) : OpR X (compareOp .Lt) (rRow X.K true true) := by
  obtain ⟨f1, G1, b1⟩ := ok_tlt (P := X.prog) (w := X.w) (base := X.base) W
  obtain ⟨f2, G2, b2⟩ := ok_tgt (P := X.prog) (w := X.w) (base := X.base) W
  have r3 : Room 3 X.A := hr.mono (by decide)
  have cT : CmX.CmpC X.K (He.ga X.K "Term") := CmX.cmpB_ok (W.ex 22 rfl)
  intro pins s σ H x y v u Q I rx ry h
  obtain ⟨m, t0, t1, t2, n, u0, u1, u2, a, b, hx, hy, hz, g0, g1, g2, g3, h0, h1, h2, h3, hab, q⟩ := h
  rcases hz with ⟨z, rfl, iz⟩ | ⟨z, rfl, iz⟩
  · obtain ⟨dx, fs, hd⟩ := iz.ins
    obtain ⟨t, ty, bs⟩ : ∃ t, TyOf X.K H y t ∧ CmX.Beside X.K (He.ga X.K "Term") t := by
      rcases hy with ⟨zy, rfl, iy⟩ | ⟨hn, _⟩
      · exact ⟨_, W.isTm iy, .inl rfl⟩
      · obtain ⟨t, ty, _, _, bs⟩ := W.nuTm hn
        exact ⟨t, ty, bs⟩
    exact CmX.op_cmpL (E := E0) (fun _ _ => rfl) W.m_Term_lt.at_ W.m_Term_lt.fn (raw0 G1 b1) hr hr.units0 pass0 pins s σ H _ y v u Q I rx ry ⟨z, dx, fs, t, rfl, hd, ty, bs, z, y, m, t0, t1, t2, n, u0, u1, u2, a, b, rfl, iz, hy, g0, g1, g2, g3, h0, h1, h2, h3, hab, q⟩
  · obtain ⟨dx, fs, hd⟩ := iz.ins
    have rev : spRC X.K true false [.ref z, x] H Q E0 := ⟨z, x, n, u0, u1, u2, m, t0, t1, t2, b, a, rfl, iz, hx, h0, h1, h2, h3, g0, g1, g2, g3, by omega, q⟩
    rcases hx with ⟨zx, rfl, ix⟩ | ⟨⟨zx, rfl, dy, hs⟩ | ⟨rfl, _⟩, _⟩
    · obtain ⟨dx', fs', hd'⟩ := ix.ins
      exact CmX.op_cmpL (E := E0) (fun _ _ => rfl) W.m_Term_lt.at_ W.m_Term_lt.fn (raw0 G1 b1) hr hr.units0 pass0 pins s σ H _ _ v u Q I rx ry ⟨zx, dx', fs', _, rfl, hd', W.isTm iz, .inl rfl, zx, _, m, t0, t1, t2, n, u0, u1, u2, a, b, rfl, ix, hy, g0, g1, g2, g3, h0, h1, h2, h3, hab, q⟩
    · exact CmX.op_cmpMixR (E := E0) (fun _ _ => rfl) W.m_Share_lt.at_ W.m_Share_lt.fn W.m_Term_gt.at_ W.m_Term_gt.fn (of_decide_eq_true (W.ex 19 rfl)) (ni_lt W) (raw0 G2 b2) r3 hr pass0 pins s σ H _ _ v u Q I rx ry ⟨zx, z, rfl, rfl, ⟨dy, _, hs⟩, ⟨dx, fs, hd⟩, _, _, _, rfl, W.isTm iz, W.knT, ⟨dy, _, hs⟩, ⟨dx, fs, hd⟩, rev⟩
    · exact CmX.op_cmpI (E := E0) (fun _ _ => rfl) cT CmX.dc_lt W.m_Term_gt.at_ W.m_Term_gt.fn (raw0 G2 b2) hr hr.units0 pass0 pins s σ H _ _ v u Q I rx ry ⟨_, z, dx, fs, rfl, rfl, hd, rev⟩
theorem Wd.cLe (W : Wd X.K X.mg) (hr : Room 8 X.A) : OpR X (compareOp .LtE) (rRow X.K false true) := by
  obtain ⟨f1, G1, b1⟩ := ok_tle (P := X.prog) (w := X.w) (base := X.base) W
  obtain ⟨f2, G2, b2⟩ := ok_tge (P := X.prog) (w := X.w) (base := X.base) W
  have r3 : Room 3 X.A := hr.mono (by decide)
  have cT : CmX.CmpC X.K (He.ga X.K "Term") := CmX.cmpB_ok (W.ex 22 rfl)
  intro pins s σ H x y v u Q I rx ry h
  obtain ⟨m, t0, t1, t2, n, u0, u1, u2, a, b, hx, hy, hz, g0, g1, g2, g3, h0, h1, h2, h3, hab, q⟩ := h
  rcases hz with ⟨z, rfl, iz⟩ | ⟨z, rfl, iz⟩
  · obtain ⟨dx, fs, hd⟩ := iz.ins
    obtain ⟨t, ty, bs⟩ : ∃ t, TyOf X.K H y t ∧ CmX.Beside X.K (He.ga X.K "Term") t := by
      rcases hy with ⟨zy, rfl, iy⟩ | ⟨hn, _⟩
      · exact ⟨_, W.isTm iy, .inl rfl⟩
      · obtain ⟨t, ty, _, _, bs⟩ := W.nuTm hn
        exact ⟨t, ty, bs⟩
    exact CmX.op_cmpL (E := E0) (fun _ _ => rfl) W.m_Term_le.at_ W.m_Term_le.fn (raw0 G1 b1) hr hr.units0 pass0 pins s σ H _ y v u Q I rx ry ⟨z, dx, fs, t, rfl, hd, ty, bs, z, y, m, t0, t1, t2, n, u0, u1, u2, a, b, rfl, iz, hy, g0, g1, g2, g3, h0, h1, h2, h3, hab, q⟩
  · obtain ⟨dx, fs, hd⟩ := iz.ins
    have rev : spRC X.K false false [.ref z, x] H Q E0 := ⟨z, x, n, u0, u1, u2, m, t0, t1, t2, b, a, rfl, iz, hx, h0, h1, h2, h3, g0, g1, g2, g3, by omega, q⟩
    rcases hx with ⟨zx, rfl, ix⟩ | ⟨⟨zx, rfl, dy, hs⟩ | ⟨rfl, _⟩, _⟩
    · obtain ⟨dx', fs', hd'⟩ := ix.ins
      exact CmX.op_cmpL (E := E0) (fun _ _ => rfl) W.m_Term_le.at_ W.m_Term_le.fn (raw0 G1 b1) hr hr.units0 pass0 pins s σ H _ _ v u Q I rx ry ⟨zx, dx', fs', _, rfl, hd', W.isTm iz, .inl rfl, zx, _, m, t0, t1, t2, n, u0, u1, u2, a, b, rfl, ix, hy, g0, g1, g2, g3, h0, h1, h2, h3, hab, q⟩
    · exact CmX.op_cmpMixR (E := E0) (fun _ _ => rfl) W.m_Share_le.at_ W.m_Share_le.fn W.m_Term_ge.at_ W.m_Term_ge.fn (of_decide_eq_true (W.ex 19 rfl)) (ni_le W) (raw0 G2 b2) r3 hr pass0 pins s σ H _ _ v u Q I rx ry ⟨zx, z, rfl, rfl, ⟨dy, _, hs⟩, ⟨dx, fs, hd⟩, _, _, _, rfl, W.isTm iz, W.knT, ⟨dy, _, hs⟩, ⟨dx, fs, hd⟩, rev⟩
    · exact CmX.op_cmpI (E := E0) (fun _ _ => rfl) cT CmX.dc_le W.m_Term_ge.at_ W.m_Term_ge.fn (raw0 G2 b2) hr hr.units0 pass0 pins s σ H _ _ v u Q I rx ry ⟨_, z, dx, fs, rfl, rfl, hd, rev⟩
theorem Wd.cGt (W : Wd X.K X.mg) (hr : Room 8 X.A) : OpR X (compareOp .Gt) (rRow X.K true false) := by
  obtain ⟨f1, G1, b1⟩ := ok_tgt (P := X.prog) (w := X.w) (base := X.base) W
  obtain ⟨f2, G2, b2⟩ := ok_tlt (P := X.prog) (w := X.w) (base := X.base) W
  have r3 : Room 3 X.A := hr.mono (by decide)
  have cT : CmX.CmpC X.K (He.ga X.K "Term") := CmX.cmpB_ok (W.ex 22 rfl)
  intro pins s σ H x y v u Q I rx ry h
  obtain ⟨m, t0, t1, t2, n, u0, u1, u2, a, b, hx, hy, hz, g0, g1, g2, g3, h0, h1, h2, h3, hab, q⟩ := h
  rcases hz with ⟨z, rfl, iz⟩ | ⟨z, rfl, iz⟩
  · obtain ⟨dx, fs, hd⟩ := iz.ins
    obtain ⟨t, ty, bs⟩ : ∃ t, TyOf X.K H y t ∧ CmX.Beside X.K (He.ga X.K "Term") t := by
      rcases hy with ⟨zy, rfl, iy⟩ | ⟨hn, _⟩
      · exact ⟨_, W.isTm iy, .inl rfl⟩
      · obtain ⟨t, ty, _, _, bs⟩ := W.nuTm hn
        exact ⟨t, ty, bs⟩
    exact CmX.op_cmpL (E := E0) (fun _ _ => rfl) W.m_Term_gt.at_ W.m_Term_gt.fn (raw0 G1 b1) hr hr.units0 pass0 pins s σ H _ y v u Q I rx ry ⟨z, dx, fs, t, rfl, hd, ty, bs, z, y, m, t0, t1, t2, n, u0, u1, u2, a, b, rfl, iz, hy, g0, g1, g2, g3, h0, h1, h2, h3, hab, q⟩
  · obtain ⟨dx, fs, hd⟩ := iz.ins
    have rev : spRC X.K true true [.ref z, x] H Q E0 := ⟨z, x, n, u0, u1, u2, m, t0, t1, t2, b, a, rfl, iz, hx, h0, h1, h2, h3, g0, g1, g2, g3, by omega, q⟩
    rcases hx with ⟨zx, rfl, ix⟩ | ⟨⟨zx, rfl, dy, hs⟩ | ⟨rfl, _⟩, _⟩
    · obtain ⟨dx', fs', hd'⟩ := ix.ins
      exact CmX.op_cmpL (E := E0) (fun _ _ => rfl) W.m_Term_gt.at_ W.m_Term_gt.fn (raw0 G1 b1) hr hr.units0 pass0 pins s σ H _ _ v u Q I rx ry ⟨zx, dx', fs', _, rfl, hd', W.isTm iz, .inl rfl, zx, _, m, t0, t1, t2, n, u0, u1, u2, a, b, rfl, ix, hy, g0, g1, g2, g3, h0, h1, h2, h3, hab, q⟩
    · exact CmX.op_cmpMixR (E := E0) (fun _ _ => rfl) W.m_Share_gt.at_ W.m_Share_gt.fn W.m_Term_lt.at_ W.m_Term_lt.fn (of_decide_eq_true (W.ex 19 rfl)) (ni_gt W) (raw0 G2 b2) r3 hr pass0 pins s σ H _ _ v u Q I rx ry ⟨zx, z, rfl, rfl, ⟨dy, _, hs⟩, ⟨dx, fs, hd⟩, _, _, _, rfl, W.isTm iz, W.knT, ⟨dy, _, hs⟩, ⟨dx, fs, hd⟩, rev⟩
    · exact CmX.op_cmpI (E := E0) (fun _ _ => rfl) cT CmX.dc_gt W.m_Term_lt.at_ W.m_Term_lt.fn (raw0 G2 b2) hr hr.units0 pass0 pins s σ H _ _ v u Q I rx ry ⟨_, z, dx, fs, rfl, rfl, hd, rev⟩
theorem Wd.cGe (W : Wd X.K X.mg) (hr : Room 8 X.A) : OpR X (compareOp .GtE) (rRow X.K false false) := by
  obtain ⟨f1, G1, b1⟩ := ok_tge (P := X.prog) (w := X.w) (base := X.base) W
  obtain ⟨f2, G2, b2⟩ := ok_tle (P := X.prog) (w := X.w) (base := X.base) W
  have r3 : Room 3 X.A := hr.mono (by decide)
  have cT : CmX.CmpC X.K (He.ga X.K "Term") := CmX.cmpB_ok (W.ex 22 rfl)
  intro pins s σ H x y v u Q I rx ry h
  obtain ⟨m, t0, t1, t2, n, u0, u1, u2, a, b, hx, hy, hz, g0, g1, g2, g3, h0, h1, h2, h3, hab, q⟩ := h
  rcases hz with ⟨z, rfl, iz⟩ | ⟨z, rfl, iz⟩
  · obtain ⟨dx, fs, hd⟩ := iz.ins
    obtain ⟨t, ty, bs⟩ : ∃ t, TyOf X.K H y t ∧ CmX.Beside X.K (He.ga X.K "Term") t := by
      rcases hy with ⟨zy, rfl, iy⟩ | ⟨hn, _⟩
      · exact ⟨_, W.isTm iy, .inl rfl⟩
      · obtain ⟨t, ty, _, _, bs⟩ := W.nuTm hn
        exact ⟨t, ty, bs⟩
    exact CmX.op_cmpL (E := E0) (fun _ _ => rfl) W.m_Term_ge.at_ W.m_Term_ge.fn (raw0 G1 b1) hr hr.units0 pass0 pins s σ H _ y v u Q I rx ry ⟨z, dx, fs, t, rfl, hd, ty, bs, z, y, m, t0, t1, t2, n, u0, u1, u2, a, b, rfl, iz, hy, g0, g1, g2, g3, h0, h1, h2, h3, hab, q⟩
  · obtain ⟨dx, fs, hd⟩ := iz.ins
    have rev : spRC X.K false true [.ref z, x] H Q E0 := ⟨z, x, n, u0, u1, u2, m, t0, t1, t2, b, a, rfl, iz, hx, h0, h1, h2, h3, g0, g1, g2, g3, by omega, q⟩
    rcases hx with ⟨zx, rfl, ix⟩ | ⟨⟨zx, rfl, dy, hs⟩ | ⟨rfl, _⟩, _⟩
    · obtain ⟨dx', fs', hd'⟩ := ix.ins
      exact CmX.op_cmpL (E := E0) (fun _ _ => rfl) W.m_Term_ge.at_ W.m_Term_ge.fn (raw0 G1 b1) hr hr.units0 pass0 pins s σ H _ _ v u Q I rx ry ⟨zx, dx', fs', _, rfl, hd', W.isTm iz, .inl rfl, zx, _, m, t0, t1, t2, n, u0, u1, u2, a, b, rfl, ix, hy, g0, g1, g2, g3, h0, h1, h2, h3, hab, q⟩
    · exact CmX.op_cmpMixR (E := E0) (fun _ _ => rfl) W.m_Share_ge.at_ W.m_Share_ge.fn W.m_Term_le.at_ W.m_Term_le.fn (of_decide_eq_true (W.ex 19 rfl)) (ni_ge W) (raw0 G2 b2) r3 hr pass0 pins s σ H _ _ v u Q I rx ry ⟨zx, z, rfl, rfl, ⟨dy, _, hs⟩, ⟨dx, fs, hd⟩, _, _, _, rfl, W.isTm iz, W.knT, ⟨dy, _, hs⟩, ⟨dx, fs, hd⟩, rev⟩
    · exact CmX.op_cmpI (E := E0) (fun _ _ => rfl) cT CmX.dc_ge W.m_Term_le.at_ W.m_Term_le.fn (raw0 G2 b2) hr hr.units0 pass0 pins s σ H _ _ v u Q I rx ry ⟨_, z, dx, fs, rfl, rfl, hd, rev⟩
end
/-! ### numbers of lowest integers, as the law finds them; what a row tells -/
/-- all of a list of truths -/
theorem all_true {K : PySem.W.Frag} {D : Addr} {H : Hp} {vs : List V} {Q : VK} (hD : H D = some (.lst vs)) (h : ∀ (j : Nat) (v : V), vs[j]? = some v → v = .bl true) (q : Q (.bl true) H) : rAll K [.ref D] H Q := by
  have e : vs = (List.replicate vs.length true).map V.bl := by
    rw [List.map_replicate]
    exact List.eq_replicate_iff.mpr ⟨rfl, fun b hb => by
      obtain ⟨j, hj⟩ := List.getElem?_of_mem hb
      exact h j b hj⟩
  refine ⟨D, List.replicate vs.length true, rfl, ?_, ?_⟩
  · rw [← e]
    exact SqL.of hD
  · have e2 : (List.replicate vs.length true).all id = true := by
      rw [List.all_eq_true]
      intro x hx
      exact (List.eq_of_mem_replicate hx)
    rw [e2]
    exact q
def gP (g0 g1 g2 g3 : Int) (j : Nat) : Nat := match j with
  | 0 => 0
  | 1 => Nat.gcd 0 g0.natAbs
  | 2 => Nat.gcd (Nat.gcd 0 g0.natAbs) g1.natAbs
  | 3 => Nat.gcd (Nat.gcd (Nat.gcd 0 g0.natAbs) g1.natAbs) g2.natAbs
  | _ => g4 g0 g1 g2 g3
def i4 (g0 g1 g2 g3 : Int) (j : Nat) : Int := match j with
  | 0 => g0
  | 1 => g1
  | 2 => g2
  | _ => g3
def ints4 (g0 g1 g2 g3 : Int) : HO := .lst [.int g0, .int g1, .int g2, .int g3]
theorem at4 {g0 g1 g2 g3 : Int} {j : Nat} {y : V} (h : [V.int g0, V.int g1, V.int g2, V.int g3][j]? = some y) : j < 4 ∧ y = .int (i4 g0 g1 g2 g3 j) := by
  match j, h with
  | 0, h => cases h; exact ⟨by decide, rfl⟩
  | 1, h => cases h; exact ⟨by decide, rfl⟩
  | 2, h => cases h; exact ⟨by decide, rfl⟩
  | 3, h => cases h; exact ⟨by decide, rfl⟩
theorem gP_succ {g0 g1 g2 g3 : Int} {j : Nat} (h : j < 4) : gP g0 g1 g2 g3 (j + 1) = Nat.gcd (gP g0 g1 g2 g3 j) (i4 g0 g1 g2 g3 j).natAbs := by
  match j, h with
  | 0, _ => rfl
  | 1, _ => rfl
  | 2, _ => rfl
  | 3, _ => rfl
theorem g4_lt {g0 g1 g2 g3 : Int} {n : Nat} (hn : 0 < n) (h0 : g0.natAbs < n) (h1 : g1.natAbs < n) (h2 : g2.natAbs < n) (h3 : g3.natAbs < n) : g4 g0 g1 g2 g3 < n := by
  have step : ∀ {a b : Nat}, a < n → b < n → Nat.gcd a b < n := fun {a b} ha hb => by
    by_cases hz : a = 0
    · rw [hz, Nat.gcd_zero_left]
      exact hb
    · exact Nat.lt_of_le_of_lt (Nat.gcd_le_left _ (by omega)) ha
  exact step (step (step (step hn h0) h1) h2) h3
section
variable {P : Program} {w : World} {K : PySem.W.Frag} {mg : Str → Option Value} {base : Heap} {fd : FuncData}
/-- items of a list of ints made one by one -/
theorem mono_int (f : Nat → Int) (j : Nat) : Mono (fun v _ => v = .int (f j)) := fun D xs v H H' hD s e => e
theorem four_ints {vs : List V} {f : Nat → Int} (hl : vs.length = 4) (h : ∀ (j : Nat) (v : V), vs[j]? = some v → v = .int (f j)) : vs = [.int (f 0), .int (f 1), .int (f 2), .int (f 3)] := by
  match vs, hl with
  | [a, b, c, d], _ =>
  have := h 0 a rfl
  have := h 1 b rfl
  have := h 2 c rfl
  have := h 3 d rfl
  subst_vars
  rfl
def spPrim (K : PySem.W.Frag) : Sp := fun vs H Q _ => ∃ (p : Addr) (g0 g1 g2 g3 : Int), vs = [.ref p] ∧ H p = some (ints4 g0 g1 g2 g3) ∧ g0.natAbs < 10 ^ 60 ∧ g1.natAbs < 10 ^ 60 ∧ g2.natAbs < 10 ^ 60 ∧ g3.natAbs < 10 ^ 60 ∧
  ∀ q H', H' q = some (ints4 (pr (g4 g0 g1 g2 g3) g0) (pr (g4 g0 g1 g2 g3) g1) (pr (g4 g0 g1 g2 g3) g2) (pr (g4 g0 g1 g2 g3) g3)) → Same H H' → Q (.ref q) H'
theorem scPrimitive : FnScope ["_law_numbers", "_law_part", "_law_number", "_law_low"] ["_law_numbers"] d_primitive.scope := ⟨rfl, rfl, rfl, by decide +kernel, rfl, by decide +kernel, by decide +kernel⟩
theorem ok_primitive (W : Wd K mg) : ∃ fd, FnOk P w K mg base CX0 1 (He.ga K "_law_primitive") fd ["_law_numbers"] (spPrim K) ∧ Binds K fd ["_law_numbers"] [] := by
  obtain ⟨fd, F⟩ := W.F_primitive
  refine ⟨fd, F.ok scPrimitive (fun vs H Q E h => ?_) (fun cdv A outer s H vs Q E hr h => ?_), FunD.bindsN F fun _ _ _ _ _ _ us hl => match us, hl with | [_], _ => rfl⟩
  · obtain ⟨p, g0, g1, g2, g3, rfl, _⟩ := h
    rfl
  · obtain ⟨p, g0, g1, g2, g3, rfl, hp, b0, b1, b2, b3, q⟩ := h

    refine ⟨_, PSs.nox (pss_cons (ps_set (i := 1) scPrimitive.nd rfl (Or.inr rfl) pe_int)
    (pss_cons (ps_for PassesOwn.never rfl (pi_list (pv 0)) (pg_name (i := 2) scPrimitive.nd rfl (Or.inl rfl)) (pss_cons (ps_set (i := 3) scPrimitive.nd rfl (Or.inl rfl) (pe_callB call_abs (by rfl) W.f_abs (by decide +kernel) (pa_cons (pe_callTy call_intI (by rfl) W.f_int (by decide +kernel) (pa_cons (pv 2) pa_nil)) pa_nil)))
    (pss_one (ps_while PassesOwn.never (pt_cmpR op_gt (pv 3) pe_int (nomark _)) (pss_one (ps_asg (pe_tup (pa_cons (pe_op op_mod (pe_callTy call_intI (by rfl) W.f_int (by decide +kernel) (pa_cons (pv 1) pa_nil)) (pv 3)) (pa_cons (pv 3) pa_nil))) (pg_tup rfl (pgs_cons (pg_name (i := 3) scPrimitive.nd rfl (Or.inl rfl)) (pgs_cons (pg_name (i := 1) scPrimitive.nd rfl (Or.inr rfl)) pgs_nil)))))))))
    (pss_cons (ps_if (pt_cmpR op_eq (pv 1) pe_int (nomark _)) (pss_one (ps_ret (pe_lc (own := [("_law_number", 2)]) (g := gName 2) (tt := tYes) rfl scPrimitive.nd (pi_list (pv 0)) (blkOk_by (N := ["_law_numbers", "_law_part", "_law_number", "_law_low"]) (sc := defScope s_primitive) (by decide +kernel))
            (fun _ _ _ _ _ => (pg_name (i := 2) scPrimitive.nd rfl (Or.inl rfl))) (fun _ _ _ _ _ => pts_nil)
            (fun _ _ _ _ _ => pe_int)))) pss_nil)
    (pss_one (ps_ret (pe_lc (own := [("_law_number", 2)]) (g := gName 2) (tt := tYes) rfl scPrimitive.nd (pi_list (pv 0)) (blkOk_by (N := ["_law_numbers", "_law_part", "_law_number", "_law_low"]) (sc := defScope s_primitive) (by decide +kernel))
            (fun _ _ _ _ _ => (pg_name (i := 2) scPrimitive.nd rfl (Or.inl rfl))) (fun _ _ _ _ _ => pts_nil)
            (fun _ _ _ _ _ => (pe_op op_fdivX (pe_callTy call_intI (by rfl) W.f_int (by decide +kernel) (pa_cons (pv 2) pa_nil)) (pv 1))))))))), ?_⟩
    have hp' : H p = some (.lst [.int g0, .int g1, .int g2, .int g3]) := hp
    refine ⟨_, rfl, p, rfl, ⟨_, SqL.of hp'⟩, ?_⟩
    refine for_list (K := K) (a := p) (xs := [.int g0, .int g1, .int g2, .int g3]) (fun j σ' H' => ∃ v2 v3 : Option V, σ' = [some (.ref p), some (.int ((gP g0 g1 g2 g3 j : Nat) : Int)), v2, v3] ∧ Same H H') ⟨none, none, rfl, Same.refl _⟩ (fun j σ' H' _ ⟨_, _, _, s⟩ => SqL.of (s _ _ hp')) ?_ ?_
    · rintro j y σ' H2 hj ⟨v2, v3, rfl, s2⟩
      obtain ⟨hj4, rfl⟩ := at4 hj
      rw [gP_succ hj4]
      generalize i4 g0 g1 g2 g3 j = g
      generalize gP g0 g1 g2 g3 j = G
      simp -dsimp [tSeq, tAsg, tRet, tIfS, tIf, tTest, tVar, tCons, tNil, tC, tOp, tUn, rI, rI0, rU, tCB, tLst_A, tTup_A, gName, L2.start, CMul, CPow, CDiv, tDrop, tBM, tBM0, tNext, tPar, gSub, rSetL, rIxL, rIxT, tChain, tB, tNot, tNotV, tAnd, tOr, tAndV, tOrV, tFld, tCall, rIxLH, rIxTH, atI, ixN, upd_same, cxK, ex2, ex3, ex3b, rIs1, rIs2, rNe2, tyN, kb1, kb2, kb3, kb4, kb5, kb6, rEq, rNe, scal, tMake_S, tMakeK_S, tMakeN_S]
      refine while_by (fun σ H' => Same H H' ∧ ∃ x y : Int, σ = [some (.ref p), some (.int y), some (.int g), some (.int x)] ∧ 0 ≤ x ∧ 0 ≤ y ∧ Int.gcd x y = Nat.gcd G g.natAbs) (fun σ _ => intAt 3 σ) ⟨s2, _, _, rfl, ?_, ?_, ?_⟩ ?_ ?_
      · split <;> omega
      · omega
      · rw [Int.gcd_comm]
        show Nat.gcd G _ = _
        congr 1
        split <;> omega
      · rintro σ H1 ⟨s1, x, y, rfl, hx, hy, gg⟩
        by_cases hp0 : 0 < x
        · simp -dsimp [tSeq, tAsg, tRet, tIfS, tIf, tTest, tVar, tCons, tNil, tC, tOp, tUn, rI, rI0, rU, tCB, tLst_A, tTup_A, gName, L2.start, CMul, CPow, CDiv, tDrop, tBM, tBM0, tNext, tPar, gSub, rSetL, rIxL, rIxT, tChain, tB, tNot, tNotV, tAnd, tOr, tAndV, tOrV, tFld, tCall, rIxLH, rIxTH, atI, ixN, upd_same, cxK, ex2, ex3, ex3b, rIs1, rIs2, rNe2, tyN, kb1, kb2, kb3, kb4, kb5, kb6, rEq, rNe, scal, tMake_S, tMakeK_S, tMakeN_S, hp0]
          refine ⟨le2, Alloc.of fun tp H3 n3 e3 s3 => tup2 e3 ?_⟩
          refine ⟨⟨s1.trans s3, _, _, rfl, Int.emod_nonneg _ (by omega), hx, ?_⟩, ?_⟩
          · rw [Int.emod_def, Int.gcd_sub_mul_left_left, Int.gcd_comm, gg]
          · have := Int.emod_lt_of_pos y hp0
            have := Int.emod_nonneg y (show x ≠ 0 by omega)
            simp -dsimp [tSeq, tAsg, tRet, tIfS, tIf, tTest, tVar, tCons, tNil, tC, tOp, tUn, rI, rI0, rU, tCB, tLst_A, tTup_A, gName, L2.start, CMul, CPow, CDiv, tDrop, tBM, tBM0, tNext, tPar, gSub, rSetL, rIxL, rIxT, tChain, tB, tNot, tNotV, tAnd, tOr, tAndV, tOrV, tFld, tCall, rIxLH, rIxTH, atI, ixN, upd_same, cxK, ex2, ex3, ex3b, rIs1, rIs2, rNe2, tyN, kb1, kb2, kb3, kb4, kb5, kb6, rEq, rNe, scal, tMake_S, tMakeK_S, tMakeN_S, intAt]
            omega
        · have x0 : x = 0 := by omega
          subst x0
          have gy : y = ((Nat.gcd G g.natAbs : Nat) : Int) := by
            rw [← gg, Int.zero_gcd]
            omega
          simp -dsimp [tSeq, tAsg, tRet, tIfS, tIf, tTest, tVar, tCons, tNil, tC, tOp, tUn, rI, rI0, rU, tCB, tLst_A, tTup_A, gName, L2.start, CMul, CPow, CDiv, tDrop, tBM, tBM0, tNext, tPar, gSub, rSetL, rIxL, rIxT, tChain, tB, tNot, tNotV, tAnd, tOr, tAndV, tOrV, tFld, tCall, rIxLH, rIxTH, atI, ixN, upd_same, cxK, ex2, ex3, ex3b, rIs1, rIs2, rNe2, tyN, kb1, kb2, kb3, kb4, kb5, kb6, rEq, rNe, scal, tMake_S, tMakeK_S, tMakeN_S]
          exact ⟨gy, s1⟩
      · rintro σ H' Q Q' h ⟨v, e, i, j, e1, e2, k, e3, q⟩
        exact ⟨v, e, i, j, e1, e2, k, e3, h _ _ q⟩
    · rintro σ' H2 ⟨v2, v3, rfl, s2⟩
      have eg : gP g0 g1 g2 g3 ([V.int g0, V.int g1, V.int g2, V.int g3] : List V).length = g4 g0 g1 g2 g3 := rfl
      rw [eg]
      simp -dsimp [tSeq, tAsg, tRet, tIfS, tIf, tTest, tVar, tCons, tNil, tC, tOp, tUn, rI, rI0, rU, tCB, tLst_A, tTup_A, gName, L2.start, CMul, CPow, CDiv, tDrop, tBM, tBM0, tNext, tPar, gSub, rSetL, rIxL, rIxT, tChain, tB, tNot, tNotV, tAnd, tOr, tAndV, tOrV, tFld, tCall, rIxLH, rIxTH, atI, ixN, upd_same, cxK, ex2, ex3, ex3b, rIs1, rIs2, rNe2, tyN, kb1, kb2, kb3, kb4, kb5, kb6, rEq, rNe, scal, tMake_S, tMakeK_S, tMakeN_S]
      have hp2 := s2 _ _ hp'
      by_cases hc : g4 g0 g1 g2 g3 = 0
      · rw [if_pos hc]
        refine lc_lst (K := K) p [.int g0, .int g1, .int g2, .int g3] (fun j v H => v = .int ((fun _ => 0) j)) (by show 4 < 1000; decide) (mono_int _) (fun x => rfl) hp2 (fun R h => ⟨_, rfl, h⟩) (fun j x H' R hx s' r => ?_) (fun D H3 vs s3 hl hD hs => ?_)
        · exact r _ _ (Same.refl _) rfl
        · refine q D H3 ?_ (s2.trans s3)
          rw [hD, four_ints hl hs]
          unfold pr ints4
          rw [if_pos hc, if_pos hc, if_pos hc, if_pos hc]
      · rw [if_neg hc]
        have cb : g4 g0 g1 g2 g3 < big9 := big_of (g4_lt (by decide) b0 b1 b2 b3)
        refine lc_lst (K := K) p [.int g0, .int g1, .int g2, .int g3] (fun j v H => v = .int ((fun j => (i4 g0 g1 g2 g3 j).fdiv (g4 g0 g1 g2 g3)) j)) (by show 4 < 1000; decide) (mono_int _) (fun x => rfl) hp2 (fun R h => ⟨_, rfl, h⟩) (fun j x H' R hx s' r => ?_) (fun D H3 vs s3 hl hD hs => ?_)
        · obtain ⟨hj4, rfl⟩ := at4 hx
          simp -dsimp [tSeq, tAsg, tRet, tIfS, tIf, tTest, tVar, tCons, tNil, tC, tOp, tUn, rI, rI0, rU, tCB, tLst_A, tTup_A, gName, L2.start, CMul, CPow, CDiv, tDrop, tBM, tBM0, tNext, tPar, gSub, rSetL, rIxL, rIxT, tChain, tB, tNot, tNotV, tAnd, tOr, tAndV, tOrV, tFld, tCall, rIxLH, rIxTH, atI, ixN, upd_same, cxK, ex2, ex3, ex3b, rIs1, rIs2, rNe2, tyN, kb1, kb2, kb3, kb4, kb5, kb6, rEq, rNe, scal, tMake_S, tMakeK_S, tMakeN_S, wipe]
          exact ⟨⟨hc, cb⟩, r _ _ (Same.refl _) rfl⟩
        · refine q D H3 ?_ (s2.trans s3)
          rw [hD, four_ints hl hs]
          unfold pr ints4
          rw [if_neg hc, if_neg hc, if_neg hc, if_neg hc]
          rfl
end
theorem look_term (n t : V) : List.lookup ("term" : Str) [(("term" : Str), n), (("strict" : Str), t)] = some n := rfl
theorem look_strict (n t : V) : List.lookup ("strict" : Str) [(("term" : Str), n), (("strict" : Str), t)] = some t := rfl
def pDiv (p q : Int × Int) : Int × Int := lo (fDiv p.1 p.2 q.1 q.2) (gDiv p.1 p.2 q.1 q.2)
section
variable {X : Cx}
def rN0 (K : PySem.W.Frag) : R2 := fun x y H Q => ∃ (c d : Int), Nu K H x c d ∧ c.natAbs < bigH ∧ d.natAbs < bigH ∧ y = .int 0 ∧ ∀ H', Same H H' → Q (.bl (decide (c = 0))) H'
end
section
variable {X : Cx}
theorem Wd.opN0 (W : Wd X.K X.mg) (hr : Room 3 X.A) : OpR X (compareOp .Eq) (rN0 X.K) := by
  intro pins s σ H x y v u Q I rx ry h
  obtain ⟨c, d, hn, hc, hd, rfl, q⟩ := h
  rcases id hn with ⟨z, rfl, hz⟩ | ⟨rfl, rfl⟩
  · refine W.opEq hr pins s σ H _ _ v u Q I rx ry ⟨c, d, 0, 1, hn, .inr ⟨rfl, rfl⟩, ⟨hc, hd, h_of (by decide), h_of (by decide)⟩, .inl ⟨z, rfl⟩, fun H' s' => ?_⟩
    have e : (c * 1 - 0 * d) = c := by omega
    rw [e]
    exact q H' s'
  · refine op_eq pins s σ H _ _ v u Q I rx ry ⟨rfl, ?_⟩
    have e : decide (V.int c = V.int 0) = decide (c = 0) := by simp only [V.int.injEq]
    rw [e]
    exact q H (Same.refl _)
end
section
variable {P : Program} {w : World} {K : PySem.W.Frag} {mg : Str → Option Value} {base : Heap} {fd : FuncData}
/-- a term over a number -/
def spTOver (K : PySem.W.Frag) : Sp := fun vs H Q _ => ∃ (x : Addr) (v : V) (m t0 t1 t2 n : Int × Int), vs = [.ref x, v] ∧ IsTm K H x m t0 t1 t2 ∧ Nu K H v n.1 n.2 ∧ n.1 ≠ 0 ∧ Ok2 (1, 1) n ∧ Ok2 m (pDiv (1, 1) n) ∧ Ok2 t0 (pDiv (1, 1) n) ∧ Ok2 t1 (pDiv (1, 1) n) ∧ Ok2 t2 (pDiv (1, 1) n) ∧
  ∀ z H', Same H H' → IsTm K H' z (pMul m (pDiv (1, 1) n)) (pMul t0 (pDiv (1, 1) n)) (pMul t1 (pDiv (1, 1) n)) (pMul t2 (pDiv (1, 1) n)) → Q (.ref z) H'
theorem scTermOver : FnScope ["self", "number"] ["self", "number"] d_Term_over.scope := ⟨rfl, rfl, rfl, by decide +kernel, rfl, by decide +kernel, by decide +kernel⟩
theorem ok_tover (W : Wd K mg) : ∃ fd, FnOk P w K mg base CX0 6 (aT K "over") fd ["self", "number"] (spTOver K) ∧ Binds K fd ["self", "number"] [] := by
  obtain ⟨fd_init, G_init, F_init⟩ := ok_init (P := P) (w := w) (base := base) W
  obtain ⟨ds_init1, v_init1, b_init1⟩ := bind2 F_init
  obtain ⟨fd_over, G_over, b_over⟩ := ok_over (P := P) (w := w) (base := base) W
  obtain ⟨fd, F⟩ := W.F_Term_over
  refine ⟨fd, F.ok scTermOver (fun vs H Q E h => ?_) (fun cdv A outer s H vs Q E hr h => ?_), FunD.bindsN F fun _ _ _ _ _ _ us hl => match us, hl with | [_, _], _ => rfl⟩
  · obtain ⟨x, v, _, _, _, _, _, rfl, _⟩ := h
    rfl
  · obtain ⟨x, v, m, t0, t1, t2, n, rfl, hx, hn, n0, k0, ok, ok0, ok1, ok2, q⟩ := h
    have r1 : Room 1 _ := hr.mono (by decide)
    have r2 : Room 2 _ := hr.mono (by decide)
    have r3 : Room 3 _ := hr.mono (by decide)
    have r4 : Room 4 _ := hr.mono (by decide)
    have r5 : Room 5 _ := hr.mono (by decide)
    refine ⟨_, PSs.nox (pss_cons (ps_if (pt_cmpR (W.opN0 r3) (pv 1) pe_int (nomark _)) pss_never pss_nil)
    (pss_one (ps_ret (pe_op (W.tMulN hr) (pv 0) (pe_meth (pe_make W.mkr_Share G_init r3 rfl W.g_Share b_init1 v_init1 pass0 (pa_cons pe_int pa_nil)) W.cls_Share W.m_Share_over G_over r4 b_over .nil pass0 (pa_cons (pv 1) pa_nil)))))), ?_⟩
    simp -dsimp [tSeq, tAsg, tRet, tIfS, tIf, tTest, tVar, tCons, tNil, tC, tOp, tUn, rI, rI0, rU, tCB, tLst_A, tTup_A, gName, L2.start, CMul, CPow, CDiv, tDrop, tBM, tBM0, tNext, tPar, gSub, rSetL, rIxL, rIxT, tChain, tB, tNot, tNotV, tAnd, tOr, tAndV, tOrV, tFld, tCall, rIxLH, rIxTH, atI, ixN, upd_same, cxK, ex2, ex3, ex3b, rIs1, rIs2, rNe2, tyN, kb1, kb2, kb3, kb4, kb5, kb6, rEq, rNe, scal, tMake_S, tMakeK_S, tMakeN_S]
    refine ⟨n.1, n.2, hn, k0.1.2.2.1, k0.1.2.2.2, rfl, fun H1 s1 => ?_⟩
    simp -dsimp [tSeq, tAsg, tRet, tIfS, tIf, tTest, tVar, tCons, tNil, tC, tOp, tUn, rI, rI0, rU, tCB, tLst_A, tTup_A, gName, L2.start, CMul, CPow, CDiv, tDrop, tBM, tBM0, tNext, tPar, gSub, rSetL, rIxL, rIxT, tChain, tB, tNot, tNotV, tAnd, tOr, tAndV, tOrV, tFld, tCall, rIxLH, rIxTH, atI, ixN, upd_same, cxK, ex2, ex3, ex3b, rIs1, rIs2, rNe2, tyN, kb1, kb2, kb3, kb4, kb5, kb6, rEq, rNe, scal, tMake_S, tMakeK_S, tMakeN_S, n0, tMeth]
    refine MkS.one fun z1 H2 n2 s2 i2 => ?_
    obtain ⟨dz, hz⟩ := id i2
    have s12 := s1.trans s2
    refine ⟨z1, rfl, dz, _, hz, fun a b h e => ?_, ?_⟩
    · subst e
      rcases List.mem_cons.mp h with h | h
      · exact absurd (show ("over" : Str) = "top" from congrArg Prod.fst h) (by decide +kernel)
      · rcases List.mem_cons.mp h with h | h
        · exact absurd (show ("over" : Str) = "bottom" from congrArg Prod.fst h) (by decide +kernel)
        · cases h
    refine ⟨z1, v, 1, 1, n.1, n.2, rfl, i2, hn.same s12, k0.1, Int.mul_ne_zero (by decide) n0, fun z2 H3 s3 i3 => ?_⟩
    exact ⟨m, t0, t1, t2, pDiv (1, 1) n, x, rfl, hx.same (s12.trans s3), .inl ⟨z2, rfl, i3⟩, ok, ok0, ok1, ok2, fun z H' s' i => q z H' ((s12.trans s3).trans s') i⟩
end
theorem pAdd_zl {p : Int × Int} (h : Low p.1 p.2) : pAdd (0, 1) p = p := by
  show lo (0 * p.2 + p.1 * 1) (1 * p.2) = _
  rw [Int.zero_mul, Int.zero_add, Int.mul_one, Int.one_mul, lo_low' h]
theorem pMul_one {p : Int × Int} (h : Low p.1 p.2) : pMul (1, 1) p = p := by
  show lo (1 * p.1) (1 * p.2) = _
  rw [Int.one_mul, Int.one_mul, lo_low' h]
theorem pMul_zl {p : Int × Int} (h : p.2 ≠ 0) : pMul (0, 1) p = (0, 1) := by
  show lo (0 * p.1) (1 * p.2) = _
  rw [Int.zero_mul, Int.one_mul]
  have := lo_eq (x := 0) (y := p.2) h (low_one 0) (by rw [Int.zero_mul, Int.zero_mul])
  exact Prod.ext this.1 this.2
/-- what has been put in before turn k -/
def cn (k j : Nat) (p : Int × Int) : Int × Int := if j < k then p else (0, 1)
theorem low01 : Low (0, 1).1 (0, 1).2 := low_one 0
theorem comb {k j : Nat} {p p' : Int × Int} (h : Low p.1 p.2) (h' : Low p'.1 p'.2) (e : j = k → p = p') : pAdd (pMul (dl (k : Int) (j : Int)) p) (cn k j p') = cn (k + 1) j p' := by
  by_cases hjk : j = k
  · have ee := e hjk
    subst hjk ee
    have e1 : dl (j : Int) (j : Int) = (1, 1) := by unfold dl; rw [if_pos rfl]
    have e2 : cn j j p = (0, 1) := if_neg (by omega)
    have e3 : cn (j + 1) j p = p := if_pos (by omega)
    rw [e1, e2, e3, pMul_one h, pAdd_zero h]
  · have e1 : dl (k : Int) (j : Int) = (0, 1) := by unfold dl; rw [if_neg (by omega)]
    rw [e1, pMul_zl (Int.ne_of_gt h.1)]
    unfold cn
    by_cases hl : j < k
    · rw [if_pos hl, if_pos (by omega), pAdd_zl h']
    · rw [if_neg hl, if_neg (by omega), pAdd_zl low01]
theorem cn_gd {n k j : Nat} {p : Int × Int} (h : Gd (n + 1) p) : Gd (n + 1) (cn k j p) := by
  unfold cn
  split
  · exact h
  · exact Gd.int (Nat.pow_pos (by decide))
/-! ### one row, written otherwise -/
theorem pr_scale {g c : Nat} {x : Int} (hc : 0 < c) : pr (g * c) (x * c) = pr g x := by
  unfold pr
  by_cases hg : g = 0
  · subst hg
    rw [if_pos (Nat.zero_mul c), if_pos rfl]
  · have h1 : g * c ≠ 0 := Nat.mul_ne_zero hg (by omega)
    rw [if_neg h1, if_neg hg, Int.fdiv_eq_ediv_of_nonneg _ (by omega), Int.fdiv_eq_ediv_of_nonneg _ (by omega)]
    rw [Int.natCast_mul]
    exact Int.mul_ediv_mul_of_pos_left _ _ (by omega)
theorem g4_scale {a b c d : Int} {k : Int} : g4 (a * k) (b * k) (c * k) (d * k) = g4 a b c d * k.natAbs := by
  unfold g4
  rw [Int.natAbs_mul, Int.natAbs_mul, Int.natAbs_mul, Int.natAbs_mul, gcd4_mul]
theorem g4_neg {a b c d : Int} : g4 (-a) (-b) (-c) (-d) = g4 a b c d := by
  unfold g4
  rw [Int.natAbs_neg, Int.natAbs_neg, Int.natAbs_neg, Int.natAbs_neg]
theorem pr_scaleI {a b c d k x : Int} (hk : 0 < k) : pr (g4 (a * k) (b * k) (c * k) (d * k)) (x * k) = pr (g4 a b c d) x := by
  rw [g4_scale]
  have e : ((k.natAbs : Nat) : Int) = k := by omega
  have := pr_scale (g := g4 a b c d) (c := k.natAbs) (x := x) (by omega)
  rw [e] at this
  exact this
theorem g4_dvd (a b c d : Int) : ((g4 a b c d : Nat) : Int) ∣ a ∧ ((g4 a b c d : Nat) : Int) ∣ b ∧ ((g4 a b c d : Nat) : Int) ∣ c ∧ ((g4 a b c d : Nat) : Int) ∣ d := by
  unfold g4
  refine ⟨?_, ?_, ?_, ?_⟩
  · exact Int.ofNat_dvd_left.mpr (Nat.dvd_trans (Nat.dvd_trans (Nat.dvd_trans (Nat.gcd_dvd_left _ _) (Nat.gcd_dvd_left _ _)) (Nat.gcd_dvd_left _ _)) (Nat.gcd_dvd_right _ _))
  · exact Int.ofNat_dvd_left.mpr (Nat.dvd_trans (Nat.dvd_trans (Nat.gcd_dvd_left _ _) (Nat.gcd_dvd_left _ _)) (Nat.gcd_dvd_right _ _))
  · exact Int.ofNat_dvd_left.mpr (Nat.dvd_trans (Nat.gcd_dvd_left _ _) (Nat.gcd_dvd_right _ _))
  · exact Int.ofNat_dvd_left.mpr (Nat.gcd_dvd_right _ _)
theorem pr_mul {g : Nat} {x : Int} (h : (g : Int) ∣ x) : pr g x * (if g = 0 then 1 else (g : Int)) = x := by
  unfold pr
  by_cases hg : g = 0
  · subst hg
    rw [if_pos rfl, if_pos rfl, Int.zero_mul]
    exact (Int.zero_dvd.mp h).symm
  · rw [if_neg hg, if_neg hg, Int.fdiv_eq_ediv_of_nonneg _ (by omega)]
    exact Int.ediv_mul_cancel h
theorem pr_neg {g : Nat} {x : Int} (h : (g : Int) ∣ x) : pr g (-x) = -pr g x := by
  unfold pr
  by_cases hg : g = 0
  · rw [if_pos hg, if_pos hg, Int.neg_zero]
  · rw [if_neg hg, if_neg hg, Int.fdiv_eq_ediv_of_nonneg _ (by omega), Int.fdiv_eq_ediv_of_nonneg _ (by omega)]
    exact Int.neg_ediv_of_dvd h
theorem pr_le {g : Nat} {x : Int} : (pr g x).natAbs ≤ x.natAbs := by
  unfold pr
  by_cases hg : g = 0
  · rw [if_pos hg]
    exact Nat.zero_le _
  · rw [if_neg hg, Int.fdiv_eq_ediv_of_nonneg _ (by omega)]
    exact Int.natAbs_ediv_le_natAbs _ _
/-- the row of four integers, in its one form -/
def IsP (K : PySem.W.Frag) (H : Hp) (z : Addr) (st : Bool) (a0 a1 a2 a3 : Int) : Prop := IsRow K H z st (pr (g4 a0 a1 a2 a3) a0, 1) (pr (g4 a0 a1 a2 a3) a1, 1) (pr (g4 a0 a1 a2 a3) a2, 1) (pr (g4 a0 a1 a2 a3) a3, 1)
/-- four numbers are four integers times one number above 0 -/
structure Ws (q0 q1 q2 q3 : Int × Int) (a0 a1 a2 a3 : Int) : Prop where
  w : ∃ C D : Int, 0 < C ∧ 0 < D ∧ q0.1 * D = a0 * C * q0.2 ∧ q1.1 * D = a1 * C * q1.2 ∧ q2.1 * D = a2 * C * q2.2 ∧ q3.1 * D = a3 * C * q3.2
  l0 : Low q0.1 q0.2
  l1 : Low q1.1 q1.2
  l2 : Low q2.1 q2.2
  l3 : Low q3.1 q3.2
theorem IsRw.isP {K : PySem.W.Frag} {H : Hp} {z : Addr} {st : Bool} {q0 q1 q2 q3 : Int × Int} {a0 a1 a2 a3 : Int} (h : IsRw K H z st q0 q1 q2 q3) (w : Ws q0 q1 q2 q3 a0 a1 a2 a3) : IsP K H z st a0 a1 a2 a3 := by
  obtain ⟨⟨C, D, hC, hD, e0, e1, e2, e3⟩, l0, l1, l2, l3⟩ := w
  obtain ⟨r0, r1, r2, r3⟩ := rowForm l0 l1 l2 l3 hD e0 e1 e2 e3
  unfold IsRw at h
  rw [r0, r1, r2, r3, pr_scaleI hC, pr_scaleI hC, pr_scaleI hC, pr_scaleI hC] at h
  exact h
/-- integers times a number -/
theorem Ws.mul {a0 a1 a2 a3 : Int} {n : Int × Int} (h1 : 0 < n.1) (h2 : 0 < n.2) : Ws (lo (a0 * n.1) n.2) (lo (a1 * n.1) n.2) (lo (a2 * n.1) n.2) (lo (a3 * n.1) n.2) a0 a1 a2 a3 := by
  have hn : n.2 ≠ 0 := by omega
  exact ⟨⟨n.1, n.2, h1, h2, lo_cross hn, lo_cross hn, lo_cross hn, lo_cross hn⟩, low_lo hn, low_lo hn, low_lo hn, low_lo hn⟩
theorem Ws.int (a0 a1 a2 a3 : Int) : Ws (a0, 1) (a1, 1) (a2, 1) (a3, 1) a0 a1 a2 a3 := ⟨⟨1, 1, by decide, by decide, by omega, by omega, by omega, by omega⟩, low_one _, low_one _, low_one _, low_one _⟩
/-- the negated lowest integers -/
theorem Ws.neg (a0 a1 a2 a3 : Int) : Ws (-pr (g4 a0 a1 a2 a3) a0, 1) (-pr (g4 a0 a1 a2 a3) a1, 1) (-pr (g4 a0 a1 a2 a3) a2, 1) (-pr (g4 a0 a1 a2 a3) a3, 1) (-a0) (-a1) (-a2) (-a3) := by
  obtain ⟨d0, d1, d2, d3⟩ := g4_dvd a0 a1 a2 a3
  refine ⟨⟨1, if g4 a0 a1 a2 a3 = 0 then 1 else (g4 a0 a1 a2 a3 : Int), by decide, ?_, ?_, ?_, ?_, ?_⟩, low_one _, low_one _, low_one _, low_one _⟩
  · split <;> omega
  all_goals (rw [Int.mul_one, Int.mul_one])
  all_goals (show -pr _ _ * _ = _)
  all_goals (rw [Int.neg_mul])
  · rw [pr_mul d0]
  · rw [pr_mul d1]
  · rw [pr_mul d2]
  · rw [pr_mul d3]
theorem pSub_int (a b : Int) : pSub (a, 1) (b, 1) = (a - b, 1) := by
  show lo (a * 1 - b * 1) (1 * 1) = _
  rw [Int.mul_one, Int.mul_one, Int.mul_one, lo_int]
theorem i4_all {a b c d : Int} {P : Int → Prop} (h0 : P a) (h1 : P b) (h2 : P c) (h3 : P d) (j : Nat) : P (i4 a b c d j) := by
  match j with
  | 0 => exact h0
  | 1 => exact h1
  | 2 => exact h2
  | j + 3 => exact h3
theorem ix_nat {xs : List V} {r : Int} {v : V} (h0 : 0 ≤ r) (h : xs[r.toNat]? = some v) : ((if 0 ≤ r then if r < ((xs.length : Nat) : Int) then some r.toNat else none else if -((xs.length : Nat) : Int) ≤ r then some (r + ((xs.length : Nat) : Int)).toNat else none).bind fun j => xs[j]?) = some v := by
  obtain ⟨hl, _⟩ := List.getElem?_eq_some_iff.mp h
  rw [if_pos h0, if_pos (by omega)]
  exact h
theorem dl_val (k j : Nat) : dl (k : Int) (j : Int) = (if j = k then 1 else 0, 1) := by
  unfold dl
  by_cases h : j = k
  · rw [if_pos (by omega), if_pos h]
  · rw [if_neg (by omega), if_neg h]
def ci (k j : Nat) (a : Int) : Int := if j < k then a else 0
theorem combI {k j : Nat} {T a : Int} (e : j = k → T = a) : pAdd (ci k j a, 1) (pMul (dl (k : Int) (j : Int)) (T, 1)) = (ci (k + 1) j a, 1) := by
  rw [dl_val, pMul_int, pAdd_int]
  unfold ci
  by_cases h : j = k
  · rw [if_pos h, e h, if_neg (by omega), if_pos (by omega), Int.one_mul, Int.zero_add]
  · rw [if_neg h, Int.zero_mul, Int.add_zero]
    by_cases hl : j < k
    · rw [if_pos hl, if_pos (by omega)]
    · rw [if_neg hl, if_neg (by omega)]
theorem ci_lt {k j : Nat} {a : Int} {n : Nat} (h : a.natAbs < 10 ^ n) : (ci k j a).natAbs < 10 ^ n := by
  unfold ci
  split
  · exact h
  · exact Nat.pow_pos (by decide)
section
variable {P : Program} {w : World} {K : PySem.W.Frag} {mg : Str → Option Value} {base : Heap} {fd : FuncData}
def spUnks (K : PySem.W.Frag) : Sp := fun vs H Q _ => vs = [] ∧ ∀ (p x0 x1 x2 : Addr) H', Same H H' → H' p = some (.lst [.ref x0, .ref x1, .ref x2]) → IsTm K H' x0 (0, 1) (1, 1) (0, 1) (0, 1) → IsTm K H' x1 (0, 1) (0, 1) (1, 1) (0, 1) → IsTm K H' x2 (0, 1) (0, 1) (0, 1) (1, 1) → Q (.ref p) H'
theorem scUnknowns : FnScope ["_law_k"] [] d_unknowns.scope := ⟨rfl, rfl, rfl, by decide +kernel, rfl, by decide +kernel, by decide +kernel⟩
theorem ok_unknowns (W : Wd K mg) : ∃ fd, FnOk P w K mg base CX0 6 (He.ga K "_law_unknowns") fd [] (spUnks K) ∧ Binds K fd [] [] := by
  obtain ⟨fd_unk, G_unk, b_unk⟩ := ok_unk (P := P) (w := w) (base := base) W
  obtain ⟨fd, F⟩ := W.F_unknowns
  refine ⟨fd, F.ok scUnknowns (fun vs H Q E h => ?_) (fun cdv A outer s H vs Q E hr h => ?_), FunD.bindsN F fun _ _ _ _ _ _ us hl => match us, hl with | [], _ => rfl⟩
  · obtain ⟨rfl, _⟩ := h
    rfl
  · obtain ⟨rfl, q⟩ := h
    have r1 : Room 1 _ := hr.mono (by decide)
    have r2 : Room 2 _ := hr.mono (by decide)
    have r3 : Room 3 _ := hr.mono (by decide)
    have r4 : Room 4 _ := hr.mono (by decide)
    have r5 : Room 5 _ := hr.mono (by decide)
    refine ⟨_, PSs.nox (pss_one (ps_ret (pe_lc (own := [("_law_k", 0)]) (g := gName 0) (tt := tYes) rfl scUnknowns.nd (pi_range1 rfl W.f_range (pa_cons pe_int pa_nil)) (blkOk_by (N := ["_law_k"]) (sc := defScope s_unknowns) (by decide +kernel))
            (fun _ _ _ _ _ => (pg_name (i := 0) scUnknowns.nd rfl (Or.inl rfl))) (fun _ _ _ _ _ => pts_nil)
            (fun _ _ _ _ _ => (StX.pe_smeth (pe_glob (v := .ref (He.ga K "Term")) rfl W.g_Term rfl) W.sm_unknown G_unk r5 b_unk .nil pass0 (pa_cons (pv 0) pa_nil)))))), ?_⟩
    simp -dsimp [tSeq, tAsg, tRet, tIfS, tIf, tTest, tVar, tCons, tNil, tC, tOp, tUn, rI, rI0, rU, tCB, tLst_A, tTup_A, gName, L2.start, CMul, CPow, CDiv, tDrop, tBM, tBM0, tNext, tPar, gSub, rSetL, rIxL, rIxT, tChain, tB, tNot, tNotV, tAnd, tOr, tAndV, tOrV, tFld, tCall, rIxLH, rIxTH, atI, ixN, upd_same, cxK, ex2, ex3, ex3b, rIs1, rIs2, rNe2, tyN, kb1, kb2, kb3, kb4, kb5, kb6, rEq, rNe, scal, tMake_S, tMakeK_S, tMakeN_S, StX.tSMeth]
    refine lc_rng (n := 3) (fun j v H => ∃ x, v = .ref x ∧ IsTm K H x (0, 1) (dl (j : Int) 0) (dl (j : Int) 1) (dl (j : Int) 2)) (by decide) (fun j D xs v H H' hD s ⟨x, e, hx⟩ => ⟨x, e, hx.keepL (KeepL.sameN hD s)⟩) (fun x => rfl) (fun j H' R hj s' r => ?_) (fun D H' vs s' hl hD hs => ?_)
    · simp -dsimp [tSeq, tAsg, tRet, tIfS, tIf, tTest, tVar, tCons, tNil, tC, tOp, tUn, rI, rI0, rU, tCB, tLst_A, tTup_A, gName, L2.start, CMul, CPow, CDiv, tDrop, tBM, tBM0, tNext, tPar, gSub, rSetL, rIxL, rIxT, tChain, tB, tNot, tNotV, tAnd, tOr, tAndV, tOrV, tFld, tCall, rIxLH, rIxTH, atI, ixN, upd_same, cxK, ex2, ex3, ex3b, rIs1, rIs2, rNe2, tyN, kb1, kb2, kb3, kb4, kb5, kb6, rEq, rNe, scal, tMake_S, tMakeK_S, tMakeN_S, StX.tSMeth, wipe]
      exact ⟨j, rfl, by omega, by omega, fun z H4 s4 iz => r _ _ s4 ⟨z, rfl, iz⟩⟩
    · match vs, hl with
      | [v0, v1, v2], _ =>
      obtain ⟨x0, rfl, i0⟩ := hs 0 _ rfl
      obtain ⟨x1, rfl, i1⟩ := hs 1 _ rfl
      obtain ⟨x2, rfl, i2⟩ := hs 2 _ rfl
      exact q D x0 x1 x2 H' s' hD i0 i1 i2

def spTmOf (K : PySem.W.Frag) : Sp := fun vs H Q _ => ∃ (p : Addr) (a0 a1 a2 a3 : Int), vs = [.ref p] ∧ H p = some (ints4 a0 a1 a2 a3) ∧ (∀ j, (i4 a0 a1 a2 a3 j).natAbs < 10 ^ 12) ∧ ∀ z H', Same H H' → IsTm K H' z (a0, 1) (a1, 1) (a2, 1) (a3, 1) → Q (.ref z) H'
theorem scLtermOf : FnScope ["_law_numbers", "_law_found", "_law_k"] ["_law_numbers"] d_lterm_of.scope := ⟨rfl, rfl, rfl, by decide +kernel, rfl, by decide +kernel, by decide +kernel⟩
theorem ok_lterm_of (W : Wd K mg) : ∃ fd, FnOk P w K mg base CX0 8 (He.ga K "_law_term_of") fd ["_law_numbers"] (spTmOf K) ∧ Binds K fd ["_law_numbers"] [] := by
  obtain ⟨fd_const, G_const, b_const⟩ := ok_const (P := P) (w := w) (base := base) W
  obtain ⟨fd_unk, G_unk, b_unk⟩ := ok_unk (P := P) (w := w) (base := base) W
  obtain ⟨fd, F⟩ := W.F_lterm_of
  refine ⟨fd, F.ok scLtermOf (fun vs H Q E h => ?_) (fun cdv A outer s H vs Q E hr h => ?_), FunD.bindsN F fun _ _ _ _ _ _ us hl => match us, hl with | [_], _ => rfl⟩
  · obtain ⟨p, _, _, _, _, rfl, _⟩ := h
    rfl
  · obtain ⟨p, a0, a1, a2, a3, rfl, hp, hb, q⟩ := h
    have r1 : Room 1 _ := hr.mono (by decide)
    have r2 : Room 2 _ := hr.mono (by decide)
    have r3 : Room 3 _ := hr.mono (by decide)
    have r4 : Room 4 _ := hr.mono (by decide)
    have r5 : Room 5 _ := hr.mono (by decide)
    have r6 : Room 6 _ := hr.mono (by decide)
    have r7 : Room 7 _ := hr.mono (by decide)
    refine ⟨_, PSs.nox (pss_cons (ps_set (i := 1) scLtermOf.nd rfl (Or.inl rfl) (StX.pe_smeth (pe_glob (v := .ref (He.ga K "Term")) rfl W.g_Term rfl) W.sm_constant G_const r5 b_const .nil pass0 (pa_cons (pe_ix ix_lstH (pv 0) pe_int (fun _ _ => rfl)) pa_nil)))
    (pss_cons (ps_for PassesOwn.never rfl (pi_range1 rfl W.f_range (pa_cons pe_int pa_nil)) (pg_name (i := 2) scLtermOf.nd rfl (Or.inl rfl)) (pss_one (ps_set (i := 1) scLtermOf.nd rfl (Or.inl rfl) (pe_op (W.tAddT r7) (pv 1) (pe_op (W.nMulT r6) (pe_ix ix_lstH (pv 0) (pe_op op_add (pv 2) pe_int) (fun _ _ => rfl)) (StX.pe_smeth (pe_glob (v := .ref (He.ga K "Term")) rfl W.g_Term rfl) W.sm_unknown G_unk r5 b_unk .nil pass0 (pa_cons (pv 2) pa_nil)))))))
    (pss_one (ps_ret (pv 1))))), ?_⟩
    have hp' : H p = some (.lst [.int a0, .int a1, .int a2, .int a3]) := hp
    simp -dsimp [tSeq, tAsg, tRet, tIfS, tIf, tTest, tVar, tCons, tNil, tC, tOp, tUn, rI, rI0, rU, tCB, tLst_A, tTup_A, gName, L2.start, CMul, CPow, CDiv, tDrop, tBM, tBM0, tNext, tPar, gSub, rSetL, rIxL, rIxT, tChain, tB, tNot, tNotV, tAnd, tOr, tAndV, tOrV, tFld, tCall, rIxLH, rIxTH, atI, ixN, upd_same, cxK, ex2, ex3, ex3b, rIs1, rIs2, rNe2, tyN, kb1, kb2, kb3, kb4, kb5, kb6, rEq, rNe, scal, tMake_S, tMakeK_S, tMakeN_S, StX.tSMeth]
    refine ⟨_, hp', .int a0, rfl, .int a0, a0, 1, rfl, .inr ⟨rfl, rfl⟩, fun z H1 s1 iz => ?_⟩
    refine ⟨3, rfl, by decide, by decide, for_range (n := 3) (fun k σ' H' => ∃ (z : Addr) (v2 : Option V), σ' = [some (.ref p), some (.ref z), v2] ∧ Same H H' ∧ IsTm K H' z (a0, 1) (ci k 0 a1, 1) (ci k 1 a2, 1) (ci k 2 a3, 1)) ⟨z, none, rfl, s1, iz⟩ ?_ ?_⟩
    · rintro k σ' H3 hk ⟨z, v2, rfl, s3, iz⟩
      simp -dsimp [tSeq, tAsg, tRet, tIfS, tIf, tTest, tVar, tCons, tNil, tC, tOp, tUn, rI, rI0, rU, tCB, tLst_A, tTup_A, gName, L2.start, CMul, CPow, CDiv, tDrop, tBM, tBM0, tNext, tPar, gSub, rSetL, rIxL, rIxT, tChain, tB, tNot, tNotV, tAnd, tOr, tAndV, tOrV, tFld, tCall, rIxLH, rIxTH, atI, ixN, upd_same, cxK, ex2, ex3, ex3b, rIs1, rIs2, rNe2, tyN, kb1, kb2, kb3, kb4, kb5, kb6, rEq, rNe, scal, tMake_S, tMakeK_S, tMakeN_S, StX.tSMeth]
      have hi : [V.int a0, V.int a1, V.int a2, V.int a3][k + 1]? = some (.int (i4 a0 a1 a2 a3 (k + 1))) := by
        match k, hk with
        | 0, _ => rfl
        | 1, _ => rfl
        | 2, _ => rfl
      have hT := hb (k + 1)
      have t1e : 0 = k → i4 a0 a1 a2 a3 (k + 1) = a1 := fun e => by subst e; rfl
      have t2e : 1 = k → i4 a0 a1 a2 a3 (k + 1) = a2 := fun e => by subst e; rfl
      have t3e : 2 = k → i4 a0 a1 a2 a3 (k + 1) = a3 := fun e => by subst e; rfl
      generalize i4 a0 a1 a2 a3 (k + 1) = T at hi hT t1e t2e t3e
      refine ⟨_, s3 _ _ hp', .int T, by rw [if_pos (by omega), if_pos (by show (k : Int) + 1 < 4; omega)]; exact hi, k, rfl, by omega, by omega, fun u H5 s5 iu => ?_⟩
      have gT : Gd 12 (T, 1) := Gd.int hT
      have gz : Gd 12 (0, 1) := Gd.int (by decide)
      refine ⟨(0, 1), dl k 0, dl k 1, dl k 2, (T, 1), u, rfl, iu, .inr ⟨rfl, rfl⟩, gz.ok gT, (Gd.dl k 0).ok gT, (Gd.dl k 1).ok gT, (Gd.dl k 2).ok gT, fun y H6 s6 iy => ?_⟩
      have s56 := s5.trans s6
      have ga : ∀ j, Gd 12 ((i4 a0 a1 a2 a3 j), 1) := fun j => Gd.int (hb j)
      have gc : ∀ j m, Gd 12 (ci k m (i4 a0 a1 a2 a3 j), 1) := fun j m => Gd.int (ci_lt (n := 12) (hb j))
      refine ⟨(a0, 1), (ci k 0 a1, 1), (ci k 1 a2, 1), (ci k 2 a3, 1), _, _, _, _, z, rfl, iz.same s56, .inl ⟨y, rfl, iy⟩, (ga 0).ok (gz.mul gT), (gc 1 0).ok ((Gd.dl k 0).mul gT), (gc 2 1).ok ((Gd.dl k 1).mul gT), (gc 3 2).ok ((Gd.dl k 2).mul gT), fun z' H7 s7 iz' => ?_⟩
      have c0 : pAdd (ci k 0 a1, 1) (pMul (dl (k : Int) 0) (T, 1)) = (ci (k + 1) 0 a1, 1) := combI (j := 0) t1e
      have c1 : pAdd (ci k 1 a2, 1) (pMul (dl (k : Int) 1) (T, 1)) = (ci (k + 1) 1 a2, 1) := combI (j := 1) t2e
      have c2 : pAdd (ci k 2 a3, 1) (pMul (dl (k : Int) 2) (T, 1)) = (ci (k + 1) 2 a3, 1) := combI (j := 2) t3e
      rw [pMul_int, pAdd_int, Int.zero_mul, Int.add_zero, c0, c1, c2] at iz'
      exact ⟨z', rfl, s3.trans (s56.trans s7), iz'⟩
    · rintro σ' H3 ⟨z, v2, rfl, s3, iz⟩
      exact ⟨_, rfl, q z H3 s3 iz⟩
end
section
variable {X : Cx} {CX : CXT} {n : Nat} {sp : Sp} {E : XK} {C f : Addr}
/-- ~x by x's own def -/
theorem un_inv (hs : PySem.W.findIn X.K (.ref C) "__invert__" = some (some (.ref f))) (hf : PySem.W.isFn X.K (.ref f) = true) (F : FnR X.prog X.w X.K X.mg X.base CX n f sp) (hr : Room n X.A) (hx : Passes CX X E) : UnR X (unaryOp .Invert) (rUnO C sp E) := by
  intro pins s σ H x v Q I rx h
  obtain ⟨a, dx, fs, rfl, ha, q⟩ := h
  cases (show v = Value.ref a from rx)
  obtain ⟨mA, O, _⟩ := ins_get I.hok ha
  obtain ⟨od, J, _⟩ := O.look
  obtain ⟨m, hF⟩ := I.fr
  exact PySem.W.ksp_inv hF I.ok.mod.kin J hs hf (wpAny_call (run_fnR (us := [.ref a]) (vs := [.ref a]) F hr hx I (.cons rfl .nil) q))
end
section
variable {P : Program} {w : World} {K : PySem.W.Frag} {mg : Str → Option Value} {base : Heap} {fd : FuncData}
def spTNeg (K : PySem.W.Frag) : Sp := fun vs H Q _ => ∃ (x : Addr) (b0 b1 b2 b3 : Int), vs = [.ref x] ∧ IsTm K H x (b0, 1) (b1, 1) (b2, 1) (b3, 1) ∧ (∀ j, (i4 b0 b1 b2 b3 j).natAbs < 10 ^ 13) ∧ ∀ z H', Same H H' → IsTm K H' z (-b0, 1) (-b1, 1) (-b2, 1) (-b3, 1) → Q (.ref z) H'
theorem scTermNeg : FnScope ["self"] ["self"] d_Term_neg.scope := ⟨rfl, rfl, rfl, by decide +kernel, rfl, by decide +kernel, by decide +kernel⟩
theorem ok_Term_neg (W : Wd K mg) : ∃ fd, FnOk P w K mg base CX0 6 (aT K "__neg__") fd ["self"] (spTNeg K) ∧ Binds K fd ["self"] [] := by
  obtain ⟨fd, F⟩ := W.F_Term_neg
  refine ⟨fd, F.ok scTermNeg (fun vs H Q E h => ?_) (fun cdv A outer s H vs Q E hr h => ?_), FunD.bindsN F fun _ _ _ _ _ _ us hl => match us, hl with | [_], _ => rfl⟩
  · obtain ⟨x, _, _, _, _, rfl, _⟩ := h
    rfl
  · obtain ⟨x, b0, b1, b2, b3, rfl, hx, hb, q⟩ := h
    have r1 : Room 1 _ := hr.mono (by decide)
    have r2 : Room 2 _ := hr.mono (by decide)
    have r3 : Room 3 _ := hr.mono (by decide)
    have r4 : Room 4 _ := hr.mono (by decide)
    have r5 : Room 5 _ := hr.mono (by decide)
    refine ⟨_, PSs.nox (pss_one (ps_ret (pe_op (W.tMulN hr) (pv 0) (pe_un un_neg pe_int)))), ?_⟩
    simp -dsimp [tSeq, tAsg, tRet, tIfS, tIf, tTest, tVar, tCons, tNil, tC, tOp, tUn, rI, rI0, rU, tCB, tLst_A, tTup_A, gName, L2.start, CMul, CPow, CDiv, tDrop, tBM, tBM0, tNext, tPar, gSub, rSetL, rIxL, rIxT, tChain, tB, tNot, tNotV, tAnd, tOr, tAndV, tOrV, tFld, tCall, rIxLH, rIxTH, atI, ixN, upd_same, cxK, ex2, ex3, ex3b, rIs1, rIs2, rNe2, tyN, kb1, kb2, kb3, kb4, kb5, kb6, rEq, rNe, scal, tMake_S, tMakeK_S, tMakeN_S]
    have g1 : Gd 13 ((-1 : Int), (1 : Int)) := ⟨low_one _, by decide, by decide⟩
    have gb : ∀ j, Gd 13 ((i4 b0 b1 b2 b3 j), 1) := fun j => Gd.int (hb j)
    refine ⟨_, _, _, _, (-1, 1), x, rfl, hx, .inr ⟨rfl, rfl⟩, (gb 0).ok g1, (gb 1).ok g1, (gb 2).ok g1, (gb 3).ok g1, fun z H' s' iz => q z H' s' ?_⟩
    rw [pMul_int, pMul_int, pMul_int, pMul_int] at iz
    rw [Int.neg_eq_neg_one_mul b0, Int.neg_eq_neg_one_mul b1, Int.neg_eq_neg_one_mul b2, Int.neg_eq_neg_one_mul b3, Int.mul_comm _ b0, Int.mul_comm _ b1, Int.mul_comm _ b2, Int.mul_comm _ b3]
    exact iz

def rTNeg (K : PySem.W.Frag) : V → Hp → VK → Prop := fun x H Q => spTNeg K [x] H Q E0
end
section
variable {X : Cx}
theorem Wd.uNegT (W : Wd X.K X.mg) (hr : Room 6 X.A) : UnR X (unaryOp .USub) (rTNeg X.K) := by
  obtain ⟨f1, G1, b1⟩ := ok_Term_neg (P := X.prog) (w := X.w) (base := X.base) W
  intro pins s σ H x v Q I rx h
  obtain ⟨z, b0, b1', b2, b3, e, hz, hb, q⟩ := id h
  cases e
  obtain ⟨dx, fs, hd⟩ := hz.ins
  exact un_own W.m_Term_neg.at_ W.m_Term_neg.fn (raw0 G1 b1) hr pass0 pins s σ H _ v Q I rx ⟨z, dx, fs, rfl, hd, h⟩
end
section
variable {P : Program} {w : World} {K : PySem.W.Frag} {mg : Str → Option Value} {base : Heap} {fd : FuncData}
def aR (K : PySem.W.Frag) (m : Str) : Addr := He.ma K (He.ga K "Row") m
def spInv (K : PySem.W.Frag) : Sp := fun vs H Q _ => ∃ (z : Addr) (st : Bool) (a0 a1 a2 a3 : Int), vs = [.ref z] ∧ IsP K H z st a0 a1 a2 a3 ∧ (∀ j, (i4 a0 a1 a2 a3 j).natAbs < 10 ^ 12) ∧ ∀ z' H', Same H H' → IsP K H' z' (!st) (-a0) (-a1) (-a2) (-a3) → Q (.ref z') H'
theorem scRowInv : FnScope ["self"] ["self"] d_Row_invert.scope := ⟨rfl, rfl, rfl, by decide +kernel, rfl, by decide +kernel, by decide +kernel⟩
theorem ok_Row_invert (W : Wd K mg) : ∃ fd, FnOk P w K mg base CX0 8 (aR K "__invert__") fd ["self"] (spInv K) ∧ Binds K fd ["self"] [] := by
  obtain ⟨fd_rinit, G_rinit, b_rinit⟩ := ok_rinit (P := P) (w := w) (base := base) W
  obtain ⟨fd, F⟩ := W.F_Row_invert
  refine ⟨fd, F.ok scRowInv (fun vs H Q E h => ?_) (fun cdv A outer s H vs Q E hr h => ?_), FunD.bindsN F fun _ _ _ _ _ _ us hl => match us, hl with | [_], _ => rfl⟩
  · obtain ⟨z, _, _, _, _, _, rfl, _⟩ := h
    rfl
  · obtain ⟨z, st, a0, a1, a2, a3, rfl, hz, hb, q⟩ := h
    have r1 : Room 1 _ := hr.mono (by decide)
    have r2 : Room 2 _ := hr.mono (by decide)
    have r3 : Room 3 _ := hr.mono (by decide)
    have r4 : Room 4 _ := hr.mono (by decide)
    have r5 : Room 5 _ := hr.mono (by decide)
    have r6 : Room 6 _ := hr.mono (by decide)
    have r7 : Room 7 _ := hr.mono (by decide)
    refine ⟨_, PSs.nox (pss_one (ps_ret (pe_make W.mkr_Row G_rinit r7 rfl W.g_Row b_rinit .nil pass0 (pa_cons (pe_un (W.uNegT r6) (pe_fld (pv 0) rfl)) (pa_cons (pe_not (pe_fld (pv 0) rfl)) pa_nil))))), ?_⟩
    obtain ⟨dx, tz, e1, it⟩ := id hz
    simp -dsimp [tSeq, tAsg, tRet, tIfS, tIf, tTest, tVar, tCons, tNil, tC, tOp, tUn, rI, rI0, rU, tCB, tLst_A, tTup_A, gName, L2.start, CMul, CPow, CDiv, tDrop, tBM, tBM0, tNext, tPar, gSub, rSetL, rIxL, rIxT, tChain, tB, tNot, tNotV, tAnd, tOr, tAndV, tOrV, tFld, tCall, rIxLH, rIxTH, atI, ixN, upd_same, cxK, ex2, ex3, ex3b, rIs1, rIs2, rNe2, tyN, kb1, kb2, kb3, kb4, kb5, kb6, rEq, rNe, scal, tMake_S, tMakeK_S, tMakeN_S, e1, rowO, W.cls_Row, W.n_Row_term, W.n_Row_strict, look_term, look_strict, tMake_R]
    have bb : ∀ j, (i4 (pr (g4 a0 a1 a2 a3) a0) (pr (g4 a0 a1 a2 a3) a1) (pr (g4 a0 a1 a2 a3) a2) (pr (g4 a0 a1 a2 a3) a3) j).natAbs < 10 ^ 12 := i4_all (P := fun x => x.natAbs < 10 ^ 12) (Nat.lt_of_le_of_lt pr_le (hb 0)) (Nat.lt_of_le_of_lt pr_le (hb 1)) (Nat.lt_of_le_of_lt pr_le (hb 2)) (Nat.lt_of_le_of_lt pr_le (hb 3))
    refine ⟨tz, _, _, _, _, rfl, it, fun j => Nat.lt_trans (bb j) (by decide), fun y H1 s1 iy => ⟨_, _, _, s1 _ _ e1, W.cls_Row, W.n_Row_strict, .bl st, rfl, ?_⟩⟩
    have gb : ∀ j, Gd 12 (-(i4 (pr (g4 a0 a1 a2 a3) a0) (pr (g4 a0 a1 a2 a3) a1) (pr (g4 a0 a1 a2 a3) a2) (pr (g4 a0 a1 a2 a3) a3) j), 1) := fun j => Gd.int (by rw [Int.natAbs_neg]; exact bb j)
    have go : MkR K H1 [.ref y, .bl (!st)] Q E0 := MkR.of rfl iy (gb 0) (gb 1) (gb 2) (gb 3) (by decide) fun z' H2 s2 ir => q z' H2 (s1.trans s2) (ir.isP (Ws.neg a0 a1 a2 a3))
    cases st
    · exact .inl ⟨rfl, go⟩
    · exact .inr ⟨rfl, go⟩

end
section
variable {X : Cx}
def rRInv (K : PySem.W.Frag) : V → Hp → VK → Prop := fun x H Q => spInv K [x] H Q E0
theorem Wd.uInv (W : Wd X.K X.mg) (hr : Room 8 X.A) : UnR X (unaryOp .Invert) (rRInv X.K) := by
  obtain ⟨f1, G1, b1⟩ := ok_Row_invert (P := X.prog) (w := X.w) (base := X.base) W
  intro pins s σ H x v Q I rx h
  obtain ⟨z, st, a0, a1, a2, a3, e, hz, hb, q⟩ := id h
  cases e
  obtain ⟨dx, tz, hd, _⟩ := id hz
  exact un_inv W.m_Row_invert.at_ W.m_Row_invert.fn (raw0 G1 b1) hr pass0 pins s σ H _ v Q I rx ⟨z, dx, _, rfl, hd, h⟩
end
/-- of one worth: m is a over d -/
def Cm (m : Int × Int) (a d : Int) : Prop := m.1 * d = a * m.2
theorem sub_w {m n : Int × Int} {a b d e : Int} (hm : m.2 ≠ 0) (hn : n.2 ≠ 0) (h1 : Cm m a d) (h2 : Cm n b e) : (pSub n m).1 * (d * e) = (b * d - a * e) * (pSub n m).2 := by
  have hy : n.2 * m.2 ≠ 0 := Int.mul_ne_zero hn hm
  have c := lo_cross (x := n.1 * m.2 - m.1 * n.2) hy
  have c' : (pSub n m).1 * (n.2 * m.2) = (n.1 * m.2 - m.1 * n.2) * (pSub n m).2 := c
  unfold Cm at h1 h2
  refine Int.eq_of_mul_eq_mul_right hy ?_
  generalize pSub n m = p at c'
  grind
theorem Cm.int (k : Int) : Cm (k, 1) k 1 := rfl
theorem Cm.mul (a : Int) {c : Int × Int} (h : c.2 ≠ 0) : Cm (pMul (a, 1) c) (a * c.1) c.2 := by
  have e := lo_cross (x := a * c.1) (y := 1 * c.2) (by rw [Int.one_mul]; exact h)
  rw [Int.one_mul] at e
  show (lo (a * c.1) (1 * c.2)).1 * c.2 = a * c.1 * (lo (a * c.1) (1 * c.2)).2
  rw [Int.one_mul]
  exact e
theorem Cm.sub {m n : Int × Int} {a b d e : Int} (hm : m.2 ≠ 0) (hn : n.2 ≠ 0) (h1 : Cm m a d) (h2 : Cm n b e) : Cm (pSub n m) (b * d - a * e) (d * e) := sub_w hm hn h1 h2
theorem Cm.to {q : Int × Int} {b d b' d' : Int} (h : Cm q b d) (hb : b = b') (hd : d = d') : Cm q b' d' := by
  subst hb hd
  exact h
theorem Ws.of {q0 q1 q2 q3 : Int × Int} {a0 a1 a2 a3 C D : Int} (hC : 0 < C) (hD : 0 < D) (h0 : Cm q0 (a0 * C) D) (h1 : Cm q1 (a1 * C) D) (h2 : Cm q2 (a2 * C) D) (h3 : Cm q3 (a3 * C) D) (l0 : Low q0.1 q0.2) (l1 : Low q1.1 q1.2) (l2 : Low q2.1 q2.2) (l3 : Low q3.1 q3.2) : Ws q0 q1 q2 q3 a0 a1 a2 a3 := ⟨⟨C, D, hC, hD, h0, h1, h2, h3⟩, l0, l1, l2, l3⟩
/-- a times c, less 0 -/
theorem cm0 (a : Int) {c : Int × Int} (h : c.2 ≠ 0) (hm : (pMul (a, 1) c).2 ≠ 0) : Cm (pSub (pMul (a, 1) c) (0, 1)) (a * c.1) c.2 := (Cm.sub (by decide) hm (Cm.int 0) (Cm.mul a h)).to (by rw [Int.zero_mul, Int.mul_one, Int.sub_zero]) (Int.one_mul _)
theorem cm5 (a : Int) {c : Int × Int} (h : c.2 ≠ 0) (hm : (pMul (a, 1) c).2 ≠ 0) : Cm (pSub (0, 1) (pMul (a, 1) c)) (-a * c.1) c.2 := (Cm.sub hm (by decide) (Cm.mul a h) (Cm.int 0)).to (by rw [Int.zero_mul, Int.mul_one, Int.zero_sub, Int.neg_mul]) (Int.mul_one _)
/-- k less (k less a times r) -/
theorem cm4 (k a : Int) {r : Int × Int} (h : r.2 ≠ 0) (hm : (pMul (a, 1) r).2 ≠ 0) (hn : (pSub (k, 1) (pMul (a, 1) r)).2 ≠ 0) : Cm (pSub (k, 1) (pSub (k, 1) (pMul (a, 1) r))) (a * r.1) r.2 := (Cm.sub hn (by show (1 : Int) ≠ 0; decide) (Cm.sub hm (by show (1 : Int) ≠ 0; decide) (Cm.mul a h) (Cm.int k)) (Cm.int k)).to (by
  rw [Int.mul_one, Int.mul_one, Int.mul_one]
  omega) (by rw [Int.mul_one, Int.mul_one])
theorem lo_pos {x y : Int} (hx : 0 < x) (hy : 0 < y) : 0 < (lo x y).1 := by
  have c : (lo x y).1 * y = x * (lo x y).2 := lo_cross (by omega)
  have l2 : 0 < (lo x y).2 := (low_lo (x := x) (y := y) (by omega)).1
  have h3 : 0 < (lo x y).1 * y := by rw [c]; exact Int.mul_pos hx l2
  rcases Int.lt_or_le 0 (lo x y).1 with h4 | h4
  · exact h4
  · have := Int.mul_nonpos_of_nonpos_of_nonneg h4 (Int.le_of_lt hy)
    omega
theorem go1 : Gd 1 ((1 : Int), (1 : Int)) := ⟨low_one _, by decide, by decide⟩
theorem gz1 : Gd 1 ((0 : Int), (1 : Int)) := ⟨low_one _, by decide, by decide⟩
theorem row0 {K : PySem.W.Frag} {H : Hp} {Q : VK} {st fl : Bool} {x : Addr} {p0 p1 p2 p3 : Int × Int} {n : Nat} (ix : IsTm K H x p0 p1 p2 p3) (g0 : Gd n p0) (g1 : Gd n p1) (g2 : Gd n p2) (g3 : Gd n p3) (hn : n ≤ 50)
    (k : ∀ z H', Same H H' → (if fl then IsRw K H' z st (pSub (0, 1) p0) (pSub (0, 1) p1) (pSub (0, 1) p2) (pSub (0, 1) p3) else IsRw K H' z st (pSub p0 (0, 1)) (pSub p1 (0, 1)) (pSub p2 (0, 1)) (pSub p3 (0, 1))) → Q (.ref z) H') : rRow K st fl (.ref x) (.int 0) H Q :=
  ⟨p0, p1, p2, p3, (0, 1), (0, 1), (0, 1), (0, 1), n, 1, .inl ⟨x, rfl, ix⟩, .inr ⟨.inr ⟨rfl, rfl⟩, rfl, rfl, rfl⟩, .inl ⟨x, rfl, ix⟩, g0, g1, g2, g3, gz1, gz1, gz1, gz1, by omega, k⟩
theorem row0l {K : PySem.W.Frag} {H : Hp} {Q : VK} {st fl : Bool} {x : Addr} {p0 p1 p2 p3 : Int × Int} {n : Nat} (ix : IsTm K H x p0 p1 p2 p3) (g0 : Gd n p0) (g1 : Gd n p1) (g2 : Gd n p2) (g3 : Gd n p3) (hn : n ≤ 50)
    (k : ∀ z H', Same H H' → (if fl then IsRw K H' z st (pSub p0 (0, 1)) (pSub p1 (0, 1)) (pSub p2 (0, 1)) (pSub p3 (0, 1)) else IsRw K H' z st (pSub (0, 1) p0) (pSub (0, 1) p1) (pSub (0, 1) p2) (pSub (0, 1) p3)) → Q (.ref z) H') : rRow K st fl (.int 0) (.ref x) H Q :=
  ⟨(0, 1), (0, 1), (0, 1), (0, 1), p0, p1, p2, p3, 1, n, .inr ⟨.inr ⟨rfl, rfl⟩, rfl, rfl, rfl⟩, .inl ⟨x, rfl, ix⟩, .inr ⟨x, rfl, ix⟩, gz1, gz1, gz1, gz1, g0, g1, g2, g3, by omega, k⟩
theorem row2 {K : PySem.W.Frag} {H : Hp} {Q : VK} {st fl : Bool} {x y : Addr} {p0 p1 p2 p3 u0 u1 u2 u3 : Int × Int} {n m : Nat} (ix : IsTm K H x p0 p1 p2 p3) (iy : IsTm K H y u0 u1 u2 u3) (g0 : Gd n p0) (g1 : Gd n p1) (g2 : Gd n p2) (g3 : Gd n p3) (h0 : Gd m u0) (h1 : Gd m u1) (h2 : Gd m u2) (h3 : Gd m u3) (hn : n + m + 1 ≤ 60)
    (k : ∀ z H', Same H H' → (if fl then IsRw K H' z st (pSub u0 p0) (pSub u1 p1) (pSub u2 p2) (pSub u3 p3) else IsRw K H' z st (pSub p0 u0) (pSub p1 u1) (pSub p2 u2) (pSub p3 u3)) → Q (.ref z) H') : rRow K st fl (.ref x) (.ref y) H Q :=
  ⟨p0, p1, p2, p3, u0, u1, u2, u3, n, m, .inl ⟨x, rfl, ix⟩, .inl ⟨y, rfl, iy⟩, .inl ⟨x, rfl, ix⟩, g0, g1, g2, g3, h0, h1, h2, h3, hn, k⟩
theorem mem_over {x y : V} {a : Str} {v : V} (h : (a, v) ∈ [(("number" : Str), x), (("times" : Str), y)]) : a ≠ "over" := fun e => by
  subst e
  rcases List.mem_cons.mp h with h | h
  · exact absurd (show ("over" : Str) = "number" from congrArg Prod.fst h) (by decide +kernel)
  · rcases List.mem_cons.mp h with h | h
    · exact absurd (show ("over" : Str) = "times" from congrArg Prod.fst h) (by decide +kernel)
    · cases h
section
variable {P : Program} {w : World} {K : PySem.W.Frag} {mg : Str → Option Value} {base : Heap} {fd : FuncData}
def spWr (K : PySem.W.Frag) : Sp := fun vs H Q _ => ∃ (p : Addr) (st : Bool) (wy : Int) (v : V) (a0 a1 a2 a3 : Int) (c : Int × Int), vs = [.ref p, .bl st, .int wy, v] ∧ H p = some (ints4 a0 a1 a2 a3) ∧ (∀ j, (i4 a0 a1 a2 a3 j).natAbs < 10 ^ 12) ∧ 0 ≤ wy ∧ wy < 6 ∧ Nu K H v c.1 c.2 ∧ Gd 3 c ∧ 0 < c.1 ∧
  ∀ z H', Same H H' → IsP K H' z st a0 a1 a2 a3 → Q (.ref z) H'
theorem scWritten : FnScope ["_law_numbers", "_law_strict", "_law_way", "_law_part", "_law_above", "_law_x"] ["_law_numbers", "_law_strict", "_law_way", "_law_part"] d_written.scope := ⟨rfl, rfl, rfl, by decide +kernel, rfl, by decide +kernel, by decide +kernel⟩
theorem ok_written (W : Wd K mg) : ∃ fd, FnOk P w K mg base CX0 9 (He.ga K "_law_written") fd ["_law_numbers", "_law_strict", "_law_way", "_law_part"] (spWr K) ∧ Binds K fd ["_law_numbers", "_law_strict", "_law_way", "_law_part"] [] := by
  obtain ⟨fd_unknowns, G_unknowns, b_unknowns⟩ := ok_unknowns (P := P) (w := w) (base := base) W
  have k_unknowns : PySem.W.keepIn K (.ref (He.ga K "_law_unknowns")) = true := by obtain ⟨fd, F⟩ := W.F_unknowns; exact F.kp
  obtain ⟨fd_lterm_of, G_lterm_of, b_lterm_of⟩ := ok_lterm_of (P := P) (w := w) (base := base) W
  have k_lterm_of : PySem.W.keepIn K (.ref (He.ga K "_law_term_of")) = true := by obtain ⟨fd, F⟩ := W.F_lterm_of; exact F.kp
  obtain ⟨fd_tover, G_tover, b_tover⟩ := ok_tover (P := P) (w := w) (base := base) W
  obtain ⟨fd, F⟩ := W.F_written
  refine ⟨fd, F.ok scWritten (fun vs H Q E h => ?_) (fun cdv A outer s H vs Q E hr h => ?_), FunD.bindsN F fun _ _ _ _ _ _ us hl => match us, hl with | [_, _, _, _], _ => rfl⟩
  · obtain ⟨p, _, _, _, _, _, _, _, _, rfl, _⟩ := h
    rfl
  · obtain ⟨p, st, wy, v, a0, a1, a2, a3, c, rfl, hp, hb, w0, w6, hv, gc, cp, q⟩ := h
    have r1 : Room 1 _ := hr.mono (by decide)
    have r2 : Room 2 _ := hr.mono (by decide)
    have r3 : Room 3 _ := hr.mono (by decide)
    have r4 : Room 4 _ := hr.mono (by decide)
    have r5 : Room 5 _ := hr.mono (by decide)
    have r6 : Room 6 _ := hr.mono (by decide)
    have r7 : Room 7 _ := hr.mono (by decide)
    have r8 : Room 8 _ := hr.mono (by decide)
    refine ⟨_, PSs.nox (pss_cons (ps_par (i := 4) (j := 5) rfl scWritten.nd rfl rfl (by decide) rfl rfl (pa_cons (pe_call G_lterm_of r8 rfl W.g_law_term_of k_lterm_of b_lterm_of .nil pass0 (pa_cons (pv 0) pa_nil)) (pa_cons (pe_call0 G_unknowns r6 rfl W.g_law_unknowns k_unknowns b_unknowns .nil pass0) pa_nil)) rfl)
    (pss_cons (ps_if (pt_cmpR op_eq (pv 2) pe_int (nomark _)) (pss_one (ps_ret (pe_ifExp (pt_val (pv 1)) (pe_cmpR (W.cGt r8) (pe_op (W.tMulN r5) (pv 4) (pv 3)) pe_int (nomark _)) (pe_cmpR (W.cGe r8) (pe_op (W.tMulN r5) (pv 4) (pv 3)) pe_int (nomark _))))) pss_nil)
    (pss_cons (ps_if (pt_cmpR op_eq (pv 2) pe_int (nomark _)) (pss_one (ps_ret (pe_ifExp (pt_val (pv 1)) (pe_cmpR (W.cLt r8) pe_int (pv 4) (nomark _)) (pe_cmpR (W.cLe r8) pe_int (pv 4) (nomark _))))) pss_nil)
    (pss_cons (ps_if (pt_cmpR op_eq (pv 2) pe_int (nomark _)) (pss_one (ps_ret (pe_ifExp (pt_val (pv 1)) (pe_cmpR (W.cLt r8) (pe_un (W.uNegT r6) (pv 4)) pe_int (nomark _)) (pe_cmpR (W.cLe r8) (pe_un (W.uNegT r6) (pv 4)) pe_int (nomark _))))) pss_nil)
    (pss_cons (ps_if (pt_cmpR op_eq (pv 2) pe_int (nomark _)) (pss_one (ps_ret (pe_ifExp (pt_val (pv 1)) (pe_cmpR (W.cGt r8) (pe_op (W.nMulT r6) (pe_ix ix_lstH (pv 0) pe_int (fun _ _ => rfl)) (pe_ix ix_lstH (pv 5) pe_int (fun _ _ => rfl))) (pe_op (W.tSubT r7) (pe_op (W.nMulT r6) (pe_ix ix_lstH (pv 0) pe_int (fun _ _ => rfl)) (pe_ix ix_lstH (pv 5) pe_int (fun _ _ => rfl))) (pv 4)) (nomark _)) (pe_cmpR (W.cGe r8) (pe_ix ix_lstH (pv 5) pe_int (fun _ _ => rfl)) (pe_op (W.tSubT r7) (pe_ix ix_lstH (pv 5) pe_int (fun _ _ => rfl)) (pv 4)) (nomark _))))) pss_nil)
    (pss_cons (ps_if (pt_cmpR op_eq (pv 2) pe_int (nomark _)) (pss_one (ps_ret (pe_ifExp (pt_val (pv 1)) (pe_cmpR (W.cLt r8) (pe_op (W.tSubT r7) (pe_ix ix_lstH (pv 5) pe_int (fun _ _ => rfl)) (pe_meth (pv 4) W.cls_Term W.m_Term_over G_tover r6 b_tover .nil pass0 (pa_cons (pv 3) pa_nil))) (pe_ix ix_lstH (pv 5) pe_int (fun _ _ => rfl)) (nomark _)) (pe_cmpR (W.cLe r8) (pe_op (W.tSubT r7) (pe_ix ix_lstH (pv 5) pe_int (fun _ _ => rfl)) (pe_meth (pv 4) W.cls_Term W.m_Term_over G_tover r6 b_tover .nil pass0 (pa_cons (pv 3) pa_nil))) (pe_ix ix_lstH (pv 5) pe_int (fun _ _ => rfl)) (nomark _))))) pss_nil)
    (pss_one (ps_ret (pe_ifExp (pt_val (pv 1)) (pe_un (W.uInv r8) (pe_cmpR (W.cLe r8) (pv 4) pe_int (nomark _))) (pe_un (W.uInv r8) (pe_cmpR (W.cLt r8) (pe_op (W.nMulT r6) (pv 3) (pv 4)) pe_int (nomark _)))))))))))), ?_⟩
    simp -dsimp [tSeq, tAsg, tRet, tIfS, tIf, tTest, tVar, tCons, tNil, tC, tOp, tUn, rI, rI0, rU, tCB, tLst_A, tTup_A, gName, L2.start, CMul, CPow, CDiv, tDrop, tBM, tBM0, tNext, tPar, gSub, rSetL, rIxL, rIxT, tChain, tB, tNot, tNotV, tAnd, tOr, tAndV, tOrV, tFld, tCall, rIxLH, rIxTH, atI, ixN, upd_same, cxK, ex2, ex3, ex3b, rIs1, rIs2, rNe2, tyN, kb1, kb2, kb3, kb4, kb5, kb6, rEq, rNe, scal, tMake_S, tMakeK_S, tMakeN_S]
    refine ⟨p, a0, a1, a2, a3, rfl, hp, hb, fun x H1 s1 ix => ⟨rfl, fun px x0 x1 x2 H2 s2 ex j0 j1 j2 => ?_⟩⟩
    have ix2 := ix.same s2
    have s12 := s1.trans s2
    have hv2 := hv.same s12
    have hp2 : H2 p = some (.lst [.int a0, .int a1, .int a2, .int a3]) := s12 _ _ hp
    clear ix j1 hv
    have ga : ∀ j, Gd 12 (i4 a0 a1 a2 a3 j, 1) := fun j => Gd.int (hb j)
    have gac : ∀ j, Gd 15 (pMul (i4 a0 a1 a2 a3 j, 1) c) := fun j => (ga j).mul gc
    have hba : ∀ j, (i4 (-a0) (-a1) (-a2) (-a3) j).natAbs < 10 ^ 12 := i4_all (P := fun x => x.natAbs < 10 ^ 12) (by rw [Int.natAbs_neg]; exact hb 0) (by rw [Int.natAbs_neg]; exact hb 1) (by rw [Int.natAbs_neg]; exact hb 2) (by rw [Int.natAbs_neg]; exact hb 3)
    have q' : ∀ z H', Same H2 H' → IsP K H' z st a0 a1 a2 a3 → Q (.ref z) H' := fun z H' s' i => q z H' (s12.trans s') i
    have qi : ∀ {b : Bool} {z : Addr} {G : Hp}, (!b) = st → Same H2 G → IsP K G z b (-a0) (-a1) (-a2) (-a3) → rRInv K (.ref z) G Q := fun {b z G} eb sg i => ⟨z, b, _, _, _, _, rfl, i, hba, fun z' H' s' i' => q' z' H' (sg.trans s') (by
      rw [Int.neg_neg, Int.neg_neg, Int.neg_neg, Int.neg_neg, eb] at i'
      exact i')⟩
    have cb : ∀ {A B : Prop}, (st = false → A) → (st = true → B) → (st = false ∧ A ∨ st = true ∧ B) := fun ha hb' => by
      cases st
      · exact .inl ⟨rfl, ha rfl⟩
      · exact .inr ⟨rfl, hb' rfl⟩
    split
    · have go : ∀ b : Bool, st = b → rTM K (.ref x) v H2 fun x H1 => rRow K b false x (.int 0) H1 Q := fun b eb => by
        refine ⟨_, _, _, _, c, x, rfl, ix2, hv2, (ga 0).ok gc, (ga 1).ok gc, (ga 2).ok gc, (ga 3).ok gc, fun z H3 s3 iz => ?_⟩
        refine row0 iz (gac 0) (gac 1) (gac 2) (gac 3) (by decide) fun z' H4 s4 ir => q' z' H4 (s3.trans s4) ?_
        rw [← eb] at ir
        exact IsRw.isP ir (Ws.of cp gc.low.1 (cm0 _ gc.ne (gac 0).ne) (cm0 _ gc.ne (gac 1).ne) (cm0 _ gc.ne (gac 2).ne) (cm0 _ gc.ne (gac 3).ne) ((gac 0).sub gz1).low ((gac 1).sub gz1).low ((gac 2).sub gz1).low ((gac 3).sub gz1).low)
      exact cb (go _) (go _)
    · split
      · have go : ∀ b : Bool, st = b → rRow K b true (.int 0) (.ref x) H2 Q := fun b eb => by
          refine row0l ix2 (ga 0) (ga 1) (ga 2) (ga 3) (by decide) fun z' H4 s4 ir => q' z' H4 s4 ?_
          have ir : IsRw K H4 z' b _ _ _ _ := ir
          rw [pSub_int, pSub_int, pSub_int, pSub_int, Int.sub_zero, Int.sub_zero, Int.sub_zero, Int.sub_zero, ← eb] at ir
          exact ir.isP (Ws.int _ _ _ _)
        exact cb (go _) (go _)
      · split
        · have go : ∀ b : Bool, st = b → rTNeg K (.ref x) H2 fun x H1 => rRow K b true x (.int 0) H1 Q := fun b eb => by
            refine ⟨x, a0, a1, a2, a3, rfl, ix2, fun j => Nat.lt_trans (hb j) (by decide), fun z H3 s3 iz => ?_⟩
            have gn : ∀ j, Gd 12 (i4 (-a0) (-a1) (-a2) (-a3) j, 1) := fun j => Gd.int (hba j)
            refine row0 iz (gn 0) (gn 1) (gn 2) (gn 3) (by decide) fun z' H4 s4 ir => q' z' H4 (s3.trans s4) ?_
            have ir : IsRw K H4 z' b _ _ _ _ := ir
            rw [pSub_int, pSub_int, pSub_int, pSub_int, Int.zero_sub, Int.zero_sub, Int.zero_sub, Int.zero_sub, Int.neg_neg, Int.neg_neg, Int.neg_neg, Int.neg_neg, ← eb] at ir
            exact ir.isP (Ws.int _ _ _ _)
          exact cb (go _) (go _)
        · split
          · refine cb (fun eb => ?_) (fun eb => ?_)
            · refine ⟨px, rfl, _, ex, .ref x0, rfl, px, rfl, _, ex, .ref x0, rfl, ?_⟩
              refine ⟨_, _, _, _, _, _, _, _, x0, rfl, j0, .inl ⟨x, rfl, ix2⟩, gz1.ok (ga 0), go1.ok (ga 1), gz1.ok (ga 2), gz1.ok (ga 3), fun z H3 s3 iz => ?_⟩
              refine row2 (j0.same s3) iz gz1 go1 gz1 gz1 (gz1.sub (ga 0)) (go1.sub (ga 1)) (gz1.sub (ga 2)) (gz1.sub (ga 3)) (by decide) fun z' H4 s4 ir => q' z' H4 (s3.trans s4) ?_
              have ir : IsRw K H4 z' false _ _ _ _ := ir
              rw [pSub_int, pSub_int, pSub_int, pSub_int, pSub_int, pSub_int, pSub_int, pSub_int, Int.sub_sub_self, Int.sub_sub_self, Int.sub_sub_self, Int.sub_sub_self, ← eb] at ir
              exact ir.isP (Ws.int _ _ _ _)
            · refine ⟨_, hp2, .int a1, rfl, px, rfl, _, ex, .ref x0, rfl, ?_⟩
              have gk : Gd 12 (a1, 1) := ga 1
              refine ⟨_, _, _, _, (a1, 1), x0, rfl, j0, .inr ⟨rfl, rfl⟩, gz1.ok gk, go1.ok gk, gz1.ok gk, gz1.ok gk, fun y H3 s3 iy => ?_⟩
              refine ⟨_, s3 _ _ hp2, .int a1, rfl, px, rfl, _, s3 _ _ ex, .ref x0, rfl, ?_⟩
              refine ⟨_, _, _, _, (a1, 1), x0, rfl, j0.same s3, .inr ⟨rfl, rfl⟩, gz1.ok gk, go1.ok gk, gz1.ok gk, gz1.ok gk, fun y' H4 s4 iy' => ?_⟩
              have k0 : Gd 13 (pMul ((0 : Int), (1 : Int)) (a1, 1)) := gz1.mul gk
              have k1 : Gd 13 (pMul ((1 : Int), (1 : Int)) (a1, 1)) := go1.mul gk
              refine ⟨_, _, _, _, _, _, _, _, y', rfl, iy', .inl ⟨x, rfl, ix2.same (s3.trans s4)⟩, k0.ok (ga 0), k1.ok (ga 1), k0.ok (ga 2), k0.ok (ga 3), fun z H5 s5 iz => ?_⟩
              refine row2 (iy.same (s4.trans s5)) iz k0 k1 k0 k0 (k0.sub (ga 0)) (k1.sub (ga 1)) (k0.sub (ga 2)) (k0.sub (ga 3)) (by decide) fun z' H6 s6 ir => q' z' H6 (((s3.trans s4).trans s5).trans s6) ?_
              have ir : IsRw K H6 z' true _ _ _ _ := ir
              rw [pMul_int, pMul_int, pSub_int, pSub_int, pSub_int, pSub_int, pSub_int, pSub_int, pSub_int, pSub_int, Int.sub_sub_self, Int.sub_sub_self, Int.sub_sub_self, Int.sub_sub_self, ← eb] at ir
              exact ir.isP (Ws.int _ _ _ _)
          · split
            · have go : ∀ b : Bool, st = b → ∃ p_1, V.ref px = V.ref p_1 ∧ ∃ x_2, H2 p_1 = some (HO.lst x_2) ∧ ∃ x_3, ((if (2 : Int) < ((x_2.length : Nat) : Int) then some 2 else none).bind fun j => x_2[j]?) = some x_3 ∧ tMeth (He.ga K "Term") "over" (spTOver K) [] E0 (tVar 4) (tCons (tVar 3) tNil) [some (V.ref p), some (V.bl st), some (V.int wy), some v, some (V.ref x), some (V.ref px)] H2 fun y H2 => rTT K pSub x_3 y H2 fun x H1 => ∃ p, V.ref px = V.ref p ∧ ∃ x_4, H1 p = some (HO.lst x_4) ∧ ∃ x_5, ((if (2 : Int) < ((x_4.length : Nat) : Int) then some 2 else none).bind fun j => x_4[j]?) = some x_5 ∧ rRow K b true x x_5 H1 Q := fun b eb => by
                refine ⟨px, rfl, _, ex, .ref x2, rfl, ?_⟩
                simp -dsimp [tSeq, tAsg, tRet, tIfS, tIf, tTest, tVar, tCons, tNil, tC, tOp, tUn, rI, rI0, rU, tCB, tLst_A, tTup_A, gName, L2.start, CMul, CPow, CDiv, tDrop, tBM, tBM0, tNext, tPar, gSub, rSetL, rIxL, rIxT, tChain, tB, tNot, tNotV, tAnd, tOr, tAndV, tOrV, tFld, tCall, rIxLH, rIxTH, atI, ixN, upd_same, cxK, ex2, ex3, ex3b, rIs1, rIs2, rNe2, tyN, kb1, kb2, kb3, kb4, kb5, kb6, rEq, rNe, scal, tMake_S, tMakeK_S, tMakeN_S, tMeth]
                obtain ⟨dx, ax, tp, b0, b1, b2, e1, _⟩ := id ix2
                have gr : Gd 3 (pDiv (1, 1) c) := by
                  show Gd 3 (lo (1 * c.2) (1 * c.1))
                  rw [Int.one_mul, Int.one_mul]
                  exact lo_gd (by omega) gc.n2 gc.n1
                have rp : 0 < (pDiv (1, 1) c).1 := by
                  show 0 < (lo (1 * c.2) (1 * c.1)).1
                  rw [Int.one_mul, Int.one_mul]
                  exact lo_pos gc.low.1 cp
                have gar : ∀ j, Gd 15 (pMul (i4 a0 a1 a2 a3 j, 1) (pDiv (1, 1) c)) := fun j => (ga j).mul gr
                refine ⟨dx, _, e1, fun a b h e => mem_over h e.symm, ?_⟩
                refine ⟨x, v, _, _, _, _, c, rfl, ix2, hv2, by omega, go1.ok gc, (ga 0).ok gr, (ga 1).ok gr, (ga 2).ok gr, (ga 3).ok gr, fun y H3 s3 iy => ?_⟩
                refine ⟨_, _, _, _, _, _, _, _, x2, rfl, j2.same s3, .inl ⟨y, rfl, iy⟩, gz1.ok (gar 0), gz1.ok (gar 1), gz1.ok (gar 2), go1.ok (gar 3), fun z H4 s4 iz => ?_⟩
                refine ⟨_, (s3.trans s4) _ _ ex, .ref x2, rfl, ?_⟩
                have h0 := gz1.sub (gar 0)
                have h1 := gz1.sub (gar 1)
                have h2 := gz1.sub (gar 2)
                have h3 := go1.sub (gar 3)
                refine row2 iz (j2.same (s3.trans s4)) h0 h1 h2 h3 gz1 gz1 gz1 go1 (by decide) fun z' H5 s5 ir => q' z' H5 ((s3.trans s4).trans s5) ?_
                rw [← eb] at ir
                exact IsRw.isP ir (Ws.of rp gr.low.1 (cm4 _ _ gr.ne (gar 0).ne h0.ne) (cm4 _ _ gr.ne (gar 1).ne h1.ne) (cm4 _ _ gr.ne (gar 2).ne h2.ne) (cm4 _ _ gr.ne (gar 3).ne h3.ne) (gz1.sub h0).low (gz1.sub h1).low (gz1.sub h2).low (go1.sub h3).low)
              exact cb (go _) (go _)
            · refine cb (fun eb => ?_) (fun eb => ?_)
              · refine ⟨_, _, _, _, c, x, rfl, ix2, hv2, (ga 0).ok gc, (ga 1).ok gc, (ga 2).ok gc, (ga 3).ok gc, fun z H3 s3 iz => ?_⟩
                refine row0 iz (gac 0) (gac 1) (gac 2) (gac 3) (by decide) fun z' H4 s4 ir => qi (b := true) (by rw [eb]; rfl) (s3.trans s4) ?_
                exact IsRw.isP ir (Ws.of cp gc.low.1 (cm5 _ gc.ne (gac 0).ne) (cm5 _ gc.ne (gac 1).ne) (cm5 _ gc.ne (gac 2).ne) (cm5 _ gc.ne (gac 3).ne) (gz1.sub (gac 0)).low (gz1.sub (gac 1)).low (gz1.sub (gac 2)).low (gz1.sub (gac 3)).low)
              · refine row0 ix2 (ga 0) (ga 1) (ga 2) (ga 3) (by decide) fun z' H4 s4 ir => qi (b := false) (by rw [eb]; rfl) s4 ?_
                have ir : IsRw K H4 z' false _ _ _ _ := ir
                rw [pSub_int, pSub_int, pSub_int, pSub_int, Int.zero_sub, Int.zero_sub, Int.zero_sub, Int.zero_sub] at ir
                exact ir.isP (Ws.int _ _ _ _)
end
/-! ### lists of things that stand for others -/
def Rp {β : Type} (R : V → β → Hp → Prop) (H : Hp) (vs : List V) (bs : List β) : Prop := vs.length = bs.length ∧ ∀ (j : Nat) (v : V) (b : β), vs[j]? = some v → bs[j]? = some b → R v b H
theorem Rp.nil {β : Type} {R : V → β → Hp → Prop} {H : Hp} : Rp R H [] [] := ⟨rfl, fun j v b h => by cases h⟩
theorem Rp.mono {β : Type} {R : V → β → Hp → Prop} {H H' : Hp} {vs : List V} {bs : List β} (h : Rp R H vs bs) (k : ∀ v b, R v b H → R v b H') : Rp R H' vs bs := ⟨h.1, fun j v b e1 e2 => k v b (h.2 j v b e1 e2)⟩
theorem Rp.append {β : Type} {R : V → β → Hp → Prop} {H : Hp} {vs ws : List V} {bs cs : List β} (h : Rp R H vs bs) (k : Rp R H ws cs) : Rp R H (vs ++ ws) (bs ++ cs) := by
  refine ⟨by rw [List.length_append, List.length_append, h.1, k.1], fun j v b e1 e2 => ?_⟩
  by_cases hj : j < vs.length
  · rw [List.getElem?_append_left hj] at e1
    rw [List.getElem?_append_left (by rw [← h.1]; exact hj)] at e2
    exact h.2 j v b e1 e2
  · rw [List.getElem?_append_right (by omega)] at e1
    rw [List.getElem?_append_right (by rw [← h.1]; omega), ← h.1] at e2
    exact k.2 _ v b e1 e2
theorem Rp.one {β : Type} {R : V → β → Hp → Prop} {H : Hp} {v : V} {b : β} (h : R v b H) : Rp R H [v] [b] := ⟨rfl, fun j v' b' e1 e2 => by
  match j, e1, e2 with
  | 0, e1, e2 => cases e1; cases e2; exact h⟩
theorem Rp.two {β : Type} {R : V → β → Hp → Prop} {H : Hp} {v v' : V} {b b' : β} (h : R v b H) (k : R v' b' H) : Rp R H [v, v'] [b, b'] := (Rp.one h).append (Rp.one k)
theorem Rp.snoc {β : Type} {R : V → β → Hp → Prop} {H : Hp} {vs : List V} {bs : List β} {v : V} {b : β} (h : Rp R H vs bs) (k : R v b H) : Rp R H (vs ++ [v]) (bs ++ [b]) := h.append (Rp.one k)
theorem Rp.cons {β : Type} {R : V → β → Hp → Prop} {H : Hp} {vs : List V} {bs : List β} {v : V} {b : β} (k : R v b H) (h : Rp R H vs bs) : Rp R H (v :: vs) (b :: bs) := (Rp.one k).append h
theorem Rp.take {β : Type} {R : V → β → Hp → Prop} {H : Hp} {vs : List V} {bs : List β} (h : Rp R H vs bs) (n : Nat) : Rp R H (vs.take n) (bs.take n) := by
  refine ⟨by rw [List.length_take, List.length_take, h.1], fun j v b e1 e2 => ?_⟩
  rw [List.getElem?_take] at e1 e2
  split at e1
  · rename_i hj
    rw [if_pos hj] at e2
    exact h.2 j v b e1 e2
  · cases e1
theorem Rp.drop {β : Type} {R : V → β → Hp → Prop} {H : Hp} {vs : List V} {bs : List β} (h : Rp R H vs bs) (n : Nat) : Rp R H (vs.drop n) (bs.drop n) := by
  refine ⟨by rw [List.length_drop, List.length_drop, h.1], fun j v b e1 e2 => ?_⟩
  rw [List.getElem?_drop] at e1 e2
  exact h.2 _ v b e1 e2
theorem Rp.get {β : Type} {R : V → β → Hp → Prop} {H : Hp} {vs : List V} {bs : List β} (h : Rp R H vs bs) {j : Nat} {v : V} (e : vs[j]? = some v) : ∃ b, bs[j]? = some b ∧ R v b H := by
  have hj := (List.getElem?_eq_some_iff.mp e).1
  have hb : bs[j]? = some (bs[j]'(by rw [← h.1]; exact hj)) := List.getElem?_eq_getElem _
  exact ⟨_, hb, h.2 j v _ e hb⟩
theorem Rp.at {β : Type} {R : V → β → Hp → Prop} {H : Hp} {vs : List V} {bs : List β} (h : Rp R H vs bs) {j : Nat} {b : β} (e : bs[j]? = some b) : ∃ v, vs[j]? = some v ∧ R v b H := by
  have hj := (List.getElem?_eq_some_iff.mp e).1
  have hb : vs[j]? = some (vs[j]'(by rw [h.1]; exact hj)) := List.getElem?_eq_getElem _
  exact ⟨_, hb, h.2 j _ b hb e⟩
theorem Rp.nil_iff {β : Type} {R : V → β → Hp → Prop} {H : Hp} {vs : List V} {bs : List β} (h : Rp R H vs bs) : vs = [] ↔ bs = [] := by
  rw [← List.length_eq_zero_iff, ← List.length_eq_zero_iff, h.1]
theorem Rp.mapV {α β : Type} {R : V → α → Hp → Prop} {S : V → β → Hp → Prop} {H : Hp} {vs : List V} {as : List α} (f : α → β) (h : Rp R H vs as) (k : ∀ v a, R v a H → S v (f a) H) : Rp S H vs (as.map f) := by
  refine ⟨by rw [List.length_map]; exact h.1, fun j v b e1 e2 => ?_⟩
  obtain ⟨a, ea, ra⟩ := h.get e1
  rw [List.getElem?_map, ea] at e2
  cases e2
  exact k v a ra
/-- a relation that new things and changes of lists don't matter to -/
def MonoR {β : Type} (R : V → β → Hp → Prop) : Prop := ∀ b, Mono (fun v H => R v b H)
theorem MonoR.same {β : Type} {R : V → β → Hp → Prop} (m : MonoR R) {b : β} {v : V} {D : Addr} {xs : List V} {H H' : Hp} (hD : H D = some (.lst xs)) (s : Same H H') (h : R v b H) : R v b H' := m b D xs v H H' hD (.of s) h
/-- a comprehension over the list at a -/
theorem lc_all {K : PySem.W.Frag} {α β : Type} {own : List Nat} {gg : TG} {tt : TT} {tl : TE} {te : TE} {σ : List (Option V)} {H : Hp} {Q : V → Hp → Prop} (a : Addr) (xs : List V) (fs : List α) (t : α → Bool) (g : α → β) (R : V → β → Hp → Prop) (mono : MonoR R) (hn : xs.length < 1000) (hl : xs.length = fs.length) (ha : H a = some (.lst xs)) (htl : ∀ R : V → Hp → Prop, R (.ref a) H → tl σ H R)
    (hs : ∀ (j : Nat) (x : V) (f : α), xs[j]? = some x → fs[j]? = some f → ∃ σ', wipe σ' own = wipe σ own ∧ (∀ H' (Kc : L2.St → Hp → Prop), Same H H' → Kc σ' H' → gg x (wipe σ own) H' Kc) ∧ (∀ H' (Qb : Bool → Hp → Prop), Same H H' → (∀ H2, Same H' H2 → Qb (t f) H2) → tt σ' H' Qb) ∧ (t f = true → ∀ H' (R' : V → Hp → Prop), Same H H' → (∀ y H4, Same H' H4 → R y (g f) H4 → R' y H4) → te σ' H' R'))
    (hq : ∀ (D : Addr) (H' : Hp) (vs : List V), H D = none → Same H H' → H' D = some (.lst vs) → Rp R H' vs ((fs.filter t).map g) → Q (.ref D) H') : tLc (iList K tl) gg tt te own σ H Q := by
  refine htl _ ⟨a, rfl, ⟨xs, SqL.of ha⟩, fun D hD => ?_⟩
  refine lc_it (walk_list (K := K) (a := a) (xs := xs)) (fun i H' => Same H H' ∧ ∃ vs : List V, vs.length ≤ i ∧ H' D = some (.lst vs) ∧ Rp R H' vs (((fs.take i).filter t).map g)) ⟨same_upd hD, [], Nat.le_refl _, upd_same, by rw [List.take_zero]; exact Rp.nil⟩ (fun _ _ _ h => SqL.of (h.1 _ _ ha)) ?_ ?_
  · rintro i x H' H'' hi ⟨sm, vs, hvl, dD, hr⟩ ⟨rfl, fx⟩
    have ef : fs[i]? = some (fs[i]'(by omega)) := List.getElem?_eq_getElem _
    obtain ⟨σ', hw, hb, htst, hel⟩ := hs i x _ fx ef
    have e1 : fs.take (i + 1) = fs.take i ++ [fs[i]'(by omega)] := by rw [List.take_add_one, ef]; rfl
    refine hb _ _ sm ⟨hw, htst _ _ sm fun H2 s2 => ?_⟩
    have d2 := s2 _ _ dD
    have hr2 := hr.mono (fun v b r => mono.same dD s2 r)
    cases htf : t (fs[i]'(by omega)) with
    | true =>
      rw [if_pos rfl]
      refine hel htf _ _ (sm.trans s2) fun y H4 s4 ry => ?_
      have d4 := s4 _ _ d2
      refine ⟨vs, d4, small1000 (by omega), fun b o e => ?_, vs ++ [y], by rw [List.length_append, List.length_singleton]; omega, upd_same, ?_⟩
      · rw [upd_ne (ne_of_none e hD)]
        exact s4 _ _ (s2 _ _ (sm _ _ e))
      · rw [e1, List.filter_append, List.map_append]
        have ee : ([fs[i]'(by omega)].filter t).map g = [g (fs[i]'(by omega))] := by
          rw [List.filter_cons, htf]
          rfl
        rw [ee]
        exact (hr2.mono fun v b r => mono b D vs v _ _ d4 .upd (mono.same d2 s4 r)).snoc (mono _ D vs y _ _ d4 .upd ry)
    | false =>
      rw [if_neg (by decide)]
      refine ⟨sm.trans s2, vs, by omega, d2, ?_⟩
      rw [e1, List.filter_append, List.map_append]
      have ee : ([fs[i]'(by omega)].filter t).map g = [] := by
        rw [List.filter_cons, htf]
        rfl
      rw [ee, List.append_nil]
      exact hr2
  · rintro H' ⟨sm, vs, hvl, dD, hr⟩
    rw [hl, List.take_length] at hr
    exact hq D H' vs hD sm dD hr
/-- a loop over enumerate(list), kept shut -/
def ForE (K : PySem.W.Frag) (a : Addr) (g : TG) (tb : TS) (D : Ends) (σ : List (Option V)) (H : Hp) (_ : Lk (g, tb, D) := ⟨⟩) : Prop :=
  ∃ W : Nat → Nat → List (Option V) → Hp → Prop, (∃ m, W 0 m σ H) ∧ ∀ i m σ H, W i m σ H → ((Ite K a).stop i H ∧ D.nx σ H) ∨ ((Ite K a).go i H ∧ ∃ N : List (Option V) → Hp → Prop, (∀ σ' H', N σ' H' → ∃ m', m' < m ∧ W (i + 1) m' σ' H') ∧ ∀ x H', (Ite K a).yld i H x H' → g x σ H' fun σ2 H2 => tb { D with nx := N, ct := N, bk := D.nx } σ2 H2)
theorem tFor_iE {K : PySem.W.Frag} {ta : TA} {g : TG} {tb : TS} {D : Ends} {σ : List (Option V)} {H : Hp} : tFor (iEnum K ta) g tb D σ H = ta σ H fun vs H1 => ∃ a xs, vs = [.ref a] ∧ SqL K H1 a xs ∧ ForE K a g tb D σ H1 := rfl
theorem tfB {Qb : Bool → Hp → Prop} {b : Bool} {H : Hp} (h : Qb b H) : (V.bl b = V.bl false ∧ Qb false H) ∨ (V.bl b = V.bl true ∧ Qb true H) := by
  cases b
  · exact .inl ⟨rfl, h⟩
  · exact .inr ⟨rfl, h⟩
/-- the reading of x[k], k not below 0 -/
theorem ixK {xs : List V} {k : Nat} {v : V} (h : xs[k]? = some v) : ((if k < xs.length then some k else none).bind fun j => xs[j]?) = some v := by
  rw [if_pos (List.getElem?_eq_some_iff.mp h).1]
  exact h
theorem tup2n {K : PySem.W.Frag} {p : Addr} {a b : V} {i j : Nat} {σ : List (Option V)} {H : Hp} {Q : List (Option V) → Hp → Prop} (h : H p = some (.tup [a, b])) (q : Q ((σ.set i (some a)).set j (some b)) H) : gTup K 2 (gCons (gName i) (gCons (gName j) gNil)) (.ref p) σ H Q :=
  ⟨p, _, rfl, SqT.of h, rfl, _, _, rfl, _, _, rfl, rfl, q⟩
/-! ### an alternating form -/
namespace TB
def sk (i a : Nat) : Nat := if a < i then a else a + 1
def sm : Nat → (Nat → Int) → Int
  | 0, _ => 0
  | n + 1, f => sm n f + f n
def sg (i : Nat) : Int := if i % 2 = 0 then 1 else -1
def det : Nat → (Nat → Nat → Int) → Int
  | 0, _ => 1
  | n + 1, m => sm (n + 1) fun i => sg i * m i 0 * det n fun a b => m (sk i a) (b + 1)
def up (m : Nat → Nat → Int) (r : Nat) (u : Nat → Int) (a b : Nat) : Int := if a = r then u b else m a b
theorem sm_congr {f g : Nat → Int} : ∀ n, (∀ i, i < n → f i = g i) → sm n f = sm n g
  | 0, _ => rfl
  | n + 1, h => by
    show sm n f + f n = sm n g + g n
    rw [sm_congr n fun i hi => h i (by omega), h n (by omega)]
theorem sm_lin (f g : Nat → Int) (x y : Int) : ∀ n, sm n (fun i => x * f i + y * g i) = x * sm n f + y * sm n g
  | 0 => by
    show (0 : Int) = x * 0 + y * 0
    omega
  | n + 1 => by
    show sm n (fun i => x * f i + y * g i) + (x * f n + y * g n) = x * (sm n f + f n) + y * (sm n g + g n)
    rw [sm_lin f g x y n, Int.mul_add, Int.mul_add]
    omega
theorem sm_pair {f : Nat → Int} {r : Nat} : ∀ n, r + 1 < n → (∀ i, i < n → i ≠ r → i ≠ r + 1 → f i = 0) → f r + f (r + 1) = 0 → sm n f = 0
  | 0, h, _, _ => by omega
  | n + 1, h, z, c => by
    show sm n f + f n = 0
    have zero : ∀ k, k ≤ r → sm k f = 0 := fun k => by
      induction k with
      | zero => exact fun _ => rfl
      | succ k ih =>
        intro hk
        show sm k f + f k = 0
        rw [ih (by omega), z k (by omega) (by omega) (by omega)]
        rfl
    rcases Nat.lt_or_ge (r + 1) n with h1 | h1
    · rw [sm_pair n h1 (fun i hi => z i (by omega)) c, z n (by omega) (by omega) (by omega)]
      rfl
    · have e : n = r + 1 := by omega
      subst e
      show sm r f + f r + f (r + 1) = 0
      rw [zero r (Nat.le_refl _)]
      omega
theorem det_congr : ∀ n {m k : Nat → Nat → Int}, (∀ a b, a < n → m a b = k a b) → det n m = det n k
  | 0, _, _, _ => rfl
  | n + 1, m, k, h => by
    refine sm_congr _ fun i hi => ?_
    show sg i * m i 0 * det n (fun a b => m (sk i a) (b + 1)) = sg i * k i 0 * det n (fun a b => k (sk i a) (b + 1))
    rw [h i 0 hi, det_congr n (m := fun a b => m (sk i a) (b + 1)) (k := fun a b => k (sk i a) (b + 1)) fun a b ha => h _ _ (by unfold sk; split <;> omega)]
/-- where row r is when row i is left out -/
def lo1 (i r : Nat) : Nat := if r < i then r else r - 1
theorem up_minor {m : Nat → Nat → Int} {i r : Nat} {u : Nat → Int} (h : i ≠ r) (a b : Nat) : up m r u (sk i a) (b + 1) = up (fun a b => m (sk i a) (b + 1)) (lo1 i r) (fun b => u (b + 1)) a b := by
  unfold up
  have : sk i a = r ↔ a = lo1 i r := by
    unfold sk lo1
    split <;> split <;> omega
  by_cases e : a = lo1 i r
  · rw [if_pos (this.mpr e), if_pos e]
  · rw [if_neg (fun k => e (this.mp k)), if_neg e]
theorem up_minor_eq {m : Nat → Nat → Int} {r : Nat} {u : Nat → Int} (a b : Nat) : up m r u (sk r a) (b + 1) = m (sk r a) (b + 1) := by
  unfold up
  rw [if_neg]
  unfold sk
  split <;> omega
theorem det_lin : ∀ n {m : Nat → Nat → Int} {r : Nat} {u v : Nat → Int} {x y : Int}, r < n → det n (up m r fun b => x * u b + y * v b) = x * det n (up m r u) + y * det n (up m r v)
  | 0, _, _, _, _, _, _, h => by omega
  | n + 1, m, r, u, v, x, y, h => by
    show sm (n + 1) _ = x * sm (n + 1) _ + y * sm (n + 1) _
    rw [← sm_lin]
    refine sm_congr _ fun i hi => ?_
    by_cases e : i = r
    · subst e
      have c : ∀ w : Nat → Int, det n (fun a b => up m i w (sk i a) (b + 1)) = det n fun a b => m (sk i a) (b + 1) := fun w => det_congr n fun a b _ => up_minor_eq a b
      have d : ∀ w : Nat → Int, up m i w i 0 = w 0 := fun w => if_pos rfl
      rw [c, c, c, d, d, d]
      generalize det n (fun a b => m (sk i a) (b + 1)) = D
      grind
    · have c : ∀ w : Nat → Int, det n (fun a b => up m r w (sk i a) (b + 1)) = det n (up (fun a b => m (sk i a) (b + 1)) (lo1 i r) fun b => w (b + 1)) := fun w => det_congr n fun a b _ => up_minor e a b
      have d : ∀ w : Nat → Int, up m r w i 0 = m i 0 := fun w => if_neg e
      rw [c, c, c, d, d, d]
      have hl : lo1 i r < n := by unfold lo1; split <;> omega
      rw [det_lin n (m := fun a b => m (sk i a) (b + 1)) (u := fun b => u (b + 1)) (v := fun b => v (b + 1)) hl]
      generalize det n (up (fun a b => m (sk i a) (b + 1)) (lo1 i r) fun b => u (b + 1)) = D
      generalize det n (up (fun a b => m (sk i a) (b + 1)) (lo1 i r) fun b => v (b + 1)) = E
      grind
theorem det_adj : ∀ n {m : Nat → Nat → Int} {r : Nat}, r + 1 < n → (∀ b, m r b = m (r + 1) b) → det n m = 0
  | 0, _, _, h, _ => by omega
  | n + 1, m, r, h, e => by
    refine sm_pair (r := r) (n + 1) h (fun i hi h1 h2 => ?_) ?_
    · have z : det n (fun a b => m (sk i a) (b + 1)) = 0 := by
        refine det_adj n (r := lo1 i r) (by unfold lo1; split <;> omega) fun b => ?_
        show m (sk i (lo1 i r)) (b + 1) = m (sk i (lo1 i r + 1)) (b + 1)
        have e1 : sk i (lo1 i r) = r := by
          unfold sk lo1
          repeat' split
          all_goals omega
        have e2 : sk i (lo1 i r + 1) = r + 1 := by
          unfold sk lo1
          repeat' split
          all_goals omega
        rw [e1, e2]
        exact e _
      rw [z, Int.mul_zero]
    · have z : det n (fun a b => m (sk r a) (b + 1)) = det n fun a b => m (sk (r + 1) a) (b + 1) := det_congr n fun a b _ => by
        by_cases h1 : a = r
        · subst h1
          have e1 : sk a a = a + 1 := by unfold sk; split <;> omega
          have e2 : sk (a + 1) a = a := by unfold sk; split <;> omega
          rw [e1, e2]
          exact (e _).symm
        · have : sk r a = sk (r + 1) a := by unfold sk; split <;> split <;> omega
          rw [this]
      rw [z, e 0]
      generalize det n (fun a b => m (sk (r + 1) a) (b + 1)) = D
      have : sg (r + 1) = - sg r := by unfold sg; split <;> split <;> omega
      rw [this]
      grind
theorem up_self (m : Nat → Nat → Int) (r : Nat) : up m r (m r) = m := by
  funext a b
  unfold up
  split
  · rename_i h
    rw [h]
  · rfl
theorem up_up (m : Nat → Nat → Int) (r : Nat) (u v : Nat → Int) : up (up m r u) r v = up m r v := by
  funext a b
  unfold up
  split <;> rfl
theorem up_comm (m : Nat → Nat → Int) {r s : Nat} (h : r ≠ s) (u v : Nat → Int) : up (up m r u) s v = up (up m s v) r u := by
  funext a b
  unfold up
  repeat' split
  all_goals first | rfl | omega
theorem det_add {n : Nat} {m : Nat → Nat → Int} {r : Nat} {u v : Nat → Int} (h : r < n) : det n (up m r fun b => u b + v b) = det n (up m r u) + det n (up m r v) := by
  have := det_lin n (m := m) (u := u) (v := v) (x := 1) (y := 1) h
  rw [Int.one_mul, Int.one_mul] at this
  rw [← this]
  refine det_congr n fun a b _ => ?_
  unfold up
  split
  · show u b + v b = 1 * u b + 1 * v b
    omega
  · rfl
/-- neighbours change places -/
theorem det_swap1 {n : Nat} {m : Nat → Nat → Int} {r : Nat} {u v : Nat → Int} (h : r + 1 < n) : det n (up (up m r u) (r + 1) v) = - det n (up (up m r v) (r + 1) u) := by
  have eq : ∀ w : Nat → Int, det n (up (up m r w) (r + 1) w) = 0 := fun w => det_adj n h fun b => by
    unfold up
    rw [if_neg (by omega), if_pos rfl, if_pos rfl]
  have s := eq fun b => u b + v b
  have ex : ∀ w : Nat → Int, det n (up (up m r fun b => u b + v b) (r + 1) w) = det n (up (up m r u) (r + 1) w) + det n (up (up m r v) (r + 1) w) := fun w => by
    rw [up_comm m (r := r) (s := r + 1) (by omega) (fun b => u b + v b) w, up_comm m (r := r) (s := r + 1) (by omega) u w, up_comm m (r := r) (s := r + 1) (by omega) v w]
    exact det_add (r := r) (by omega)
  rw [det_add (r := r + 1) h, ex, ex, eq, eq] at s
  omega
/-- 0 where two rows are the same -/
theorem det_same : ∀ k {n : Nat} {m : Nat → Nat → Int} {r : Nat}, r + k + 1 < n → (∀ b, m r b = m (r + k + 1) b) → det n m = 0
  | 0, n, m, r, h, e => det_adj n h e
  | k + 1, n, m, r, h, e => by
    have s := det_swap1 (m := m) (r := r + k + 1) (u := m (r + k + 1)) (v := m (r + k + 1 + 1)) h
    rw [up_self m (r + k + 1), up_self m (r + k + 1 + 1)] at s
    rw [s, det_same k (r := r) (by omega), Int.neg_zero]
    intro b
    unfold up
    rw [if_neg (by omega), if_neg (by omega), if_neg (by omega), if_pos rfl]
    exact e b
theorem det_eq {n : Nat} {m : Nat → Nat → Int} {r s : Nat} (hr : r < n) (hs : s < n) (h : r ≠ s) (e : ∀ b, m r b = m s b) : det n m = 0 := by
  rcases Nat.lt_or_gt_of_ne h with h | h
  · obtain ⟨k, rfl⟩ : ∃ k, s = r + k + 1 := ⟨s - r - 1, by omega⟩
    exact det_same k hs e
  · obtain ⟨k, rfl⟩ : ∃ k, r = s + k + 1 := ⟨r - s - 1, by omega⟩
    exact det_same k hr fun b => (e b).symm
theorem det_zero {n : Nat} {m : Nat → Nat → Int} {r : Nat} (h : r < n) : det n (up m r fun _ => 0) = 0 := by
  have := det_lin n (m := m) (u := fun _ => 0) (v := fun _ => 0) (x := 0) (y := 0) h
  rw [Int.zero_mul, Int.zero_mul] at this
  exact this
/-- a sum of n vectors -/
def comb : Nat → (Nat → Int) → (Nat → Nat → Int) → Nat → Int
  | 0, _, _, _ => 0
  | k + 1, c, m, b => comb k c m b + c k * m k b
/-- two rows, of which one is a sum of the rows there were -/
theorem det_comb {n : Nat} {m g : Nat → Nat → Int} {r : Nat} (h : r < n) (c : Nat → Int) : ∀ k, det n (up g r (comb k c m)) = sm k fun i => c i * det n (up g r (m i))
  | 0 => det_zero h
  | k + 1 => by
    have := det_lin n (m := g) (u := comb k c m) (v := m k) (x := 1) (y := c k) h
    rw [Int.one_mul, det_comb h c k] at this
    show det n (up g r (comb (k + 1) c m)) = sm k (fun i => c i * det n (up g r (m i))) + c k * det n (up g r (m k))
    rw [← this]
    refine det_congr n fun a b _ => ?_
    unfold up
    split
    · show comb k c m b + c k * m k b = 1 * comb k c m b + c k * m k b
      omega
    · rfl

theorem det_swap {n : Nat} {m : Nat → Nat → Int} {r s : Nat} {u v : Nat → Int} (hr : r < n) (hs : s < n) (h : r ≠ s) : det n (up (up m r u) s v) = - det n (up (up m r v) s u) := by
  have eq : ∀ w : Nat → Int, det n (up (up m r w) s w) = 0 := fun w => det_eq hr hs h fun b => by
    unfold up
    rw [if_neg h, if_pos rfl, if_pos rfl]
  have s1 := eq fun b => u b + v b
  have ex : ∀ w : Nat → Int, det n (up (up m r fun b => u b + v b) s w) = det n (up (up m r u) s w) + det n (up (up m r v) s w) := fun w => by
    rw [up_comm m h (fun b => u b + v b) w, up_comm m h u w, up_comm m h v w]
    exact det_add hr
  rw [det_add hs, ex, ex, eq, eq] at s1
  omega
theorem det_mul {n : Nat} {m : Nat → Nat → Int} {r : Nat} {u : Nat → Int} {x : Int} (h : r < n) : det n (up m r fun b => x * u b) = x * det n (up m r u) := by
  have := det_lin n (m := m) (u := u) (v := fun _ => 0) (x := x) (y := 0) h
  have z : 0 * det n (up m r fun _ => 0) = 0 := Int.zero_mul _
  rw [z, Int.add_zero] at this
  rw [← this]
  refine det_congr n fun a b _ => ?_
  unfold up
  split
  · show x * u b = x * u b + 0 * 0
    omega
  · rfl
theorem sm_one {f : Nat → Int} {j : Nat} : ∀ n, j < n → (∀ i, i < n → i ≠ j → f i = 0) → sm n f = f j
  | 0, h, _ => by omega
  | n + 1, h, z => by
    show sm n f + f n = f j
    by_cases e : j = n
    · subst e
      have : sm j f = sm j fun _ => 0 := sm_congr j fun i hi => z i (by omega) (by omega)
      have zero : ∀ k, sm k (fun _ => (0 : Int)) = 0 := fun k => by
        induction k with
        | zero => rfl
        | succ k ih =>
          show sm k _ + 0 = 0
          rw [ih]
          rfl
      rw [this, zero, Int.zero_add]
    · rw [sm_one n (by omega) fun i hi => z i (by omega), z n (by omega) (fun k => e k.symm), Int.add_zero]
theorem sm_two {f : Nat → Int} {j b n : Nat} (hj : j < n) (hb : b < n) (h : j ≠ b) (z : ∀ i, i < n → i ≠ j → i ≠ b → f i = 0) : sm n f = f j + f b := by
  have e : sm n f = 1 * sm n (fun i => if i = b then 0 else f i) + 1 * sm n (fun i => if i = b then f i else 0) := by
    rw [← sm_lin]
    refine sm_congr n fun i _ => ?_
    split <;> omega
  rw [e, sm_one (j := j) n hj, sm_one (j := b) n hb]
  · rw [if_neg h, if_pos rfl]
    omega
  · intro i _ hi
    rw [if_neg hi]
  · intro i h1 h2
    split
    · rfl
    · rename_i h3
      exact z i h1 h2 h3
/-- a table: sides as sums of heads -/
structure Tb (n : Nat) (h s c : Nat → Nat → Int) (w e : Int) : Prop where
  pos : 0 < w
  sg : e = 1 ∨ e = -1
  d : det n h = e * w
  row : ∀ i b, w * s i b = comb n (c i) h b
variable {n : Nat} {h s c : Nat → Nat → Int} {w e : Int}
theorem Tb.times (T : Tb n h s c w e) {g : Nat → Nat → Int} {j : Nat} (hj : j < n) (i : Nat) : w * det n (up g j (s i)) = sm n fun k => c i k * det n (up g j (h k)) := by
  rw [← det_comb hj (c i) n, ← det_mul hj]
  refine det_congr n fun a b _ => ?_
  unfold up
  split
  · exact T.row i b
  · rfl
theorem Tb.cell (T : Tb n h s c w e) {j : Nat} (hj : j < n) (i : Nat) : det n (up h j (s i)) = e * c i j := by
  have t := T.times (g := h) hj i
  rw [sm_one (j := j) n hj] at t
  · rw [up_self, T.d] at t
    refine Int.eq_of_mul_eq_mul_left (a := w) (by have := T.pos; omega) ?_
    rw [t]
    grind
  · intro k hk hkj
    rw [det_eq (r := j) (s := k) hj hk (fun x => hkj x.symm), Int.mul_zero]
    intro b
    unfold up
    rw [if_pos rfl, if_neg hkj]
/-- the division leaves no rest -/
theorem Tb.exact (T : Tb n h s c w e) {j b : Nat} (hj : j < n) (hb : b < n) (hjb : j ≠ b) (i a : Nat) : c i j * c a b - c i b * c a j = w * (e * det n (up (up h b (s a)) j (s i))) := by
  have t := T.times (g := up h b (s a)) hj i
  rw [sm_two (j := j) (b := b) hj hb hjb] at t
  · have e1 : up (up h b (s a)) j (h j) = up h b (s a) := by
      rw [← up_comm h hjb, up_self]
    have e2 : det n (up (up h b (s a)) j (h b)) = - det n (up h j (s a)) := by
      rw [det_swap hb hj (fun x => hjb x.symm), up_self]
    rw [e1, e2, T.cell hb, T.cell hj] at t
    rcases T.sg with rfl | rfl <;> grind
  · intro k hk h1 h2
    rw [det_eq (r := j) (s := k) hj hk (fun x => h1 x.symm), Int.mul_zero]
    intro b'
    unfold up
    rw [if_pos rfl, if_neg h1, if_neg h2]
theorem sm_split {f : Nat → Int} {j : Nat} {n : Nat} (hj : j < n) : sm n f = f j + sm n fun k => if k = j then 0 else f k := by
  have e : sm n f = 1 * sm n (fun i => if i = j then f i else 0) + 1 * sm n (fun i => if i = j then 0 else f i) := by
    rw [← sm_lin]
    refine sm_congr n fun i _ => ?_
    split <;> omega
  rw [e, sm_one (j := j) n hj]
  · rw [if_pos rfl]
    omega
  · intro i _ hi
    rw [if_neg hi]
theorem sm_mul (f : Nat → Int) (x : Int) : ∀ n, sm n (fun i => x * f i) = x * sm n f
  | 0 => (Int.mul_zero x).symm
  | n + 1 => by
    show sm n (fun i => x * f i) + x * f n = x * (sm n f + f n)
    rw [sm_mul f x n, Int.mul_add]
theorem comb_sm (c : Nat → Int) (m : Nat → Nat → Int) (b : Nat) : ∀ k, comb k c m b = sm k fun i => c i * m i b
  | 0 => rfl
  | k + 1 => by
    show comb k c m b + c k * m k b = sm k (fun i => c i * m i b) + c k * m k b
    rw [comb_sm c m b k]
/-- the cells behind a turn -/
def turnC (c : Nat → Nat → Int) (w g : Int) (i j a b : Nat) : Int := if a = i then (if b = j then g * w else -(g * c i b)) else if b = j then g * c a j else ((g * c i j) * c a b - c a j * (g * c i b)) / w
theorem Tb.turn_cell (T : Tb n h s c w e) {g : Int} {i j a b : Nat} (hj : j < n) (hb : b < n) (ha : a ≠ i) (hbj : b ≠ j) : w * turnC c w g i j a b = (g * c i j) * c a b - c a j * (g * c i b) := by
  unfold turnC
  rw [if_neg ha, if_neg hbj]
  have x := T.exact hj hb (fun k => hbj k.symm) i a
  have d : (g * c i j) * c a b - c a j * (g * c i b) = w * (g * (e * det n (up (up h b (s a)) j (s i)))) := by
    have : (g * c i j) * c a b - c a j * (g * c i b) = g * (c i j * c a b - c i b * c a j) := by grind
    rw [this, x]
    grind
  rw [d, Int.mul_ediv_cancel_left _ (by have := T.pos; omega)]
theorem Tb.turn (T : Tb n h s c w e) {g : Int} {i j : Nat} (hj : j < n) (hg : g = 1 ∨ g = -1) (hp : 0 < g * c i j) : Tb n (up h j (s i)) (up s i (h j)) (turnC c w g i j) (g * c i j) (e * g) := by
  have wp := T.pos
  refine ⟨hp, ?_, ?_, fun a b => ?_⟩
  · rcases T.sg with rfl | rfl <;> rcases hg with rfl | rfl <;> decide
  · rw [T.cell hj]
    rcases hg with rfl | rfl <;> grind
  · rw [comb_sm, sm_split hj]
    have ri := T.row i b
    rw [comb_sm, sm_split hj] at ri
    have hjj : up h j (s i) j b = s i b := if_pos rfl
    by_cases ha : a = i
    · subst ha
      have e1 : up s a (h j) a b = h j b := if_pos rfl
      have e2 : turnC c w g a j a j = g * w := by
        unfold turnC
        rw [if_pos rfl, if_pos rfl]
      have e3 : (sm n fun k => if k = j then 0 else turnC c w g a j a k * up h j (s a) k b) = (-g) * sm n (fun k => if k = j then 0 else c a k * h k b) := by
        rw [← sm_mul]
        refine sm_congr n fun k _ => ?_
        by_cases hk : k = j
        · rw [if_pos hk, if_pos hk]
          omega
        · rw [if_neg hk, if_neg hk]
          have e4 : turnC c w g a j a k = -(g * c a k) := by
            unfold turnC
            rw [if_pos rfl, if_neg hk]
          have e5 : up h j (s a) k b = h k b := if_neg hk
          rw [e4, e5]
          grind
      rw [e1, e2, hjj, e3]
      generalize (sm n fun k => if k = j then 0 else c a k * h k b) = R at ri
      grind
    · have e1 : up s i (h j) a b = s a b := if_neg ha
      have ra := T.row a b
      rw [comb_sm, sm_split hj] at ra
      have e2 : turnC c w g i j a j = g * c a j := by
        unfold turnC
        rw [if_neg ha, if_pos rfl]
      have e3 : w * (sm n fun k => if k = j then 0 else turnC c w g i j a k * up h j (s i) k b) = (g * c i j) * sm n (fun k => if k = j then 0 else c a k * h k b) + (-(c a j * g)) * sm n (fun k => if k = j then 0 else c i k * h k b) := by
        rw [← sm_lin, ← sm_mul]
        refine sm_congr n fun k hk' => ?_
        by_cases hk : k = j
        · rw [if_pos hk, if_pos hk, if_pos hk]
          omega
        · rw [if_neg hk, if_neg hk, if_neg hk]
          have e4 := T.turn_cell (g := g) (i := i) (j := j) (a := a) (b := k) hj hk' ha hk
          have e5 : up h j (s i) k b = h k b := if_neg hk
          rw [e5, ← Int.mul_assoc, e4]
          grind
      refine Int.eq_of_mul_eq_mul_left (a := w) (by omega) ?_
      rw [e1, e2, hjj, Int.mul_add, e3]
      generalize (sm n fun k => if k = j then 0 else c a k * h k b) = R at ra
      generalize (sm n fun k => if k = j then 0 else c i k * h k b) = S at ri
      grind
theorem sm_le {f : Nat → Int} {C : Nat} : ∀ n, (∀ i, i < n → (f i).natAbs ≤ C) → (sm n f).natAbs ≤ n * C
  | 0, _ => Nat.zero_le _
  | n + 1, h => by
    have h1 := sm_le n fun i hi => h i (by omega)
    have h2 := h n (by omega)
    show (sm n f + f n).natAbs ≤ (n + 1) * C
    rw [Nat.succ_mul]
    have := Int.natAbs_add_le (sm n f) (f n)
    omega
def fac : Nat → Nat
  | 0 => 1
  | n + 1 => (n + 1) * fac n
theorem det_le {B : Nat} : ∀ n {m : Nat → Nat → Int}, (∀ a b, a < n → (m a b).natAbs ≤ B) → (det n m).natAbs ≤ fac n * B ^ n
  | 0, _, _ => Nat.le_refl _
  | n + 1, m, h => by
    have h1 : (det (n + 1) m).natAbs ≤ (n + 1) * (B * (fac n * B ^ n)) := by
      refine sm_le (n + 1) fun i hi => ?_
      have hd := det_le n (m := fun a b => m (sk i a) (b + 1)) fun a b ha => h _ _ (by unfold sk; split <;> omega)
      rw [Int.natAbs_mul, Int.natAbs_mul]
      have hs : (sg i).natAbs = 1 := by unfold sg; split <;> rfl
      rw [hs, Nat.one_mul]
      exact Nat.mul_le_mul (h i 0 hi) hd
    have e : fac (n + 1) * B ^ (n + 1) = (n + 1) * (B * (fac n * B ^ n)) := by
      show ((n + 1) * fac n) * B ^ (n + 1) = _
      rw [Nat.pow_succ, Nat.mul_assoc, Nat.mul_comm B (fac n * B ^ n), Nat.mul_assoc]
    rw [e]
    exact h1
/-- all cells of a table of vectors that are not too great -/
theorem Tb.cell_le {n : Nat} {h s c : Nat → Nat → Int} {w e : Int} {B : Nat} (T : Tb n h s c w e) (hh : ∀ a b, a < n → (h a b).natAbs ≤ B) {i j : Nat} (hs : ∀ b, (s i b).natAbs ≤ B) (hj : j < n) : (c i j).natAbs ≤ fac n * B ^ n := by
  have t := T.cell hj i
  have l := det_le n (m := up h j (s i)) (B := B) fun a b ha => by
    unfold up
    split
    · exact hs b
    · exact hh a b ha
  rw [t, Int.natAbs_mul] at l
  have : e.natAbs = 1 := by rcases T.sg with rfl | rfl <;> rfl
  rw [this, Nat.one_mul] at l
  exact l
theorem Tb.whole_le {n : Nat} {h s c : Nat → Nat → Int} {w e : Int} {B : Nat} (T : Tb n h s c w e) (hh : ∀ a b, a < n → (h a b).natAbs ≤ B) : w.natAbs ≤ fac n * B ^ n := by
  have l := det_le n (m := h) (B := B) hh
  rw [T.d, Int.natAbs_mul] at l
  have : e.natAbs = 1 := by rcases T.sg with rfl | rfl <;> rfl
  rw [this, Nat.one_mul] at l
  exact l
/-- the first table: heads are the units -/
def unitV (a b : Nat) : Int := if a = b then 1 else 0
theorem det_unit : ∀ n, det n unitV = 1
  | 0 => rfl
  | n + 1 => by
    have h : det (n + 1) unitV = sg 0 * unitV 0 0 * det n (fun a b => unitV (sk 0 a) (b + 1)) := by
      refine sm_one (j := 0) (n + 1) (by omega) fun i hi h0 => ?_
      have : unitV i 0 = 0 := if_neg h0
      rw [this, Int.mul_zero, Int.zero_mul]
    rw [h]
    have e : det n (fun a b => unitV (sk 0 a) (b + 1)) = det n unitV := det_congr n fun a b _ => by
      unfold unitV sk
      rw [if_neg (Nat.not_lt_zero a)]
      by_cases h : a = b
      · rw [if_pos h, if_pos (by omega)]
      · rw [if_neg h, if_neg (by omega)]
    rw [e, det_unit n]
    rfl
theorem Tb.first (n : Nat) (s : Nat → Nat → Int) (hs : ∀ i b, n ≤ b → s i b = 0) : Tb n unitV s s 1 1 := by
  refine ⟨by decide, .inl rfl, by rw [det_unit]; rfl, fun i b => ?_⟩
  rw [Int.one_mul, comb_sm]
  by_cases hb : b < n
  · rw [sm_one (j := b) n hb]
    · have : unitV b b = 1 := if_pos rfl
      rw [this, Int.mul_one]
    · intro k _ hk
      have : unitV k b = 0 := if_neg hk
      rw [this, Int.mul_zero]
  · rw [hs i b (by omega)]
    have z : sm n (fun k => s i k * unitV k b) = sm n fun k => 0 * unitV k b := sm_congr n fun k hk => by
      have : unitV k b = 0 := if_neg (by omega)
      rw [this, Int.mul_zero, Int.mul_zero]
    rw [z, sm_mul, Int.zero_mul]
/-- what column l of a table says of a vector -/
def colV (n : Nat) (h : Nat → Nat → Int) (e : Int) (l : Nat) (v : Nat → Int) : Int := e * det n (up h l v)
theorem Tb.col_head {n : Nat} {h s c : Nat → Nat → Int} {w e : Int} (T : Tb n h s c w e) {l j : Nat} (hl : l < n) (hj : j < n) : colV n h e l (h j) = if j = l then w else 0 := by
  unfold colV
  split
  · rename_i hjl
    subst hjl
    rw [up_self, T.d]
    rcases T.sg with rfl | rfl <;> omega
  · rename_i hjl
    rw [det_eq (r := l) (s := j) hl hj (fun x => hjl x.symm), Int.mul_zero]
    intro b
    unfold up
    rw [if_pos rfl, if_neg hjl]
theorem Tb.col_side {n : Nat} {h s c : Nat → Nat → Int} {w e : Int} (T : Tb n h s c w e) {l : Nat} (hl : l < n) (i : Nat) : colV n h e l (s i) = c i l := by
  unfold colV
  rw [T.cell hl]
  rcases T.sg with rfl | rfl <;> omega
/-- a row of one table put into a column of another one -/
theorem Tb.orth {n : Nat} {h' s' c' : Nat → Nat → Int} {w' e' : Int} (B : Tb n h' s' c' w' e') (h : Nat → Nat → Int) (e : Int) {l : Nat} (hl : l < n) (i : Nat) : w' * colV n h e l (s' i) = sm n fun q => c' i q * colV n h e l (h' q) := by
  have t := B.times (g := h) hl i
  unfold colV
  have e1 : (sm n fun q => c' i q * (e * det n (up h l (h' q)))) = e * sm n fun q => c' i q * det n (up h l (h' q)) := by
    rw [← sm_mul]
    refine sm_congr n fun q _ => ?_
    grind
  rw [e1, ← t]
  grind
theorem sm_nonpos {f : Nat → Int} : ∀ n, (∀ i, i < n → f i ≤ 0) → sm n f ≤ 0
  | 0, _ => Int.le_refl _
  | n + 1, h => by
    have h1 := sm_nonpos n fun i hi => h i (by omega)
    have h2 := h n (by omega)
    show sm n f + f n ≤ 0
    omega
theorem sm_neg {f : Nat → Int} {k : Nat} : ∀ n, k < n → (∀ i, i < n → f i ≤ 0) → f k < 0 → sm n f < 0
  | 0, h, _, _ => by omega
  | n + 1, h, z, c => by
    show sm n f + f n < 0
    by_cases e : k = n
    · subst e
      have := sm_nonpos k fun i hi => z i (by omega)
      omega
    · have h1 := sm_neg n (by omega) (fun i hi => z i (by omega)) c
      have h2 := z n (by omega)
      omega
/-- more than N numbers below N: two are the same -/
theorem pigeon : ∀ (N : Nat) (f : Nat → Nat), (∀ i, i ≤ N → f i < N) → ∃ i j, i < j ∧ j ≤ N ∧ f i = f j
  | 0, f, h => absurd (h 0 (Nat.le_refl _)) (Nat.not_lt_zero _)
  | N + 1, f, h => by
    by_cases ex : ∃ i, i ≤ N ∧ f i = f (N + 1)
    · obtain ⟨i, hi, e⟩ := ex
      exact ⟨i, N + 1, by omega, Nat.le_refl _, e⟩
    · have ne : ∀ i, i ≤ N → f i ≠ f (N + 1) := fun i hi e => ex ⟨i, hi, e⟩
      obtain ⟨i, j, h1, h2, h3⟩ := pigeon N (fun i => if f i < f (N + 1) then f i else f i - 1) fun i hi => by
        have h1 := h i (by omega)
        have h2 := h (N + 1) (Nat.le_refl _)
        have h3 := ne i hi
        show (if f i < f (N + 1) then f i else f i - 1) < N
        split <;> omega
      have h3 : (if f i < f (N + 1) then f i else f i - 1) = if f j < f (N + 1) then f j else f j - 1 := h3
      have n1 := ne i (by omega)
      have n2 := ne j h2
      refine ⟨i, j, h1, by omega, ?_⟩
      split at h3 <;> split at h3 <;> omega
/-- a table whose vectors are those of marks: heads 0 (the number 1) to n - 1, sides 0 to r - 1, the goal's row r -/
structure Mk (V : Int → Nat → Int) (n r : Nat) (c : Nat → Nat → Int) (w : Int) (mh ms : Nat → Int) : Prop where
  T : ∃ h s e, Tb n h s c w e ∧ (∀ j, j < n → h j = V (mh j)) ∧ ∀ i, i ≤ r → s i = V (ms i)
  n0 : 0 < n
  one : mh 0 = -1
  goal : ms r = -2
  hh : ∀ j k, j < n → k < n → mh j = mh k → j = k
  si : ∀ i k, i ≤ r → k ≤ r → ms i = ms k → i = k
  ap : ∀ j i, j < n → i ≤ r → mh j ≠ ms i
/-- column l of a table with marks, as a function of marks -/
theorem Mk.col {V : Int → Nat → Int} {n r : Nat} {c : Nat → Nat → Int} {w : Int} {mh ms : Nat → Int} (A : Mk V n r c w mh ms) {l : Nat} (hl : l < n) : ∃ val : Int → Int, 0 < w ∧ (∀ j, j < n → val (mh j) = if j = l then w else 0) ∧ (∀ i, i ≤ r → val (ms i) = c i l) ∧
    ∀ {c' : Nat → Nat → Int} {w' : Int} {mh' ms' : Nat → Int}, Mk V n r c' w' mh' ms' → ∀ i, i ≤ r → w' * val (ms' i) = sm n fun q => c' i q * val (mh' q) := by
  obtain ⟨h, s, e, T, hh, hs⟩ := A.T
  refine ⟨fun m => colV n h e l (V m), T.pos, fun j hj => ?_, fun i hi => ?_, fun {c' w' mh' ms'} B i hi => ?_⟩
  · show colV n h e l (V (mh j)) = _
    rw [← hh j hj]
    exact T.col_head hl hj
  · show colV n h e l (V (ms i)) = _
    rw [← hs i hi]
    exact T.col_side hl i
  · obtain ⟨h', s', e', T', hh', hs'⟩ := B.T
    have o := T'.orth h e hl i
    show w' * colV n h e l (V (ms' i)) = sm n fun q => c' i q * colV n h e l (V (mh' q))
    rw [← hs' i hi, o]
    refine sm_congr n fun q hq => ?_
    rw [hh' q hq]
section
variable {V : Int → Nat → Int} {n r : Nat} {cA cB : Nat → Nat → Int} {wA wB : Int} {hA sA hB sB : Nat → Int}
/-- k a side of A and a head of B, and marks above k (or below 0) that are heads of B are heads of A -/
structure Be (n r : Nat) (hA sA hB sB : Nat → Int) (k : Int) (a q : Nat) : Prop where
  k0 : 0 ≤ k
  ar : a < r
  ka : sA a = k
  qn : q < n
  kq : hB q = k
  same : ∀ j, j < n → hB j < 0 ∨ k < hB j → ∃ i, i < n ∧ hA i = hB j
  back : ∀ j, j < n → hA j < 0 ∨ k < hA j → ∃ i, i < n ∧ hB i = hA j
  cover : ∀ j, j < n → 0 ≤ hB j → (∃ i, i < n ∧ hA i = hB j) ∨ ∃ i, i < r ∧ sA i = hB j
  coverS : ∀ i, i < r → 0 ≤ sB i → (∃ j, j < n ∧ hA j = sB i) ∨ ∃ j, j < r ∧ sA j = sB i
  backH : ∀ j, j < n → 0 ≤ hA j → (∃ i, i < n ∧ hB i = hA j) ∨ ∃ i, i < r ∧ sB i = hA j
  apart : ∀ j, j < n → hA j ≠ k
/-- the signs of a column of A at the heads of B -/
theorem col_signs (A : Mk V n r cA wA hA sA) {k : Int} {a q l : Nat} (E : Be n r hA sA hB sB k a q) (hl : l < n) (hlk : l = 0 ∨ (0 ≤ hA l ∧ hA l < k)) (neg : cA a l < 0) (low : ∀ i, i < r → 0 ≤ sA i → sA i < k → 0 ≤ cA i l) {val : Int → Int} (w0 : 0 < wA) (v1 : ∀ j, j < n → val (hA j) = if j = l then wA else 0) (v2 : ∀ i, i ≤ r → val (sA i) = cA i l) :
    val k < 0 ∧ (∀ j, j < n → hB j < 0 → j ≠ 0 → hB 0 = -1 → (∀ i, i < n → i ≠ j → hB i ≠ hB j) → val (hB j) = 0) ∧ (∀ j, j < n → k < hB j → val (hB j) = 0) ∧ (∀ j, j < n → 0 ≤ hB j → hB j < k → 0 ≤ val (hB j)) ∧ (∀ i, i < r → 0 ≤ sB i → sB i < k → 0 ≤ val (sB i)) := by
  have hd : ∀ j, j < n → 0 ≤ val (hA j) := fun j hj => by
    rw [v1 j hj]
    split <;> omega
  refine ⟨?_, fun j hj h0 hj0 hone hne => ?_, fun j hj hk => ?_, fun j hj h0 hk => ?_, fun i hi h0 hk => ?_⟩
  · rw [← E.ka, v2 a (by have := E.ar; omega)]
    exact neg
  · obtain ⟨i, hi, e⟩ := E.same j hj (.inl h0)
    rw [← e, v1 i hi, if_neg]
    intro il
    subst il
    rcases hlk with rfl | ⟨g1, _⟩
    · have := A.one
      exact hne 0 hi (fun x => hj0 x.symm) (by rw [hone, ← e, this])
    · omega
  · obtain ⟨i, hi, e⟩ := E.same j hj (.inr hk)
    rw [← e, v1 i hi, if_neg]
    intro il
    subst il
    rcases hlk with rfl | ⟨_, g2⟩
    · have := A.one
      have := E.k0
      omega
    · omega
  · rcases E.cover j hj h0 with ⟨i, hi, e⟩ | ⟨i, hi, e⟩
    · rw [← e]
      exact hd i hi
    · rw [← e, v2 i (by omega)]
      exact low i hi (by omega) (by omega)
  · rcases E.coverS i hi h0 with ⟨j, hj, e⟩ | ⟨j, hj, e⟩
    · rw [← e]
      exact hd j hj
    · rw [← e, v2 j (by omega)]
      exact low j hj (by omega) (by omega)
/-- a column of A below 0 at k, and a row of B above 0 at k and not above 0 at the heads below k: the sum is below what ONE gives -/
theorem row_neg (A : Mk V n r cA wA hA sA) (B : Mk V n r cB wB hB sB) {k : Int} {a q : Nat} (E : Be n r hA sA hB sB k a q) {val : Int → Int} {i : Nat} (vk : val k < 0) (vf : ∀ j, j < n → hB j < 0 → j ≠ 0 → hB 0 = -1 → (∀ i, i < n → i ≠ j → hB i ≠ hB j) → val (hB j) = 0) (vg : ∀ j, j < n → k < hB j → val (hB j) = 0) (vl : ∀ j, j < n → 0 ≤ hB j → hB j < k → 0 ≤ val (hB j)) (bk : 0 < cB i q) (bl : ∀ j, j < n → 0 ≤ hB j → hB j < k → cB i j ≤ 0) :
    sm n (fun j => cB i j * val (hB j)) < cB i 0 * val (-1) := by
  have q0 : q ≠ 0 := fun e => by
    have h1 := B.one
    have h2 := E.kq
    have h3 := E.k0
    rw [e] at h2
    omega
  rw [sm_split (j := 0) B.n0, B.one]
  have : sm n (fun j => if j = 0 then 0 else cB i j * val (hB j)) < 0 := by
    refine sm_neg (k := q) n E.qn (fun j hj => ?_) ?_
    · by_cases j0 : j = 0
      · rw [if_pos j0]
        exact Int.le_refl _
      · rw [if_neg j0]
        rcases Int.lt_or_le (hB j) 0 with h | h
        · rw [vf j hj h j0 B.one (fun i hi hij e => hij (B.hh i j hi hj e)), Int.mul_zero]
          exact Int.le_refl _
        · rcases Int.lt_trichotomy (hB j) k with g | g | g
          · exact Int.mul_nonpos_of_nonpos_of_nonneg (bl j hj h g) (vl j hj h g)
          · have e : j = q := B.hh j q hj E.qn (by rw [g, E.kq])
            subst e
            rw [g]
            exact Int.le_of_lt (Int.mul_neg_of_pos_of_neg bk vk)
          · rw [vg j hj g, Int.mul_zero]
            exact Int.le_refl _
    · show (if q = 0 then 0 else cB i q * val (hB q)) < 0
      rw [if_neg q0, E.kq]
      exact Int.mul_neg_of_pos_of_neg bk vk
  omega
/-- k chosen by a column at B as the partner of row t: no table A at which k leaves the sides -/
theorem no_B2 (A : Mk V n r cA wA hA sA) (B : Mk V n r cB wB hB sB) {k : Int} {a q l t : Nat} (E : Be n r hA sA hB sB k a q) (hl : l < n) (hlk : l = 0 ∨ (0 ≤ hA l ∧ hA l < k)) (neg : cA a l < 0) (low : ∀ i, i < r → 0 ≤ sA i → sA i < k → 0 ≤ cA i l) (w0 : 0 < wB)
    (ht : t < r) (t0 : 0 ≤ sB t) (tk : sB t < k) (tn : cB t 0 < 0) (bk : 0 < cB t q) (bl : ∀ j, j < n → 0 ≤ hB j → hB j < k → cB t j ≤ 0) : False := by
  obtain ⟨val, wp, v1, v2, orth⟩ := A.col hl
  obtain ⟨vk, vf, vg, vl, vs⟩ := col_signs A E hl hlk neg low wp v1 v2
  have o := orth B t (by omega)
  have s := row_neg A B E (i := t) vk vf vg vl bk bl
  rw [← o] at s
  have p1 : 0 ≤ wB * val (sB t) := Int.mul_nonneg (by omega) (vs t ht t0 tk)
  have p2 : 0 ≤ val (-1) := by
    rw [← A.one, v1 0 A.n0]
    split <;> omega
  have := Int.mul_nonpos_of_nonpos_of_nonneg (Int.le_of_lt tn) p2
  omega
/-- k chosen first by its column at B, and as a partner of column l at A -/
theorem no_A2B1 (A : Mk V n r cA wA hA sA) (B : Mk V n r cB wB hB sB) {k : Int} {a q l : Nat} (E : Be n r hA sA hB sB k a q) (hl : l < n) (hl0 : 0 ≤ hA l) (hlk : hA l < k) (neg : cA a l < 0) (low : ∀ i, i < r → 0 ≤ sA i → sA i < k → 0 ≤ cA i l) (lift : 0 < cA r l) (w0 : 0 < wB)
    (bk : 0 < cB r q) (bl : ∀ j, j < n → 0 ≤ hB j → hB j < k → cB r j ≤ 0) : False := by
  obtain ⟨val, wp, v1, v2, orth⟩ := A.col hl
  obtain ⟨vk, vf, vg, vl, vs⟩ := col_signs A E hl (.inr ⟨hl0, hlk⟩) neg low wp v1 v2
  have o := orth B r (Nat.le_refl _)
  have s := row_neg A B E (i := r) vk vf vg vl bk bl
  rw [← o, B.goal, ← A.goal, v2 r (Nat.le_refl _)] at s
  have p1 := Int.mul_pos w0 lift
  have p2 : val (-1) = 0 := by
    rw [← A.one, v1 0 A.n0, if_neg]
    intro e
    subst e
    have := A.one
    omega
  rw [p2, Int.mul_zero] at s
  omega
/-- k chosen first at both -/
theorem no_A1B1 (A : Mk V n r cA wA hA sA) (B : Mk V n r cB wB hB sB) {k : Int} {a q : Nat} (E : Be n r hA sA hB sB k a q) (neg : cA a 0 < 0) (low : ∀ i, i < r → 0 ≤ sA i → sA i < k → 0 ≤ cA i 0) (al : ∀ j, j < n → 0 ≤ hA j → hA j < k → cA r j ≤ 0)
    (bk : 0 < cB r q) (bl : ∀ j, j < n → 0 ≤ hB j → hB j < k → cB r j ≤ 0) (blow : ∀ i, i < r → 0 ≤ sB i → sB i < k → 0 ≤ cB i 0) : False := by
  obtain ⟨val, wp, v1, v2, orth⟩ := A.col A.n0
  obtain ⟨vk, vf, vg, vl, vs⟩ := col_signs A E A.n0 (.inl rfl) neg low wp v1 v2
  have o := orth B r (Nat.le_refl _)
  have s := row_neg A B E (i := r) vk vf vg vl bk bl
  rw [← o, B.goal, ← A.goal, v2 r (Nat.le_refl _), ← A.one, v1 0 A.n0, if_pos rfl] at s
  obtain ⟨vb, wq, u1, u2, orth'⟩ := B.col B.n0
  have o' := orth' A r (Nat.le_refl _)
  rw [A.goal, ← B.goal, u2 r (Nat.le_refl _), sm_split (j := 0) A.n0, A.one, ← B.one, u1 0 B.n0, if_pos rfl] at o'
  have le : sm n (fun j => if j = 0 then 0 else cA r j * vb (hA j)) ≤ 0 := by
    refine sm_nonpos n fun j hj => ?_
    by_cases j0 : j = 0
    · rw [if_pos j0]
      exact Int.le_refl _
    rw [if_neg j0]
    have zero : ∀ i, i < n → hB i = hA j → vb (hA j) = 0 := fun i hi e => by
      rw [← e, u1 i hi, if_neg]
      intro i0
      subst i0
      rw [B.one, ← A.one] at e
      exact j0 (A.hh j 0 hj A.n0 e.symm)
    rcases Int.lt_or_le (hA j) 0 with h | h
    · obtain ⟨i, hi, e⟩ := E.back j hj (.inl h)
      rw [zero i hi e, Int.mul_zero]
      exact Int.le_refl _
    · rcases Int.lt_trichotomy (hA j) k with g | g | g
      · rcases E.backH j hj h with ⟨i, hi, e⟩ | ⟨i, hi, e⟩
        · rw [zero i hi e, Int.mul_zero]
          exact Int.le_refl _
        · refine Int.mul_nonpos_of_nonpos_of_nonneg (al j hj h g) ?_
          rw [← e, u2 i (by omega)]
          exact blow i hi (by omega) (by omega)
      · exact absurd g (E.apart j hj)
      · obtain ⟨i, hi, e⟩ := E.back j hj (.inr g)
        rw [zero i hi e, Int.mul_zero]
        exact Int.le_refl _
  have c1 : wB * cA r 0 < cB r 0 * wA := s
  have c2 : wA * cB r 0 = cA r 0 * wB + sm n (fun j => if j = 0 then 0 else cA r j * vb (hA j)) := o'
  rw [Int.mul_comm wB, Int.mul_comm (cB r 0)] at c1
  omega
end
def upm (f : Nat → Int) (j : Nat) (x : Int) (k : Nat) : Int := if k = j then x else f k
/-- a turn gives a table again -/
theorem Mk.turn {V : Int → Nat → Int} {n r : Nat} {c : Nat → Nat → Int} {w g : Int} {mh ms : Nat → Int} (A : Mk V n r c w mh ms) {i j : Nat} (hi : i < r) (hj : j < n) (j0 : j ≠ 0) (hg : g = 1 ∨ g = -1) (hp : 0 < g * c i j) : Mk V n r (turnC c w g i j) (g * c i j) (upm mh j (ms i)) (upm ms i (mh j)) := by
  obtain ⟨h, s, e, T, hh, hs⟩ := A.T
  refine ⟨⟨up h j (s i), up s i (h j), e * g, T.turn hj hg hp, fun k hk => ?_, fun k hk => ?_⟩, A.n0, ?_, ?_, fun a b ha hb e => ?_, fun a b ha hb e => ?_, fun a b ha hb e => ?_⟩
  · by_cases e : k = j
    · subst e
      rw [show upm mh k (ms i) k = ms i from if_pos rfl, ← hs i (by omega)]
      funext b
      exact if_pos rfl
    · rw [show upm mh j (ms i) k = mh k from if_neg e, ← hh k hk]
      funext b
      exact if_neg e
  · by_cases e : k = i
    · subst e
      rw [show upm ms k (mh j) k = mh j from if_pos rfl, ← hh j hj]
      funext b
      exact if_pos rfl
    · rw [show upm ms i (mh j) k = ms k from if_neg e, ← hs k hk]
      funext b
      exact if_neg e
  · rw [show upm mh j (ms i) 0 = mh 0 from if_neg (fun x => j0 x.symm)]
    exact A.one
  · rw [show upm ms i (mh j) r = ms r from if_neg (by omega)]
    exact A.goal
  · unfold upm at e
    by_cases h1 : a = j <;> by_cases h2 : b = j
    · omega
    · rw [if_pos h1, if_neg h2] at e
      exact absurd e.symm (A.ap b i hb (by omega))
    · rw [if_neg h1, if_pos h2] at e
      exact absurd e (A.ap a i ha (by omega))
    · rw [if_neg h1, if_neg h2] at e
      exact A.hh a b ha hb e
  · unfold upm at e
    by_cases h1 : a = i <;> by_cases h2 : b = i
    · omega
    · rw [if_pos h1, if_neg h2] at e
      exact absurd e (A.ap j b hj hb)
    · rw [if_neg h1, if_pos h2] at e
      exact absurd e.symm (A.ap j a hj ha)
    · rw [if_neg h1, if_neg h2] at e
      exact A.si a b ha hb e
  · unfold upm at e
    by_cases h1 : a = j <;> by_cases h2 : b = i
    · rw [if_pos h1, if_pos h2] at e
      exact A.ap j i hj (by omega) e.symm
    · rw [if_pos h1, if_neg h2] at e
      exact h2 (A.si i b (by omega) hb e).symm
    · rw [if_neg h1, if_pos h2] at e
      exact h1 (A.hh a j ha hj e)
    · rw [if_neg h1, if_neg h2] at e
      exact A.ap a b ha hb e
theorem change {P : Nat → Prop} (a : Nat) : ∀ d, P a → ¬ P (a + d) → ∃ t, a ≤ t ∧ t < a + d ∧ P t ∧ ¬ P (t + 1)
  | 0, h, k => absurd h k
  | d + 1, h, k => by
    by_cases e : P (a + d)
    · exact ⟨a + d, by omega, by omega, e, k⟩
    · obtain ⟨t, h1, h2, h3⟩ := change a d h e
      exact ⟨t, h1, by omega, h3⟩
/-- marks of heads -/
def Hd (n : Nat) (mh : Nat → Int) (m : Int) : Prop := ∃ j, j < n ∧ mh j = m
theorem hd_turn {V : Int → Nat → Int} {n r : Nat} {c : Nat → Nat → Int} {w : Int} {mh ms : Nat → Int} (A : Mk V n r c w mh ms) {i j : Nat} (hi : i < r) (hj : j < n) (m : Int) : Hd n (upm mh j (ms i)) m ↔ m = ms i ∨ (Hd n mh m ∧ m ≠ mh j) := by
  constructor
  · rintro ⟨k, hk, e⟩
    unfold upm at e
    split at e
    · exact .inl e.symm
    · rename_i hkj
      exact .inr ⟨⟨k, hk, e⟩, fun x => hkj (A.hh k j hk hj (by rw [e, x]))⟩
  · rintro (e | ⟨⟨k, hk, e⟩, hne⟩)
    · exact ⟨j, hj, by rw [e]; exact if_pos rfl⟩
    · exact ⟨k, hk, by rw [← e]; exact if_neg fun x => hne (by rw [← e, x])⟩
/-- the greatest of some numbers -/
theorem greatest_of (f : Nat → Int) (a : Nat) : ∀ d, ∃ t, a ≤ t ∧ t ≤ a + d ∧ ∀ u, a ≤ u → u ≤ a + d → f u ≤ f t
  | 0 => ⟨a, by omega, by omega, fun u h1 h2 => by rw [show u = a by omega]; exact Int.le_refl _⟩
  | d + 1 => by
    obtain ⟨t, h1, h2, h3⟩ := greatest_of f a d
    by_cases e : f t ≤ f (a + (d + 1))
    · refine ⟨a + (d + 1), by omega, by omega, fun u k1 k2 => ?_⟩
      by_cases g : u = a + (d + 1)
      · rw [g]
        exact Int.le_refl _
      · exact Int.le_trans (h3 u k1 (by omega)) e
    · refine ⟨t, h1, by omega, fun u k1 k2 => ?_⟩
      by_cases g : u = a + (d + 1)
      · rw [g]
        omega
      · exact h3 u k1 (by omega)
/-- the row and the column that are chosen: the row first, or the column first -/
structure Pick (n r : Nat) (c : Nat → Nat → Int) (mh ms : Nat → Int) (i j : Nat) : Prop where
  ir : i < r
  jn : j < n
  i0 : 0 ≤ ms i
  j0 : 0 ≤ mh j
  how : (c i 0 < 0 ∧ (∀ k, k < r → 0 ≤ ms k → ms k < ms i → 0 ≤ c k 0) ∧ (∀ k, k < n → 0 ≤ mh k → mh k < ms i → c r k ≤ 0) ∧ 0 < c i j ∧ ∀ k, k < n → 0 ≤ mh k → mh k < mh j → c i k ≤ 0) ∨
    (0 < c r j ∧ (∀ k, k < n → 0 ≤ mh k → mh k < mh j → c r k ≤ 0) ∧ (∀ k, k < r → 0 ≤ ms k → ms k < mh j → 0 ≤ c k 0) ∧ c i j < 0 ∧ ∀ k, k < r → 0 ≤ ms k → ms k < ms i → 0 ≤ c k j)
/-- no mark goes in and out as the greatest one -/
theorem no_AB {V : Int → Nat → Int} {n r : Nat} {cA cB : Nat → Nat → Int} {wA wB : Int} {hA sA hB sB : Nat → Int} (A : Mk V n r cA wA hA sA) (B : Mk V n r cB wB hB sB) {k : Int} {iA jA iB jB : Nat} (PA : Pick n r cA hA sA iA jA) (PB : Pick n r cB hB sB iB jB) (E : Be n r hA sA hB sB k iA jB) (mA : hA jA ≤ k) (mB : sB iB ≤ k) : False := by
  have w0 : 0 < wB := by
    obtain ⟨_, _, _, T, _⟩ := B.T
    exact T.pos
  have kA := E.ka
  have kB := E.kq
  have lA : hA jA < k := by
    have := E.apart jA PA.jn
    omega
  have lB : sB iB < k := by
    have := B.ap jB iB PB.jn (Nat.le_of_lt PB.ir)
    rw [kB] at this
    omega
  rcases PA.how with ⟨a1, a2, a3, _, _⟩ | ⟨a1, a2, a3, a4, a5⟩
  · rcases PB.how with ⟨b1, b2, b3, b4, b5⟩ | ⟨b1, b2, b3, b4, b5⟩
    · exact no_B2 A B E A.n0 (.inl rfl) a1 (fun i hi h0 hk => a2 i hi h0 (by omega)) w0 PB.ir PB.i0 lB b1 b4 fun j hj h0 hk => b5 j hj h0 (by omega)
    · exact no_A1B1 A B E a1 (fun i hi h0 hk => a2 i hi h0 (by omega)) (fun j hj h0 hk => a3 j hj h0 (by omega)) b1 (fun j hj h0 hk => b2 j hj h0 (by omega)) fun i hi h0 hk => b3 i hi h0 (by omega)
  · rcases PB.how with ⟨b1, b2, b3, b4, b5⟩ | ⟨b1, b2, b3, b4, b5⟩
    · exact no_B2 A B E PA.jn (.inr ⟨PA.j0, lA⟩) a4 (fun i hi h0 hk => a5 i hi h0 (by omega)) w0 PB.ir PB.i0 lB b1 b4 fun j hj h0 hk => b5 j hj h0 (by omega)
    · exact no_A2B1 A B E PA.jn PA.j0 lA a4 (fun i hi h0 hk => a5 i hi h0 (by omega)) a1 w0 b1 fun j hj h0 hk => b2 j hj h0 (by omega)
/-- marks of sides -/
def Sd (r : Nat) (ms : Nat → Int) (m : Int) : Prop := ∃ i, i < r ∧ ms i = m
/-- the heads of no table come back -/
theorem no_return {V : Int → Nat → Int} {n r : Nat} {c : Nat → Nat → Nat → Int} {w : Nat → Int} {mh ms : Nat → Nat → Int} {i j : Nat → Nat} {a d : Nat} (M : ∀ t, a ≤ t → t ≤ a + (d + 1) → Mk V n r (c t) (w t) (mh t) (ms t)) (P : ∀ t, a ≤ t → t ≤ a + d → Pick n r (c t) (mh t) (ms t) (i t) (j t)) (S : ∀ t, a ≤ t → t ≤ a + d → mh (t + 1) = upm (mh t) (j t) (ms t (i t)))
    (univ : ∀ t u m, a ≤ t → t ≤ a + (d + 1) → a ≤ u → u ≤ a + (d + 1) → 0 ≤ m → (Hd n (mh t) m ∨ Sd r (ms t) m) → Hd n (mh u) m ∨ Sd r (ms u) m) (same : ∀ m, Hd n (mh a) m ↔ Hd n (mh (a + (d + 1))) m) : False := by
  obtain ⟨t0, g1, g2, g3⟩ := greatest_of (fun t => max (ms t (i t)) (mh t (j t))) a d
  obtain ⟨k, hk⟩ : ∃ k, k = max (ms t0 (i t0)) (mh t0 (j t0)) := ⟨_, rfl⟩
  have up1 : ∀ t, a ≤ t → t ≤ a + d → ms t (i t) ≤ k ∧ mh t (j t) ≤ k := fun t h1 h2 => by
    have : max (ms t (i t)) (mh t (j t)) ≤ max (ms t0 (i t0)) (mh t0 (j t0)) := g3 t h1 h2
    omega
  have step : ∀ t m, a ≤ t → t ≤ a + d → (Hd n (mh (t + 1)) m ↔ m = ms t (i t) ∨ (Hd n (mh t) m ∧ m ≠ mh t (j t))) := fun t m h1 h2 => by
    rw [S t h1 h2]
    exact hd_turn (M t h1 (by omega)) (P t h1 h2).ir (P t h1 h2).jn m
  have cst : ∀ m, m < 0 ∨ k < m → ∀ e, e ≤ d + 1 → (Hd n (mh (a + e)) m ↔ Hd n (mh a) m) := fun m hm e => by
    induction e with
    | zero => exact fun _ => Iff.rfl
    | succ e ih =>
      intro he
      have s := step (a + e) m (by omega) (by omega)
      have u := up1 (a + e) (by omega) (by omega)
      have p := P (a + e) (by omega) (by omega)
      have p1 := p.i0
      have p2 := p.j0
      rw [← ih (by omega)]
      refine Iff.trans s ⟨fun h => ?_, fun h => .inr ⟨h, by omega⟩⟩
      rcases h with h | h
      · omega
      · exact h.1
  have cst2 : ∀ m, m < 0 ∨ k < m → ∀ t u, a ≤ t → t ≤ a + (d + 1) → a ≤ u → u ≤ a + (d + 1) → Hd n (mh t) m → Hd n (mh u) m := fun m hm t u h1 h2 h3 h4 h => by
    obtain ⟨e, rfl⟩ : ∃ e, t = a + e := ⟨t - a, by omega⟩
    obtain ⟨f, rfl⟩ : ∃ f, u = a + f := ⟨u - a, by omega⟩
    exact (cst m hm f (by omega)).mpr ((cst m hm e (by omega)).mp h)
  -- the times at which k goes in and out
  have out : ∀ t u, a ≤ t → t ≤ u → u ≤ a + (d + 1) → Hd n (mh t) k → ¬ Hd n (mh u) k → ∃ v, a ≤ v ∧ v ≤ a + d ∧ mh v (j v) = k := fun t u h1 h2 h3 h4 h5 => by
    obtain ⟨e, rfl⟩ : ∃ e, u = t + e := ⟨u - t, by omega⟩
    obtain ⟨v, v1, v2, v3, v4⟩ := change (P := fun t => Hd n (mh t) k) t e h4 h5
    refine ⟨v, by omega, by omega, ?_⟩
    have s := step v k (by omega) (by omega)
    exact Decidable.byContradiction fun hne => v4 (s.mpr (.inr ⟨v3, fun x => hne x.symm⟩))
  have inn : ∀ t u, a ≤ t → t ≤ u → u ≤ a + (d + 1) → ¬ Hd n (mh t) k → Hd n (mh u) k → ∃ v, a ≤ v ∧ v ≤ a + d ∧ ms v (i v) = k := fun t u h1 h2 h3 h4 h5 => by
    obtain ⟨e, rfl⟩ : ∃ e, u = t + e := ⟨u - t, by omega⟩
    obtain ⟨v, v1, v2, v3, v4⟩ := change (P := fun t => ¬ Hd n (mh t) k) t e h4 (fun x => x h5)
    refine ⟨v, by omega, by omega, ?_⟩
    have s := step v k (by omega) (by omega)
    have v4 : Hd n (mh (v + 1)) k := Classical.byContradiction v4
    rcases s.mp v4 with h | h
    · exact h.symm
    · exact absurd h.1 v3
  have both : ∃ tA tB, (a ≤ tA ∧ tA ≤ a + d ∧ ms tA (i tA) = k) ∧ a ≤ tB ∧ tB ≤ a + d ∧ mh tB (j tB) = k := by
    have pt := P t0 g1 g2
    have mt := M t0 g1 (by omega)
    have s := step t0 k g1 g2
    have cases2 : k = ms t0 (i t0) ∨ k = mh t0 (j t0) := by omega
    rcases cases2 with e | e
    · have h1 : Hd n (mh (t0 + 1)) k := s.mpr (.inl e)
      have h2 : ¬ Hd n (mh t0) k := fun ⟨q, hq, eq⟩ => mt.ap q (i t0) hq (Nat.le_of_lt pt.ir) (by rw [eq, e])
      by_cases h3 : Hd n (mh a) k
      · obtain ⟨v, hv⟩ := out a t0 (Nat.le_refl _) g1 (by omega) h3 h2
        exact ⟨t0, v, ⟨g1, g2, e.symm⟩, hv⟩
      · obtain ⟨v, hv⟩ := out (t0 + 1) (a + (d + 1)) (by omega) (by omega) (Nat.le_refl _) h1 (fun x => h3 ((same k).mpr x))
        exact ⟨t0, v, ⟨g1, g2, e.symm⟩, hv⟩
    · have h1 : Hd n (mh t0) k := ⟨j t0, pt.jn, e.symm⟩
      have h2 : ¬ Hd n (mh (t0 + 1)) k := fun h => by
        rcases s.mp h with x | x
        · exact mt.ap (j t0) (i t0) pt.jn (Nat.le_of_lt pt.ir) (by rw [← e, ← x])
        · exact x.2 e
      by_cases h3 : Hd n (mh a) k
      · obtain ⟨v, hv⟩ := inn (t0 + 1) (a + (d + 1)) (by omega) (by omega) (Nat.le_refl _) h2 ((same k).mp h3)
        exact ⟨v, t0, hv, g1, g2, e.symm⟩
      · obtain ⟨v, hv⟩ := inn a t0 (Nat.le_refl _) g1 (by omega) h3 h1
        exact ⟨v, t0, hv, g1, g2, e.symm⟩
  obtain ⟨tA, tB, ⟨a1, a2, a3⟩, b1, b2, b3⟩ := both
  have pA := P tA a1 a2
  have pB := P tB b1 b2
  have mA := M tA a1 (by omega)
  have mB := M tB b1 (by omega)
  refine no_AB mA mB (k := k) pA pB ⟨by rw [← a3]; exact pA.i0, pA.ir, a3, pB.jn, b3, fun q hq h => cst2 _ h tB tA b1 (by omega) a1 (by omega) ⟨q, hq, rfl⟩, fun q hq h => cst2 _ h tA tB a1 (by omega) b1 (by omega) ⟨q, hq, rfl⟩, fun q hq h => univ tB tA _ b1 (by omega) a1 (by omega) h (.inl ⟨q, hq, rfl⟩), fun q hq h => univ tB tA _ b1 (by omega) a1 (by omega) h (.inr ⟨q, hq, rfl⟩), fun q hq h => univ tA tB _ a1 (by omega) b1 (by omega) h (.inl ⟨q, hq, rfl⟩), fun q hq e => mA.ap q (i tA) hq (Nat.le_of_lt pA.ir) (by rw [e, a3])⟩ (up1 tA a1 a2).2 (up1 tB b1 b2).1
theorem sd_turn {V : Int → Nat → Int} {n r : Nat} {c : Nat → Nat → Int} {w : Int} {mh ms : Nat → Int} (A : Mk V n r c w mh ms) {i j : Nat} (hi : i < r) (m : Int) : Sd r (upm ms i (mh j)) m ↔ m = mh j ∨ (Sd r ms m ∧ m ≠ ms i) := by
  constructor
  · rintro ⟨k, hk, e⟩
    unfold upm at e
    split at e
    · exact .inl e.symm
    · rename_i hki
      exact .inr ⟨⟨k, hk, e⟩, fun x => hki (A.si k i (by omega) (by omega) (by rw [e, x]))⟩
  · rintro (e | ⟨⟨k, hk, e⟩, hne⟩)
    · exact ⟨i, hi, by rw [e]; exact if_pos rfl⟩
    · exact ⟨k, hk, by rw [← e]; exact if_neg fun x => hne (by rw [← e, x])⟩
/-- a number for a set of marks -/
noncomputable def code (p : Int → Prop) : Nat → Nat
  | 0 => 0
  | k + 1 => 2 * code p k + (open Classical in if p k then 1 else 0)
theorem code_lt (p : Int → Prop) : ∀ k, code p k < 2 ^ k
  | 0 => by show 0 < 1; omega
  | k + 1 => by
    have := code_lt p k
    show 2 * code p k + _ < 2 ^ (k + 1)
    rw [Nat.pow_succ]
    split <;> omega
theorem code_eq {p q : Int → Prop} : ∀ k, code p k = code q k → ∀ m : Nat, m < k → (p m ↔ q m)
  | 0, _, m, h => by omega
  | k + 1, e, m, h => by
    have e : 2 * code p k + (open Classical in if p k then 1 else 0) = 2 * code q k + (open Classical in if q k then 1 else 0) := e
    by_cases hp : p k <;> by_cases hq : q k
    all_goals
      first | rw [if_pos hp] at e | rw [if_neg hp] at e
      first | rw [if_pos hq] at e | rw [if_neg hq] at e
    · rcases Nat.lt_or_ge m k with h1 | h1
      · exact code_eq k (by omega) m h1
      · have : m = k := by omega
        subst this
        exact ⟨fun _ => hq, fun _ => hp⟩
    · omega
    · omega
    · rcases Nat.lt_or_ge m k with h1 | h1
      · exact code_eq k (by omega) m h1
      · have : m = k := by omega
        subst this
        exact ⟨fun x => absurd x hp, fun x => absurd x hq⟩
/-- all marks of a table -/
def Un (n r : Nat) (m : Int) : Prop := m = -1 ∨ (0 ≤ m ∧ m < r) ∨ (m ≤ -3 ∧ -2 - (n : Int) < m)
/-- a table of the program -/
structure Ok (V : Int → Nat → Int) (n r : Nat) (c : Nat → Nat → Int) (w : Int) (mh ms : Nat → Int) : Prop where
  tb : Mk V n r c w mh ms
  un : ∀ m, (Hd n mh m ∨ Sd r ms m) ↔ Un n r m
theorem Ok.turn {V : Int → Nat → Int} {n r : Nat} {c : Nat → Nat → Int} {w g : Int} {mh ms : Nat → Int} (A : Ok V n r c w mh ms) {i j : Nat} (hi : i < r) (hj : j < n) (j0 : j ≠ 0) (hg : g = 1 ∨ g = -1) (hp : 0 < g * c i j) : Ok V n r (turnC c w g i j) (g * c i j) (upm mh j (ms i)) (upm ms i (mh j)) := by
  refine ⟨A.tb.turn hi hj j0 hg hp, fun m => ?_⟩
  rw [← A.un m, hd_turn A.tb hi hj m, sd_turn A.tb (j := j) hi m]
  have h1 : Hd n mh (mh j) := ⟨j, hj, rfl⟩
  have h2 : Sd r ms (ms i) := ⟨i, hi, rfl⟩
  constructor
  · rintro ((e | e) | e | e)
    · exact .inr (e ▸ h2)
    · exact .inl e.1
    · exact .inl (e ▸ h1)
    · exact .inr e.1
  · rintro (e | e)
    · by_cases h : m = mh j
      · exact .inr (.inl h)
      · exact .inl (.inr ⟨e, h⟩)
    · by_cases h : m = ms i
      · exact .inl (.inl h)
      · exact .inr (.inr ⟨e, h⟩)
structure Run (V : Int → Nat → Int) (n r T : Nat) (c : Nat → Nat → Nat → Int) (w : Nat → Int) (mh ms : Nat → Nat → Int) (i j : Nat → Nat) : Prop where
  M : ∀ t, t ≤ T → Ok V n r (c t) (w t) (mh t) (ms t)
  P : ∀ t, t < T → Pick n r (c t) (mh t) (ms t) (i t) (j t)
  S : ∀ t, t < T → mh (t + 1) = upm (mh t) (j t) (ms t (i t))
theorem Run.neg {V : Int → Nat → Int} {n r T : Nat} {c : Nat → Nat → Nat → Int} {w : Nat → Int} {mh ms : Nat → Nat → Int} {i j : Nat → Nat} (R : Run V n r T c w mh ms i j) {m : Int} (hm : m < 0) : ∀ t, t ≤ T → (Hd n (mh t) m ↔ Hd n (mh 0) m)
  | 0, _ => Iff.rfl
  | t + 1, h => by
    rw [← R.neg hm t (by omega), R.S t (by omega), hd_turn (R.M t (by omega)).tb (R.P t (by omega)).ir (R.P t (by omega)).jn m]
    have p1 := (R.P t (by omega)).i0
    have p2 := (R.P t (by omega)).j0
    constructor
    · rintro (e | e)
      · omega
      · exact e.1
    · exact fun e => .inr ⟨e, by omega⟩
theorem Run.len {V : Int → Nat → Int} {n r T : Nat} {c : Nat → Nat → Nat → Int} {w : Nat → Int} {mh ms : Nat → Nat → Int} {i j : Nat → Nat} (R : Run V n r T c w mh ms i j) : T < 2 ^ r := by
  refine Decidable.byContradiction fun h => ?_
  obtain ⟨a, b, h1, h2, h3⟩ := pigeon (2 ^ r) (fun t => code (Hd n (mh t)) r) fun t _ => code_lt _ _
  obtain ⟨d, rfl⟩ : ∃ d, b = a + (d + 1) := ⟨b - a - 1, by omega⟩
  refine no_return (V := V) (n := n) (r := r) (c := c) (w := w) (mh := mh) (ms := ms) (i := i) (j := j) (a := a) (d := d) (fun t k1 k2 => (R.M t (by omega)).tb) (fun t k1 k2 => R.P t (by omega)) (fun t k1 k2 => R.S t (by omega)) (fun t u m k1 k2 k3 k4 _ k6 => ((R.M u (by omega)).un m).mpr (((R.M t (by omega)).un m).mp k6)) fun m => ?_
  rcases Int.lt_or_le m 0 with g | g
  · rw [R.neg g a (by omega), R.neg g (a + (d + 1)) (by omega)]
  · by_cases k : m < r
    · obtain ⟨u, rfl⟩ : ∃ u : Nat, m = u := ⟨m.toNat, by omega⟩
      exact code_eq r h3 u (by omega)
    · have no : ∀ t, t ≤ T → ¬ Hd n (mh t) m := fun t ht x => by
        have := ((R.M t ht).un m).mp (.inl x)
        unfold Un at this
        omega
      exact ⟨fun x => absurd x (no a (by omega)), fun x => absurd x (no _ (by omega))⟩
def exF {α : Type} (f : Nat → α) (T : Nat) (x : α) (t : Nat) : α := if t ≤ T then f t else x
theorem exF_lo {α : Type} {f : Nat → α} {T : Nat} {x : α} {t : Nat} (h : t ≤ T) : exF f T x t = f t := if_pos h
theorem exF_hi {α : Type} {f : Nat → α} {T : Nat} {x : α} : exF f T x (T + 1) = x := if_neg (by omega)
/-- a table that a run of so many turns has come to -/
def Came (V : Int → Nat → Int) (n r T : Nat) (c : Nat → Nat → Int) (w : Int) (mh ms : Nat → Int) : Prop := ∃ C W MH MS I J, Run V n r T C W MH MS I J ∧ C T = c ∧ W T = w ∧ MH T = mh ∧ MS T = ms
theorem Came.zero {V : Int → Nat → Int} {n r : Nat} {c : Nat → Nat → Int} {w : Int} {mh ms : Nat → Int} (A : Ok V n r c w mh ms) : Came V n r 0 c w mh ms := ⟨fun _ => c, fun _ => w, fun _ => mh, fun _ => ms, fun _ => 0, fun _ => 0, ⟨fun _ _ => A, fun _ h => absurd h (by omega), fun _ h => absurd h (by omega)⟩, rfl, rfl, rfl, rfl⟩
theorem Came.lt {V : Int → Nat → Int} {n r T : Nat} {c : Nat → Nat → Int} {w : Int} {mh ms : Nat → Int} : Came V n r T c w mh ms → T < 2 ^ r
  | ⟨_, _, _, _, _, _, R, _⟩ => R.len
theorem Came.ok {V : Int → Nat → Int} {n r T : Nat} {c : Nat → Nat → Int} {w : Int} {mh ms : Nat → Int} : Came V n r T c w mh ms → Ok V n r c w mh ms
  | ⟨_, _, _, _, _, _, R, e1, e2, e3, e4⟩ => by
    have := R.M T (Nat.le_refl _)
    rw [e1, e2, e3, e4] at this
    exact this
theorem Pick.col {V : Int → Nat → Int} {n r : Nat} {c : Nat → Nat → Int} {w : Int} {mh ms : Nat → Int} {i j : Nat} (P : Pick n r c mh ms i j) (A : Ok V n r c w mh ms) : j ≠ 0 := fun e => by
  have h1 := A.tb.one
  have h2 := P.j0
  subst e
  omega
theorem Came.more {V : Int → Nat → Int} {n r T : Nat} {c : Nat → Nat → Int} {w g : Int} {mh ms : Nat → Int} {i j : Nat} (A : Came V n r T c w mh ms) (P : Pick n r c mh ms i j) (hg : g = 1 ∨ g = -1) (hp : 0 < g * c i j) : Came V n r (T + 1) (turnC c w g i j) (g * c i j) (upm mh j (ms i)) (upm ms i (mh j)) := by
  have ok := A.ok.turn P.ir P.jn (P.col A.ok) hg hp
  obtain ⟨C, W, MH, MS, I, J, R, e1, e2, e3, e4⟩ := A
  subst e1 e2 e3 e4
  refine ⟨exF C T (turnC (C T) (W T) g i j), exF W T (g * C T i j), exF MH T (upm (MH T) j (MS T i)), exF MS T (upm (MS T) i (MH T j)), fun t => if t < T then I t else i, fun t => if t < T then J t else j, ⟨fun t ht => ?_, fun t ht => ?_, fun t ht => ?_⟩, exF_hi, exF_hi, exF_hi, exF_hi⟩
  · by_cases h : t ≤ T
    · rw [exF_lo h, exF_lo h, exF_lo h, exF_lo h]
      exact R.M t h
    · obtain rfl : t = T + 1 := by omega
      rw [exF_hi, exF_hi, exF_hi, exF_hi]
      exact ok
  · rw [exF_lo (by omega), exF_lo (by omega), exF_lo (by omega)]
    by_cases h : t < T
    · show Pick n r _ _ _ (if t < T then I t else i) (if t < T then J t else j)
      rw [if_pos h, if_pos h]
      exact R.P t h
    · obtain rfl : t = T := by omega
      show Pick n r _ _ _ (if t < t then I t else i) (if t < t then J t else j)
      rw [if_neg h, if_neg h]
      exact P
  · rw [exF_lo (t := t) (by omega), exF_lo (t := t) (by omega)]
    show exF MH T _ (t + 1) = upm (MH t) (if t < T then J t else j) (MS t (if t < T then I t else i))
    by_cases h : t < T
    · rw [if_pos h, if_pos h, exF_lo (by omega)]
      exact R.S t h
    · obtain rfl : t = T := by omega
      rw [if_neg h, if_neg h, exF_hi]
/-- a head that is free has no cell in the rows of sums -/
def Fr (n r : Nat) (c : Nat → Nat → Int) (mh ms : Nat → Int) (m : Nat) : Prop := ∀ i j, i < r → 0 ≤ ms i → 0 < j → j < n → j < m → mh j < 0 → c i j = 0
theorem Fr.turn {n r : Nat} {c : Nat → Nat → Int} {w g : Int} {mh ms : Nat → Int} {m i j : Nat} (F : Fr n r c mh ms m) (hi : i < r) (i0 : 0 ≤ ms i) : Fr n r (turnC c w g i j) (upm mh j (ms i)) (upm ms i (mh j)) m := by
  intro a b ha a0 b0 bn bm hb
  have hbj : b ≠ j := fun e => by
    subst e
    rw [show upm mh b (ms i) b = ms i from if_pos rfl] at hb
    omega
  rw [show upm mh j (ms i) b = mh b from if_neg hbj] at hb
  have ib := F i b hi i0 b0 bn bm hb
  unfold turnC
  split
  · rw [ib]
    omega
  · rename_i hai
    rw [show upm ms i (mh j) a = ms a from if_neg hai] at a0
    rw [ib, F a b ha a0 b0 bn bm hb, Int.mul_zero, Int.mul_zero, Int.mul_zero, Int.sub_self, Int.zero_ediv]
theorem Fr.up {n r : Nat} {c : Nat → Nat → Int} {mh ms : Nat → Int} {m : Nat} (F : Fr n r c mh ms m) (h : ∀ i, i < r → 0 ≤ ms i → m < n → 0 < m → mh m < 0 → c i m = 0) : Fr n r c mh ms (m + 1) := by
  intro a b ha a0 b0 bn bm hb
  by_cases e : b = m
  · subst e
    exact h a ha a0 bn b0 hb
  · exact F a b ha a0 b0 bn (by omega) hb
/-! ### what the last table says -/
def Vf (sF : Nat → Nat → Int) (gl : Nat → Int) (m : Int) (b : Nat) : Int := if 0 ≤ m then sF m.toNat b else if m = -2 then gl b else unitV (-2 - m).toNat b
def firstC (sF : Nat → Nat → Int) (gl : Nat → Int) (r : Nat) (i b : Nat) : Int := if i < r then sF i b else if i = r then gl b else 0
def mh0 (j : Nat) : Int := if j = 0 then -1 else -2 - (j : Int)
def ms0 (r : Nat) (i : Nat) : Int := if i < r then (i : Int) else -2
theorem mh0_neg (j : Nat) : mh0 j < 0 ∧ mh0 j ≠ -2 := by
  unfold mh0
  split <;> omega
theorem Ok.first {sF : Nat → Nat → Int} {gl : Nat → Int} {n r : Nat} (n0 : 0 < n) (hs : ∀ i b, n ≤ b → sF i b = 0) (hg : ∀ b, n ≤ b → gl b = 0) : Ok (Vf sF gl) n r (firstC sF gl r) 1 mh0 (ms0 r) := by
  refine ⟨⟨⟨unitV, firstC sF gl r, 1, Tb.first n _ fun i b hb => ?_, fun j hj => ?_, fun i hi => ?_⟩, n0, rfl, ?_, fun j k hj hk e => ?_, fun j k hj hk e => ?_, fun j k hj hk e => ?_⟩, fun m => ?_⟩
  · unfold firstC
    split
    · exact hs i b hb
    · split
      · exact hg b hb
      · rfl
  · funext b
    have := mh0_neg j
    unfold Vf
    rw [if_neg (by omega), if_neg this.2]
    unfold mh0
    split
    · rename_i h
      rw [h]
      rfl
    · rw [show (-2 - (-2 - (j : Int))).toNat = j by omega]
  · funext b
    unfold Vf firstC ms0
    by_cases h : i < r
    · rw [if_pos h, if_pos h, if_pos (by omega), Int.toNat_natCast]
    · rw [if_neg h, if_neg h, if_pos (show i = r by omega), if_neg (by omega), if_pos rfl]
  · unfold ms0
    rw [if_neg (by omega)]
  · unfold mh0 at e
    split at e <;> split at e <;> omega
  · unfold ms0 at e
    split at e <;> split at e <;> omega
  · unfold mh0 ms0 at e
    split at e <;> split at e <;> omega
  · unfold Un Hd Sd
    constructor
    · rintro (⟨j, hj, e⟩ | ⟨i, hi, e⟩)
      · unfold mh0 at e
        split at e <;> omega
      · unfold ms0 at e
        rw [if_pos hi] at e
        omega
    · rintro (e | e | e)
      · exact .inl ⟨0, n0, by rw [e]; rfl⟩
      · exact .inr ⟨m.toNat, by omega, by unfold ms0; rw [if_pos (by omega)]; omega⟩
      · exact .inl ⟨(-2 - m).toNat, by omega, by unfold mh0; rw [if_neg (by omega)]; omega⟩
theorem det_ext {n : Nat} {m k : Nat → Nat → Int} (h : ∀ a b, a < n → m a b = k a b) : det n m = det n k := det_congr n fun a b ha => h a b ha
theorem comb_unit {v : Nat → Int} {n : Nat} (hv : ∀ b, n ≤ b → v b = 0) (b : Nat) : comb n v unitV b = v b := by
  rw [comb_sm]
  by_cases h : b < n
  · rw [sm_one (j := b) n h fun i hi hib => by rw [show unitV i b = 0 from if_neg hib, Int.mul_zero], show unitV b b = 1 from if_pos rfl, Int.mul_one]
  · rw [hv b (by omega), sm_congr (g := fun _ => 0) n fun i hi => by rw [show unitV i b = 0 from if_neg (by omega), Int.mul_zero]]
    clear h hv
    induction n with
    | zero => rfl
    | succ n ih =>
      show sm n _ + 0 = 0
      rw [ih]
      rfl
theorem colV_lin {n : Nat} {h : Nat → Nat → Int} {e : Int} {l : Nat} (hl : l < n) {v : Nat → Int} (hv : ∀ b, n ≤ b → v b = 0) : colV n h e l v = sm n fun b => v b * colV n h e l (unitV b) := by
  unfold colV
  have : det n (up h l v) = sm n fun i => v i * det n (up h l (unitV i)) := by
    rw [← det_comb hl v n]
    refine det_congr n fun a b _ => ?_
    unfold up
    split
    · exact (comb_unit hv b).symm
    · rfl
  rw [this, ← sm_mul]
  refine sm_congr n fun i _ => ?_
  rw [← Int.mul_assoc, ← Int.mul_assoc, Int.mul_comm e]
/-- a linear form on the sums, at amounts -/
def dotV (n : Nat) (v x : Nat → Int) : Int := sm n fun b => v b * x b
theorem dotV_congr {n : Nat} {v x y : Nat → Int} (h : ∀ b, b < n → x b = y b) : dotV n v x = dotV n v y := sm_congr n fun b hb => by rw [h b hb]
/-- the amounts that a table tells -/
def IsX (n r : Nat) (c : Nat → Nat → Int) (w : Int) (ms : Nat → Int) (x : Nat → Int) : Prop := x 0 = w ∧ ∀ k, 0 < k → k < n → (∀ i, i < r → ms i = -2 - (k : Int) → x k = c i 0) ∧ ((∀ i, i < r → ms i ≠ -2 - (k : Int)) → x k = 0)
theorem Ok.dots {sF : Nat → Nat → Int} {gl : Nat → Int} {n r : Nat} {c : Nat → Nat → Int} {w : Int} {mh ms : Nat → Int} (A : Ok (Vf sF gl) n r c w mh ms) (hs : ∀ i b, n ≤ b → sF i b = 0) (hg : ∀ b, n ≤ b → gl b = 0) {x : Nat → Int} (X : IsX n r c w ms x) :
    (∀ i, i ≤ r → dotV n (Vf sF gl (ms i)) x = c i 0) ∧ ∀ j, j < n → dotV n (Vf sF gl (mh j)) x = if j = 0 then w else 0 := by
  obtain ⟨h, s, e, T, hh, hS⟩ := A.tb.T
  have n0 := A.tb.n0
  have unit : ∀ b, b < n → 0 < b → Vf sF gl (-2 - (b : Int)) = unitV b := fun b _ hb => by
    funext a
    unfold Vf
    rw [if_neg (by omega), if_neg (by omega), show (-2 - (-2 - (b : Int))).toNat = b by omega]
  have xs : ∀ b, b < n → x b = colV n h e 0 (unitV b) := fun b hb => by
    by_cases b0 : b = 0
    · subst b0
      have h0 : h 0 = unitV 0 := by
        rw [hh 0 n0, A.tb.one]
        funext a
        unfold Vf
        rw [if_neg (by omega), if_neg (by omega)]
        rfl
      rw [X.1, ← h0, T.col_head n0 n0, if_pos rfl]
    · have u := (A.un (-2 - (b : Int))).mpr (.inr (.inr ⟨by omega, by omega⟩))
      by_cases hS' : Sd r ms (-2 - (b : Int))
      · obtain ⟨i, hi, e1⟩ := hS'
        rw [(X.2 b (by omega) hb).1 i hi e1, ← unit b hb (by omega), ← e1, ← hS i (by omega), T.col_side n0]
      · obtain ⟨j, hj, e1⟩ := u.resolve_right hS'
        rw [(X.2 b (by omega) hb).2 fun i hi e2 => hS' ⟨i, hi, e2⟩, ← unit b hb (by omega), ← e1, ← hh j hj, T.col_head n0 hj, if_neg]
        intro j0
        subst j0
        rw [A.tb.one] at e1
        omega
  have big : ∀ m b, (m < 0 → -2 - (n : Int) < m) → n ≤ b → Vf sF gl m b = 0 := fun m b hm hb => by
    unfold Vf
    split
    · exact hs _ b hb
    · split
      · exact hg b hb
      · exact if_neg (by omega)
  have dv : ∀ m, (m < 0 → -2 - (n : Int) < m) → dotV n (Vf sF gl m) x = colV n h e 0 (Vf sF gl m) := fun m hm => by
    rw [colV_lin n0 fun b hb => big m b hm hb]
    exact sm_congr n fun b hb => by rw [xs b hb]
  refine ⟨fun i hi => ?_, fun j hj => ?_⟩
  · rw [dv, ← hS i hi, T.col_side n0]
    intro neg
    rcases Nat.lt_or_ge i r with h1 | h1
    · have := (A.un (ms i)).mp (.inr ⟨i, h1, rfl⟩)
      unfold Un at this
      omega
    · obtain rfl : i = r := by omega
      rw [A.tb.goal]
      omega
  · rw [dv, ← hh j hj, T.col_head n0 hj]
    intro neg
    have := (A.un (mh j)).mp (.inl ⟨j, hj, rfl⟩)
    unfold Un at this
    omega
/-- no side is below 0: the sums are not below 0 at the amounts -/
theorem Ok.holds {sF : Nat → Nat → Int} {gl : Nat → Int} {n r : Nat} {c : Nat → Nat → Int} {w : Int} {mh ms : Nat → Int} (A : Ok (Vf sF gl) n r c w mh ms) (hs : ∀ i b, n ≤ b → sF i b = 0) (hg : ∀ b, n ≤ b → gl b = 0) {x : Nat → Int} (X : IsX n r c w ms x) (up : ∀ i, i < r → 0 ≤ ms i → 0 ≤ c i 0) : 0 < x 0 ∧ (∀ m, m < r → 0 ≤ dotV n (sF m) x) ∧ dotV n gl x = c r 0 := by
  obtain ⟨d1, d2⟩ := A.dots hs hg X
  have w0 : 0 < w := by
    obtain ⟨_, _, _, T, _⟩ := A.tb.T
    exact T.pos
  have vm : ∀ m : Nat, Vf sF gl m = sF m := fun m => by
    funext b
    unfold Vf
    rw [if_pos (by omega), Int.toNat_natCast]
  refine ⟨by rw [X.1]; exact w0, fun m hm => ?_, ?_⟩
  · rcases (A.un m).mpr (.inr (.inl ⟨by omega, by omega⟩)) with ⟨j, hj, e⟩ | ⟨i, hi, e⟩
    · rw [← vm m, ← e, d2 j hj]
      split
      · omega
      · exact Int.le_refl _
    · rw [← vm m, ← e, d1 i (by omega)]
      exact up i hi (by omega)
  · have := d1 r (Nat.le_refl _)
    rw [A.tb.goal] at this
    exact this
/-- the weights of a row, behind the first heads -/
def wJ (ci : Nat → Int) (mh : Nat → Int) : Nat → Nat → Int
  | 0 => fun _ => 0
  | J + 1 => if 0 ≤ mh J then upm (wJ ci mh J) (mh J).toNat (-(ci J)) else wJ ci mh J
theorem sm_upm {f v : Nat → Int} {k : Nat} {x : Int} : ∀ n, k < n → f k = 0 → sm n (fun m => upm f k x m * v m) = sm n (fun m => f m * v m) + x * v k := fun n hk h0 => by
  rw [sm_split (j := k) hk, sm_split (f := fun m => f m * v m) (j := k) hk, h0, Int.zero_mul, Int.zero_add, show upm f k x k = x from if_pos rfl, Int.add_comm]
  refine congrArg (· + x * v k) (sm_congr n fun i _ => ?_)
  split
  · rfl
  · rename_i h
    rw [show upm f k x i = f i from if_neg h]
theorem wJ_sum {n r : Nat} {ci mh : Nat → Int} {v : Nat → Int} (inj : ∀ j k, j < n → k < n → mh j = mh k → j = k) (lt : ∀ j, j < n → mh j < r) : ∀ J, J ≤ n → (∀ k, wJ ci mh J k ≠ 0 → ∃ j, j < J ∧ mh j = k) ∧ sm r (fun m => wJ ci mh J m * v m) = sm J fun j => if 0 ≤ mh j then -(ci j) * v (mh j).toNat else 0
  | 0, _ => by
    refine ⟨fun k h => absurd rfl h, ?_⟩
    show sm r (fun m => 0 * v m) = 0
    rw [sm_mul, Int.zero_mul]
  | J + 1, h => by
    obtain ⟨z, s⟩ := wJ_sum (v := v) inj lt J (by omega)
    have un : wJ ci mh (J + 1) = if 0 ≤ mh J then upm (wJ ci mh J) (mh J).toNat (-(ci J)) else wJ ci mh J := rfl
    rw [un]
    show _ ∧ _ = sm J _ + (if 0 ≤ mh J then -(ci J) * v (mh J).toNat else 0)
    by_cases h0 : 0 ≤ mh J
    · rw [if_pos h0, if_pos h0]
      have k0 : wJ ci mh J (mh J).toNat = 0 := Decidable.byContradiction fun x => by
        obtain ⟨j, hj, e⟩ := z _ x
        have := inj j J (by omega) (by omega) (by omega)
        omega
      refine ⟨fun k hk => ?_, ?_⟩
      · by_cases e : k = (mh J).toNat
        · exact ⟨J, by omega, by omega⟩
        · rw [show upm (wJ ci mh J) (mh J).toNat (-(ci J)) k = wJ ci mh J k from if_neg e] at hk
          obtain ⟨j, hj, e⟩ := z k hk
          exact ⟨j, by omega, e⟩
      · rw [sm_upm r (by have := lt J (by omega); omega) k0, s]
    · rw [if_neg h0, if_neg h0, Int.add_zero]
      exact ⟨fun k hk => by obtain ⟨j, hj, e⟩ := z k hk; exact ⟨j, by omega, e⟩, s⟩
theorem wJ_nonneg {n : Nat} {ci mh : Nat → Int} (neg : ∀ j, j < n → 0 ≤ mh j → ci j ≤ 0) : ∀ J, J ≤ n → ∀ k, 0 ≤ wJ ci mh J k
  | 0, _, _ => Int.le_refl _
  | J + 1, h, k => by
    show 0 ≤ (if 0 ≤ mh J then upm (wJ ci mh J) (mh J).toNat (-(ci J)) else wJ ci mh J) k
    have := wJ_nonneg neg J (by omega) k
    split
    · rename_i h0
      unfold upm
      split
      · have := neg J (by omega) h0
        omega
      · exact this
    · exact this
/-- the weights of a row -/
def wtsF (n : Nat) (ci mh : Nat → Int) (m : Nat) (w : Int) : Nat → Int := upm (wJ ci mh n) m w
theorem Ok.weights {sF : Nat → Nat → Int} {gl : Nat → Int} {n r : Nat} {c : Nat → Nat → Int} {w : Int} {mh ms : Nat → Int} (A : Ok (Vf sF gl) n r c w mh ms) (F : Fr n r c mh ms n) {i : Nat} (hi : i < r) (i0 : 0 ≤ ms i) (neg : ∀ j, j < n → 0 ≤ mh j → c i j ≤ 0) :
    (∀ k, 0 ≤ wtsF n (c i) mh (ms i).toNat w k) ∧ 0 < wtsF n (c i) mh (ms i).toNat w (ms i).toNat ∧ ∀ b, sm r (fun m => wtsF n (c i) mh (ms i).toNat w m * sF m b) = c i 0 * unitV 0 b := by
  have w0 : 0 < w := by
    obtain ⟨_, _, _, T, _⟩ := A.tb.T
    exact T.pos
  have lt : ∀ j, j < n → mh j < r := fun j hj => by
    have := (A.un (mh j)).mp (.inl ⟨j, hj, rfl⟩)
    unfold Un at this
    omega
  have ltS : ms i < r := by
    have := (A.un (ms i)).mp (.inr ⟨i, hi, rfl⟩)
    unfold Un at this
    omega
  refine ⟨fun k => ?_, ?_, fun b => ?_⟩
  · unfold wtsF upm
    split
    · omega
    · exact wJ_nonneg neg n (Nat.le_refl _) k
  · show 0 < upm _ _ _ _
    rw [show upm (wJ (c i) mh n) (ms i).toNat w (ms i).toNat = w from if_pos rfl]
    exact w0
  · obtain ⟨z, s⟩ := wJ_sum (ci := c i) (v := fun m => sF m b) A.tb.hh lt n (Nat.le_refl _)
    have k0 : wJ (c i) mh n (ms i).toNat = 0 := Decidable.byContradiction fun x => by
      obtain ⟨j, hj, e⟩ := z _ x
      exact A.tb.ap j i hj (by omega) (by omega)
    show sm r (fun m => upm (wJ (c i) mh n) (ms i).toNat w m * sF m b) = _
    rw [sm_upm (v := fun m => sF m b) r (by omega) k0, s]
    obtain ⟨h, s', e, T, hh, hS⟩ := A.tb.T
    have row := T.row i b
    rw [hS i (by omega), comb_sm] at row
    have v1 : Vf sF gl (ms i) b = sF (ms i).toNat b := if_pos i0
    rw [v1] at row
    rw [row]
    have e2 : sm n (fun k => c i k * h k b) = 1 * (c i 0 * unitV 0 b) + (-1) * sm n fun j => if 0 ≤ mh j then -(c i j) * sF (mh j).toNat b else 0 := by
      have h0 : h 0 b = unitV 0 b := by
        rw [hh 0 A.tb.n0, A.tb.one]
        rfl
      rw [sm_split (j := 0) A.tb.n0, h0]
      rw [sm_split (f := fun j => if 0 ≤ mh j then -(c i j) * sF (mh j).toNat b else 0) (j := 0) A.tb.n0, A.tb.one, if_neg (by omega), Int.zero_add, Int.one_mul, ← sm_mul]
      refine congrArg (c i 0 * unitV 0 b + ·) (sm_congr n fun j hj => ?_)
      by_cases j0 : j = 0
      · rw [if_pos j0, if_pos j0]
        rfl
      · rw [if_neg j0, if_neg j0, hh j hj]
        split
        · rename_i hm
          rw [show Vf sF gl (mh j) b = sF (mh j).toNat b from if_pos hm]
          rw [Int.neg_mul, Int.neg_mul, Int.one_mul, Int.neg_neg]
        · rename_i hm
          rw [F i j hi i0 (by omega) hj hj (by omega), Int.zero_mul]
          rfl
    rw [e2]
    omega
/-- a cell is no greater than the determinants of the first rows -/
theorem Ok.cell_le {V : Int → Nat → Int} {n r B : Nat} {c : Nat → Nat → Int} {w : Int} {mh ms : Nat → Int} (A : Ok V n r c w mh ms) (hB : ∀ m b, (V m b).natAbs ≤ B) {i j : Nat} (hi : i ≤ r) (hj : j < n) : (c i j).natAbs ≤ fac n * B ^ n := by
  obtain ⟨h, s, e, T, hh, hS⟩ := A.tb.T
  exact T.cell_le (fun a b ha => by rw [hh a ha]; exact hB _ _) (fun b => by rw [hS i hi]; exact hB _ _) hj
theorem Ok.whole_le {V : Int → Nat → Int} {n r B : Nat} {c : Nat → Nat → Int} {w : Int} {mh ms : Nat → Int} (A : Ok V n r c w mh ms) (hB : ∀ m b, (V m b).natAbs ≤ B) : w.natAbs ≤ fac n * B ^ n := by
  obtain ⟨h, s, e, T, hh, hS⟩ := A.tb.T
  exact T.whole_le fun a b ha => by rw [hh a ha]; exact hB _ _
theorem Ok.wpos {V : Int → Nat → Int} {n r : Nat} {c : Nat → Nat → Int} {w : Int} {mh ms : Nat → Int} (A : Ok V n r c w mh ms) : 0 < w := by
  obtain ⟨_, _, _, T, _⟩ := A.tb.T
  exact T.pos
end TB
/-! ### lists of values by place -/
theorem none_same {H H' : Hp} {b : Addr} (s : Same H H') (n : H' b = none) : H b = none := by
  cases e : H b with
  | none => rfl
  | some o => rw [s _ _ e] at n; cases n
def vl (n : Nat) (g : Nat → V) : List V := (List.range n).map g
abbrev ro (n : Nat) (f : Nat → Int) : List V := vl n fun b => V.int (f b)
theorem vl_len (n : Nat) (g : Nat → V) : (vl n g).length = n := by
  unfold vl
  rw [List.length_map, List.length_range]
theorem vl_get {n k : Nat} {g : Nat → V} (h : k < n) : (vl n g)[k]? = some (g k) := by
  unfold vl
  rw [List.getElem?_map, List.getElem?_range h]
  rfl
theorem vl_at {n k : Nat} {g : Nat → V} {x : V} (h : (vl n g)[k]? = some x) : k < n ∧ x = g k := by
  have hk : k < n := by
    have := (List.getElem?_eq_some_iff.mp h).1
    rw [vl_len] at this
    exact this
  rw [vl_get hk] at h
  exact ⟨hk, (Option.some.inj h).symm⟩
theorem vl_of {n : Nat} {g : Nat → V} {xs : List V} (hl : xs.length = n) (h : ∀ k, k < n → xs[k]? = some (g k)) : xs = vl n g := by
  refine List.ext_getElem? fun k => ?_
  by_cases hk : k < n
  · rw [h k hk, vl_get hk]
  · rw [List.getElem?_eq_none (by omega), List.getElem?_eq_none (by rw [vl_len]; omega)]
theorem vl_congr {n : Nat} {f g : Nat → V} (h : ∀ k, k < n → f k = g k) : vl n f = vl n g := vl_of (vl_len _ _) fun k hk => by rw [vl_get hk, h k hk]
theorem ro_congr {n : Nat} {f g : Nat → Int} (h : ∀ k, k < n → f k = g k) : ro n f = ro n g := vl_congr fun k hk => by rw [h k hk]
theorem vl_succ (n : Nat) (g : Nat → V) : vl (n + 1) g = vl n g ++ [g n] := by
  unfold vl
  rw [List.range_succ, List.map_append]
  rfl
theorem ro_set {n j : Nat} {f : Nat → Int} {x : Int} (h : j < n) : (ro n f).set j (.int x) = ro n (TB.upm f j x) := by
  refine vl_of (by rw [List.length_set, vl_len]) fun k hk => ?_
  rw [List.getElem?_set]
  unfold TB.upm
  by_cases e : j = k
  · subst e
    rw [if_pos rfl, vl_len, if_pos h, if_pos rfl]
  · rw [if_neg e, if_neg (fun x => e x.symm), vl_get hk]
theorem vl_step {g : Nat → V} {D : Addr} {H H' : Hp} {i : Nat} {R : Hp → Prop} (sm : Same H H') (hD : H D = none) (hi : i < 1000) (dD : H' D = some (.lst (vl i g)))
    (k : ∀ H2, (Same H H2 ∧ H2 D = some (.lst (vl (i + 1) g))) → R H2) (H4 : Hp) (s4 : Same H' H4) : ∃ acc, H4 D = some (.lst acc) ∧ acc.length < sizeLine ∧ R (upd H4 D (.lst (acc ++ [g i]))) := by
  refine ⟨vl i g, s4 _ _ dD, small1000 (by rw [vl_len]; omega), k _ ⟨fun b o e => ?_, ?_⟩⟩
  · rw [upd_ne (ne_of_none e hD)]
    exact s4 _ _ (sm _ _ e)
  · rw [upd_same, vl_succ]
theorem vl_zero {H : Hp} {D : Addr} {g : Nat → V} (hD : H D = none) : Same H (upd H D (.lst [])) ∧ upd H D (.lst []) D = some (.lst (vl 0 g)) := ⟨same_upd hD, upd_same⟩
theorem Same.updF {H H' : Hp} {p : Addr} {o : HO} (s : Same H H') (n : H p = none) : Same H (upd H' p o) := fun b u e => by
  rw [upd_ne (ne_of_none e n)]
  exact s _ _ e
/-- over the list at a: values -/
theorem lc_vl {K : PySem.W.Frag} {i0 : Nat} {tl : TE} {te : TE} {σ : List (Option V)} {H : Hp} {Q : V → Hp → Prop} (a : Addr) (xs : List V) (g : Nat → V) (hn : xs.length < 1000) (hw : ∀ x : V, wipe ((wipe σ [i0]).set i0 (some x)) [i0] = wipe σ [i0])
    (ha : H a = some (.lst xs)) (htl : ∀ R : V → Hp → Prop, R (.ref a) H → tl σ H R)
    (he : ∀ (j : Nat) (x : V) (H' : Hp) (R : V → Hp → Prop), xs[j]? = some x → Same H H' → (∀ H4, Same H' H4 → R (g j) H4) → te ((wipe σ [i0]).set i0 (some x)) H' R)
    (hq : ∀ (D : Addr) (H' : Hp), H D = none → Same H H' → H' D = some (.lst (vl xs.length g)) → Q (.ref D) H') : tLc (iList K tl) (gName i0) tYes te [i0] σ H Q := by
  refine htl _ ⟨a, rfl, ⟨xs, SqL.of ha⟩, fun D hD => ?_⟩
  refine lc_it (walk_list (K := K) (a := a) (xs := xs)) (fun i H' => Same H H' ∧ H' D = some (.lst (vl i g))) (vl_zero hD) (fun _ _ _ h => SqL.of (h.1 _ _ ha)) ?_ ?_
  · rintro i x H' H'' hi ⟨sm, dD⟩ ⟨rfl, fx⟩
    refine ⟨hw _, ?_⟩
    simp only [tYes, if_true]
    exact he i x _ _ fx sm (vl_step sm hD (by omega) dD fun _ h => h)
  · rintro H' ⟨sm, dD⟩
    exact hq D H' hD sm dD
/-- over the tuple at a: values -/
theorem lc_vlT {K : PySem.W.Frag} {i0 : Nat} {tl : TE} {te : TE} {σ : List (Option V)} {H : Hp} {Q : V → Hp → Prop} (a : Addr) (xs : List V) (g : Nat → V) (hn : xs.length < 1000) (hw : ∀ x : V, wipe ((wipe σ [i0]).set i0 (some x)) [i0] = wipe σ [i0])
    (ha : H a = some (.tup xs)) (htl : ∀ R : V → Hp → Prop, R (.ref a) H → tl σ H R)
    (he : ∀ (j : Nat) (x : V) (H' : Hp) (R : V → Hp → Prop), xs[j]? = some x → Same H H' → (∀ H4, Same H' H4 → R (g j) H4) → te ((wipe σ [i0]).set i0 (some x)) H' R)
    (hq : ∀ (D : Addr) (H' : Hp), H D = none → Same H H' → H' D = some (.lst (vl xs.length g)) → Q (.ref D) H') : tLc (iTup K tl) (gName i0) tYes te [i0] σ H Q := by
  refine htl _ ⟨a, rfl, ⟨xs, SqT.of ha⟩, fun D hD => ?_⟩
  refine lc_it (walk_tup (K := K) (a := a) (xs := xs)) (fun i H' => Same H H' ∧ H' D = some (.lst (vl i g))) (vl_zero hD) (fun _ _ _ h => SqT.of (h.1 _ _ ha)) ?_ ?_
  · rintro i x H' H'' hi ⟨sm, dD⟩ ⟨rfl, fx⟩
    refine ⟨hw _, ?_⟩
    simp only [tYes, if_true]
    exact he i x _ _ fx sm (vl_step sm hD (by omega) dD fun _ h => h)
  · rintro H' ⟨sm, dD⟩
    exact hq D H' hD sm dD
/-- over numbers from 0 on: values -/
theorem lc_vlR {n i0 : Nat} {te : TE} {σ : List (Option V)} {H : Hp} {Q : V → Hp → Prop} (g : Nat → V) (hn : n < 1000) (hw : ∀ x : V, wipe ((wipe σ [i0]).set i0 (some x)) [i0] = wipe σ [i0])
    (he : ∀ (j : Nat) (H' : Hp) (R : V → Hp → Prop), j < n → Same H H' → (∀ H4, Same H' H4 → R (g j) H4) → te ((wipe σ [i0]).set i0 (some (.int (j : Int)))) H' R)
    (hq : ∀ (D : Addr) (H' : Hp), H D = none → Same H H' → H' D = some (.lst (vl n g)) → Q (.ref D) H') : tLc (iRng1 (tCons (tC (V.int (n : Int))) tNil)) (gName i0) tYes te [i0] σ H Q := by
  refine ⟨(n : Int), rfl, by omega, by omega, fun D hD => ?_⟩
  rw [Int.toNat_natCast]
  refine lc_it (walk_range (lo := 0) (n := n)) (fun i H' => Same H H' ∧ H' D = some (.lst (vl i g))) (vl_zero hD) (fun _ _ _ _ => True.intro) ?_ ?_
  · rintro i x H' H'' hi ⟨sm, dD⟩ ⟨rfl, rfl⟩
    refine ⟨hw _, ?_⟩
    simp only [tYes, if_true]
    rw [Int.zero_add]
    exact he i H'' _ hi sm (vl_step sm hD (by omega) dD fun _ h => h)
  · rintro H' ⟨sm, dD⟩
    exact hq D H' hD sm dD
/-- over two lists side by side: values -/
theorem lc_vlZ {K : PySem.W.Frag} {i0 i1 : Nat} {ta : TA} {te : TE} {σ : List (Option V)} {H : Hp} {Q : V → Hp → Prop} (a b : Addr) (xs ys : List V) (g : Nat → V) (hl : xs.length = ys.length) (hn : xs.length < 1000)
    (hw : ∀ x y : V, wipe (((wipe σ [i0, i1]).set i0 (some x)).set i1 (some y)) [i0, i1] = wipe σ [i0, i1]) (ha : H a = some (.lst xs)) (hb : H b = some (.lst ys)) (hta : ∀ R : List V → Hp → Prop, R [.ref a, .ref b] H → ta σ H R)
    (he : ∀ (j : Nat) (x y : V) (H' : Hp) (R : V → Hp → Prop), xs[j]? = some x → ys[j]? = some y → Same H H' → (∀ H4, Same H' H4 → R (g j) H4) → te (((wipe σ [i0, i1]).set i0 (some x)).set i1 (some y)) H' R)
    (hq : ∀ (D : Addr) (H' : Hp), H D = none → Same H H' → H' D = some (.lst (vl xs.length g)) → Q (.ref D) H') : tLc (RZ.iZipA K ta) (gTup K 2 (gCons (gName i0) (gCons (gName i1) gNil))) tYes te [i0, i1] σ H Q := by
  refine hta _ ⟨a, b, xs, ys, rfl, .inl ⟨SqL.of ha, SqL.of hb, fun D hD => ?_⟩⟩
  refine lc_it (walk_zip (K := K) (a := a) (b := b) (xs := xs) (ys := ys) (n := xs.length) (by omega)) (fun i H' => Same H H' ∧ H' D = some (.lst (vl i g))) (vl_zero hD) (fun _ _ _ h => ⟨SqL.of (h.1 _ _ ha), SqL.of (h.1 _ _ hb)⟩) ?_ ?_
  · rintro i x H' H'' hi ⟨sm, dD⟩ ⟨T, x', y', rfl, hT, rfl, fx, fy⟩
    refine ⟨T, _, rfl, SqT.of upd_same, rfl, _, _, rfl, _, _, rfl, rfl, hw _ _, ?_⟩
    simp only [tYes, if_true]
    have sT : Same H' (upd H' T (HO.tup [x', y'])) := same_upd hT
    exact he i x' y' _ _ fx fy (sm.trans sT) fun H4 s4 => vl_step sm hD (by omega) dD (fun _ h => h) H4 (sT.trans s4)
  · rintro H' ⟨sm, dD⟩
    exact hq D H' hD sm dD
/-- new lists at the places of a list -/
def Nw (H' : Hp) (D : Addr) (i : Nat) (g : Nat → List V) : Prop := ∃ vs : List V, vs.length = i ∧ H' D = some (.lst vs) ∧ ∀ k, k < i → ∃ q, vs[k]? = some (.ref q) ∧ q ≠ D ∧ H' q = some (.lst (g k))
theorem Nw.step {g : Nat → List V} {D q : Addr} {H H' H4 : Hp} {i : Nat} {R : Hp → Prop} (sm : Same H H') (hD : H D = none) (hi : i < 1000) (h : Nw H' D i g)
    (k : ∀ H2, (Same H H2 ∧ Nw H2 D (i + 1) g) → R H2) (s4 : Same H' H4) (nq : H' q = none) (hq : H4 q = some (.lst (g i))) : ∃ acc, H4 D = some (.lst acc) ∧ acc.length < sizeLine ∧ R (upd H4 D (.lst (acc ++ [.ref q]))) := by
  obtain ⟨vs, hl, dD, hv⟩ := h
  have qD : q ≠ D := fun e => (ne_of_none dD nq) e.symm
  refine ⟨vs, s4 _ _ dD, small1000 (by omega), k _ ⟨fun b o e => ?_, vs ++ [.ref q], by rw [List.length_append, hl]; rfl, upd_same, fun j hj => ?_⟩⟩
  · rw [upd_ne (ne_of_none e hD)]
    exact s4 _ _ (sm _ _ e)
  · by_cases hji : j < i
    · obtain ⟨q', e1, e2, e3⟩ := hv j hji
      refine ⟨q', by rw [List.getElem?_append_left (by omega)]; exact e1, e2, ?_⟩
      rw [upd_ne e2]
      exact s4 _ _ e3
    · obtain rfl : j = i := by omega
      refine ⟨q, by rw [List.getElem?_append_right (by omega), hl, Nat.sub_self]; rfl, qD, ?_⟩
      rw [upd_ne qD]
      exact hq
theorem Nw.zero {H : Hp} {D : Addr} {g : Nat → List V} (hD : H D = none) : Same H (upd H D (.lst [])) ∧ Nw (upd H D (.lst [])) D 0 g := ⟨same_upd hD, [], rfl, upd_same, fun k hk => absurd hk (by omega)⟩
/-- over the list at a: new lists -/
theorem lc_nw {K : PySem.W.Frag} {i0 : Nat} {tl : TE} {te : TE} {σ : List (Option V)} {H : Hp} {Q : V → Hp → Prop} (a : Addr) (xs : List V) (g : Nat → List V) (hn : xs.length < 1000) (hw : ∀ x : V, wipe ((wipe σ [i0]).set i0 (some x)) [i0] = wipe σ [i0])
    (ha : H a = some (.lst xs)) (htl : ∀ R : V → Hp → Prop, R (.ref a) H → tl σ H R)
    (he : ∀ (j : Nat) (x : V) (H' : Hp) (R : V → Hp → Prop), xs[j]? = some x → Same H H' → (∀ q H4, Same H' H4 → H' q = none → H4 q = some (.lst (g j)) → R (.ref q) H4) → te ((wipe σ [i0]).set i0 (some x)) H' R)
    (hq : ∀ (D : Addr) (H' : Hp), H D = none → Same H H' → Nw H' D xs.length g → Q (.ref D) H') : tLc (iList K tl) (gName i0) tYes te [i0] σ H Q := by
  refine htl _ ⟨a, rfl, ⟨xs, SqL.of ha⟩, fun D hD => ?_⟩
  refine lc_it (walk_list (K := K) (a := a) (xs := xs)) (fun i H' => Same H H' ∧ Nw H' D i g) (Nw.zero hD) (fun _ _ _ h => SqL.of (h.1 _ _ ha)) ?_ ?_
  · rintro i x H' H'' hi ⟨sm, dD⟩ ⟨rfl, fx⟩
    refine ⟨hw _, ?_⟩
    simp only [tYes, if_true]
    exact he i x _ _ fx sm fun q H4 s4 nq e => Nw.step sm hD (by omega) dD (fun _ h => h) s4 nq e
  · rintro H' ⟨sm, dD⟩
    exact hq D H' hD sm dD
/-- over two lists side by side: new lists -/
theorem lc_nwZ {K : PySem.W.Frag} {i0 i1 : Nat} {ta : TA} {te : TE} {σ : List (Option V)} {H : Hp} {Q : V → Hp → Prop} (a b : Addr) (xs ys : List V) (g : Nat → List V) (hl : xs.length = ys.length) (hn : xs.length < 1000)
    (hw : ∀ x y : V, wipe (((wipe σ [i0, i1]).set i0 (some x)).set i1 (some y)) [i0, i1] = wipe σ [i0, i1]) (ha : H a = some (.lst xs)) (hb : H b = some (.lst ys)) (hta : ∀ R : List V → Hp → Prop, R [.ref a, .ref b] H → ta σ H R)
    (he : ∀ (j : Nat) (x y : V) (H' : Hp) (R : V → Hp → Prop), xs[j]? = some x → ys[j]? = some y → Same H H' → (∀ q H4, Same H' H4 → H' q = none → H4 q = some (.lst (g j)) → R (.ref q) H4) → te (((wipe σ [i0, i1]).set i0 (some x)).set i1 (some y)) H' R)
    (hq : ∀ (D : Addr) (H' : Hp), H D = none → Same H H' → Nw H' D xs.length g → Q (.ref D) H') : tLc (RZ.iZipA K ta) (gTup K 2 (gCons (gName i0) (gCons (gName i1) gNil))) tYes te [i0, i1] σ H Q := by
  refine hta _ ⟨a, b, xs, ys, rfl, .inl ⟨SqL.of ha, SqL.of hb, fun D hD => ?_⟩⟩
  refine lc_it (walk_zip (K := K) (a := a) (b := b) (xs := xs) (ys := ys) (n := xs.length) (by omega)) (fun i H' => Same H H' ∧ Nw H' D i g) (Nw.zero hD) (fun _ _ _ h => ⟨SqL.of (h.1 _ _ ha), SqL.of (h.1 _ _ hb)⟩) ?_ ?_
  · rintro i x H' H'' hi ⟨sm, dD⟩ ⟨T, x', y', rfl, hT, rfl, fx, fy⟩
    refine ⟨T, _, rfl, SqT.of upd_same, rfl, _, _, rfl, _, _, rfl, rfl, hw _ _, ?_⟩
    simp only [tYes, if_true]
    have sT : Same H' (upd H' T (HO.tup [x', y'])) := same_upd hT
    exact he i x' y' _ _ fx fy (sm.trans sT) fun q H4 s4 nq e => Nw.step sm hD (by omega) dD (fun _ h => h) (sT.trans s4) (none_same sT nq) e
  · rintro H' ⟨sm, dD⟩
    exact hq D H' hD sm dD
/-- a table's rows -/
def Cl (H : Hp) (pc : Addr) (m n : Nat) (c : Nat → Nat → Int) : Prop := ∃ vs : List V, vs.length = m ∧ H pc = some (.lst vs) ∧ ∀ k, k < m → ∃ q, vs[k]? = some (.ref q) ∧ H q = some (.lst (ro n (c k)))
theorem Cl.same {H H' : Hp} {pc : Addr} {m n : Nat} {c : Nat → Nat → Int} (h : Cl H pc m n c) (s : Same H H') : Cl H' pc m n c := by
  obtain ⟨vs, hl, hp, h⟩ := h
  refine ⟨vs, hl, s _ _ hp, fun k hk => ?_⟩
  obtain ⟨q, e1, e2⟩ := h k hk
  exact ⟨q, e1, s _ _ e2⟩
theorem Cl.congr {H : Hp} {pc : Addr} {m n : Nat} {c d : Nat → Nat → Int} (h : Cl H pc m n c) (e : ∀ a b, a < m → b < n → c a b = d a b) : Cl H pc m n d := by
  obtain ⟨vs, hl, hp, h⟩ := h
  refine ⟨vs, hl, hp, fun k hk => ?_⟩
  obtain ⟨q, e1, e2⟩ := h k hk
  exact ⟨q, e1, by rw [← ro_congr fun b hb => e k b hk hb]; exact e2⟩
theorem Nw.cl {H : Hp} {D : Addr} {m n : Nat} {g : Nat → List V} {c : Nat → Nat → Int} (h : Nw H D m g) (e : ∀ k, k < m → g k = ro n (c k)) : Cl H D m n c := by
  obtain ⟨vs, hl, hp, h⟩ := h
  refine ⟨vs, hl, hp, fun k hk => ?_⟩
  obtain ⟨q, e1, _, e2⟩ := h k hk
  exact ⟨q, e1, by rw [← e k hk]; exact e2⟩
theorem Nw.same {H H' : Hp} {D : Addr} {m : Nat} {g : Nat → List V} (h : Nw H D m g) (s : Same H H') : Nw H' D m g := by
  obtain ⟨vs, hl, hp, h⟩ := h
  refine ⟨vs, hl, s _ _ hp, fun k hk => ?_⟩
  obtain ⟨q, e1, e2, e3⟩ := h k hk
  exact ⟨q, e1, e2, s _ _ e3⟩
/-! ### tables -/
def tbO (C dx pc : Addr) (w : Int) (ps ph : Addr) : HO := .ins C dx [("cells", .ref pc), ("whole", .int w), ("sides", .ref ps), ("heads", .ref ph)]
def IsTb (K : PySem.W.Frag) (H : Hp) (p : Addr) (n r : Nat) (c : Nat → Nat → Int) (w : Int) (mh ms : Nat → Int) : Prop := ∃ (dx pc ps ph : Addr), H p = some (tbO (He.ga K "Table") dx pc w ps ph) ∧ Cl H pc (r + 1) n c ∧ H ps = some (.lst (ro (r + 1) ms)) ∧ H ph = some (.lst (ro n mh))
theorem IsTb.same {K : PySem.W.Frag} {H H' : Hp} {p : Addr} {n r : Nat} {c : Nat → Nat → Int} {w : Int} {mh ms : Nat → Int} (h : IsTb K H p n r c w mh ms) (s : Same H H') : IsTb K H' p n r c w mh ms := by
  obtain ⟨dx, pc, ps, ph, h1, h2, h3, h4⟩ := h
  exact ⟨dx, pc, ps, ph, s _ _ h1, h2.same s, s _ _ h3, s _ _ h4⟩
theorem tbl_c {a b c d : V} : List.lookup ("cells" : Str) [("cells", a), ("whole", b), ("sides", c), ("heads", d)] = some a := rfl
theorem tbl_w {a b c d : V} : List.lookup ("whole" : Str) [("cells", a), ("whole", b), ("sides", c), ("heads", d)] = some b := rfl
theorem tbl_s {a b c d : V} : List.lookup ("sides" : Str) [("cells", a), ("whole", b), ("sides", c), ("heads", d)] = some c := rfl
theorem tbl_h {a b c d : V} : List.lookup ("heads" : Str) [("cells", a), ("whole", b), ("sides", c), ("heads", d)] = some d := rfl
def optV : Option Nat → V
  | none => .non
  | some k => .int k
def IsLeast (m : Nat) (mk : Nat → Int) (fit : Nat → Bool) : Option Nat → Prop
  | none => ∀ k, k < m → 0 ≤ mk k → fit k = false
  | some a => a < m ∧ 0 ≤ mk a ∧ fit a = true ∧ ∀ k, k < m → 0 ≤ mk k → fit k = true → mk a ≤ mk k
theorem IsLeast.stay {i : Nat} {mk : Nat → Int} {fit : Nat → Bool} {o : Option Nat} (h : IsLeast i mk fit o) (k : 0 ≤ mk i → fit i = true → ∃ a, o = some a ∧ mk a ≤ mk i) : IsLeast (i + 1) mk fit o := by
  cases o with
  | none =>
    intro j hj h0
    by_cases e : j = i
    · subst e
      cases f : fit j with
      | false => rfl
      | true =>
        obtain ⟨a, e, _⟩ := k h0 f
        cases e
    · exact h j (by omega) h0
  | some a =>
    obtain ⟨h1, h2, h3, h4⟩ := h
    refine ⟨by omega, h2, h3, fun j hj h0 hf => ?_⟩
    by_cases e : j = i
    · subst e
      obtain ⟨a', e, le⟩ := k h0 hf
      cases e
      exact le
    · exact h4 j (by omega) h0 hf
theorem IsLeast.take {i : Nat} {mk : Nat → Int} {fit : Nat → Bool} {o : Option Nat} (h : IsLeast i mk fit o) (h0 : 0 ≤ mk i) (hf : fit i = true) (lt : ∀ a, o = some a → mk i < mk a) : IsLeast (i + 1) mk fit (some i) := by
  refine ⟨by omega, h0, hf, fun j hj j0 jf => ?_⟩
  by_cases e : j = i
  · subst e
    exact Int.le_refl _
  · cases o with
    | none =>
      rw [h j (by omega) j0] at jf
      cases jf
    | some a =>
      have := h.2.2.2 j (by omega) j0 jf
      have := lt a rfl
      omega
section
variable {P : Program} {w : World} {K : PySem.W.Frag} {mg : Str → Option Value} {base : Heap} {fd : FuncData}
theorem Wd.g_ONE (W : Wd K mg) : ∃ t, mg "ONE" = some (.int (-1) t) := by
  obtain ⟨h0, X, G⟩ := W.X
  exact He.int_ok X G (W.c.fact 59 rfl)
theorem Wd.g_GOAL (W : Wd K mg) : ∃ t, mg "GOAL" = some (.int (-2) t) := by
  obtain ⟨h0, X, G⟩ := W.X
  exact He.int_ok X G (W.c.fact 60 rfl)
theorem Wd.g_FREE (W : Wd K mg) : ∃ t, mg "FREE" = some (.int (-3) t) := by
  obtain ⟨h0, X, G⟩ := W.X
  exact He.int_ok X G (W.c.fact 61 rfl)
def spTbI (K : PySem.W.Frag) : Sp := fun vs H Q _ => ∃ (z dx pc ps ph : Addr) (w : Int), vs = [.ref z, .ref pc, .int w, .ref ps, .ref ph] ∧ H z = some (.ins (He.ga K "Table") dx []) ∧ Q .non (upd H z (tbO (He.ga K "Table") dx pc w ps ph))
theorem scTableInit : FnScope ["self", "cells", "whole", "sides", "heads"] ["self", "cells", "whole", "sides", "heads"] d_Table_init.scope := ⟨rfl, rfl, rfl, by decide +kernel, rfl, by decide +kernel, by decide +kernel⟩
theorem ok_tbinit (W : Wd K mg) : ∃ fd, FnOk P w K mg base CX0 1 (He.ma K (He.ga K "Table") "__init__") fd ["self", "cells", "whole", "sides", "heads"] (spTbI K) ∧ Binds K fd ["self", "cells", "whole", "sides", "heads"] [] := by
  obtain ⟨fd, F⟩ := W.F_Table_init
  refine ⟨fd, F.ok scTableInit (fun vs H Q E h => ?_) (fun cdv A outer s H vs Q E hr h => ?_), FunD.bindsN F fun _ _ _ _ _ _ us hl => match us, hl with | [_, _, _, _, _], _ => rfl⟩
  · obtain ⟨z, dx, pc, ps, ph, w, rfl, _⟩ := h
    rfl
  · obtain ⟨z, dx, pc, ps, ph, w, rfl, hz, q⟩ := h

    refine ⟨_, PSs.nox (pss_cons (ps_fld (pv 0) (pv 1) rfl)
    (pss_cons (ps_fld (pv 0) (pv 2) rfl)
    (pss_cons (ps_fld (pv 0) (pv 3) rfl)
    (pss_one (ps_fld (pv 0) (pv 4) rfl))))), ?_⟩
    have ne : ∀ {a b : Str}, a ≠ b → ∀ (u v : V) l, putF b v ((a, u) :: l) = (a, u) :: putF b v l := fun {a b} h u v l => by
      show (if a = b then (a, v) :: l else (a, u) :: putF b v l) = _
      rw [if_neg h]
    have p1 : ∀ u : V, putF "cells" u [] = [(("cells" : Str), u)] := fun _ => rfl
    have p2 : ∀ u v : V, putF "whole" v [(("cells" : Str), u)] = [(("cells" : Str), u), ("whole", v)] := fun u v => by
      rw [ne (by decide +kernel)]
      rfl
    have p3 : ∀ u v x : V, putF "sides" x [(("cells" : Str), u), ("whole", v)] = [(("cells" : Str), u), ("whole", v), ("sides", x)] := fun u v x => by
      rw [ne (by decide +kernel), ne (by decide +kernel)]
      rfl
    have p4 : ∀ u v x y : V, putF "heads" y [(("cells" : Str), u), ("whole", v), ("sides", x)] = [(("cells" : Str), u), ("whole", v), ("sides", x), ("heads", y)] := fun u v x y => by
      rw [ne (by decide +kernel), ne (by decide +kernel), ne (by decide +kernel)]
      rfl
    simp -dsimp [tSeq, tAsg, tRet, tIfS, tIf, tTest, tVar, tCons, tNil, tC, tOp, tUn, rI, rI0, rU, tCB, tLst_A, tTup_A, gName, L2.start, CMul, CPow, CDiv, tDrop, tBM, tBM0, tNext, tPar, gSub, rSetL, rIxL, rIxT, tChain, tB, tNot, tNotV, tAnd, tOr, tAndV, tOrV, tFld, tCall, rIxLH, rIxTH, atI, ixN, upd_same, cxK, ex2, ex3, ex3b, rIs1, rIs2, rNe2, tyN, kb1, kb2, kb3, kb4, kb5, kb6, rEq, rNe, scal, tMake_S, tMakeK_S, tMakeN_S, sFld, hz, W.cls_Table, W.n_Table_cells, W.n_Table_whole, W.n_Table_sides, W.n_Table_heads, upd_upd, p1, p2, p3, p4]
    exact q

/-- a table is made -/
def MkTb (K : PySem.W.Frag) (H : Hp) (vs : List V) (Q : V → Hp → Prop) (E : XK) (_ : Lk (Q, E) := ⟨⟩) : Prop :=
  ∀ x dx, H x = none → H dx = none → dx ≠ x → spTbI K (.ref x :: vs) (upd (upd H dx (.own x)) x (.ins (He.ga K "Table") dx [])) (fun v H2 => v = .non ∧ Q (.ref x) H2) E
theorem tMake_Tb {E : XK} {t : TA} {σ : List (Option V)} {H : Hp} {Q : V → Hp → Prop} : tMake (He.ga K "Table") (spTbI K) [] E t σ H Q = t σ H fun vs H1 => MkTb K H1 vs Q E := by
  show (t σ H fun vs H1 => MkTb K H1 (vs ++ []) Q E) = _
  simp only [List.append_nil]
theorem MkTb.of {H : Hp} {vs : List V} {Q : V → Hp → Prop} {E : XK} {pc ps ph : Addr} {n r : Nat} {c : Nat → Nat → Int} {w : Int} {mh ms : Nat → Int} (e : vs = [.ref pc, .int w, .ref ps, .ref ph]) (hc : Cl H pc (r + 1) n c) (hs : H ps = some (.lst (ro (r + 1) ms))) (hh : H ph = some (.lst (ro n mh)))
    (h : ∀ z H', Same H H' → IsTb K H' z n r c w mh ms → Q (.ref z) H') : MkTb K H vs Q E := by
  intro x dx nx nd ne
  have s0 : Same H (upd (upd H dx (.own x)) x (.ins (He.ga K "Table") dx [])) := by
    intro c o ec
    rw [upd_ne (ne_of_none ec nx), upd_ne (ne_of_none ec nd)]
    exact ec
  have s1 : Same H (upd (upd (upd H dx (.own x)) x (.ins (He.ga K "Table") dx [])) x (tbO (He.ga K "Table") dx pc w ps ph)) := by
    intro c o ec
    rw [upd_ne (ne_of_none ec nx)]
    exact s0 _ _ ec
  exact ⟨x, dx, pc, ps, ph, w, by rw [e], upd_same, rfl, h x _ s1 ⟨dx, pc, ps, ph, upd_same, hc.same s1, s1 _ _ hs, s1 _ _ hh⟩⟩
def spLeast (K : PySem.W.Frag) : Sp := fun vs H Q _ => ∃ (a b : Addr) (m : Nat) (mk : Nat → Int) (fit : Nat → Bool), vs = [.ref a, .ref b] ∧ H a = some (.lst (ro m mk)) ∧ H b = some (.lst (vl m fun k => .bl (fit k))) ∧ m < 1000 ∧ ∀ o H', Same H H' → IsLeast m mk fit o → Q (optV o) H'
theorem scLeastMark : FnScope ["marks", "fits", "best", "at", "mark"] ["marks", "fits"] d_least_mark.scope := ⟨rfl, rfl, rfl, by decide +kernel, rfl, by decide +kernel, by decide +kernel⟩
theorem ok_least_mark (W : Wd K mg) : ∃ fd, FnOk P w K mg base CX0 1 (He.ga K "least_mark") fd ["marks", "fits"] (spLeast K) ∧ Binds K fd ["marks", "fits"] [] := by
  obtain ⟨fd, F⟩ := W.F_least_mark
  refine ⟨fd, F.ok scLeastMark (fun vs H Q E h => ?_) (fun cdv A outer s H vs Q E hr h => ?_), FunD.bindsN F fun _ _ _ _ _ _ us hl => match us, hl with | [_, _], _ => rfl⟩
  · obtain ⟨a, b, _, _, _, rfl, _⟩ := h
    rfl
  · obtain ⟨a, b, m, mk, fit, rfl, ha, hb, hm, k⟩ := h

    refine ⟨_, PSs.nox (pss_cons (ps_set (i := 2) scLeastMark.nd rfl (Or.inl rfl) pe_non)
    (pss_cons (ps_for PassesOwn.never rfl (pi_enum rfl W.f_enumerate (pa_cons (pv 0) pa_nil)) (pg_tup rfl (pgs_cons (pg_name (i := 3) scLeastMark.nd rfl (Or.inl rfl)) (pgs_cons (pg_name (i := 4) scLeastMark.nd rfl (Or.inl rfl)) pgs_nil))) (pss_one (ps_if (PW.pt (pw_and (pt_cmpR op_ge (pv 4) pe_int (nomark _)) (pw_and (pt_val (pe_ix ix_lstH (pv 1) (pv 3) (fun _ _ => rfl))) (pw_and1 (PW.pt (pw_or (pt_cmpR op_isN (pv 2) pe_non (nomark _)) (pw_or1 (pt_cmpR op_lt (pv 4) (pe_ix ix_lstH (pv 0) (pv 2) (fun _ _ => rfl)) (nomark _))))))))) (pss_one (ps_set (i := 2) scLeastMark.nd rfl (Or.inl rfl) (pv 3))) pss_nil)))
    (pss_one (ps_ret (pv 2))))), ?_⟩
    simp -dsimp [tSeq, tAsg, tRet, tIfS, tIf, tTest, tVar, tCons, tNil, tC, tOp, tUn, rI, rI0, rU, tCB, tLst_A, tTup_A, gName, L2.start, CMul, CPow, CDiv, tDrop, tBM, tBM0, tNext, tPar, gSub, rSetL, rIxL, rIxT, tChain, tB, tNot, tNotV, tAnd, tOr, tAndV, tOrV, tFld, tCall, rIxLH, rIxTH, atI, ixN, upd_same, cxK, ex2, ex3, ex3b, rIs1, rIs2, rNe2, tyN, kb1, kb2, kb3, kb4, kb5, kb6, rEq, rNe, scal, tMake_S, tMakeK_S, tMakeN_S, tFor_iE]
    refine ⟨⟨_, SqL.of ha⟩, ?_⟩
    unfold ForE
    refine for_it (walk_enum (K := K) (a := a) (xs := ro m mk)) (fun i σ' G => ∃ (w3 w4 : Option V) (o : Option Nat), σ' = [some (.ref a), some (.ref b), some (optV o), w3, w4] ∧ Same H G ∧ IsLeast i mk fit o) ⟨_, _, none, rfl, Same.refl _, fun k hk => absurd hk (by omega)⟩ (fun i σ' G _ h => ?_) ?_ ?_
    · obtain ⟨_, _, _, _, s, _⟩ := h
      exact SqL.of (s _ _ ha)
    · rintro i x σ' G G' hi ⟨w3, w4, o, rfl, sG, hl⟩ ⟨T, u, y, rfl, nT, rfl, eu, ey⟩
      obtain ⟨hi', ey⟩ := vl_at ey
      subst ey
      cases eu
      have sT : Same G (upd G T (HO.tup [V.int i, V.int (mk i)])) := same_upd nT
      have ha' := sT _ _ (sG _ _ ha)
      have hb' := sT _ _ (sG _ _ hb)
      have fi := ixK (vl_get (g := fun k => V.bl (fit k)) hi')
      refine tup2n upd_same ?_
      cases o with
      | none =>
        simp -dsimp [tSeq, tAsg, tRet, tIfS, tIf, tTest, tVar, tCons, tNil, tC, tOp, tUn, rI, rI0, rU, tCB, tLst_A, tTup_A, gName, L2.start, CMul, CPow, CDiv, tDrop, tBM, tBM0, tNext, tPar, gSub, rSetL, rIxL, rIxT, tChain, tB, tNot, tNotV, tAnd, tOr, tAndV, tOrV, tFld, tCall, rIxLH, rIxTH, atI, ixN, upd_same, cxK, ex2, ex3, ex3b, rIs1, rIs2, rNe2, tyN, kb1, kb2, kb3, kb4, kb5, kb6, rEq, rNe, scal, tMake_S, tMakeK_S, tMakeN_S, optV, hb', fi]
        have sk : IsLeast (i + 1) mk fit none → ∃ w3 w4 o, ((V.non = match o with | none => V.non | some k => V.int ↑k) ∧ some (V.int ↑i) = w3 ∧ some (V.int (mk i)) = w4) ∧ Same H (upd G T (HO.tup [V.int ↑i, V.int (mk i)])) ∧ IsLeast (i + 1) mk fit o := fun h => ⟨_, _, none, ⟨rfl, rfl, rfl⟩, sG.trans sT, h⟩
        split
        · rename_i h0
          cases f : fit i with
          | false => exact .inl ⟨rfl, sk (hl.stay fun _ h => by rw [f] at h; cases h)⟩
          | true => exact .inr ⟨rfl, _, _, some i, ⟨rfl, rfl, rfl⟩, sG.trans sT, hl.take h0 f fun a e => by cases e⟩
        · rename_i h0
          exact sk (hl.stay fun h => absurd h h0)
      | some at' =>
        have fo := ixK (vl_get (g := fun k => V.int (mk k)) (show at' < m by have := hl.1; omega))
        simp -dsimp [tSeq, tAsg, tRet, tIfS, tIf, tTest, tVar, tCons, tNil, tC, tOp, tUn, rI, rI0, rU, tCB, tLst_A, tTup_A, gName, L2.start, CMul, CPow, CDiv, tDrop, tBM, tBM0, tNext, tPar, gSub, rSetL, rIxL, rIxT, tChain, tB, tNot, tNotV, tAnd, tOr, tAndV, tOrV, tFld, tCall, rIxLH, rIxTH, atI, ixN, upd_same, cxK, ex2, ex3, ex3b, rIs1, rIs2, rNe2, tyN, kb1, kb2, kb3, kb4, kb5, kb6, rEq, rNe, scal, tMake_S, tMakeK_S, tMakeN_S, optV, hb', ha', fi, fo]
        have sk : IsLeast (i + 1) mk fit (some at') → ∃ w3 w4 o, ((V.int ↑at' = match o with | none => V.non | some k => V.int ↑k) ∧ some (V.int ↑i) = w3 ∧ some (V.int (mk i)) = w4) ∧ Same H (upd G T (HO.tup [V.int ↑i, V.int (mk i)])) ∧ IsLeast (i + 1) mk fit o := fun h => ⟨_, _, some at', ⟨rfl, rfl, rfl⟩, sG.trans sT, h⟩
        split
        · rename_i h0
          cases f : fit i with
          | false => exact .inl ⟨rfl, sk (hl.stay fun _ h => by rw [f] at h; cases h)⟩
          | true =>
            refine .inr ⟨rfl, ?_⟩
            split
            · rename_i lt
              exact ⟨_, _, some i, ⟨rfl, rfl, rfl⟩, sG.trans sT, hl.take h0 f fun a e => by cases e; exact lt⟩
            · rename_i lt
              exact sk (hl.stay fun _ _ => ⟨at', rfl, by omega⟩)
        · rename_i h0
          exact sk (hl.stay fun h => absurd h h0)
    · rintro σ' G ⟨w3, w4, o, rfl, sG, hl⟩
      rw [vl_len] at hl
      simp -dsimp [tSeq, tAsg, tRet, tIfS, tIf, tTest, tVar, tCons, tNil, tC, tOp, tUn, rI, rI0, rU, tCB, tLst_A, tTup_A, gName, L2.start, CMul, CPow, CDiv, tDrop, tBM, tBM0, tNext, tPar, gSub, rSetL, rIxL, rIxT, tChain, tB, tNot, tNotV, tAnd, tOr, tAndV, tOrV, tFld, tCall, rIxLH, rIxTH, atI, ixN, upd_same, cxK, ex2, ex3, ex3b, rIs1, rIs2, rNe2, tyN, kb1, kb2, kb3, kb4, kb5, kb6, rEq, rNe, scal, tMake_S, tMakeK_S, tMakeN_S]
      exact k o G sG hl

end
section
variable {P : Program} {w : World} {K : PySem.W.Frag} {mg : Str → Option Value} {base : Heap} {fd : FuncData}
def sgn (x : Int) : Int := if 0 < x then 1 else -1
theorem sgn_or (x : Int) : sgn x = 1 ∨ sgn x = -1 := by
  unfold sgn
  split
  · exact .inl rfl
  · exact .inr rfl
theorem sgn_pos {x : Int} (h : x ≠ 0) : 0 < sgn x * x := by
  unfold sgn
  split <;> omega
theorem sgn_abs (x y : Int) : (sgn x * y).natAbs = y.natAbs := by
  rcases sgn_or x with e | e <;> rw [e] <;> omega
theorem sgn_M (x : Int) : (sgn x).natAbs < bigM := by
  have e : (sgn x).natAbs = 1 := by rcases sgn_or x with e | e <;> rw [e] <;> rfl
  rw [e]
  exact h_lt_M (h_of (by decide))
theorem h_lt_9 {n : Nat} (h : n < bigH) : n < big9 := by
  have : bigH * 1 ≤ bigH * bigH := Nat.mul_le_mul_left _ (by unfold bigH; exact Nat.one_le_two_pow)
  have e : 2 * (bigH * bigH) = big9 := by
    unfold bigH big9
    rw [← Nat.pow_add, ← Nat.pow_succ']
  omega
def spTurned (K : PySem.W.Frag) : Sp := fun vs H Q _ => ∃ (p : Addr) (i j n r : Nat) (c : Nat → Nat → Int) (wh : Int) (mh ms : Nat → Int), vs = [.ref p, .int i, .int j] ∧ IsTb K H p n r c wh mh ms ∧ i ≤ r ∧ j < n ∧ n < 1000 ∧ r + 1 < 1000 ∧ 0 < wh ∧ c i j ≠ 0 ∧ wh.natAbs < bigH ∧ (∀ a b, a ≤ r → b < n → (c a b).natAbs < bigH) ∧
  ∀ z H', Same H H' → IsTb K H' z n r (TB.turnC c wh (sgn (c i j)) i j) (sgn (c i j) * c i j) (TB.upm mh j (ms i)) (TB.upm ms i (mh j)) → Q (.ref z) H'
theorem scTurned : FnScope ["table", "i", "j", "sign", "turn", "made", "at", "row", "moved", "sides", "heads", "cell", "other"] ["table", "i", "j"] d_turned.scope := ⟨rfl, rfl, rfl, by decide +kernel, rfl, by decide +kernel, by decide +kernel⟩
theorem ok_turned (W : Wd K mg) : ∃ fd, FnOk P w K mg base CX0 3 (He.ga K "turned") fd ["table", "i", "j"] (spTurned K) ∧ Binds K fd ["table", "i", "j"] [] := by
  obtain ⟨fd_tbinit, G_tbinit, b_tbinit⟩ := ok_tbinit (P := P) (w := w) (base := base) W
  obtain ⟨fd, F⟩ := W.F_turned
  refine ⟨fd, F.ok scTurned (fun vs H Q E h => ?_) (fun cdv A outer s H vs Q E hr h => ?_), FunD.bindsN F fun _ _ _ _ _ _ us hl => match us, hl with | [_, _, _], _ => rfl⟩
  · obtain ⟨p, i, j, _, _, _, _, _, _, rfl, _⟩ := h
    rfl
  · obtain ⟨p, i, j, n, r, c, wh, mh, ms, rfl, ⟨dx, pc, ps, ph, hp, hc, hs, hh⟩, hi, hj, hn, hr1, w0, cz, hw, hZ, q⟩ := h
    have r1 : Room 1 _ := hr.mono (by decide)
    have r2 : Room 2 _ := hr.mono (by decide)
    refine ⟨_, PSs.nox (C8.pss_cut (ps_set (i := 3) scTurned.nd rfl (Or.inr rfl) (pe_ifExp (pt_cmpR op_gt (pe_ix ix_lstH (pe_ix ix_lstH (pe_fld (pv 0) rfl) (pv 1) (fun _ _ => rfl)) (pv 2) (fun _ _ => rfl)) pe_int (nomark _)) pe_int (pe_un un_neg pe_int)))
    (C8.pss_cut (ps_set (i := 4) scTurned.nd rfl (Or.inr rfl) (pe_lc (own := [("cell", 11)]) (g := gName 11) (tt := tYes) rfl scTurned.nd (pi_list (pe_ix ix_lstH (pe_fld (pv 0) rfl) (pv 1) (fun _ _ => rfl))) (blkOk_by (N := ["table", "i", "j", "sign", "turn", "made", "at", "row", "moved", "sides", "heads", "cell", "other"]) (sc := defScope s_turned) (by decide +kernel))
            (fun _ _ _ _ _ => (pg_name (i := 11) scTurned.nd rfl (Or.inl rfl))) (fun _ _ _ _ _ => pts_nil)
            (fun _ _ _ _ _ => (pe_op op_mulX9 (pv 3) (pv 11)))))
    (C8.pss_cut (ps_set (i := 5) scTurned.nd rfl (Or.inl rfl) (pe_lst pa_nil))
    (C8.pss_cut (ps_for PassesOwn.never rfl (pi_enum rfl W.f_enumerate (pa_cons (pe_fld (pv 0) rfl) pa_nil)) (pg_tup rfl (pgs_cons (pg_name (i := 6) scTurned.nd rfl (Or.inl rfl)) (pgs_cons (pg_name (i := 7) scTurned.nd rfl (Or.inr rfl)) pgs_nil))) (pss_cons (ps_if (pt_cmpR op_eq (pv 6) (pv 1) (nomark _)) (pss_cons (ps_setLc (i := 8) (own := [("cell", 11)]) (g := gName 11) (tt := tYes) (by rfl) scTurned.nd rfl rfl (sw_true rfl rfl rfl (by decide +kernel)) (pi_list (pv 4)) (blkOk_by (N := ["table", "i", "j", "sign", "turn", "made", "at", "row", "moved", "sides", "heads", "cell", "other"]) (sc := defScope s_turned) (by decide +kernel))
            (fun _ _ _ _ _ => (pg_name (i := 11) scTurned.nd rfl (Or.inl rfl))) (fun _ _ _ _ _ => pts_nil)
            (fun _ _ _ _ _ => (pe_un un_neg (pv 11))))
    (pss_one (ps_asg (pe_op op_mulX9 (pv 3) (pe_fld (pv 0) rfl)) (pg_sub (pv 8) (pv 2) set_list)))) (pss_cons (ps_setLc (i := 8) (own := [("cell", 11), ("other", 12)]) (g := gTup K 2 (gCons (gName 11) (gCons (gName 12) gNil))) (tt := tYes) (by rfl) scTurned.nd rfl rfl (sw_true rfl rfl rfl (by decide +kernel)) (RZ.pi_zipA (by rfl) W.f_zip (pa_cons (pv 7) (pa_cons (pv 4) pa_nil))) (blkOk_by (N := ["table", "i", "j", "sign", "turn", "made", "at", "row", "moved", "sides", "heads", "cell", "other"]) (sc := defScope s_turned) (by decide +kernel))
            (fun _ _ _ _ _ => (pg_tup rfl (pgs_cons (pg_name (i := 11) scTurned.nd rfl (Or.inl rfl)) (pgs_cons (pg_name (i := 12) scTurned.nd rfl (Or.inl rfl)) pgs_nil)))) (fun _ _ _ _ _ => pts_nil)
            (fun _ _ _ _ _ => (pe_op op_fdivX (pe_op op_sub (pe_op op_mulX9 (pe_ix ix_lstH (pv 4) (pv 2) (fun _ _ => rfl)) (pv 11)) (pe_op op_mulX9 (pe_ix ix_lstH (pv 7) (pv 2) (fun _ _ => rfl)) (pv 12))) (show PE _ _ (tFld K (tVar 0) "whole") from pe_fld (pv 0) rfl))))
    (pss_one (ps_asg (pe_op op_mulX9 (pv 3) (pe_ix ix_lstH (pv 7) (pv 2) (fun _ _ => rfl))) (pg_sub (pv 8) (pv 2) set_list)))))
    (pss_one (ps_expr (pe_bm PySem.F.plainAttrs_list PySem.F.slot_list_append PySem.F.type_list_append mt_append (pv 5) (pa_cons (pv 8) pa_nil))))))
    (pss_cons (ps_set (i := 9) scTurned.nd rfl (Or.inl rfl) (pe_callTy call_list_of (by rfl) W.f_list (by decide +kernel) (pa_cons (pe_fld (pv 0) rfl) pa_nil)))
    (pss_cons (ps_set (i := 10) scTurned.nd rfl (Or.inl rfl) (pe_callTy call_list_of (by rfl) W.f_list (by decide +kernel) (pa_cons (pe_fld (pv 0) rfl) pa_nil)))
    (pss_cons (ps_asg (pe_tup (pa_cons (pe_ix ix_lstH (pe_fld (pv 0) rfl) (pv 2) (fun _ _ => rfl)) (pa_cons (pe_ix ix_lstH (pe_fld (pv 0) rfl) (pv 1) (fun _ _ => rfl)) pa_nil))) (pg_tup rfl (pgs_cons (pg_sub (pv 9) (pv 1) set_list) (pgs_cons (pg_sub (pv 10) (pv 2) set_list) pgs_nil))))
    (pss_one (ps_ret (pe_make W.mkr_Table G_tbinit r2 rfl W.g_Table b_tbinit .nil pass0 (pa_cons (pv 5) (pa_cons (pe_ix ix_lstH (pv 4) (pv 2) (fun _ _ => rfl)) (pa_cons (pv 9) (pa_cons (pv 10) pa_nil)))))))))))))), ?_⟩
    obtain ⟨vs, hvl, hpc, hrow⟩ := hc
    obtain ⟨qi, ei, hqi⟩ := hrow i (by omega)
    refine ⟨fun σ' H' => σ' = [some (.ref p), some (.int i), some (.int j), some (.int (sgn (c i j))), none, none, none, none, none, none, none, none, none] ∧ H' = H, ?_, ?_⟩
    · have e1 := ixK ei
      rw [hvl] at e1
      have e2 := ixK (vl_get (g := fun b => V.int (c i b)) hj)
      simp -dsimp [tSeq, tAsg, tRet, tIfS, tIf, tTest, tVar, tCons, tNil, tC, tOp, tUn, rI, rI0, rU, tCB, tLst_A, tTup_A, gName, L2.start, CMul, CPow, CDiv, tDrop, tBM, tBM0, tNext, tPar, gSub, rSetL, rIxL, rIxT, tChain, tB, tNot, tNotV, tAnd, tOr, tAndV, tOrV, tFld, tCall, rIxLH, rIxTH, atI, ixN, upd_same, cxK, ex2, ex3, ex3b, rIs1, rIs2, rNe2, tyN, kb1, kb2, kb3, kb4, kb5, kb6, rEq, rNe, scal, tMake_S, tMakeK_S, tMakeN_S, hp, hpc, hqi, e1, e2, tbO, W.cls_Table, W.n_Table_cells, W.n_Table_whole, W.n_Table_sides, W.n_Table_heads, tbl_c, tbl_w, tbl_s, tbl_h, hvl]
      unfold sgn
      split
      · rfl
      · rfl
    rintro σ' H' ⟨rfl, rfl⟩
    have e1 := ixK ei
    refine ⟨fun σ' H1 => ∃ A1 : Addr, σ' = [some (.ref p), some (.int i), some (.int j), some (.int (sgn (c i j))), some (.ref A1), none, none, none, none, none, none, none, none] ∧ Same H' H1 ∧ H1 A1 = some (.lst (ro n fun b => sgn (c i j) * c i b)), ?_, ?_⟩
    · simp -dsimp [tSeq, tAsg, tRet, tIfS, tIf, tTest, tVar, tCons, tNil, tC, tOp, tUn, rI, rI0, rU, tCB, tLst_A, tTup_A, gName, L2.start, CMul, CPow, CDiv, tDrop, tBM, tBM0, tNext, tPar, gSub, rSetL, rIxL, rIxT, tChain, tB, tNot, tNotV, tAnd, tOr, tAndV, tOrV, tFld, tCall, rIxLH, rIxTH, atI, ixN, upd_same, cxK, ex2, ex3, ex3b, rIs1, rIs2, rNe2, tyN, kb1, kb2, kb3, kb4, kb5, kb6, rEq, rNe, scal, tMake_S, tMakeK_S, tMakeN_S, tAsg]
      refine lc_vl (K := K) qi _ (fun b => .int (sgn (c i j) * c i b)) (by rw [vl_len]; exact hn) (fun _ => rfl) hqi (fun R h => ?_) (fun b x H1 R hx s1 k1 => ?_) (fun A1 H1 n1 s1 h1 => ?_)
      · simp -dsimp [tSeq, tAsg, tRet, tIfS, tIf, tTest, tVar, tCons, tNil, tC, tOp, tUn, rI, rI0, rU, tCB, tLst_A, tTup_A, gName, L2.start, CMul, CPow, CDiv, tDrop, tBM, tBM0, tNext, tPar, gSub, rSetL, rIxL, rIxT, tChain, tB, tNot, tNotV, tAnd, tOr, tAndV, tOrV, tFld, tCall, rIxLH, rIxTH, atI, ixN, upd_same, cxK, ex2, ex3, ex3b, rIs1, rIs2, rNe2, tyN, kb1, kb2, kb3, kb4, kb5, kb6, rEq, rNe, scal, tMake_S, tMakeK_S, tMakeN_S, hp, hpc, e1, tbO, W.cls_Table, W.n_Table_cells, W.n_Table_whole, W.n_Table_sides, W.n_Table_heads, tbl_c, tbl_w, tbl_s, tbl_h]
        exact h
      · obtain ⟨hb, hx⟩ := vl_at hx
        subst hx
        simp -dsimp [tSeq, tAsg, tRet, tIfS, tIf, tTest, tVar, tCons, tNil, tC, tOp, tUn, rI, rI0, rU, tCB, tLst_A, tTup_A, gName, L2.start, CMul, CPow, CDiv, tDrop, tBM, tBM0, tNext, tPar, gSub, rSetL, rIxL, rIxT, tChain, tB, tNot, tNotV, tAnd, tOr, tAndV, tOrV, tFld, tCall, rIxLH, rIxTH, atI, ixN, upd_same, cxK, ex2, ex3, ex3b, rIs1, rIs2, rNe2, tyN, kb1, kb2, kb3, kb4, kb5, kb6, rEq, rNe, scal, tMake_S, tMakeK_S, tMakeN_S, wipe]
        exact ⟨⟨sgn_M _, h_lt_M (hZ i b hi hb)⟩, k1 _ (Same.refl _)⟩
      · rw [vl_len] at h1
        exact ⟨A1, rfl, s1, h1⟩
    rintro σ' H1 ⟨A1, rfl, s1, h1⟩
    have h1' := h1
    have ne1 : ∀ {q : Addr} {o : HO}, H1 q = some o → ∀ M, H1 M = none → M ≠ q := fun h M hM e => by rw [e, h] at hM; cases hM
    refine ⟨fun σ' H2 => ∃ M : Addr, σ' = [some (.ref p), some (.int i), some (.int j), some (.int (sgn (c i j))), some (.ref A1), some (.ref M), none, none, none, none, none, none, none] ∧ Same H1 H2 ∧ H1 M = none ∧ H2 M = some (.lst []), ?_, ?_⟩
    · simp -dsimp [tSeq, tAsg, tRet, tIfS, tIf, tTest, tVar, tCons, tNil, tC, tOp, tUn, rI, rI0, rU, tCB, tLst_A, tTup_A, gName, L2.start, CMul, CPow, CDiv, tDrop, tBM, tBM0, tNext, tPar, gSub, rSetL, rIxL, rIxT, tChain, tB, tNot, tNotV, tAnd, tOr, tAndV, tOrV, tFld, tCall, rIxLH, rIxTH, atI, ixN, upd_same, cxK, ex2, ex3, ex3b, rIs1, rIs2, rNe2, tyN, kb1, kb2, kb3, kb4, kb5, kb6, rEq, rNe, scal, tMake_S, tMakeK_S, tMakeN_S]
      exact Alloc.of fun M H2 n2 e2 s2 => ⟨M, rfl, s2, n2, e2⟩
    rintro σ' H2 ⟨M, rfl, s2, nM, e2⟩
    have M1 := ne1 h1 M nM
    refine ⟨fun σ' G => ∃ (w6 w7 w8 w11 w12 : Option V), σ' = [some (.ref p), some (.int i), some (.int j), some (.int (sgn (c i j))), some (.ref A1), some (.ref M), w6, w7, w8, none, none, w11, w12] ∧ Same H1 G ∧ Nw G M (r + 1) (fun k => ro n (TB.turnC c wh (sgn (c i j)) i j k)), ?_, ?_⟩
    · simp -dsimp [tSeq, tAsg, tRet, tIfS, tIf, tTest, tVar, tCons, tNil, tC, tOp, tUn, rI, rI0, rU, tCB, tLst_A, tTup_A, gName, L2.start, CMul, CPow, CDiv, tDrop, tBM, tBM0, tNext, tPar, gSub, rSetL, rIxL, rIxT, tChain, tB, tNot, tNotV, tAnd, tOr, tAndV, tOrV, tFld, tCall, rIxLH, rIxTH, atI, ixN, upd_same, cxK, ex2, ex3, ex3b, rIs1, rIs2, rNe2, tyN, kb1, kb2, kb3, kb4, kb5, kb6, rEq, rNe, scal, tMake_S, tMakeK_S, tMakeN_S, tFor_iE, (s1.trans s2) _ _ hp, tbO, W.cls_Table, W.n_Table_cells, W.n_Table_whole, W.n_Table_sides, W.n_Table_heads, tbl_c, tbl_w, tbl_s, tbl_h]
      refine ⟨⟨_, SqL.of ((s1.trans s2) _ _ hpc)⟩, ?_⟩
      unfold ForE
      refine for_it (walk_enum (K := K) (a := pc) (xs := vs)) (fun k σ' G => ∃ (w6 w7 w8 w11 w12 : Option V), σ' = [some (.ref p), some (.int i), some (.int j), some (.int (sgn (c i j))), some (.ref A1), some (.ref M), w6, w7, w8, none, none, w11, w12] ∧ Same H1 G ∧ Nw G M k (fun k => ro n (TB.turnC c wh (sgn (c i j)) i j k))) ⟨_, _, _, _, _, rfl, s2, [], rfl, e2, fun k hk => absurd hk (by omega)⟩ (fun k σ' G _ h => ?_) ?_ ?_
      · obtain ⟨_, _, _, _, _, _, s, _⟩ := h
        exact SqL.of ((s1.trans s) _ _ hpc)
      · rintro k x σ' G G' hk ⟨w6, w7, w8, w11, w12, rfl, sG, nw⟩ ⟨T, u, y, rfl, nT, rfl, eu, ey⟩
        obtain ⟨qk, ek, hqk⟩ := hrow k (by omega)
        have ey : vs[k]? = some y := ey
        rw [ek] at ey
        cases ey
        cases eu
        refine tup2n upd_same ?_
        have sT : Same G (upd G T (HO.tup [V.int k, V.ref qk])) := same_upd nT
        have sA := (s1.trans sG).trans sT
        have hA1 := (sG.trans sT) _ _ h1
        have hp' := sA _ _ hp
        have hqk' := sA _ _ hqk
        have ej := ixK (vl_get (g := fun b => V.int (sgn (c i j) * c i b)) hj)
        have ekj := ixK (vl_get (g := fun b => V.int (c k b)) hj)
        simp -dsimp [tSeq, tAsg, tRet, tIfS, tIf, tTest, tVar, tCons, tNil, tC, tOp, tUn, rI, rI0, rU, tCB, tLst_A, tTup_A, gName, L2.start, CMul, CPow, CDiv, tDrop, tBM, tBM0, tNext, tPar, gSub, rSetL, rIxL, rIxT, tChain, tB, tNot, tNotV, tAnd, tOr, tAndV, tOrV, tFld, tCall, rIxLH, rIxTH, atI, ixN, upd_same, cxK, ex2, ex3, ex3b, rIs1, rIs2, rNe2, tyN, kb1, kb2, kb3, kb4, kb5, kb6, rEq, rNe, scal, tMake_S, tMakeK_S, tMakeN_S, hp', tbO, W.cls_Table, W.n_Table_cells, W.n_Table_whole, W.n_Table_sides, W.n_Table_heads, tbl_c, tbl_w, tbl_s, tbl_h, hA1, ej, hqk', ekj]
        split
        · rename_i hki
          obtain rfl : k = i := by omega
          refine lc_vl (K := K) A1 _ (fun b => .int (-(sgn (c k j) * c k b))) (by rw [vl_len]; exact hn) (fun _ => rfl) hA1 (fun R h => ⟨_, rfl, h⟩) (fun b x H3 R hx s3 k3 => ?_) (fun D H3 nD s3 h3 => ?_)
          · obtain ⟨hb, hx⟩ := vl_at hx
            subst hx
            simp -dsimp [tSeq, tAsg, tRet, tIfS, tIf, tTest, tVar, tCons, tNil, tC, tOp, tUn, rI, rI0, rU, tCB, tLst_A, tTup_A, gName, L2.start, CMul, CPow, CDiv, tDrop, tBM, tBM0, tNext, tPar, gSub, rSetL, rIxL, rIxT, tChain, tB, tNot, tNotV, tAnd, tOr, tAndV, tOrV, tFld, tCall, rIxLH, rIxTH, atI, ixN, upd_same, cxK, ex2, ex3, ex3b, rIs1, rIs2, rNe2, tyN, kb1, kb2, kb3, kb4, kb5, kb6, rEq, rNe, scal, tMake_S, tMakeK_S, tMakeN_S, wipe]
            exact k3 _ (Same.refl _)
          · rw [vl_len] at h3
            have nD := none_same sT nD
            obtain ⟨acc, ea, la, hR⟩ := Nw.step (R := fun H2 => Same H1 H2 ∧ Nw H2 M (k + 1) (fun k' => ro n (TB.turnC c wh (sgn (c k j)) k j k'))) (H4 := upd H3 D (HO.lst ((vl n fun b => V.int (-(sgn (c k j) * c k b))).set j (V.int (sgn (c k j) * wh))))) sG nM (by omega) nw (fun _ h => h) (Same.updF (sT.trans s3) nD) nD (by
              rw [upd_same, ro_set hj]
              refine congrArg (fun l => some (HO.lst l)) (ro_congr fun b hb => ?_)
              unfold TB.turnC TB.upm
              rw [if_pos rfl])
            exact ⟨_, _, _, s3 _ _ hp', W.cls_Table, W.n_Table_whole, _, tbl_w, wh, rfl, ⟨sgn_M _, h_lt_M hw⟩, D, rfl, _, h3, j, ⟨by rw [vl_len]; exact hj, rfl⟩, .inl ⟨rfl, _, SqL.of ea⟩, M, acc, _, rfl, rfl, ea, la, hR⟩
        · rename_i hki
          refine lc_vlZ (K := K) qk A1 _ _ (fun b => .int (((sgn (c i j) * c i j) * c k b - c k j * (sgn (c i j) * c i b)).fdiv wh)) (by rw [vl_len, vl_len]) (by rw [vl_len]; exact hn) (fun _ _ => rfl) hqk' hA1 (fun R h => ⟨_, rfl, _, rfl, h⟩) (fun b x y H3 R hx hy s3 k3 => ?_) (fun D H3 nD s3 h3 => ?_)
          · obtain ⟨hb, hx⟩ := vl_at hx
            obtain ⟨_, hy⟩ := vl_at hy
            subst hx hy
            simp -dsimp [tSeq, tAsg, tRet, tIfS, tIf, tTest, tVar, tCons, tNil, tC, tOp, tUn, rI, rI0, rU, tCB, tLst_A, tTup_A, gName, L2.start, CMul, CPow, CDiv, tDrop, tBM, tBM0, tNext, tPar, gSub, rSetL, rIxL, rIxT, tChain, tB, tNot, tNotV, tAnd, tOr, tAndV, tOrV, tFld, tCall, rIxLH, rIxTH, atI, ixN, upd_same, cxK, ex2, ex3, ex3b, rIs1, rIs2, rNe2, tyN, kb1, kb2, kb3, kb4, kb5, kb6, rEq, rNe, scal, tMake_S, tMakeK_S, tMakeN_S, wipe, s3 _ _ hA1, s3 _ _ hqk', s3 _ _ hp', ej, ekj, tbO, W.cls_Table, W.n_Table_cells, W.n_Table_whole, W.n_Table_sides, W.n_Table_heads, tbl_c, tbl_w, tbl_s, tbl_h]
            exact ⟨⟨by rw [sgn_abs]; exact h_lt_M (hZ i j hi hj), h_lt_M (hZ k b (by omega) hb)⟩, ⟨h_lt_M (hZ k j (by omega) hj), by rw [sgn_abs]; exact h_lt_M (hZ i b hi hb)⟩, ⟨by omega, h_lt_9 hw⟩, k3 _ (Same.refl _)⟩
          · rw [vl_len] at h3
            have nD := none_same sT nD
            obtain ⟨acc, ea, la, hR⟩ := Nw.step (R := fun H2 => Same H1 H2 ∧ Nw H2 M (k + 1) (fun k' => ro n (TB.turnC c wh (sgn (c i j)) i j k'))) (H4 := upd H3 D (HO.lst ((vl n fun b => V.int (((sgn (c i j) * c i j) * c k b - c k j * (sgn (c i j) * c i b)).fdiv wh)).set j (V.int (sgn (c i j) * c k j))))) sG nM (by omega) nw (fun _ h => h) (Same.updF (sT.trans s3) nD) nD (by
              rw [upd_same, ro_set hj]
              refine congrArg (fun l => some (HO.lst l)) (ro_congr fun b hb => ?_)
              unfold TB.turnC TB.upm
              rw [if_neg (show ¬ k = i by omega)]
              split
              · rfl
              · exact Int.fdiv_eq_ediv_of_nonneg _ (by omega))
            exact ⟨_, s3 _ _ hqk', _, ekj, _, rfl, ⟨sgn_M _, h_lt_M (hZ k j (by omega) hj)⟩, D, rfl, _, h3, j, ⟨by rw [vl_len]; exact hj, rfl⟩, .inl ⟨rfl, _, SqL.of ea⟩, M, acc, _, rfl, rfl, ea, la, hR⟩
      · rintro σ' G ⟨w6, w7, w8, w11, w12, rfl, sG, nw⟩
        exact ⟨⟨_, _, _, _, _, rfl⟩, sG, by rw [← hvl]; exact nw⟩
    rintro σ' G ⟨w6, w7, w8, w11, w12, rfl, sG, nw⟩
    have sA := s1.trans sG
    have TBa : True := True.intro
    simp -dsimp [tSeq, tAsg, tRet, tIfS, tIf, tTest, tVar, tCons, tNil, tC, tOp, tUn, rI, rI0, rU, tCB, tLst_A, tTup_A, gName, L2.start, CMul, CPow, CDiv, tDrop, tBM, tBM0, tNext, tPar, gSub, rSetL, rIxL, rIxT, tChain, tB, tNot, tNotV, tAnd, tOr, tAndV, tOrV, tFld, tCall, rIxLH, rIxTH, atI, ixN, upd_same, cxK, ex2, ex3, ex3b, rIs1, rIs2, rNe2, tyN, kb1, kb2, kb3, kb4, kb5, kb6, rEq, rNe, scal, tMake_S, tMakeK_S, tMakeN_S, sA _ _ hp, tMake_Tb, tbO, W.cls_Table, W.n_Table_cells, W.n_Table_whole, W.n_Table_sides, W.n_Table_heads, tbl_c, tbl_w, tbl_s, tbl_h]
    refine ⟨_, .inl (SqL.of (sA _ _ hs)), fun S nS => ?_⟩
    have sS := same_upd (o := HO.lst (ro (r + 1) ms)) nS
    have sB := sA.trans sS
    simp -dsimp [tSeq, tAsg, tRet, tIfS, tIf, tTest, tVar, tCons, tNil, tC, tOp, tUn, rI, rI0, rU, tCB, tLst_A, tTup_A, gName, L2.start, CMul, CPow, CDiv, tDrop, tBM, tBM0, tNext, tPar, gSub, rSetL, rIxL, rIxT, tChain, tB, tNot, tNotV, tAnd, tOr, tAndV, tOrV, tFld, tCall, rIxLH, rIxTH, atI, ixN, upd_same, cxK, ex2, ex3, ex3b, rIs1, rIs2, rNe2, tyN, kb1, kb2, kb3, kb4, kb5, kb6, rEq, rNe, scal, tMake_S, tMakeK_S, tMakeN_S, sB _ _ hp, tbO, W.cls_Table, W.n_Table_cells, W.n_Table_whole, W.n_Table_sides, W.n_Table_heads, tbl_c, tbl_w, tbl_s, tbl_h]
    refine ⟨_, .inl (SqL.of (sB _ _ hh)), fun h1 nh => ?_⟩
    have sh := same_upd (o := HO.lst (ro n mh)) nh
    have sC := sB.trans sh
    have ei := ixK (vl_get (n := r + 1) (g := fun b => V.int (ms b)) (show i < r + 1 by omega))
    have ej := ixK (vl_get (g := fun b => V.int (mh b)) hj)
    simp -dsimp [tSeq, tAsg, tRet, tIfS, tIf, tTest, tVar, tCons, tNil, tC, tOp, tUn, rI, rI0, rU, tCB, tLst_A, tTup_A, gName, L2.start, CMul, CPow, CDiv, tDrop, tBM, tBM0, tNext, tPar, gSub, rSetL, rIxL, rIxT, tChain, tB, tNot, tNotV, tAnd, tOr, tAndV, tOrV, tFld, tCall, rIxLH, rIxTH, atI, ixN, upd_same, cxK, ex2, ex3, ex3b, rIs1, rIs2, rNe2, tyN, kb1, kb2, kb3, kb4, kb5, kb6, rEq, rNe, scal, tMake_S, tMakeK_S, tMakeN_S, sC _ _ hp, sC _ _ hs, sC _ _ hh, ei, ej, tbO, W.cls_Table, W.n_Table_cells, W.n_Table_whole, W.n_Table_sides, W.n_Table_heads, tbl_c, tbl_w, tbl_s, tbl_h]
    refine ⟨by decide, Alloc.of fun t H3 nt et s3 => ⟨t, _, rfl, SqT.of et, rfl, _, _, rfl, ?_⟩⟩
    have hS3 : H3 S = some (.lst (ro (r + 1) ms)) := s3 _ _ (sh _ _ upd_same)
    have hh3 : H3 h1 = some (.lst (ro n mh)) := s3 _ _ upd_same
    have hSh : h1 ≠ S := fun e => by
      rw [e] at nh
      rw [upd_same] at nh
      cases nh
    have hA3 := (((sG.trans sS).trans sh).trans s3) _ _ h1'
    have nw3 := nw.same (((sS).trans sh).trans s3)
    simp -dsimp [tSeq, tAsg, tRet, tIfS, tIf, tTest, tVar, tCons, tNil, tC, tOp, tUn, rI, rI0, rU, tCB, tLst_A, tTup_A, gName, L2.start, CMul, CPow, CDiv, tDrop, tBM, tBM0, tNext, tPar, gSub, rSetL, rIxL, rIxT, tChain, tB, tNot, tNotV, tAnd, tOr, tAndV, tOrV, tFld, tCall, rIxLH, rIxTH, atI, ixN, upd_same, cxK, ex2, ex3, ex3b, rIs1, rIs2, rNe2, tyN, kb1, kb2, kb3, kb4, kb5, kb6, rEq, rNe, scal, tMake_S, tMakeK_S, tMakeN_S, hS3, vl_len]
    refine ⟨i, ⟨by omega, rfl⟩, _, _, rfl, ?_⟩
    rw [ro_set (show i < r + 1 by omega)]
    have nS1 : H3 S ≠ none := by
      rw [hS3]
      exact fun h => by cases h
    have u1 : upd H3 S (HO.lst (ro (r + 1) (TB.upm ms i (mh j)))) h1 = some (.lst (ro n mh)) := by
      rw [upd_ne hSh]
      exact hh3
    simp -dsimp [tSeq, tAsg, tRet, tIfS, tIf, tTest, tVar, tCons, tNil, tC, tOp, tUn, rI, rI0, rU, tCB, tLst_A, tTup_A, gName, L2.start, CMul, CPow, CDiv, tDrop, tBM, tBM0, tNext, tPar, gSub, rSetL, rIxL, rIxT, tChain, tB, tNot, tNotV, tAnd, tOr, tAndV, tOrV, tFld, tCall, rIxLH, rIxTH, atI, ixN, upd_same, cxK, ex2, ex3, ex3b, rIs1, rIs2, rNe2, tyN, kb1, kb2, kb3, kb4, kb5, kb6, rEq, rNe, scal, tMake_S, tMakeK_S, tMakeN_S, u1, vl_len]
    refine ⟨j, ⟨hj, rfl⟩, rfl, ?_⟩
    rw [ro_set hj]
    have nG : ∀ {q : Addr} {o : HO}, G q = some o → q ≠ S ∧ q ≠ h1 := fun e => ⟨ne_of_none e nS, ne_of_none (sS _ _ e) nh⟩
    have keep : ∀ {q : Addr} {o : HO}, G q = some o → upd (upd H3 S (HO.lst (ro (r + 1) (TB.upm ms i (mh j))))) h1 (HO.lst (ro n (TB.upm mh j (ms i)))) q = some o := fun e => by
      rw [upd_ne (nG e).2, upd_ne (nG e).1]
      exact s3 _ _ (sh _ _ (sS _ _ e))
    have ej := ixK (vl_get (g := fun b => V.int (sgn (c i j) * c i b)) hj)
    simp -dsimp [tSeq, tAsg, tRet, tIfS, tIf, tTest, tVar, tCons, tNil, tC, tOp, tUn, rI, rI0, rU, tCB, tLst_A, tTup_A, gName, L2.start, CMul, CPow, CDiv, tDrop, tBM, tBM0, tNext, tPar, gSub, rSetL, rIxL, rIxT, tChain, tB, tNot, tNotV, tAnd, tOr, tAndV, tOrV, tFld, tCall, rIxLH, rIxTH, atI, ixN, upd_same, cxK, ex2, ex3, ex3b, rIs1, rIs2, rNe2, tyN, kb1, kb2, kb3, kb4, kb5, kb6, rEq, rNe, scal, tMake_S, tMakeK_S, tMakeN_S, tMake_Tb, keep (sG _ _ h1'), ej]
    refine MkTb.of rfl (Nw.cl (c := TB.turnC c wh (sgn (c i j)) i j) (nw.same fun q o e => keep e) (fun k hk => rfl)) (ms := TB.upm ms i (mh j)) (mh := TB.upm mh j (ms i)) ?_ upd_same fun z H4 s4 it => q z H4 (((s1.trans sG).trans fun q o e => keep e).trans s4) it
    rw [upd_ne hSh.symm, upd_same]

end
/-- what next_turn tells -/
def NextR (n r : Nat) (c : Nat → Nat → Int) (mh ms : Nat → Int) : Option Nat → Option Nat → Prop
  | some i, some j => TB.Pick n r c mh ms i j
  | some i, none => i < r ∧ 0 ≤ ms i ∧ c i 0 < 0 ∧ ∀ k, k < n → 0 ≤ mh k → c i k ≤ 0
  | none, some j => j < n ∧ 0 ≤ mh j ∧ 0 < c r j ∧ ∀ k, k < r → 0 ≤ ms k → 0 ≤ c k j
  | none, none => (∀ k, k < r → 0 ≤ ms k → 0 ≤ c k 0) ∧ ∀ k, k < n → 0 ≤ mh k → c r k ≤ 0
theorem next_row {V : Int → Nat → Int} {n r : Nat} {c : Nat → Nat → Int} {w : Int} {mh ms : Nat → Int} (A : TB.Ok V n r c w mh ms) {o oj : Option Nat} {i : Nat} (h1 : IsLeast (r + 1) ms (fun k => decide (c k 0 < 0)) (some i)) (h2 : IsLeast n mh (fun k => decide (0 < c r k)) oj) (lt : ∀ j, oj = some j → ms i < mh j)
    (h3 : IsLeast n mh (fun k => decide (0 < c i k)) o) : NextR n r c mh ms (some i) o := by
  obtain ⟨i1, i2, i3, i4⟩ := h1
  have i3 := of_decide_eq_true i3
  have ir : i < r := by
    have g := A.tb.goal
    rcases Nat.lt_or_ge i r with h | h
    · exact h
    · obtain rfl : i = r := by omega
      omega
  cases o with
  | none => exact ⟨ir, i2, i3, fun k hk h0 => by have := of_decide_eq_false (h3 k hk h0); omega⟩
  | some j =>
    obtain ⟨j1, j2, j3, j4⟩ := h3
    refine ⟨ir, j1, i2, j2, .inl ⟨i3, fun k hk h0 hl => ?_, fun k hk h0 hl => ?_, of_decide_eq_true j3, fun k hk h0 hl => ?_⟩⟩
    · refine Int.not_lt.mp fun h => ?_
      have := i4 k (by omega) h0 (decide_eq_true h)
      omega
    · cases oj with
      | none =>
        have := of_decide_eq_false (h2 k hk h0)
        omega
      | some j' =>
        refine Int.not_lt.mp fun h => ?_
        have := h2.2.2.2 k hk h0 (decide_eq_true h)
        have := lt j' rfl
        omega
    · refine Int.not_lt.mp fun h => ?_
      have := j4 k hk h0 (decide_eq_true h)
      omega
theorem next_col {V : Int → Nat → Int} {n r : Nat} {c : Nat → Nat → Int} {w : Int} {mh ms : Nat → Int} (A : TB.Ok V n r c w mh ms) {o oi : Option Nat} {j : Nat} (h1 : IsLeast (r + 1) ms (fun k => decide (c k 0 < 0)) oi) (h2 : IsLeast n mh (fun k => decide (0 < c r k)) (some j)) (ge : ∀ i, oi = some i → mh j ≤ ms i)
    (h3 : IsLeast (r + 1) ms (fun k => decide (c k j < 0)) o) : NextR n r c mh ms o (some j) := by
  obtain ⟨j1, j2, j3, j4⟩ := h2
  have j3 := of_decide_eq_true j3
  cases o with
  | none => exact ⟨j1, j2, j3, fun k hk h0 => by have := of_decide_eq_false (h3 k (by omega) h0); omega⟩
  | some i =>
    obtain ⟨i1, i2, i3, i4⟩ := h3
    have ir : i < r := by
      have g := A.tb.goal
      rcases Nat.lt_or_ge i r with h | h
      · exact h
      · obtain rfl : i = r := by omega
        omega
    refine ⟨ir, j1, i2, j2, .inr ⟨j3, fun k hk h0 hl => ?_, fun k hk h0 hl => ?_, of_decide_eq_true i3, fun k hk h0 hl => ?_⟩⟩
    · refine Int.not_lt.mp fun h => ?_
      have := j4 k hk h0 (decide_eq_true h)
      omega
    · cases oi with
      | none =>
        have := of_decide_eq_false (h1 k (by omega) h0)
        omega
      | some i' =>
        refine Int.not_lt.mp fun h => ?_
        have := h1.2.2.2 k (by omega) h0 (decide_eq_true h)
        have := ge i' rfl
        omega
    · refine Int.not_lt.mp fun h => ?_
      have := i4 k (by omega) h0 (decide_eq_true h)
      omega
theorem next_no {n r : Nat} {c : Nat → Nat → Int} {mh ms : Nat → Int} (h1 : IsLeast (r + 1) ms (fun k => decide (c k 0 < 0)) none) (h2 : IsLeast n mh (fun k => decide (0 < c r k)) none) : NextR n r c mh ms none none :=
  ⟨fun k hk h0 => by have := of_decide_eq_false (h1 k (by omega) h0); omega, fun k hk h0 => by have := of_decide_eq_false (h2 k hk h0); omega⟩
section
variable {P : Program} {w : World} {K : PySem.W.Frag} {mg : Str → Option Value} {base : Heap} {fd : FuncData}
def spNext (K : PySem.W.Frag) : Sp := fun vs H Q _ => ∃ (p : Addr) (V : Int → Nat → Int) (n r : Nat) (c : Nat → Nat → Int) (wh : Int) (mh ms : Nat → Int), vs = [.ref p] ∧ IsTb K H p n r c wh mh ms ∧ TB.Ok V n r c wh mh ms ∧ n < 1000 ∧ r + 1 < 1000 ∧
  ∀ t oi oj H', Same H H' → H' t = some (.tup [optV oi, optV oj]) → NextR n r c mh ms oi oj → Q (.ref t) H'
theorem scNextTurn : FnScope ["table", "goal", "i", "j", "row", "cell"] ["table"] d_next_turn.scope := ⟨rfl, rfl, rfl, by decide +kernel, rfl, by decide +kernel, by decide +kernel⟩
theorem ok_next_turn (W : Wd K mg) : ∃ fd, FnOk P w K mg base CX0 2 (He.ga K "next_turn") fd ["table"] (spNext K) ∧ Binds K fd ["table"] [] := by
  obtain ⟨fd_least_mark, G_least_mark, b_least_mark⟩ := ok_least_mark (P := P) (w := w) (base := base) W
  have k_least_mark : PySem.W.keepIn K (.ref (He.ga K "least_mark")) = true := by obtain ⟨fd, F⟩ := W.F_least_mark; exact F.kp
  obtain ⟨fd, F⟩ := W.F_next_turn
  refine ⟨fd, F.ok scNextTurn (fun vs H Q E h => ?_) (fun cdv A outer s H vs Q E hr h => ?_), FunD.bindsN F fun _ _ _ _ _ _ us hl => match us, hl with | [_], _ => rfl⟩
  · obtain ⟨p, _, _, _, _, _, _, _, rfl, _⟩ := h
    rfl
  · obtain ⟨p, VV, n, r, c, wh, mh, ms, rfl, ⟨dx, pc, ps, ph, hp, hc, hs, hh⟩, ok, hn, hr1, q⟩ := h
    have r1 : Room 1 _ := hr.mono (by decide)
    refine ⟨_, PSs.nox (C8.pss_cut (ps_set (i := 1) scNextTurn.nd rfl (Or.inl rfl) (pe_ix ix_lstH (pe_fld (pv 0) rfl) (pe_un un_neg pe_int) (fun _ _ => rfl)))
    (C8.pss_cut (ps_set (i := 2) scNextTurn.nd rfl (Or.inl rfl) (pe_call G_least_mark r1 rfl W.g_least_mark k_least_mark b_least_mark .nil pass0 (pa_cons (pe_fld (pv 0) rfl) (pa_cons (pe_lc (own := [("row", 4)]) (g := gName 4) (tt := tYes) rfl scNextTurn.nd (pi_list (pe_fld (pv 0) rfl)) (blkOk_by (N := ["table", "goal", "i", "j", "row", "cell"]) (sc := defScope s_next_turn) (by decide +kernel))
            (fun _ _ _ _ _ => (pg_name (i := 4) scNextTurn.nd rfl (Or.inl rfl))) (fun _ _ _ _ _ => pts_nil)
            (fun _ _ _ _ _ => (pe_cmpR op_lt (pe_ix ix_lstH (pv 4) pe_int (fun _ _ => rfl)) pe_int (nomark _)))) pa_nil))))
    (C8.pss_cut (ps_set (i := 3) scNextTurn.nd rfl (Or.inr rfl) (pe_call G_least_mark r1 rfl W.g_least_mark k_least_mark b_least_mark .nil pass0 (pa_cons (pe_fld (pv 0) rfl) (pa_cons (pe_lc (own := [("cell", 5)]) (g := gName 5) (tt := tYes) rfl scNextTurn.nd (pi_list (pv 1)) (blkOk_by (N := ["table", "goal", "i", "j", "row", "cell"]) (sc := defScope s_next_turn) (by decide +kernel))
            (fun _ _ _ _ _ => (pg_name (i := 5) scNextTurn.nd rfl (Or.inl rfl))) (fun _ _ _ _ _ => pts_nil)
            (fun _ _ _ _ _ => (pe_cmpR op_gt (pv 5) pe_int (nomark _)))) pa_nil))))
    (pss_cons (ps_if (PW.pt (pw_and (pt_cmpR op_notN (pv 2) pe_non (nomark _)) (pw_and1 (PW.pt (pw_or (pt_cmpR op_isN (pv 3) pe_non (nomark _)) (pw_or1 (pt_cmpR op_lt (pe_ix ix_lstH (pe_fld (pv 0) rfl) (pv 2) (fun _ _ => rfl)) (pe_ix ix_lstH (pe_fld (pv 0) rfl) (pv 3) (fun _ _ => rfl)) (nomark _)))))))) (pss_one (ps_ret (pe_tup (pa_cons (pv 2) (pa_cons (pe_call G_least_mark r1 rfl W.g_least_mark k_least_mark b_least_mark .nil pass0 (pa_cons (pe_fld (pv 0) rfl) (pa_cons (pe_lc (own := [("cell", 5)]) (g := gName 5) (tt := tYes) rfl scNextTurn.nd (pi_list (pe_ix ix_lstH (pe_fld (pv 0) rfl) (pv 2) (fun _ _ => rfl))) (blkOk_by (N := ["table", "goal", "i", "j", "row", "cell"]) (sc := defScope s_next_turn) (by decide +kernel))
            (fun _ _ _ _ _ => (pg_name (i := 5) scNextTurn.nd rfl (Or.inl rfl))) (fun _ _ _ _ _ => pts_nil)
            (fun _ _ _ _ _ => (pe_cmpR op_gt (pv 5) pe_int (nomark _)))) pa_nil))) pa_nil))))) pss_nil)
    (pss_cons (ps_if (pt_cmpR op_notN (pv 3) pe_non (nomark _)) (pss_one (ps_ret (pe_tup (pa_cons (pe_call G_least_mark r1 rfl W.g_least_mark k_least_mark b_least_mark .nil pass0 (pa_cons (pe_fld (pv 0) rfl) (pa_cons (pe_lc (own := [("row", 4)]) (g := gName 4) (tt := tYes) rfl scNextTurn.nd (pi_list (pe_fld (pv 0) rfl)) (blkOk_by (N := ["table", "goal", "i", "j", "row", "cell"]) (sc := defScope s_next_turn) (by decide +kernel))
            (fun _ _ _ _ _ => (pg_name (i := 4) scNextTurn.nd rfl (Or.inl rfl))) (fun _ _ _ _ _ => pts_nil)
            (fun _ _ _ _ _ => (pe_cmpR op_lt (pe_ix ix_lstH (pv 4) (pv 3) (fun _ _ => rfl)) pe_int (nomark _)))) pa_nil))) (pa_cons (pv 3) pa_nil))))) pss_nil)
    (pss_one (ps_ret (pe_tup (pa_cons pe_non (pa_cons pe_non pa_nil)))))))))), ?_⟩
    obtain ⟨vs, hvl, hpc, hrow⟩ := hc
    obtain ⟨qr, er, hqr⟩ := hrow r (by omega)
    have n0 := ok.tb.n0
    refine ⟨fun σ' H' => σ' = [some (.ref p), some (.ref qr), none, none, none, none] ∧ H' = H, ?_, ?_⟩
    · have e1 : ((if 1 ≤ (vs.length : Int) then some (-1 + (vs.length : Int)).toNat else none).bind fun j => vs[j]?) = some (.ref qr) := by
        rw [if_pos (by omega), show (-1 + (vs.length : Int)).toNat = r by omega]
        exact er
      simp -dsimp [tSeq, tAsg, tRet, tIfS, tIf, tTest, tVar, tCons, tNil, tC, tOp, tUn, rI, rI0, rU, tCB, tLst_A, tTup_A, gName, L2.start, CMul, CPow, CDiv, tDrop, tBM, tBM0, tNext, tPar, gSub, rSetL, rIxL, rIxT, tChain, tB, tNot, tNotV, tAnd, tOr, tAndV, tOrV, tFld, tCall, rIxLH, rIxTH, atI, ixN, upd_same, cxK, ex2, ex3, ex3b, rIs1, rIs2, rNe2, tyN, kb1, kb2, kb3, kb4, kb5, kb6, rEq, rNe, scal, tMake_S, tMakeK_S, tMakeN_S, hp, hpc, tbO, W.cls_Table, W.n_Table_cells, W.n_Table_whole, W.n_Table_sides, W.n_Table_heads, tbl_c, tbl_w, tbl_s, tbl_h, e1]
    rintro σ' H' ⟨rfl, rfl⟩
    refine ⟨fun σ' H1 => ∃ oi w4, σ' = [some (.ref p), some (.ref qr), some (optV oi), none, w4, none] ∧ Same H' H1 ∧ IsLeast (r + 1) ms (fun k => decide (c k 0 < 0)) oi, ?_, ?_⟩
    · simp -dsimp [tSeq, tAsg, tRet, tIfS, tIf, tTest, tVar, tCons, tNil, tC, tOp, tUn, rI, rI0, rU, tCB, tLst_A, tTup_A, gName, L2.start, CMul, CPow, CDiv, tDrop, tBM, tBM0, tNext, tPar, gSub, rSetL, rIxL, rIxT, tChain, tB, tNot, tNotV, tAnd, tOr, tAndV, tOrV, tFld, tCall, rIxLH, rIxTH, atI, ixN, upd_same, cxK, ex2, ex3, ex3b, rIs1, rIs2, rNe2, tyN, kb1, kb2, kb3, kb4, kb5, kb6, rEq, rNe, scal, tMake_S, tMakeK_S, tMakeN_S, hp, tbO, W.cls_Table, W.n_Table_cells, W.n_Table_whole, W.n_Table_sides, W.n_Table_heads, tbl_c, tbl_w, tbl_s, tbl_h]
      refine lc_vl (K := K) pc vs (fun k => .bl (decide (c k 0 < 0))) (by omega) (fun _ => rfl) hpc (fun R h => ?_) (fun k x H1 R hx s1 k1 => ?_) (fun D H1 nD s1 h1 => ?_)
      · simp -dsimp [tSeq, tAsg, tRet, tIfS, tIf, tTest, tVar, tCons, tNil, tC, tOp, tUn, rI, rI0, rU, tCB, tLst_A, tTup_A, gName, L2.start, CMul, CPow, CDiv, tDrop, tBM, tBM0, tNext, tPar, gSub, rSetL, rIxL, rIxT, tChain, tB, tNot, tNotV, tAnd, tOr, tAndV, tOrV, tFld, tCall, rIxLH, rIxTH, atI, ixN, upd_same, cxK, ex2, ex3, ex3b, rIs1, rIs2, rNe2, tyN, kb1, kb2, kb3, kb4, kb5, kb6, rEq, rNe, scal, tMake_S, tMakeK_S, tMakeN_S, hp, tbO, W.cls_Table, W.n_Table_cells, W.n_Table_whole, W.n_Table_sides, W.n_Table_heads, tbl_c, tbl_w, tbl_s, tbl_h]
        exact h
      · obtain ⟨qk, ek, hqk⟩ := hrow k (by have := (List.getElem?_eq_some_iff.mp hx).1; omega)
        rw [ek] at hx
        cases hx
        have e0 := ixK (vl_get (g := fun b => V.int (c k b)) n0)
        simp -dsimp [tSeq, tAsg, tRet, tIfS, tIf, tTest, tVar, tCons, tNil, tC, tOp, tUn, rI, rI0, rU, tCB, tLst_A, tTup_A, gName, L2.start, CMul, CPow, CDiv, tDrop, tBM, tBM0, tNext, tPar, gSub, rSetL, rIxL, rIxT, tChain, tB, tNot, tNotV, tAnd, tOr, tAndV, tOrV, tFld, tCall, rIxLH, rIxTH, atI, ixN, upd_same, cxK, ex2, ex3, ex3b, rIs1, rIs2, rNe2, tyN, kb1, kb2, kb3, kb4, kb5, kb6, rEq, rNe, scal, tMake_S, tMakeK_S, tMakeN_S, wipe, s1 _ _ hqk, e0]
        exact k1 _ (Same.refl _)
      · rw [hvl] at h1
        exact ⟨ps, D, r + 1, ms, _, rfl, s1 _ _ hs, h1, hr1, fun o H2 s2 hl => ⟨o, rfl, s1.trans s2, hl⟩⟩
    rintro σ' H1 ⟨oi, w4, rfl, s1, li⟩
    refine ⟨fun σ' H2 => ∃ oj w5, σ' = [some (.ref p), some (.ref qr), some (optV oi), some (optV oj), w4, w5] ∧ Same H1 H2 ∧ IsLeast n mh (fun k => decide (0 < c r k)) oj, ?_, ?_⟩
    · simp -dsimp [tSeq, tAsg, tRet, tIfS, tIf, tTest, tVar, tCons, tNil, tC, tOp, tUn, rI, rI0, rU, tCB, tLst_A, tTup_A, gName, L2.start, CMul, CPow, CDiv, tDrop, tBM, tBM0, tNext, tPar, gSub, rSetL, rIxL, rIxT, tChain, tB, tNot, tNotV, tAnd, tOr, tAndV, tOrV, tFld, tCall, rIxLH, rIxTH, atI, ixN, upd_same, cxK, ex2, ex3, ex3b, rIs1, rIs2, rNe2, tyN, kb1, kb2, kb3, kb4, kb5, kb6, rEq, rNe, scal, tMake_S, tMakeK_S, tMakeN_S, s1 _ _ hp, tbO, W.cls_Table, W.n_Table_cells, W.n_Table_whole, W.n_Table_sides, W.n_Table_heads, tbl_c, tbl_w, tbl_s, tbl_h]
      refine lc_vl (K := K) qr _ (fun k => .bl (decide (0 < c r k))) (by rw [vl_len]; exact hn) (fun _ => rfl) (s1 _ _ hqr) (fun R h => ⟨_, rfl, h⟩) (fun k x H2 R hx s2 k2 => ?_) (fun D H2 nD s2 h2 => ?_)
      · obtain ⟨hk, hx⟩ := vl_at hx
        subst hx
        simp -dsimp [tSeq, tAsg, tRet, tIfS, tIf, tTest, tVar, tCons, tNil, tC, tOp, tUn, rI, rI0, rU, tCB, tLst_A, tTup_A, gName, L2.start, CMul, CPow, CDiv, tDrop, tBM, tBM0, tNext, tPar, gSub, rSetL, rIxL, rIxT, tChain, tB, tNot, tNotV, tAnd, tOr, tAndV, tOrV, tFld, tCall, rIxLH, rIxTH, atI, ixN, upd_same, cxK, ex2, ex3, ex3b, rIs1, rIs2, rNe2, tyN, kb1, kb2, kb3, kb4, kb5, kb6, rEq, rNe, scal, tMake_S, tMakeK_S, tMakeN_S, wipe]
        exact k2 _ (Same.refl _)
      · rw [vl_len] at h2
        exact ⟨ph, D, n, mh, _, rfl, (s1.trans s2) _ _ hh, h2, hn, fun o H3 s3 hl => ⟨o, rfl, s2.trans s3, hl⟩⟩
    rintro σ' H2 ⟨oj, w5, rfl, s2, lj⟩
    have s12 := s1.trans s2
    have row : ∀ i, oi = some i → (∀ j, oj = some j → ms i < mh j) → True := fun _ _ _ => True.intro
    cases oi with
    | none =>
      cases oj with
      | none =>
        simp -dsimp [tSeq, tAsg, tRet, tIfS, tIf, tTest, tVar, tCons, tNil, tC, tOp, tUn, rI, rI0, rU, tCB, tLst_A, tTup_A, gName, L2.start, CMul, CPow, CDiv, tDrop, tBM, tBM0, tNext, tPar, gSub, rSetL, rIxL, rIxT, tChain, tB, tNot, tNotV, tAnd, tOr, tAndV, tOrV, tFld, tCall, rIxLH, rIxTH, atI, ixN, upd_same, cxK, ex2, ex3, ex3b, rIs1, rIs2, rNe2, tyN, kb1, kb2, kb3, kb4, kb5, kb6, rEq, rNe, scal, tMake_S, tMakeK_S, tMakeN_S, optV, s12 _ _ hp, tbO, W.cls_Table, W.n_Table_cells, W.n_Table_whole, W.n_Table_sides, W.n_Table_heads, tbl_c, tbl_w, tbl_s, tbl_h]
        exact ⟨by decide, Alloc.of fun t H5 nt et s5 => q t none none H5 (s12.trans s5) et (next_no li lj)⟩
      | some j =>
        simp -dsimp [tSeq, tAsg, tRet, tIfS, tIf, tTest, tVar, tCons, tNil, tC, tOp, tUn, rI, rI0, rU, tCB, tLst_A, tTup_A, gName, L2.start, CMul, CPow, CDiv, tDrop, tBM, tBM0, tNext, tPar, gSub, rSetL, rIxL, rIxT, tChain, tB, tNot, tNotV, tAnd, tOr, tAndV, tOrV, tFld, tCall, rIxLH, rIxTH, atI, ixN, upd_same, cxK, ex2, ex3, ex3b, rIs1, rIs2, rNe2, tyN, kb1, kb2, kb3, kb4, kb5, kb6, rEq, rNe, scal, tMake_S, tMakeK_S, tMakeN_S, optV, s12 _ _ hp, tbO, W.cls_Table, W.n_Table_cells, W.n_Table_whole, W.n_Table_sides, W.n_Table_heads, tbl_c, tbl_w, tbl_s, tbl_h]
        refine lc_vl (K := K) pc vs (fun k => .bl (decide (c k j < 0))) (by omega) (fun _ => rfl) (s12 _ _ hpc) (fun R h => ?_) (fun k x H3 R hx s3 k3 => ?_) (fun D H3 nD s3 h3 => ?_)
        · simp -dsimp [tSeq, tAsg, tRet, tIfS, tIf, tTest, tVar, tCons, tNil, tC, tOp, tUn, rI, rI0, rU, tCB, tLst_A, tTup_A, gName, L2.start, CMul, CPow, CDiv, tDrop, tBM, tBM0, tNext, tPar, gSub, rSetL, rIxL, rIxT, tChain, tB, tNot, tNotV, tAnd, tOr, tAndV, tOrV, tFld, tCall, rIxLH, rIxTH, atI, ixN, upd_same, cxK, ex2, ex3, ex3b, rIs1, rIs2, rNe2, tyN, kb1, kb2, kb3, kb4, kb5, kb6, rEq, rNe, scal, tMake_S, tMakeK_S, tMakeN_S, s12 _ _ hp, tbO, W.cls_Table, W.n_Table_cells, W.n_Table_whole, W.n_Table_sides, W.n_Table_heads, tbl_c, tbl_w, tbl_s, tbl_h]
          exact h
        · obtain ⟨qk, ek, hqk⟩ := hrow k (by have := (List.getElem?_eq_some_iff.mp hx).1; omega)
          rw [ek] at hx
          cases hx
          have e0 := ixK (vl_get (g := fun b => V.int (c k b)) lj.1)
          simp -dsimp [tSeq, tAsg, tRet, tIfS, tIf, tTest, tVar, tCons, tNil, tC, tOp, tUn, rI, rI0, rU, tCB, tLst_A, tTup_A, gName, L2.start, CMul, CPow, CDiv, tDrop, tBM, tBM0, tNext, tPar, gSub, rSetL, rIxL, rIxT, tChain, tB, tNot, tNotV, tAnd, tOr, tAndV, tOrV, tFld, tCall, rIxLH, rIxTH, atI, ixN, upd_same, cxK, ex2, ex3, ex3b, rIs1, rIs2, rNe2, tyN, kb1, kb2, kb3, kb4, kb5, kb6, rEq, rNe, scal, tMake_S, tMakeK_S, tMakeN_S, wipe, (s12.trans s3) _ _ hqk, e0]
          exact k3 _ (Same.refl _)
        · rw [hvl] at h3
          exact ⟨ps, D, r + 1, ms, _, rfl, (s12.trans s3) _ _ hs, h3, hr1, fun o H4 s4 hl => ⟨by decide, Alloc.of fun t H5 nt et s5 => q t o (some j) H5 (((s12.trans s3).trans s4).trans s5) et (next_col ok li lj (fun i e => by cases e) hl)⟩⟩
    | some i =>
      have hir : i < r + 1 := li.1
      obtain ⟨qi, eqi, hqi⟩ := hrow i hir
      have ei := ixK eqi
      have emi := ixK (vl_get (n := r + 1) (g := fun b => V.int (ms b)) hir)
      cases oj with
      | none =>
        simp -dsimp [tSeq, tAsg, tRet, tIfS, tIf, tTest, tVar, tCons, tNil, tC, tOp, tUn, rI, rI0, rU, tCB, tLst_A, tTup_A, gName, L2.start, CMul, CPow, CDiv, tDrop, tBM, tBM0, tNext, tPar, gSub, rSetL, rIxL, rIxT, tChain, tB, tNot, tNotV, tAnd, tOr, tAndV, tOrV, tFld, tCall, rIxLH, rIxTH, atI, ixN, upd_same, cxK, ex2, ex3, ex3b, rIs1, rIs2, rNe2, tyN, kb1, kb2, kb3, kb4, kb5, kb6, rEq, rNe, scal, tMake_S, tMakeK_S, tMakeN_S, optV, s12 _ _ hp, tbO, W.cls_Table, W.n_Table_cells, W.n_Table_whole, W.n_Table_sides, W.n_Table_heads, tbl_c, tbl_w, tbl_s, tbl_h]
        refine lc_vl (K := K) qi _ (fun k => .bl (decide (0 < c i k))) (by rw [vl_len]; exact hn) (fun _ => rfl) (s12 _ _ hqi) (fun R h => ?_) (fun k x H3 R hx s3 k3 => ?_) (fun D H3 nD s3 h3 => ?_)
        · simp -dsimp [tSeq, tAsg, tRet, tIfS, tIf, tTest, tVar, tCons, tNil, tC, tOp, tUn, rI, rI0, rU, tCB, tLst_A, tTup_A, gName, L2.start, CMul, CPow, CDiv, tDrop, tBM, tBM0, tNext, tPar, gSub, rSetL, rIxL, rIxT, tChain, tB, tNot, tNotV, tAnd, tOr, tAndV, tOrV, tFld, tCall, rIxLH, rIxTH, atI, ixN, upd_same, cxK, ex2, ex3, ex3b, rIs1, rIs2, rNe2, tyN, kb1, kb2, kb3, kb4, kb5, kb6, rEq, rNe, scal, tMake_S, tMakeK_S, tMakeN_S, s12 _ _ hp, s12 _ _ hpc, ei, tbO, W.cls_Table, W.n_Table_cells, W.n_Table_whole, W.n_Table_sides, W.n_Table_heads, tbl_c, tbl_w, tbl_s, tbl_h]
          exact h
        · obtain ⟨hk, hx⟩ := vl_at hx
          subst hx
          simp -dsimp [tSeq, tAsg, tRet, tIfS, tIf, tTest, tVar, tCons, tNil, tC, tOp, tUn, rI, rI0, rU, tCB, tLst_A, tTup_A, gName, L2.start, CMul, CPow, CDiv, tDrop, tBM, tBM0, tNext, tPar, gSub, rSetL, rIxL, rIxT, tChain, tB, tNot, tNotV, tAnd, tOr, tAndV, tOrV, tFld, tCall, rIxLH, rIxTH, atI, ixN, upd_same, cxK, ex2, ex3, ex3b, rIs1, rIs2, rNe2, tyN, kb1, kb2, kb3, kb4, kb5, kb6, rEq, rNe, scal, tMake_S, tMakeK_S, tMakeN_S, wipe]
          exact k3 _ (Same.refl _)
        · rw [vl_len] at h3
          exact ⟨ph, D, n, mh, _, rfl, (s12.trans s3) _ _ hh, h3, hn, fun o H4 s4 hl => ⟨by decide, Alloc.of fun t H5 nt et s5 => q t (some i) o H5 (((s12.trans s3).trans s4).trans s5) et (next_row ok li lj (fun j e => by cases e) hl)⟩⟩
      | some j =>
        have emj := ixK (vl_get (g := fun b => V.int (mh b)) lj.1)
        simp -dsimp [tSeq, tAsg, tRet, tIfS, tIf, tTest, tVar, tCons, tNil, tC, tOp, tUn, rI, rI0, rU, tCB, tLst_A, tTup_A, gName, L2.start, CMul, CPow, CDiv, tDrop, tBM, tBM0, tNext, tPar, gSub, rSetL, rIxL, rIxT, tChain, tB, tNot, tNotV, tAnd, tOr, tAndV, tOrV, tFld, tCall, rIxLH, rIxTH, atI, ixN, upd_same, cxK, ex2, ex3, ex3b, rIs1, rIs2, rNe2, tyN, kb1, kb2, kb3, kb4, kb5, kb6, rEq, rNe, scal, tMake_S, tMakeK_S, tMakeN_S, optV, s12 _ _ hp, s12 _ _ hs, s12 _ _ hh, emi, emj, tbO, W.cls_Table, W.n_Table_cells, W.n_Table_whole, W.n_Table_sides, W.n_Table_heads, tbl_c, tbl_w, tbl_s, tbl_h]
        split
        · rename_i lt
          refine lc_vl (K := K) qi _ (fun k => .bl (decide (0 < c i k))) (by rw [vl_len]; exact hn) (fun _ => rfl) (s12 _ _ hqi) (fun R h => ?_) (fun k x H3 R hx s3 k3 => ?_) (fun D H3 nD s3 h3 => ?_)
          · simp -dsimp [tSeq, tAsg, tRet, tIfS, tIf, tTest, tVar, tCons, tNil, tC, tOp, tUn, rI, rI0, rU, tCB, tLst_A, tTup_A, gName, L2.start, CMul, CPow, CDiv, tDrop, tBM, tBM0, tNext, tPar, gSub, rSetL, rIxL, rIxT, tChain, tB, tNot, tNotV, tAnd, tOr, tAndV, tOrV, tFld, tCall, rIxLH, rIxTH, atI, ixN, upd_same, cxK, ex2, ex3, ex3b, rIs1, rIs2, rNe2, tyN, kb1, kb2, kb3, kb4, kb5, kb6, rEq, rNe, scal, tMake_S, tMakeK_S, tMakeN_S, s12 _ _ hp, s12 _ _ hpc, ei, tbO, W.cls_Table, W.n_Table_cells, W.n_Table_whole, W.n_Table_sides, W.n_Table_heads, tbl_c, tbl_w, tbl_s, tbl_h]
            exact h
          · obtain ⟨hk, hx⟩ := vl_at hx
            subst hx
            simp -dsimp [tSeq, tAsg, tRet, tIfS, tIf, tTest, tVar, tCons, tNil, tC, tOp, tUn, rI, rI0, rU, tCB, tLst_A, tTup_A, gName, L2.start, CMul, CPow, CDiv, tDrop, tBM, tBM0, tNext, tPar, gSub, rSetL, rIxL, rIxT, tChain, tB, tNot, tNotV, tAnd, tOr, tAndV, tOrV, tFld, tCall, rIxLH, rIxTH, atI, ixN, upd_same, cxK, ex2, ex3, ex3b, rIs1, rIs2, rNe2, tyN, kb1, kb2, kb3, kb4, kb5, kb6, rEq, rNe, scal, tMake_S, tMakeK_S, tMakeN_S, wipe]
            exact k3 _ (Same.refl _)
          · rw [vl_len] at h3
            exact ⟨ph, D, n, mh, _, rfl, (s12.trans s3) _ _ hh, h3, hn, fun o H4 s4 hl => ⟨by decide, Alloc.of fun t H5 nt et s5 => q t (some i) o H5 (((s12.trans s3).trans s4).trans s5) et (next_row ok li lj (fun j' e => by cases e; exact lt) hl)⟩⟩
        · rename_i lt
          refine lc_vl (K := K) pc vs (fun k => .bl (decide (c k j < 0))) (by omega) (fun _ => rfl) (s12 _ _ hpc) (fun R h => ?_) (fun k x H3 R hx s3 k3 => ?_) (fun D H3 nD s3 h3 => ?_)
          · simp -dsimp [tSeq, tAsg, tRet, tIfS, tIf, tTest, tVar, tCons, tNil, tC, tOp, tUn, rI, rI0, rU, tCB, tLst_A, tTup_A, gName, L2.start, CMul, CPow, CDiv, tDrop, tBM, tBM0, tNext, tPar, gSub, rSetL, rIxL, rIxT, tChain, tB, tNot, tNotV, tAnd, tOr, tAndV, tOrV, tFld, tCall, rIxLH, rIxTH, atI, ixN, upd_same, cxK, ex2, ex3, ex3b, rIs1, rIs2, rNe2, tyN, kb1, kb2, kb3, kb4, kb5, kb6, rEq, rNe, scal, tMake_S, tMakeK_S, tMakeN_S, s12 _ _ hp, tbO, W.cls_Table, W.n_Table_cells, W.n_Table_whole, W.n_Table_sides, W.n_Table_heads, tbl_c, tbl_w, tbl_s, tbl_h]
            exact h
          · obtain ⟨qk, ek, hqk⟩ := hrow k (by have := (List.getElem?_eq_some_iff.mp hx).1; omega)
            rw [ek] at hx
            cases hx
            have e0 := ixK (vl_get (g := fun b => V.int (c k b)) lj.1)
            simp -dsimp [tSeq, tAsg, tRet, tIfS, tIf, tTest, tVar, tCons, tNil, tC, tOp, tUn, rI, rI0, rU, tCB, tLst_A, tTup_A, gName, L2.start, CMul, CPow, CDiv, tDrop, tBM, tBM0, tNext, tPar, gSub, rSetL, rIxL, rIxT, tChain, tB, tNot, tNotV, tAnd, tOr, tAndV, tOrV, tFld, tCall, rIxLH, rIxTH, atI, ixN, upd_same, cxK, ex2, ex3, ex3b, rIs1, rIs2, rNe2, tyN, kb1, kb2, kb3, kb4, kb5, kb6, rEq, rNe, scal, tMake_S, tMakeK_S, tMakeN_S, wipe, (s12.trans s3) _ _ hqk, e0]
            exact k3 _ (Same.refl _)
          · rw [hvl] at h3
            exact ⟨ps, D, r + 1, ms, _, rfl, (s12.trans s3) _ _ hs, h3, hr1, fun o H4 s4 hl => ⟨by decide, Alloc.of fun t H5 nt et s5 => q t o (some j) H5 (((s12.trans s3).trans s4).trans s5) et (next_col ok li lj (fun i' e => by cases e; omega) hl)⟩⟩

end
theorem while_gh {c : TT} {tb : TS} {D : Ends} {σ : L2.St} {H : Hp} (Pv : Nat → L2.St → Hp → Prop) (h0 : ∃ m, Pv m σ H)
    (hs : ∀ m σ H, Pv m σ H → c σ H fun b H1 => if b = true then tb { D with nx := fun σ' H' => ∃ m', m' < m ∧ Pv m' σ' H', ct := fun σ' H' => ∃ m', m' < m ∧ Pv m' σ' H', bk := D.nx } σ H1 else D.nx σ H1)
    (mono : ∀ σ H Q Q', (∀ b H1, Q b H1 → Q' b H1) → c σ H Q → c σ H Q') : tWhile c tb D σ H := by
  refine ⟨fun m σ H => Pv m σ H, h0, ?_⟩
  intro m σ H p
  refine mono σ H _ _ (fun b H1 q => ?_) (hs m σ H p)
  cases b with
  | true => exact ⟨_, fun σ' H' h => h, q⟩
  | false => exact q
/-- the end of the turns -/
structure Fin (V : Int → Nat → Int) (n r : Nat) (c : Nat → Nat → Int) (w : Int) (mh ms : Nat → Int) (oi oj : Option Nat) : Prop where
  ok : TB.Ok V n r c w mh ms
  fr : TB.Fr n r c mh ms n
  nx : NextR n r c mh ms oi oj
  no : oi = none ∨ oj = none
section
variable {P : Program} {w : World} {K : PySem.W.Frag} {mg : Str → Option Value} {base : Heap} {fd : FuncData}
def spSolved (K : PySem.W.Frag) : Sp := fun vs H Q _ => ∃ (p : Addr) (VV : Int → Nat → Int) (n r B : Nat) (c : Nat → Nat → Int) (wh : Int) (mh ms : Nat → Int), vs = [.ref p] ∧ IsTb K H p n r c wh mh ms ∧ TB.Ok VV n r c wh mh ms ∧ TB.Fr n r c mh ms n ∧ n < 1000 ∧ r + 1 < 1000 ∧ (∀ m b, (VV m b).natAbs ≤ B) ∧ TB.fac n * B ^ n < bigH ∧
  ∀ t z oi oj c wh mh ms H', Same H H' → H' t = some (.tup [.ref z, optV oi, optV oj]) → IsTb K H' z n r c wh mh ms → Fin VV n r c wh mh ms oi oj → Q (.ref t) H'
theorem scSolved : FnScope ["table", "i", "j"] ["table"] d_solved.scope := ⟨rfl, rfl, rfl, by decide +kernel, rfl, by decide +kernel, by decide +kernel⟩
theorem ok_solved (W : Wd K mg) : ∃ fd, FnOk P w K mg base CX0 4 (He.ga K "solved") fd ["table"] (spSolved K) ∧ Binds K fd ["table"] [] := by
  obtain ⟨fd_next_turn, G_next_turn, b_next_turn⟩ := ok_next_turn (P := P) (w := w) (base := base) W
  have k_next_turn : PySem.W.keepIn K (.ref (He.ga K "next_turn")) = true := by obtain ⟨fd, F⟩ := W.F_next_turn; exact F.kp
  obtain ⟨fd_turned, G_turned, b_turned⟩ := ok_turned (P := P) (w := w) (base := base) W
  have k_turned : PySem.W.keepIn K (.ref (He.ga K "turned")) = true := by obtain ⟨fd, F⟩ := W.F_turned; exact F.kp
  obtain ⟨fd, F⟩ := W.F_solved
  refine ⟨fd, F.ok scSolved (fun vs H Q E h => ?_) (fun cdv A outer s H vs Q E hr h => ?_), FunD.bindsN F fun _ _ _ _ _ _ us hl => match us, hl with | [_], _ => rfl⟩
  · obtain ⟨p, _, _, _, _, _, _, _, _, rfl, _⟩ := h
    rfl
  · obtain ⟨p, VV, n, r, B, c, wh, mh, ms, rfl, it, ok, fr, hn, hr1, hB, hF, q⟩ := h
    have r1 : Room 1 _ := hr.mono (by decide)
    have r2 : Room 2 _ := hr.mono (by decide)
    have r3 : Room 3 _ := hr.mono (by decide)
    refine ⟨_, PSs.nox (C8.pss_cut (ps_asg (pe_call G_next_turn r2 rfl W.g_next_turn k_next_turn b_next_turn .nil pass0 (pa_cons (pv 0) pa_nil)) (pg_tup rfl (pgs_cons (pg_name (i := 1) scSolved.nd rfl (Or.inl rfl)) (pgs_cons (pg_name (i := 2) scSolved.nd rfl (Or.inl rfl)) pgs_nil))))
    (C8.pss_cut (ps_while PassesOwn.never (PW.pt (pw_and (pt_cmpR op_notN (pv 1) pe_non (nomark _)) (pw_and1 (pt_cmpR op_notN (pv 2) pe_non (nomark _))))) (pss_cons (ps_set (i := 0) scSolved.nd rfl (Or.inl rfl) (pe_call G_turned r3 rfl W.g_turned k_turned b_turned .nil pass0 (pa_cons (pv 0) (pa_cons (pv 1) (pa_cons (pv 2) pa_nil)))))
    (pss_one (ps_asg (pe_call G_next_turn r2 rfl W.g_next_turn k_next_turn b_next_turn .nil pass0 (pa_cons (pv 0) pa_nil)) (pg_tup rfl (pgs_cons (pg_name (i := 1) scSolved.nd rfl (Or.inl rfl)) (pgs_cons (pg_name (i := 2) scSolved.nd rfl (Or.inl rfl)) pgs_nil)))))))
    (pss_one (ps_ret (pe_tup (pa_cons (pv 0) (pa_cons (pv 1) (pa_cons (pv 2) pa_nil)))))))), ?_⟩
    refine ⟨fun σ' H1 => ∃ oi oj, σ' = [some (.ref p), some (optV oi), some (optV oj)] ∧ Same H H1 ∧ NextR n r c mh ms oi oj, ?_, ?_⟩
    · simp -dsimp [tSeq, tAsg, tRet, tIfS, tIf, tTest, tVar, tCons, tNil, tC, tOp, tUn, rI, rI0, rU, tCB, tLst_A, tTup_A, gName, L2.start, CMul, CPow, CDiv, tDrop, tBM, tBM0, tNext, tPar, gSub, rSetL, rIxL, rIxT, tChain, tB, tNot, tNotV, tAnd, tOr, tAndV, tOrV, tFld, tCall, rIxLH, rIxTH, atI, ixN, upd_same, cxK, ex2, ex3, ex3b, rIs1, rIs2, rNe2, tyN, kb1, kb2, kb3, kb4, kb5, kb6, rEq, rNe, scal, tMake_S, tMakeK_S, tMakeN_S]
      refine ⟨p, VV, n, r, c, wh, mh, ms, rfl, it, ok, hn, hr1, fun t oi oj H1 s1 ht hx => ?_⟩
      exact tup2n ht ⟨oi, oj, rfl, s1, hx⟩
    rintro σ' H1 ⟨oi, oj, rfl, s1, hx⟩
    refine ⟨fun σ' H2 => ∃ z oi oj c wh mh ms, σ' = [some (.ref z), some (optV oi), some (optV oj)] ∧ Same H H2 ∧ IsTb K H2 z n r c wh mh ms ∧ Fin VV n r c wh mh ms oi oj, ?_, ?_⟩
    · refine while_gh (fun m σ' H2 => ∃ T z oi oj c wh mh ms, m = 2 ^ r - T ∧ σ' = [some (.ref z), some (optV oi), some (optV oj)] ∧ Same H H2 ∧ IsTb K H2 z n r c wh mh ms ∧ TB.Came VV n r T c wh mh ms ∧ TB.Fr n r c mh ms n ∧ NextR n r c mh ms oi oj) ⟨_, 0, p, oi, oj, c, wh, mh, ms, rfl, rfl, s1, it.same s1, .zero ok, fr, hx⟩ ?_ ?_
      · rintro m σ' H2 ⟨T, z, oi, oj, c, wh, mh, ms, rfl, rfl, s2, it2, cm, fr2, hx2⟩
        cases oi with
        | none =>
          simp -dsimp [tSeq, tAsg, tRet, tIfS, tIf, tTest, tVar, tCons, tNil, tC, tOp, tUn, rI, rI0, rU, tCB, tLst_A, tTup_A, gName, L2.start, CMul, CPow, CDiv, tDrop, tBM, tBM0, tNext, tPar, gSub, rSetL, rIxL, rIxT, tChain, tB, tNot, tNotV, tAnd, tOr, tAndV, tOrV, tFld, tCall, rIxLH, rIxTH, atI, ixN, upd_same, cxK, ex2, ex3, ex3b, rIs1, rIs2, rNe2, tyN, kb1, kb2, kb3, kb4, kb5, kb6, rEq, rNe, scal, tMake_S, tMakeK_S, tMakeN_S, optV]
          exact ⟨z, none, oj, ⟨rfl, rfl, rfl⟩, s2, _, _, _, _, it2, cm.ok, fr2, hx2, .inl rfl⟩
        | some i =>
          cases oj with
          | none =>
            simp -dsimp [tSeq, tAsg, tRet, tIfS, tIf, tTest, tVar, tCons, tNil, tC, tOp, tUn, rI, rI0, rU, tCB, tLst_A, tTup_A, gName, L2.start, CMul, CPow, CDiv, tDrop, tBM, tBM0, tNext, tPar, gSub, rSetL, rIxL, rIxT, tChain, tB, tNot, tNotV, tAnd, tOr, tAndV, tOrV, tFld, tCall, rIxLH, rIxTH, atI, ixN, upd_same, cxK, ex2, ex3, ex3b, rIs1, rIs2, rNe2, tyN, kb1, kb2, kb3, kb4, kb5, kb6, rEq, rNe, scal, tMake_S, tMakeK_S, tMakeN_S, optV]
            exact ⟨z, some i, none, ⟨rfl, rfl, rfl⟩, s2, _, _, _, _, it2, cm.ok, fr2, hx2, .inr rfl⟩
          | some j =>
            simp -dsimp [tSeq, tAsg, tRet, tIfS, tIf, tTest, tVar, tCons, tNil, tC, tOp, tUn, rI, rI0, rU, tCB, tLst_A, tTup_A, gName, L2.start, CMul, CPow, CDiv, tDrop, tBM, tBM0, tNext, tPar, gSub, rSetL, rIxL, rIxT, tChain, tB, tNot, tNotV, tAnd, tOr, tAndV, tOrV, tFld, tCall, rIxLH, rIxTH, atI, ixN, upd_same, cxK, ex2, ex3, ex3b, rIs1, rIs2, rNe2, tyN, kb1, kb2, kb3, kb4, kb5, kb6, rEq, rNe, scal, tMake_S, tMakeK_S, tMakeN_S, optV]
            have pk : TB.Pick n r c mh ms i j := hx2
            have cz : c i j ≠ 0 := by
              rcases pk.how with ⟨_, _, _, h, _⟩ | ⟨_, _, _, h, _⟩ <;> omega
            have cm' := cm.more pk (sgn_or (c i j)) (sgn_pos cz)
            refine ⟨z, i, j, n, r, c, wh, mh, ms, rfl, it2, Nat.le_of_lt pk.ir, pk.jn, hn, hr1, cm.ok.wpos, cz, Nat.lt_of_le_of_lt (cm.ok.whole_le hB) hF, fun a b ha hb => Nat.lt_of_le_of_lt (cm.ok.cell_le hB ha hb) hF, fun z' H3 s3 it3 => ?_⟩
            refine ⟨z', VV, n, r, _, _, _, _, rfl, it3, cm'.ok, hn, hr1, fun t oi' oj' H4 s4 ht hx4 => tup2n ht ?_⟩
            have lt := cm.lt
            exact ⟨_, by omega, T + 1, rfl, z', oi', oj', rfl, (s2.trans s3).trans s4, _, _, _, _, it3.same s4, cm', fr2.turn pk.ir pk.i0, hx4⟩
      · intro σ H Q Q' h k
        obtain ⟨v, e, e1, kk, e2, q1⟩ := k
        refine ⟨v, e, e1, kk, e2, ?_⟩
        cases kk with
        | false =>
          rw [if_neg (by decide)] at q1 ⊢
          exact h _ _ q1
        | true =>
          rw [if_pos rfl] at q1 ⊢
          obtain ⟨v, e, e1, kk, e2, q1⟩ := q1
          exact ⟨v, e, e1, kk, e2, h _ _ q1⟩
    rintro σ' H2 ⟨z, oi, oj, c, wh, mh, ms, rfl, s2, it2, fin⟩
    simp -dsimp [tSeq, tAsg, tRet, tIfS, tIf, tTest, tVar, tCons, tNil, tC, tOp, tUn, rI, rI0, rU, tCB, tLst_A, tTup_A, gName, L2.start, CMul, CPow, CDiv, tDrop, tBM, tBM0, tNext, tPar, gSub, rSetL, rIxL, rIxT, tChain, tB, tNot, tNotV, tAnd, tOr, tAndV, tOrV, tFld, tCall, rIxLH, rIxTH, atI, ixN, upd_same, cxK, ex2, ex3, ex3b, rIs1, rIs2, rNe2, tyN, kb1, kb2, kb3, kb4, kb5, kb6, rEq, rNe, scal, tMake_S, tMakeK_S, tMakeN_S]
    exact ⟨by decide, Alloc.of fun t H3 nt et s3 => q t z oi oj c wh mh ms H3 (s2.trans s3) et (it2.same s3) fin⟩

end
/-- over numbers from 0 on, the number reckoned: values -/
theorem lc_vlRT {n i0 : Nat} {ta : TA} {te : TE} {σ : List (Option V)} {H : Hp} {Q : V → Hp → Prop} (g : Nat → V) (hn : n < 1000) (hw : ∀ x : V, wipe ((wipe σ [i0]).set i0 (some x)) [i0] = wipe σ [i0]) (hta : ∀ R : List V → Hp → Prop, R [.int (n : Int)] H → ta σ H R)
    (he : ∀ (j : Nat) (H' : Hp) (R : V → Hp → Prop), j < n → Same H H' → (∀ H4, Same H' H4 → R (g j) H4) → te ((wipe σ [i0]).set i0 (some (.int (j : Int)))) H' R)
    (hq : ∀ (D : Addr) (H' : Hp), H D = none → Same H H' → H' D = some (.lst (vl n g)) → Q (.ref D) H') : tLc (iRng1 ta) (gName i0) tYes te [i0] σ H Q := by
  refine hta _ ⟨(n : Int), rfl, by omega, by omega, fun D hD => ?_⟩
  rw [Int.toNat_natCast]
  refine lc_it (walk_range (lo := 0) (n := n)) (fun i H' => Same H H' ∧ H' D = some (.lst (vl i g))) (vl_zero hD) (fun _ _ _ _ => True.intro) ?_ ?_
  · rintro i x H' H'' hi ⟨sm, dD⟩ ⟨rfl, rfl⟩
    refine ⟨hw _, ?_⟩
    simp only [tYes, if_true]
    rw [Int.zero_add]
    exact he i H'' _ hi sm (vl_step sm hD (by omega) dD fun _ h => h)
  · rintro H' ⟨sm, dD⟩
    exact hq D H' hD sm dD
section
variable {P : Program} {w : World} {K : PySem.W.Frag} {mg : Str → Option Value} {base : Heap} {fd : FuncData}
def spFirst (K : PySem.W.Frag) : Sp := fun vs H Q _ => ∃ (a b : Addr) (n r B : Nat) (sF : Nat → Nat → Int) (gl : Nat → Int), vs = [.ref a, .ref b] ∧ Cl H a r n sF ∧ H b = some (.lst (ro n gl)) ∧ 0 < n ∧ n < 900 ∧ r < 900 ∧ (∀ i b, n ≤ b → sF i b = 0) ∧ (∀ b, n ≤ b → gl b = 0) ∧ (∀ m b, (TB.Vf sF gl m b).natAbs ≤ B) ∧ TB.fac n * B ^ n < bigH ∧
  ∀ z c wh mh ms H', Same H H' → IsTb K H' z n r c wh mh ms → TB.Ok (TB.Vf sF gl) n r c wh mh ms → TB.Fr n r c mh ms n → Q (.ref z) H'
theorem scFirstTable : FnScope ["sums", "goal", "heads", "table", "j", "i", "k", "row"] ["sums", "goal"] d_first_table.scope := ⟨rfl, rfl, rfl, by decide +kernel, rfl, by decide +kernel, by decide +kernel⟩
theorem ok_first_table (W : Wd K mg) : ∃ fd, FnOk P w K mg base CX0 4 (He.ga K "first_table") fd ["sums", "goal"] (spFirst K) ∧ Binds K fd ["sums", "goal"] [] := by
  obtain ⟨fd_tbinit, G_tbinit, b_tbinit⟩ := ok_tbinit (P := P) (w := w) (base := base) W
  obtain ⟨tFREE, mFREE⟩ := W.g_FREE
  obtain ⟨tONE, mONE⟩ := W.g_ONE
  obtain ⟨tGOAL, mGOAL⟩ := W.g_GOAL
  obtain ⟨fd_least_mark, G_least_mark, b_least_mark⟩ := ok_least_mark (P := P) (w := w) (base := base) W
  have k_least_mark : PySem.W.keepIn K (.ref (He.ga K "least_mark")) = true := by obtain ⟨fd, F⟩ := W.F_least_mark; exact F.kp
  obtain ⟨fd_turned, G_turned, b_turned⟩ := ok_turned (P := P) (w := w) (base := base) W
  have k_turned : PySem.W.keepIn K (.ref (He.ga K "turned")) = true := by obtain ⟨fd, F⟩ := W.F_turned; exact F.kp
  obtain ⟨fd, F⟩ := W.F_first_table
  refine ⟨fd, F.ok scFirstTable (fun vs H Q E h => ?_) (fun cdv A outer s H vs Q E hr h => ?_), FunD.bindsN F fun _ _ _ _ _ _ us hl => match us, hl with | [_, _], _ => rfl⟩
  · obtain ⟨a, b, _, _, _, _, _, rfl, _⟩ := h
    rfl
  · obtain ⟨a, b, n, r, B, sF, gl, rfl, hc, hb, n0, hn, hr1, hs, hg, hB, hF, q⟩ := h
    have r1 : Room 1 _ := hr.mono (by decide)
    have r2 : Room 2 _ := hr.mono (by decide)
    have r3 : Room 3 _ := hr.mono (by decide)
    refine ⟨_, PSs.nox (C8.pss_cut (ps_set (i := 2) scFirstTable.nd rfl (Or.inl rfl) (pe_lst (pa_cons (pe_glob (v := .int (-1)) rfl mONE ⟨_, rfl⟩) (StX.pa_star (pe_lc (own := [("k", 6)]) (g := gName 6) (tt := tYes) rfl scFirstTable.nd (pi_range1 rfl W.f_range (pa_cons (pe_op op_sub (pe_callB len_lstH (by rfl) W.f_len boot_len (pa_cons (pv 1) pa_nil)) pe_int) pa_nil)) (blkOk_by (N := ["sums", "goal", "heads", "table", "j", "i", "k", "row"]) (sc := defScope s_first_table) (by decide +kernel))
            (fun _ _ _ _ _ => (pg_name (i := 6) scFirstTable.nd rfl (Or.inl rfl))) (fun _ _ _ _ _ => pts_nil)
            (fun _ _ _ _ _ => (pe_op op_sub (pe_glob (v := .int (-3)) rfl mFREE ⟨_, rfl⟩) (pv 6)))) pa_nil))))
    (C8.pss_cut (ps_set (i := 3) scFirstTable.nd rfl (Or.inl rfl) (pe_make W.mkr_Table G_tbinit r2 rfl W.g_Table b_tbinit .nil pass0 (pa_cons (pe_lst (StX.pa_star (pv 0) (pa_cons (pv 1) pa_nil))) (pa_cons pe_int (pa_cons (pe_lst (StX.pa_star (pe_listRg rfl rfl W.f_list (prg_1 rfl W.f_range (pe_callB len_lstH (by rfl) W.f_len boot_len (pa_cons (pv 0) pa_nil)))) (pa_cons (pe_glob (v := .int (-2)) rfl mGOAL ⟨_, rfl⟩) pa_nil))) (pa_cons (pv 2) pa_nil))))))
    (C8.pss_cut (ps_for PassesOwn.never rfl (pi_range2 rfl W.f_range (pa_cons pe_int (pa_cons (pe_callB len_lstH (by rfl) W.f_len boot_len (pa_cons (pv 2) pa_nil)) pa_nil))) (pg_name (i := 4) scFirstTable.nd rfl (Or.inr rfl)) (pss_cons (ps_set (i := 5) scFirstTable.nd rfl (Or.inl rfl) (pe_call G_least_mark r1 rfl W.g_least_mark k_least_mark b_least_mark .nil pass0 (pa_cons (pe_fld (pv 3) rfl) (pa_cons (pe_lc (own := [("row", 7)]) (g := gName 7) (tt := tYes) rfl scFirstTable.nd (pi_list (pe_fld (pv 3) rfl)) (blkOk_by (N := ["sums", "goal", "heads", "table", "j", "i", "k", "row"]) (sc := defScope s_first_table) (by decide +kernel))
            (fun _ _ _ _ _ => (pg_name (i := 7) scFirstTable.nd rfl (Or.inl rfl))) (fun _ _ _ _ _ => pts_nil)
            (fun _ _ _ _ _ => (pe_cmpR op_ne (pe_ix ix_lstH (pv 7) (pv 4) (fun _ _ => rfl)) pe_int (nomark _)))) pa_nil))))
    (pss_one (ps_if (pt_cmpR op_notN (pv 5) pe_non (nomark _)) (pss_one (ps_set (i := 3) scFirstTable.nd rfl (Or.inl rfl) (pe_call G_turned r3 rfl W.g_turned k_turned b_turned .nil pass0 (pa_cons (pv 3) (pa_cons (pv 5) (pa_cons (pv 4) pa_nil)))))) pss_nil))))
    (pss_one (ps_ret (pv 3)))))), ?_⟩
    have hc0 := hc
    obtain ⟨vs, hvl, ha, hrow⟩ := hc
    refine ⟨fun σ' H1 => ∃ h1, σ' = [some (.ref a), some (.ref b), some (.ref h1), none, none, none, none, none] ∧ Same H H1 ∧ H1 h1 = some (.lst (ro n TB.mh0)), ?_, ?_⟩
    · simp -dsimp [tSeq, tAsg, tRet, tIfS, tIf, tTest, tVar, tCons, tNil, tC, tOp, tUn, rI, rI0, rU, tCB, tLst_A, tTup_A, gName, L2.start, CMul, CPow, CDiv, tDrop, tBM, tBM0, tNext, tPar, gSub, rSetL, rIxL, rIxT, tChain, tB, tNot, tNotV, tAnd, tOr, tAndV, tOrV, tFld, tCall, rIxLH, rIxTH, atI, ixN, upd_same, cxK, ex2, ex3, ex3b, rIs1, rIs2, rNe2, tyN, kb1, kb2, kb3, kb4, kb5, kb6, rEq, rNe, scal, tMake_S, tMakeK_S, tMakeN_S, StX.tStar, hb]
      refine lc_vlRT (n := n - 1) (fun k => .int (-3 - (k : Int))) (by omega) (fun _ => rfl) (fun R h => ?_) (fun k H1 R hk s1 k1 => ?_) (fun D H1 nD s1 h1 => ?_)
      · simp -dsimp [tSeq, tAsg, tRet, tIfS, tIf, tTest, tVar, tCons, tNil, tC, tOp, tUn, rI, rI0, rU, tCB, tLst_A, tTup_A, gName, L2.start, CMul, CPow, CDiv, tDrop, tBM, tBM0, tNext, tPar, gSub, rSetL, rIxL, rIxT, tChain, tB, tNot, tNotV, tAnd, tOr, tAndV, tOrV, tFld, tCall, rIxLH, rIxTH, atI, ixN, upd_same, cxK, ex2, ex3, ex3b, rIs1, rIs2, rNe2, tyN, kb1, kb2, kb3, kb4, kb5, kb6, rEq, rNe, scal, tMake_S, tMakeK_S, tMakeN_S, hb, vl_len]
        rw [show ((n : Int) - 1) = ((n - 1 : Nat) : Int) by omega]
        exact h
      · simp -dsimp [tSeq, tAsg, tRet, tIfS, tIf, tTest, tVar, tCons, tNil, tC, tOp, tUn, rI, rI0, rU, tCB, tLst_A, tTup_A, gName, L2.start, CMul, CPow, CDiv, tDrop, tBM, tBM0, tNext, tPar, gSub, rSetL, rIxL, rIxT, tChain, tB, tNot, tNotV, tAnd, tOr, tAndV, tOrV, tFld, tCall, rIxLH, rIxTH, atI, ixN, upd_same, cxK, ex2, ex3, ex3b, rIs1, rIs2, rNe2, tyN, kb1, kb2, kb3, kb4, kb5, kb6, rEq, rNe, scal, tMake_S, tMakeK_S, tMakeN_S, wipe]
        exact k1 _ (Same.refl _)
      · skip
        have e : V.int (-1) :: vl (n - 1) (fun k => V.int (-3 - (k : Int))) = ro n TB.mh0 := vl_of (by rw [List.length_cons, vl_len]; omega) fun k hk => by
          cases k with
          | zero => rfl
          | succ k =>
            rw [List.getElem?_cons_succ, vl_get (by omega)]
            unfold TB.mh0
            rw [if_neg (by omega), show (-3 - (k : Int)) = -2 - ((k + 1 : Nat) : Int) by omega]
        refine ⟨D, rfl, _, .inr (SqL.of h1), by rw [vl_len]; exact small1000 (by omega), Alloc.of fun h2 H2 n2 e2 s2 => ⟨h2, rfl, s1.trans s2, ?_⟩⟩
        rw [e2, e]
    rintro σ' H1 ⟨h1, rfl, s1, hh1⟩
    refine ⟨fun σ' H2 => ∃ z, σ' = [some (.ref a), some (.ref b), some (.ref h1), some (.ref z), none, none, none, none] ∧ Same H1 H2 ∧ IsTb K H2 z n r (TB.firstC sF gl r) 1 TB.mh0 (TB.ms0 r), ?_, ?_⟩
    · simp -dsimp [tSeq, tAsg, tRet, tIfS, tIf, tTest, tVar, tCons, tNil, tC, tOp, tUn, rI, rI0, rU, tCB, tLst_A, tTup_A, gName, L2.start, CMul, CPow, CDiv, tDrop, tBM, tBM0, tNext, tPar, gSub, rSetL, rIxL, rIxT, tChain, tB, tNot, tNotV, tAnd, tOr, tAndV, tOrV, tFld, tCall, rIxLH, rIxTH, atI, ixN, upd_same, cxK, ex2, ex3, ex3b, rIs1, rIs2, rNe2, tyN, kb1, kb2, kb3, kb4, kb5, kb6, rEq, rNe, scal, tMake_S, tMakeK_S, tMakeN_S, StX.tStar, tMake_Tb]
      refine ⟨_, .inr (SqL.of (s1 _ _ ha)), small1000 (by omega), Alloc.of fun C H2 nC eC s2 => ?_⟩
      have s12 := s1.trans s2
      refine ⟨_, rfl, a, rfl, vs, s12 _ _ ha, _, rfl, .of_le (by decide) (by omega) (by decide) (by omega), fun L nL => ?_⟩
      have sL := same_upd (o := HO.lst (rgV 0 (vs.length : Int))) nL
      refine ⟨L, rfl, _, .inr (SqL.of upd_same), ?_, Alloc.of fun S H4 nS eS s4 => ?_⟩
      · rw [rgV_length]
        exact small1000 (by omega)
      have e : rgV 0 (vs.length : Int) ++ [V.int (-2)] = ro (r + 1) (TB.ms0 r) := vl_of (by rw [List.length_append, rgV_length, List.length_singleton]; omega) fun k hk => by
        unfold rgV TB.ms0
        by_cases h : k < r
        · rw [List.getElem?_append_left (by rw [List.length_map, List.length_range]; omega), List.getElem?_map, List.getElem?_range (by omega), if_pos h]
          show some (V.int (0 + (k : Int))) = _
          rw [Int.zero_add]
        · obtain rfl : k = r := by omega
          rw [List.getElem?_append_right (by rw [List.length_map, List.length_range]; omega), List.length_map, List.length_range, if_neg h, show k - ((vs.length : Int) - 0).toNat = 0 by omega]
          rfl
      rw [e] at eS
      have sC := sL.trans s4
      have cl : Cl H4 C (r + 1) n (TB.firstC sF gl r) := by
        refine ⟨vs ++ [.ref b], by rw [List.length_append, hvl]; rfl, sC _ _ eC, fun k hk => ?_⟩
        by_cases h : k < r
        · obtain ⟨q', e1, e2⟩ := hrow k h
          refine ⟨q', by rw [List.getElem?_append_left (by omega)]; exact e1, ?_⟩
          rw [ro_congr (f := TB.firstC sF gl r k) (g := sF k) fun b _ => if_pos h]
          exact sC _ _ (s12 _ _ e2)
        · obtain rfl : k = r := by omega
          refine ⟨b, by rw [List.getElem?_append_right (by omega), hvl, Nat.sub_self]; rfl, ?_⟩
          rw [ro_congr (f := TB.firstC sF gl k k) (g := gl) fun b _ => by unfold TB.firstC; rw [if_neg h, if_pos rfl]]
          exact sC _ _ (s12 _ _ hb)
      exact MkTb.of rfl cl eS (sC _ _ (s2 _ _ hh1)) fun z H5 s5 it => ⟨z, rfl, (s2.trans sC).trans s5, it⟩
    rintro σ' H2 ⟨z, rfl, s2, it⟩
    refine ⟨fun σ' H3 => ∃ z j' i' row' k' c wh mh ms, σ' = [some (.ref a), some (.ref b), some (.ref h1), some (.ref z), j', i', row', k'] ∧ Same H2 H3 ∧ IsTb K H3 z n r c wh mh ms ∧ TB.Ok (TB.Vf sF gl) n r c wh mh ms ∧ TB.Fr n r c mh ms n, ?_, ?_⟩
    · simp -dsimp [tSeq, tAsg, tRet, tIfS, tIf, tTest, tVar, tCons, tNil, tC, tOp, tUn, rI, rI0, rU, tCB, tLst_A, tTup_A, gName, L2.start, CMul, CPow, CDiv, tDrop, tBM, tBM0, tNext, tPar, gSub, rSetL, rIxL, rIxT, tChain, tB, tNot, tNotV, tAnd, tOr, tAndV, tOrV, tFld, tCall, rIxLH, rIxTH, atI, ixN, upd_same, cxK, ex2, ex3, ex3b, rIs1, rIs2, rNe2, tyN, kb1, kb2, kb3, kb4, kb5, kb6, rEq, rNe, scal, tMake_S, tMakeK_S, tMakeN_S]
      have ok0 : TB.Ok (TB.Vf sF gl) n r (TB.firstC sF gl r) 1 TB.mh0 (TB.ms0 r) := TB.Ok.first n0 hs hg
      refine ⟨.ref h1, rfl, h1, rfl, _, s2 _ _ hh1, 1, _, rfl, ⟨by decide, by decide, by omega, by rw [vl_len]; omega⟩, for_range (lo := 1) (n := (((ro n TB.mh0).length : Int) - 1).toNat) (fun i σ' H3 => ∃ z j' i' row' k' c wh mh ms, σ' = [some (.ref a), some (.ref b), some (.ref h1), some (.ref z), j', i', row', k'] ∧ Same H2 H3 ∧ IsTb K H3 z n r c wh mh ms ∧ TB.Ok (TB.Vf sF gl) n r c wh mh ms ∧ TB.Fr n r c mh ms (1 + i)) ⟨z, _, _, _, _, _, _, _, _, rfl, Same.refl _, it, ok0, fun i j _ _ h1 _ h2 => absurd h1 (by omega)⟩ ?_ ?_⟩
      · rintro i σ' H3 hi ⟨z, j', i', row', k', c, wh, mh, ms, rfl, s3, it, ok, fr⟩
        rw [vl_len] at hi
        obtain ⟨dx, pc, ps, ph, hp, ⟨vs', hvl', hpc, hrow'⟩, hS, hH⟩ := it
        have it : IsTb K H3 z n r c wh mh ms := ⟨dx, pc, ps, ph, hp, ⟨vs', hvl', hpc, hrow'⟩, hS, hH⟩
        simp -dsimp [tSeq, tAsg, tRet, tIfS, tIf, tTest, tVar, tCons, tNil, tC, tOp, tUn, rI, rI0, rU, tCB, tLst_A, tTup_A, gName, L2.start, CMul, CPow, CDiv, tDrop, tBM, tBM0, tNext, tPar, gSub, rSetL, rIxL, rIxT, tChain, tB, tNot, tNotV, tAnd, tOr, tAndV, tOrV, tFld, tCall, rIxLH, rIxTH, atI, ixN, upd_same, cxK, ex2, ex3, ex3b, rIs1, rIs2, rNe2, tyN, kb1, kb2, kb3, kb4, kb5, kb6, rEq, rNe, scal, tMake_S, tMakeK_S, tMakeN_S, gName, hp, tbO, W.cls_Table, W.n_Table_cells, W.n_Table_whole, W.n_Table_sides, W.n_Table_heads, tbl_c, tbl_w, tbl_s, tbl_h]
        have ec : (1 + (i : Int)) = ((1 + i : Nat) : Int) := by omega
        refine lc_vl (K := K) pc vs' (fun k => .bl (decide (c k (1 + i) ≠ 0))) (by omega) (fun _ => rfl) hpc (fun R h => ?_) (fun k x H4 R hx s4 k4 => ?_) (fun D H4 nD s4 h4 => ?_)
        · simp -dsimp [tSeq, tAsg, tRet, tIfS, tIf, tTest, tVar, tCons, tNil, tC, tOp, tUn, rI, rI0, rU, tCB, tLst_A, tTup_A, gName, L2.start, CMul, CPow, CDiv, tDrop, tBM, tBM0, tNext, tPar, gSub, rSetL, rIxL, rIxT, tChain, tB, tNot, tNotV, tAnd, tOr, tAndV, tOrV, tFld, tCall, rIxLH, rIxTH, atI, ixN, upd_same, cxK, ex2, ex3, ex3b, rIs1, rIs2, rNe2, tyN, kb1, kb2, kb3, kb4, kb5, kb6, rEq, rNe, scal, tMake_S, tMakeK_S, tMakeN_S, hp, tbO, W.cls_Table, W.n_Table_cells, W.n_Table_whole, W.n_Table_sides, W.n_Table_heads, tbl_c, tbl_w, tbl_s, tbl_h]
          exact h
        · obtain ⟨qk, ek, hqk⟩ := hrow' k (by have := (List.getElem?_eq_some_iff.mp hx).1; omega)
          rw [ek] at hx
          cases hx
          simp -dsimp [tSeq, tAsg, tRet, tIfS, tIf, tTest, tVar, tCons, tNil, tC, tOp, tUn, rI, rI0, rU, tCB, tLst_A, tTup_A, gName, L2.start, CMul, CPow, CDiv, tDrop, tBM, tBM0, tNext, tPar, gSub, rSetL, rIxL, rIxT, tChain, tB, tNot, tNotV, tAnd, tOr, tAndV, tOrV, tFld, tCall, rIxLH, rIxTH, atI, ixN, upd_same, cxK, ex2, ex3, ex3b, rIs1, rIs2, rNe2, tyN, kb1, kb2, kb3, kb4, kb5, kb6, rEq, rNe, scal, tMake_S, tMakeK_S, tMakeN_S, wipe, s4 _ _ hqk, rNe, scal]
          refine ⟨.int (c k (1 + i)), ?_, rfl, ?_⟩
          · rw [if_pos (by omega), if_pos (by rw [vl_len]; omega), show (1 + (i : Int)).toNat = 1 + i by omega]
            exact vl_get (n := n) (k := 1 + i) (g := fun b => V.int (c k b)) (by omega)
          · have e : (!decide (V.int (c k (1 + i)) = V.int 0)) = decide (c k (1 + i) ≠ 0) := by
              by_cases h : c k (1 + i) = 0
              · rw [h]
                rfl
              · rw [decide_eq_true h, decide_eq_false (fun x => h (by injection x))]
                rfl
            rw [e]
            exact k4 _ (Same.refl _)
        · rw [hvl'] at h4
          refine ⟨ps, D, r + 1, ms, _, rfl, s4 _ _ hS, h4, by omega, fun o H5 s5 hl => ?_⟩
          have s45 := (s3.trans s4).trans s5
          cases o with
          | none =>
            refine .inl ⟨rfl, s45, _, _, _, _, (it.same s4).same s5, ok, ?_⟩
            rw [← Nat.add_assoc]
            refine fr.up fun i' hi' h0 _ _ _ => ?_
            have := hl i' (by omega) h0
            have := of_decide_eq_false this
            omega
          | some i' =>
            obtain ⟨i1, i2, i3, _⟩ := hl
            have ir : i' < r := by
              have g := ok.tb.goal
              rcases Nat.lt_or_ge i' r with h | h
              · exact h
              · obtain rfl : i' = r := by omega
                omega
            have cz := of_decide_eq_true i3
            refine .inr ⟨(fun e => by cases e), z, i', 1 + i, n, r, c, wh, mh, ms, by rw [ec]; rfl, (it.same s4).same s5, by omega, by omega, by omega, by omega, ok.wpos, cz, Nat.lt_of_le_of_lt (ok.whole_le hB) hF, fun a b ha hb => Nat.lt_of_le_of_lt (ok.cell_le hB ha hb) hF, fun z' H6 s6 it6 => ⟨z', rfl, s45.trans s6, _, _, _, _, it6, ok.turn ir (by omega) (by omega) (sgn_or _) (sgn_pos cz), ?_⟩⟩
            rw [← Nat.add_assoc]
            refine (fr.turn ir i2).up fun a ha a0 _ _ hb => ?_
            rw [show TB.upm mh (1 + i) (ms i') (1 + i) = ms i' from if_pos rfl] at hb
            omega
      · rintro σ' H3 ⟨z, j', i', row', k', c, wh, mh, ms, rfl, s3, it, ok, fr⟩
        rw [vl_len, show 1 + ((n : Int) - 1).toNat = n by omega] at fr
        exact ⟨z, ⟨_, _, _, _, rfl⟩, s3, _, _, _, _, it, ok, fr⟩
    rintro σ' H3 ⟨z3, _, _, _, _, c, wh, mh, ms, rfl, s3, it3, ok3, fr3⟩
    simp -dsimp [tSeq, tAsg, tRet, tIfS, tIf, tTest, tVar, tCons, tNil, tC, tOp, tUn, rI, rI0, rU, tCB, tLst_A, tTup_A, gName, L2.start, CMul, CPow, CDiv, tDrop, tBM, tBM0, tNext, tPar, gSub, rSetL, rIxL, rIxT, tChain, tB, tNot, tNotV, tAnd, tOr, tAndV, tOrV, tFld, tCall, rIxLH, rIxTH, atI, ixN, upd_same, cxK, ex2, ex3, ex3b, rIs1, rIs2, rNe2, tyN, kb1, kb2, kb3, kb4, kb5, kb6, rEq, rNe, scal, tMake_S, tMakeK_S, tMakeN_S]
    exact q z3 c wh mh ms H3 ((s1.trans s2).trans s3) it3 ok3 fr3

end
theorem ro_flat {n : Nat} {f : Nat → Int} : (ro n f).all flatV = true := List.all_eq_true.mpr fun x hx => by
  have hx : x ∈ (List.range n).map _ := hx
  obtain ⟨b, _, rfl⟩ := List.mem_map.mp hx
  rfl
theorem eqV_int (a b : Int) : eqV (.int a) (.int b) = decide (a = b) := by
  show (a == b) = decide (a = b)
  exact Bool.eq_iff_iff.mpr (by rw [beq_iff_eq, decide_eq_true_iff])
theorem inV_ro {n : Nat} {f : Nat → Int} {x : Int} : inV (.int x) (ro n f) = true ↔ ∃ k, k < n ∧ f k = x := by
  unfold inV
  rw [List.any_eq_true]
  constructor
  · rintro ⟨y, hy, e⟩
    have hy : y ∈ (List.range n).map _ := hy
    obtain ⟨k, hk, rfl⟩ := List.mem_map.mp hy
    rw [eqV_int] at e
    exact ⟨k, List.mem_range.mp hk, of_decide_eq_true e⟩
  · rintro ⟨k, hk, e⟩
    refine ⟨.int (f k), ?_, by rw [eqV_int]; exact decide_eq_true e⟩
    exact List.mem_iff_getElem?.mpr ⟨k, vl_get hk⟩
theorem least_nat {p : Nat → Prop} (d : ∀ k, p k ∨ ¬ p k) : ∀ n, (∃ k, k < n ∧ p k) → ∃ k, k < n ∧ p k ∧ ∀ m, m < k → ¬ p m
  | 0, ⟨k, h, _⟩ => absurd h (by omega)
  | n + 1, ⟨k, hk, h⟩ => by
    by_cases e : ∃ k, k < n ∧ p k
    · obtain ⟨k, h1, h2, h3⟩ := least_nat d n e
      exact ⟨k, by omega, h2, h3⟩
    · refine ⟨k, hk, h, fun m hm x => e ⟨m, by omega, x⟩⟩
section
variable {P : Program} {w : World} {K : PySem.W.Frag} {mg : Str → Option Value} {base : Heap} {fd : FuncData}
def spWorth (K : PySem.W.Frag) : Sp := fun vs H Q _ => ∃ (p : Addr) (k : Nat) (VV : Int → Nat → Int) (n r : Nat) (c : Nat → Nat → Int) (wh : Int) (mh ms : Nat → Int), vs = [.ref p, .int k] ∧ IsTb K H p n r c wh mh ms ∧ TB.Ok VV n r c wh mh ms ∧ n < 900 ∧ r < 900 ∧
  ∀ x H', Same H H' → ((∀ i, i < r → ms i = -3 - (k : Int) → x = c i 0) ∧ ((∀ i, i < r → ms i ≠ -3 - (k : Int)) → x = 0)) → Q (.int x) H'
theorem scWorthOf : FnScope ["table", "k", "mark"] ["table", "k"] d_worth_of.scope := ⟨rfl, rfl, rfl, by decide +kernel, rfl, by decide +kernel, by decide +kernel⟩
theorem ok_worth_of (W : Wd K mg) : ∃ fd, FnOk P w K mg base CX0 1 (He.ga K "worth_of") fd ["table", "k"] (spWorth K) ∧ Binds K fd ["table", "k"] [] := by
  obtain ⟨tFREE, mFREE⟩ := W.g_FREE
  obtain ⟨fd, F⟩ := W.F_worth_of
  refine ⟨fd, F.ok scWorthOf (fun vs H Q E h => ?_) (fun cdv A outer s H vs Q E hr h => ?_), FunD.bindsN F fun _ _ _ _ _ _ us hl => match us, hl with | [_, _], _ => rfl⟩
  · obtain ⟨p, k, _, _, _, _, _, _, _, rfl, _⟩ := h
    rfl
  · obtain ⟨p, k, VV, n, r, c, wh, mh, ms, rfl, ⟨dx, pc, ps, ph, hp, ⟨vs, hvl, hpc, hrow⟩, hs, hh⟩, ok, hn, hr1, q⟩ := h

    refine ⟨_, PSs.nox (C8.pss_cut (ps_set (i := 2) scWorthOf.nd rfl (Or.inl rfl) (pe_op op_sub (pe_glob (v := .int (-3)) rfl mFREE ⟨_, rfl⟩) (pv 1)))
    (pss_cons (ps_if (pt_cmpR op_in_seq (pv 2) (pe_fld (pv 0) rfl) rfl) (pss_one (ps_ret (pe_ix ix_lstH (pe_ix ix_lstH (pe_fld (pv 0) rfl) (pe_bm PySem.F.plainAttrs_list PySem.F.slot_list_index PySem.F.type_list_index mt_index (pe_fld (pv 0) rfl) (pa_cons (pv 2) pa_nil)) (fun _ _ => rfl)) pe_int (fun _ _ => rfl)))) pss_nil)
    (pss_one (ps_ret pe_int)))), ?_⟩
    refine ⟨fun σ' H1 => σ' = [some (.ref p), some (.int k), some (.int (-3 - (k : Int)))] ∧ H1 = H, ?_, ?_⟩
    · simp -dsimp [tSeq, tAsg, tRet, tIfS, tIf, tTest, tVar, tCons, tNil, tC, tOp, tUn, rI, rI0, rU, tCB, tLst_A, tTup_A, gName, L2.start, CMul, CPow, CDiv, tDrop, tBM, tBM0, tNext, tPar, gSub, rSetL, rIxL, rIxT, tChain, tB, tNot, tNotV, tAnd, tOr, tAndV, tOrV, tFld, tCall, rIxLH, rIxTH, atI, ixN, upd_same, cxK, ex2, ex3, ex3b, rIs1, rIs2, rNe2, tyN, kb1, kb2, kb3, kb4, kb5, kb6, rEq, rNe, scal, tMake_S, tMakeK_S, tMakeN_S]
    rintro σ' H1 ⟨rfl, rfl⟩
    have g := ok.tb.goal
    by_cases e : ∃ i, i < r + 1 ∧ ms i = -3 - (k : Int)
    · obtain ⟨i, hi, ei, hm⟩ := least_nat (fun i => Decidable.em (ms i = -3 - (k : Int))) _ e
      have ir : i < r := by
        rcases Nat.lt_or_ge i r with h | h
        · exact h
        · obtain rfl : i = r := by omega
          omega
      obtain ⟨qi, eqi, hqi⟩ := hrow i hi
      have e1 := ixK eqi
      have e0 := ixK (vl_get (g := fun b => V.int (c i b)) ok.tb.n0)
      have iv : inV (.int (-3 - (k : Int))) (ro (r + 1) ms) = true := inV_ro.mpr ⟨i, hi, ei⟩
      simp -dsimp [tSeq, tAsg, tRet, tIfS, tIf, tTest, tVar, tCons, tNil, tC, tOp, tUn, rI, rI0, rU, tCB, tLst_A, tTup_A, gName, L2.start, CMul, CPow, CDiv, tDrop, tBM, tBM0, tNext, tPar, gSub, rSetL, rIxL, rIxT, tChain, tB, tNot, tNotV, tAnd, tOr, tAndV, tOrV, tFld, tCall, rIxLH, rIxTH, atI, ixN, upd_same, cxK, ex2, ex3, ex3b, rIs1, rIs2, rNe2, tyN, kb1, kb2, kb3, kb4, kb5, kb6, rEq, rNe, scal, tMake_S, tMakeK_S, tMakeN_S, hp, tbO, W.cls_Table, W.n_Table_cells, W.n_Table_whole, W.n_Table_sides, W.n_Table_heads, tbl_c, tbl_w, tbl_s, tbl_h]
      refine ⟨ps, _, rfl, .inl (SqL.of hs), rfl, ro_flat, .inr ⟨by show V.bl (inV _ _) = _; rw [iv], ?_⟩⟩
      simp -dsimp [tSeq, tAsg, tRet, tIfS, tIf, tTest, tVar, tCons, tNil, tC, tOp, tUn, rI, rI0, rU, tCB, tLst_A, tTup_A, gName, L2.start, CMul, CPow, CDiv, tDrop, tBM, tBM0, tNext, tPar, gSub, rSetL, rIxL, rIxT, tChain, tB, tNot, tNotV, tAnd, tOr, tAndV, tOrV, tFld, tCall, rIxLH, rIxTH, atI, ixN, upd_same, cxK, ex2, ex3, ex3b, rIs1, rIs2, rNe2, tyN, kb1, kb2, kb3, kb4, kb5, kb6, rEq, rNe, scal, tMake_S, tMakeK_S, tMakeN_S, hp, tbO, W.cls_Table, W.n_Table_cells, W.n_Table_whole, W.n_Table_sides, W.n_Table_heads, tbl_c, tbl_w, tbl_s, tbl_h]
      refine ⟨.inl ⟨rfl, _, SqL.of hs⟩, ps, _, _, i, _, rfl, rfl, SqL.of hs, rfl, ro_flat, vl_get hi, by rw [eqV_int]; exact decide_eq_true ei, fun m z' hmi hz => ?_, ?_⟩
      · obtain ⟨hm', hz⟩ := vl_at hz
        subst hz
        rw [eqV_int]
        exact decide_eq_false (hm m hmi)
      · simp -dsimp [tSeq, tAsg, tRet, tIfS, tIf, tTest, tVar, tCons, tNil, tC, tOp, tUn, rI, rI0, rU, tCB, tLst_A, tTup_A, gName, L2.start, CMul, CPow, CDiv, tDrop, tBM, tBM0, tNext, tPar, gSub, rSetL, rIxL, rIxT, tChain, tB, tNot, tNotV, tAnd, tOr, tAndV, tOrV, tFld, tCall, rIxLH, rIxTH, atI, ixN, upd_same, cxK, ex2, ex3, ex3b, rIs1, rIs2, rNe2, tyN, kb1, kb2, kb3, kb4, kb5, kb6, rEq, rNe, scal, tMake_S, tMakeK_S, tMakeN_S, hpc, e1, hqi, e0]
        refine q _ _ (Same.refl _) ⟨fun i' hi' e' => ?_, fun no => absurd ei (no i ir)⟩
        rw [ok.tb.si i' i (by omega) (by omega) (by rw [e', ei])]
    · have iv : inV (.int (-3 - (k : Int))) (ro (r + 1) ms) = false := Bool.eq_false_iff.mpr fun h => e (inV_ro.mp h)
      simp -dsimp [tSeq, tAsg, tRet, tIfS, tIf, tTest, tVar, tCons, tNil, tC, tOp, tUn, rI, rI0, rU, tCB, tLst_A, tTup_A, gName, L2.start, CMul, CPow, CDiv, tDrop, tBM, tBM0, tNext, tPar, gSub, rSetL, rIxL, rIxT, tChain, tB, tNot, tNotV, tAnd, tOr, tAndV, tOrV, tFld, tCall, rIxLH, rIxTH, atI, ixN, upd_same, cxK, ex2, ex3, ex3b, rIs1, rIs2, rNe2, tyN, kb1, kb2, kb3, kb4, kb5, kb6, rEq, rNe, scal, tMake_S, tMakeK_S, tMakeN_S, hp, tbO, W.cls_Table, W.n_Table_cells, W.n_Table_whole, W.n_Table_sides, W.n_Table_heads, tbl_c, tbl_w, tbl_s, tbl_h]
      refine ⟨ps, _, rfl, .inl (SqL.of hs), rfl, ro_flat, .inl ⟨by show V.bl (inV _ _) = _; rw [iv], q _ _ (Same.refl _) ⟨fun i' hi' e' => absurd ⟨i', by omega, e'⟩ e, fun _ => rfl⟩⟩⟩

def spLow (K : PySem.W.Frag) : Sp := fun vs H Q _ => ∃ (a : Addr) (m : Nat) (f : Nat → Int), vs = [.ref a] ∧ H a = some (.lst (ro m f)) ∧ m < 900 ∧ (∀ k, k < m → (f k).natAbs < bigH) ∧ (∃ k, k < m ∧ f k ≠ 0) ∧
  ∀ (D : Addr) (H' : Hp) (d : Int), H D = none → Same H H' → 0 < d → (∀ k, k < m → d ∣ f k) → H' D = some (.lst (ro m fun k => f k / d)) → Q (.ref D) H'
theorem scLowered : FnScope ["numbers", "common", "number"] ["numbers"] d_lowered.scope := ⟨rfl, rfl, rfl, by decide +kernel, rfl, by decide +kernel, by decide +kernel⟩
theorem ok_lowered (W : Wd K mg) : ∃ fd, FnOk P w K mg base CX0 2 (He.ga K "lowered") fd ["numbers"] (spLow K) ∧ Binds K fd ["numbers"] [] := by
  obtain ⟨fd_divisor, G_divisor, b_divisor⟩ := ok_divisor (P := P) (w := w) (base := base) W
  have k_divisor : PySem.W.keepIn K (.ref (He.ga K "divisor")) = true := by obtain ⟨fd, F⟩ := W.F_divisor; exact F.kp
  obtain ⟨fd, F⟩ := W.F_lowered
  refine ⟨fd, F.ok scLowered (fun vs H Q E h => ?_) (fun cdv A outer s H vs Q E hr h => ?_), FunD.bindsN F fun _ _ _ _ _ _ us hl => match us, hl with | [_], _ => rfl⟩
  · obtain ⟨a, _, _, rfl, _⟩ := h
    rfl
  · obtain ⟨a, m, f, rfl, ha, hm, hb, hk, q⟩ := h
    have r1 : Room 1 _ := hr.mono (by decide)
    refine ⟨_, PSs.nox (C8.pss_cut (ps_set (i := 1) scLowered.nd rfl (Or.inr rfl) pe_int)
    (C8.pss_cut (ps_for PassesOwn.never rfl (pi_list (pv 0)) (pg_name (i := 2) scLowered.nd rfl (Or.inl rfl)) (pss_one (ps_set (i := 1) scLowered.nd rfl (Or.inr rfl) (pe_call G_divisor r1 rfl W.g_divisor k_divisor b_divisor .nil pass0 (pa_cons (pv 2) (pa_cons (pv 1) pa_nil))))))
    (pss_one (ps_ret (pe_lc (own := [("number", 2)]) (g := gName 2) (tt := tYes) rfl scLowered.nd (pi_list (pv 0)) (blkOk_by (N := ["numbers", "common", "number"]) (sc := defScope s_lowered) (by decide +kernel))
            (fun _ _ _ _ _ => (pg_name (i := 2) scLowered.nd rfl (Or.inl rfl))) (fun _ _ _ _ _ => pts_nil)
            (fun _ _ _ _ _ => (pe_op op_fdivX (pv 2) (pv 1)))))))), ?_⟩
    refine ⟨fun σ' H1 => σ' = [some (.ref a), some (.int 0), none] ∧ H1 = H, ?_, ?_⟩
    · simp -dsimp [tSeq, tAsg, tRet, tIfS, tIf, tTest, tVar, tCons, tNil, tC, tOp, tUn, rI, rI0, rU, tCB, tLst_A, tTup_A, gName, L2.start, CMul, CPow, CDiv, tDrop, tBM, tBM0, tNext, tPar, gSub, rSetL, rIxL, rIxT, tChain, tB, tNot, tNotV, tAnd, tOr, tAndV, tOrV, tFld, tCall, rIxLH, rIxTH, atI, ixN, upd_same, cxK, ex2, ex3, ex3b, rIs1, rIs2, rNe2, tyN, kb1, kb2, kb3, kb4, kb5, kb6, rEq, rNe, scal, tMake_S, tMakeK_S, tMakeN_S]
    rintro σ' H1 ⟨rfl, rfl⟩
    refine ⟨fun σ' H2 => ∃ (w2 : Option V) (d : Nat), σ' = [some (.ref a), some (.int d), w2] ∧ Same H1 H2 ∧ (∀ k, k < m → (d : Int) ∣ f k) ∧ (∀ k, k < m → f k ≠ 0 → 0 < d) ∧ (0 < d → d < bigH), ?_, ?_⟩
    · simp -dsimp [tSeq, tAsg, tRet, tIfS, tIf, tTest, tVar, tCons, tNil, tC, tOp, tUn, rI, rI0, rU, tCB, tLst_A, tTup_A, gName, L2.start, CMul, CPow, CDiv, tDrop, tBM, tBM0, tNext, tPar, gSub, rSetL, rIxL, rIxT, tChain, tB, tNot, tNotV, tAnd, tOr, tAndV, tOrV, tFld, tCall, rIxLH, rIxTH, atI, ixN, upd_same, cxK, ex2, ex3, ex3b, rIs1, rIs2, rNe2, tyN, kb1, kb2, kb3, kb4, kb5, kb6, rEq, rNe, scal, tMake_S, tMakeK_S, tMakeN_S, tFor_iL]
      refine ⟨⟨_, SqL.of ha⟩, ?_⟩
      unfold ForW
      refine for_list (K := K) (a := a) (xs := ro m f) (fun i σ' H2 => ∃ (w2 : Option V) (d : Nat), σ' = [some (.ref a), some (.int d), w2] ∧ Same H1 H2 ∧ (∀ k, k < i → (d : Int) ∣ f k) ∧ (∀ k, k < i → f k ≠ 0 → 0 < d) ∧ (0 < d → d < bigH)) ⟨none, 0, rfl, Same.refl _, fun k hk => absurd hk (by omega), fun k hk => absurd hk (by omega), fun h => absurd h (by omega)⟩ (fun i σ' G _ h => ?_) ?_ ?_
      · obtain ⟨_, _, _, s, _⟩ := h
        exact SqL.of (s _ _ ha)
      · rintro i x σ' H2 hx ⟨w2, d, rfl, s2, hd, hd0, hd9⟩
        obtain ⟨hi, hx⟩ := vl_at hx
        subst hx
        simp -dsimp [tSeq, tAsg, tRet, tIfS, tIf, tTest, tVar, tCons, tNil, tC, tOp, tUn, rI, rI0, rU, tCB, tLst_A, tTup_A, gName, L2.start, CMul, CPow, CDiv, tDrop, tBM, tBM0, tNext, tPar, gSub, rSetL, rIxL, rIxT, tChain, tB, tNot, tNotV, tAnd, tOr, tAndV, tOrV, tFld, tCall, rIxLH, rIxTH, atI, ixN, upd_same, cxK, ex2, ex3, ex3b, rIs1, rIs2, rNe2, tyN, kb1, kb2, kb3, kb4, kb5, kb6, rEq, rNe, scal, tMake_S, tMakeK_S, tMakeN_S, gName]
        refine ⟨f i, d, rfl, _, Int.gcd (f i) d, ⟨rfl, rfl⟩, s2, fun k hk' => ?_, fun k hk' hn => ?_, fun h0 => ?_⟩
        · by_cases e : k = i
          · subst e
            exact Int.gcd_dvd_left _ _
          · exact Int.dvd_trans (Int.gcd_dvd_right _ _) (hd k (by omega))
        · by_cases e : k = i
          · subst e
            exact Int.gcd_pos_of_ne_zero_left _ hn
          · have := hd0 k (by omega) hn
            exact Int.gcd_pos_of_ne_zero_right _ (by omega)
        · by_cases e : f i = 0
          · rw [e, Int.gcd_zero_left, Int.natAbs_natCast] at h0 ⊢
            exact hd9 h0
          · exact Nat.lt_of_le_of_lt (Int.gcd_le_natAbs_left _ e) (hb i hi)
      · rintro σ' H2 ⟨w2, d, rfl, s2, hd, hd0, hd9⟩
        rw [vl_len] at hd hd0
        exact ⟨w2, d, rfl, s2, hd, hd0, hd9⟩
    rintro σ' H2 ⟨w2, d, rfl, s2, hd, hd0, hd9⟩
    obtain ⟨k0, hk0, hk1⟩ := hk
    have d0 := hd0 k0 hk0 hk1
    have d1 := hd9 d0
    simp -dsimp [tSeq, tAsg, tRet, tIfS, tIf, tTest, tVar, tCons, tNil, tC, tOp, tUn, rI, rI0, rU, tCB, tLst_A, tTup_A, gName, L2.start, CMul, CPow, CDiv, tDrop, tBM, tBM0, tNext, tPar, gSub, rSetL, rIxL, rIxT, tChain, tB, tNot, tNotV, tAnd, tOr, tAndV, tOrV, tFld, tCall, rIxLH, rIxTH, atI, ixN, upd_same, cxK, ex2, ex3, ex3b, rIs1, rIs2, rNe2, tyN, kb1, kb2, kb3, kb4, kb5, kb6, rEq, rNe, scal, tMake_S, tMakeK_S, tMakeN_S]
    refine lc_vl (K := K) a _ (fun k => .int (f k / (d : Int))) (by rw [vl_len]; omega) (fun _ => rfl) (s2 _ _ ha) (fun R h => ⟨_, rfl, h⟩) (fun k x H3 R hx s3 k3 => ?_) (fun D H3 nD s3 h3 => ?_)
    · obtain ⟨hb, hx⟩ := vl_at hx
      subst hx
      simp -dsimp [tSeq, tAsg, tRet, tIfS, tIf, tTest, tVar, tCons, tNil, tC, tOp, tUn, rI, rI0, rU, tCB, tLst_A, tTup_A, gName, L2.start, CMul, CPow, CDiv, tDrop, tBM, tBM0, tNext, tPar, gSub, rSetL, rIxL, rIxT, tChain, tB, tNot, tNotV, tAnd, tOr, tAndV, tOrV, tFld, tCall, rIxLH, rIxTH, atI, ixN, upd_same, cxK, ex2, ex3, ex3b, rIs1, rIs2, rNe2, tyN, kb1, kb2, kb3, kb4, kb5, kb6, rEq, rNe, scal, tMake_S, tMakeK_S, tMakeN_S, wipe]
      refine ⟨⟨by omega, h_lt_9 d1⟩, ?_⟩
      rw [Int.fdiv_eq_ediv_of_nonneg _ (by omega)]
      exact k3 _ (Same.refl _)
    · rw [vl_len] at h3
      exact q D H3 d (none_same s2 nD) (s2.trans s3) (by omega) hd h3

end
/-- a loop over zip(list, list), kept shut -/
def ForZ (K : PySem.W.Frag) (a b : Addr) (g : TG) (tb : TS) (D : Ends) (σ : List (Option V)) (H : Hp) (_ : Lk (g, tb, D) := ⟨⟩) : Prop :=
  ∃ W : Nat → Nat → List (Option V) → Hp → Prop, (∃ m, W 0 m σ H) ∧ ∀ i m σ H, W i m σ H → ((Itz K a b).stop i H ∧ D.nx σ H) ∨ ((Itz K a b).go i H ∧ ∃ N : List (Option V) → Hp → Prop, (∀ σ' H', N σ' H' → ∃ m', m' < m ∧ W (i + 1) m' σ' H') ∧ ∀ x H', (Itz K a b).yld i H x H' → g x σ H' fun σ2 H2 => tb { D with nx := N, ct := N, bk := D.nx } σ2 H2)
theorem tFor_iZ {K : PySem.W.Frag} {ta : TA} {g : TG} {tb : TS} {D : Ends} {σ : List (Option V)} {H : Hp} : tFor (iZip K ta) g tb D σ H = ta σ H fun vs H1 => ∃ a b xs ys, vs = [.ref a, .ref b] ∧ SqL K H1 a xs ∧ SqL K H1 b ys ∧ ForZ K a b g tb D σ H1 := rfl
theorem tLc_front {K : PySem.W.Frag} {tl te : TE} {gg : TG} {tt : TT} {own : List Nat} {σ : List (Option V)} {H : Hp} {Q : V → Hp → Prop} : tLc (iTup K tl) gg tt te own σ H Q = tl σ H fun x H1 => tLc (iTup K (tC x)) gg tt te own σ H1 Q := rfl
theorem wJ_lt {n B : Nat} {ci mh : Nat → Int} (h : ∀ j, j < n → (ci j).natAbs < B) : ∀ J, J ≤ n → ∀ k, (TB.wJ ci mh J k).natAbs < B ∨ TB.wJ ci mh J k = 0
  | 0, _, _ => .inr rfl
  | J + 1, hJ, k => by
    have ih := wJ_lt (mh := mh) h J (by omega) k
    show ((if 0 ≤ mh J then TB.upm (TB.wJ ci mh J) (mh J).toNat (-(ci J)) else TB.wJ ci mh J) k).natAbs < B ∨ (if 0 ≤ mh J then TB.upm (TB.wJ ci mh J) (mh J).toNat (-(ci J)) else TB.wJ ci mh J) k = 0
    split
    · unfold TB.upm
      split
      · have := h J (by omega)
        exact .inl (by omega)
      · exact ih
    · exact ih
section
variable {P : Program} {w : World} {K : PySem.W.Frag} {mg : Str → Option Value} {base : Heap} {fd : FuncData}
def spInts (K : PySem.W.Frag) : Sp := fun vs H Q _ => ∃ (x : Addr) (b0 b1 b2 b3 : Int × Int), vs = [.ref x] ∧ IsTm K H x b0 b1 b2 b3 ∧ ∀ D H', H D = none → Same H H' → H' D = some (.lst (ro 4 fun k => i4 b0.1 b1.1 b2.1 b3.1 k)) → Q (.ref D) H'
theorem scIntegersOf : FnScope ["term", "share"] ["term"] d_integers_of.scope := ⟨rfl, rfl, rfl, by decide +kernel, rfl, by decide +kernel, by decide +kernel⟩
theorem ok_integers_of (W : Wd K mg) : ∃ fd, FnOk P w K mg base CX0 1 (He.ga K "integers_of") fd ["term"] (spInts K) ∧ Binds K fd ["term"] [] := by
  obtain ⟨fd, F⟩ := W.F_integers_of
  refine ⟨fd, F.ok scIntegersOf (fun vs H Q E h => ?_) (fun cdv A outer s H vs Q E hr h => ?_), FunD.bindsN F fun _ _ _ _ _ _ us hl => match us, hl with | [_], _ => rfl⟩
  · obtain ⟨x, _, _, _, _, rfl, _⟩ := h
    rfl
  · obtain ⟨x, b0, b1, b2, b3, rfl, ⟨dx, a, tp, a0, a1, a2, h1, h2, h3, h4, h5, h6⟩, q⟩ := h

    refine ⟨_, PSs.nox (pss_one (ps_ret (pe_lc (own := [("share", 1)]) (g := gName 1) (tt := tYes) rfl scIntegersOf.nd (pi_tup (pe_tup (pa_cons (pe_fld (pv 0) rfl) (StX.pa_star (pe_fld (pv 0) rfl) pa_nil)))) (blkOk_by (N := ["term", "share"]) (sc := defScope s_integers_of) (by decide +kernel))
            (fun _ _ _ _ _ => (pg_name (i := 1) scIntegersOf.nd rfl (Or.inl rfl))) (fun _ _ _ _ _ => pts_nil)
            (fun _ _ _ _ _ => (show PE _ _ (tFld K (tVar 1) "top") from pe_fld (pv 1) rfl))))), ?_⟩
    simp -dsimp [tSeq, tAsg, tRet, tIfS, tIf, tTest, tVar, tCons, tNil, tC, tOp, tUn, rI, rI0, rU, tCB, tLst_A, tTup_A, gName, L2.start, CMul, CPow, CDiv, tDrop, tBM, tBM0, tNext, tPar, gSub, rSetL, rIxL, rIxT, tChain, tB, tNot, tNotV, tAnd, tOr, tAndV, tOrV, tFld, tCall, rIxLH, rIxTH, atI, ixN, upd_same, cxK, ex2, ex3, ex3b, rIs1, rIs2, rNe2, tyN, kb1, kb2, kb3, kb4, kb5, kb6, rEq, rNe, scal, tMake_S, tMakeK_S, tMakeN_S]
    rw [tLc_front]
    simp -dsimp [tSeq, tAsg, tRet, tIfS, tIf, tTest, tVar, tCons, tNil, tC, tOp, tUn, rI, rI0, rU, tCB, tLst_A, tTup_A, gName, L2.start, CMul, CPow, CDiv, tDrop, tBM, tBM0, tNext, tPar, gSub, rSetL, rIxL, rIxT, tChain, tB, tNot, tNotV, tAnd, tOr, tAndV, tOrV, tFld, tCall, rIxLH, rIxTH, atI, ixN, upd_same, cxK, ex2, ex3, ex3b, rIs1, rIs2, rNe2, tyN, kb1, kb2, kb3, kb4, kb5, kb6, rEq, rNe, scal, tMake_S, tMakeK_S, tMakeN_S, StX.tStar, h1, termO, W.cls_Term, W.n_Term_number, W.n_Term_times, look_num, look_tim]
    refine ⟨_, .inl (SqT.of h3), (by decide : 4 ≤ sizeLine), Alloc.of fun t H1 n1 e1 s1 => ?_⟩
    refine lc_vlT (K := K) t _ (fun k => .int (i4 b0.1 b1.1 b2.1 b3.1 k)) (by show 4 < 1000; decide) (fun _ => rfl) e1 (fun R h => h) (fun k y H2 R hx s2 k2 => ?_) (fun D H2 nD s2 h2 => ?_)
    · have s12 := s1.trans s2
      have one : ∀ {y : Addr} {c d : Int}, IsSh K H y c d → R (.int c) H2 → tFld K (tVar 1) "top" ((wipe [some (.ref x), none] [1]).set 1 (some (.ref y))) H2 R := fun ⟨dy, hy⟩ k => by
        simp -dsimp [tSeq, tAsg, tRet, tIfS, tIf, tTest, tVar, tCons, tNil, tC, tOp, tUn, rI, rI0, rU, tCB, tLst_A, tTup_A, gName, L2.start, CMul, CPow, CDiv, tDrop, tBM, tBM0, tNext, tPar, gSub, rSetL, rIxL, rIxT, tChain, tB, tNot, tNotV, tAnd, tOr, tAndV, tOrV, tFld, tCall, rIxLH, rIxTH, atI, ixN, upd_same, cxK, ex2, ex3, ex3b, rIs1, rIs2, rNe2, tyN, kb1, kb2, kb3, kb4, kb5, kb6, rEq, rNe, scal, tMake_S, tMakeK_S, tMakeN_S, wipe, s12 _ _ hy, shareO, W.cls_Share, W.n_Share_top, look_top]
        exact k
      match k, hx with
      | 0, hx => cases hx; exact one h2 (k2 _ (Same.refl _))
      | 1, hx => cases hx; exact one h4 (k2 _ (Same.refl _))
      | 2, hx => cases hx; exact one h5 (k2 _ (Same.refl _))
      | 3, hx => cases hx; exact one h6 (k2 _ (Same.refl _))
    · exact q D H2 (none_same s1 nD) (s1.trans s2) h2

def spWts (K : PySem.W.Frag) : Sp := fun vs H Q _ => ∃ (p : Addr) (i n r : Nat) (sF : Nat → Nat → Int) (gl : Nat → Int) (c : Nat → Nat → Int) (wh : Int) (mh ms : Nat → Int), vs = [.ref p, .int i, .int r] ∧ IsTb K H p n r c wh mh ms ∧ TB.Ok (TB.Vf sF gl) n r c wh mh ms ∧ n < 900 ∧ r < 900 ∧ i < r ∧ 0 ≤ ms i ∧ wh.natAbs < bigH ∧ (∀ a b, a ≤ r → b < n → (c a b).natAbs < bigH) ∧
  ∀ D H' d, H D = none → Same H H' → 0 < d → (∀ k, k < r → d ∣ TB.wtsF n (c i) mh (ms i).toNat wh k) → H' D = some (.lst (ro r fun k => TB.wtsF n (c i) mh (ms i).toNat wh k / d)) → Q (.ref D) H'
theorem scWeightsIn : FnScope ["table", "i", "many", "weights", "mark", "cell"] ["table", "i", "many"] d_weights_in.scope := ⟨rfl, rfl, rfl, by decide +kernel, rfl, by decide +kernel, by decide +kernel⟩
theorem ok_weights_in (W : Wd K mg) : ∃ fd, FnOk P w K mg base CX0 3 (He.ga K "weights_in") fd ["table", "i", "many"] (spWts K) ∧ Binds K fd ["table", "i", "many"] [] := by
  obtain ⟨fd_lowered, G_lowered, b_lowered⟩ := ok_lowered (P := P) (w := w) (base := base) W
  have k_lowered : PySem.W.keepIn K (.ref (He.ga K "lowered")) = true := by obtain ⟨fd, F⟩ := W.F_lowered; exact F.kp
  obtain ⟨fd, F⟩ := W.F_weights_in
  refine ⟨fd, F.ok scWeightsIn (fun vs H Q E h => ?_) (fun cdv A outer s H vs Q E hr h => ?_), FunD.bindsN F fun _ _ _ _ _ _ us hl => match us, hl with | [_, _, _], _ => rfl⟩
  · obtain ⟨p, i, _, r, _, _, _, _, _, _, rfl, _⟩ := h
    rfl
  · obtain ⟨p, i, n, r, sF, gl, c, wh, mh, ms, rfl, ⟨dx, pc, ps, ph, hp, ⟨vs, hvl, hpc, hrow⟩, hs, hh⟩, ok, hn, hr1, hi, i0, hw, hZ, q⟩ := h
    have r1 : Room 1 _ := hr.mono (by decide)
    have r2 : Room 2 _ := hr.mono (by decide)
    refine ⟨_, PSs.nox (C8.pss_cut (ps_set (i := 3) scWeightsIn.nd rfl (Or.inl rfl) (pe_op op_rep (pe_lst (pa_cons pe_int pa_nil)) (pv 2)))
    (C8.pss_cut (ps_for PassesOwn.never rfl (pi_zip (by rfl) W.f_zip (pa_cons (pe_fld (pv 0) rfl) (pa_cons (pe_ix ix_lstH (pe_fld (pv 0) rfl) (pv 1) (fun _ _ => rfl)) pa_nil))) (pg_tup rfl (pgs_cons (pg_name (i := 4) scWeightsIn.nd rfl (Or.inl rfl)) (pgs_cons (pg_name (i := 5) scWeightsIn.nd rfl (Or.inl rfl)) pgs_nil))) (pss_one (ps_if (pt_cmpR op_ge (pv 4) pe_int (nomark _)) (pss_one (ps_asg (pe_un un_neg (pv 5)) (pg_sub (pv 3) (pv 4) set_list))) pss_nil)))
    (C8.pss_cut (ps_asg (pe_fld (pv 0) rfl) (pg_sub (pv 3) (pe_ix ix_lstH (pe_fld (pv 0) rfl) (pv 1) (fun _ _ => rfl)) set_list))
    (pss_one (ps_ret (pe_call G_lowered r2 rfl W.g_lowered k_lowered b_lowered .nil pass0 (pa_cons (pv 3) pa_nil))))))), ?_⟩
    refine ⟨fun σ' H1 => ∃ A, σ' = [some (.ref p), some (.int i), some (.int r), some (.ref A), none, none] ∧ H A = none ∧ Same H H1 ∧ H1 A = some (.lst (ro r fun _ => 0)), ?_, ?_⟩
    · simp -dsimp [tSeq, tAsg, tRet, tIfS, tIf, tTest, tVar, tCons, tNil, tC, tOp, tUn, rI, rI0, rU, tCB, tLst_A, tTup_A, gName, L2.start, CMul, CPow, CDiv, tDrop, tBM, tBM0, tNext, tPar, gSub, rSetL, rIxL, rIxT, tChain, tB, tNot, tNotV, tAnd, tOr, tAndV, tOrV, tFld, tCall, rIxLH, rIxTH, atI, ixN, upd_same, cxK, ex2, ex3, ex3b, rIs1, rIs2, rNe2, tyN, kb1, kb2, kb3, kb4, kb5, kb6, rEq, rNe, scal, tMake_S, tMakeK_S, tMakeN_S]
      refine ⟨by decide, Alloc.of fun l0 H1 n1 e1 s1 => ⟨l0, r, _, rfl, rfl, e1, by omega, by omega, ?_, fun A nA => ⟨A, rfl, none_same s1 nA, s1.trans (same_upd nA), ?_⟩⟩⟩
      · show 1 * ((r : Int)).toNat ≤ sizeLine
        rw [Int.toNat_natCast, Nat.one_mul]
        exact Nat.le_of_lt (small1000 (by omega))
      · rw [upd_same, Int.toNat_natCast]
        refine congrArg (fun l => some (HO.lst l)) (vl_of (by simp only [List.length_flatten, List.map_replicate, List.sum_replicate_nat, List.length_singleton, Nat.mul_one]) fun k hk => ?_)
        have e : ∀ m, (List.replicate m [V.int 0]).flatten = List.replicate m (V.int 0) := fun m => by
          induction m with
          | zero => rfl
          | succ m ih => rw [List.replicate_succ, List.flatten_cons, ih]; rfl
        rw [e, List.getElem?_replicate, if_pos hk]
    rintro σ' H1 ⟨A, rfl, nA, s1, hA⟩
    obtain ⟨qi, ei, hqi⟩ := hrow i (by omega)
    refine ⟨fun σ' H2 => ∃ w4 w5, σ' = [some (.ref p), some (.int i), some (.int r), some (.ref A), w4, w5] ∧ Same H H2 ∧ H2 A = some (.lst (ro r (TB.wJ (c i) mh n))), ?_, ?_⟩
    · have e1 := ixK ei
      simp -dsimp [tSeq, tAsg, tRet, tIfS, tIf, tTest, tVar, tCons, tNil, tC, tOp, tUn, rI, rI0, rU, tCB, tLst_A, tTup_A, gName, L2.start, CMul, CPow, CDiv, tDrop, tBM, tBM0, tNext, tPar, gSub, rSetL, rIxL, rIxT, tChain, tB, tNot, tNotV, tAnd, tOr, tAndV, tOrV, tFld, tCall, rIxLH, rIxTH, atI, ixN, upd_same, cxK, ex2, ex3, ex3b, rIs1, rIs2, rNe2, tyN, kb1, kb2, kb3, kb4, kb5, kb6, rEq, rNe, scal, tMake_S, tMakeK_S, tMakeN_S, tFor_iZ, s1 _ _ hp, s1 _ _ hpc, e1, tbO, W.cls_Table, W.n_Table_cells, W.n_Table_whole, W.n_Table_sides, W.n_Table_heads, tbl_c, tbl_w, tbl_s, tbl_h]
      refine ⟨⟨_, SqL.of (s1 _ _ hh)⟩, ⟨_, SqL.of (s1 _ _ hqi)⟩, ?_⟩
      unfold ForZ
      refine for_it (walk_zip (K := K) (a := ph) (b := qi) (xs := ro n mh) (ys := ro n (c i)) (n := n) (by rw [vl_len, vl_len, Nat.min_self])) (fun k σ' G => ∃ (w4 w5 : Option V), σ' = [some (.ref p), some (.int i), some (.int r), some (.ref A), w4, w5] ∧ Same H G ∧ G A = some (.lst (ro r (TB.wJ (c i) mh k)))) ⟨_, _, rfl, s1, hA⟩ (fun k σ' G _ h => ?_) ?_ ?_
      · obtain ⟨_, _, _, s, _⟩ := h
        exact ⟨SqL.of (s _ _ hh), SqL.of (s _ _ hqi)⟩
      · rintro k x σ' G G' hk ⟨w4, w5, rfl, sG, hG⟩ ⟨T, u, y, rfl, nT, rfl, eu, ey⟩
        obtain ⟨_, eu⟩ := vl_at (show (ro n mh)[k]? = some u from eu)
        obtain ⟨_, ey⟩ := vl_at (show (ro n (c i))[k]? = some y from ey)
        subst eu ey
        refine tup2n upd_same ?_
        have sT : Same G (upd G T (HO.tup [V.int (mh k), V.int (c i k)])) := same_upd nT
        have hA' := sT _ _ hG
        simp -dsimp [tSeq, tAsg, tRet, tIfS, tIf, tTest, tVar, tCons, tNil, tC, tOp, tUn, rI, rI0, rU, tCB, tLst_A, tTup_A, gName, L2.start, CMul, CPow, CDiv, tDrop, tBM, tBM0, tNext, tPar, gSub, rSetL, rIxL, rIxT, tChain, tB, tNot, tNotV, tAnd, tOr, tAndV, tOrV, tFld, tCall, rIxLH, rIxTH, atI, ixN, upd_same, cxK, ex2, ex3, ex3b, rIs1, rIs2, rNe2, tyN, kb1, kb2, kb3, kb4, kb5, kb6, rEq, rNe, scal, tMake_S, tMakeK_S, tMakeN_S, hA']
        have st : TB.wJ (c i) mh (k + 1) = if 0 ≤ mh k then TB.upm (TB.wJ (c i) mh k) (mh k).toNat (-(c i k)) else TB.wJ (c i) mh k := rfl
        split
        · rename_i h0
          have lt : mh k < r := by
            have := (ok.un (mh k)).mp (.inl ⟨k, hk, rfl⟩)
            unfold TB.Un at this
            omega
          refine ⟨(mh k).toNat, ?_, Same.updF (sG.trans sT) nA, ?_⟩
          · rw [if_pos (by rw [vl_len]; exact lt)]
          · rw [st, if_pos h0]
            exact ro_set (by omega)
        · rename_i h0
          rw [st, if_neg h0]
          exact ⟨sG.trans sT, rfl⟩
      · rintro σ' G ⟨w4, w5, rfl, sG, hG⟩
        exact ⟨⟨_, _, rfl⟩, sG, hG⟩
    rintro σ' H2 ⟨w4, w5, rfl, s2, hA2⟩
    refine ⟨fun σ' H3 => σ' = [some (.ref p), some (.int i), some (.int r), some (.ref A), w4, w5] ∧ Same H H3 ∧ H3 A = some (.lst (ro r (TB.wtsF n (c i) mh (ms i).toNat wh))), ?_, ?_⟩
    · have e1 := ixK (vl_get (n := r + 1) (g := fun b => V.int (ms b)) (show i < r + 1 by omega))
      simp -dsimp [tSeq, tAsg, tRet, tIfS, tIf, tTest, tVar, tCons, tNil, tC, tOp, tUn, rI, rI0, rU, tCB, tLst_A, tTup_A, gName, L2.start, CMul, CPow, CDiv, tDrop, tBM, tBM0, tNext, tPar, gSub, rSetL, rIxL, rIxT, tChain, tB, tNot, tNotV, tAnd, tOr, tAndV, tOrV, tFld, tCall, rIxLH, rIxTH, atI, ixN, upd_same, cxK, ex2, ex3, ex3b, rIs1, rIs2, rNe2, tyN, kb1, kb2, kb3, kb4, kb5, kb6, rEq, rNe, scal, tMake_S, tMakeK_S, tMakeN_S, s2 _ _ hp, s2 _ _ hs, hA2, e1, tbO, W.cls_Table, W.n_Table_cells, W.n_Table_whole, W.n_Table_sides, W.n_Table_heads, tbl_c, tbl_w, tbl_s, tbl_h]
      have ltS : ms i < r := by
        have := (ok.un (ms i)).mp (.inr ⟨i, hi, rfl⟩)
        unfold TB.Un at this
        omega
      refine ⟨(ms i).toNat, ?_, Same.updF s2 nA, ?_⟩
      · rw [if_pos i0, if_pos (by rw [vl_len]; exact ltS)]
      · exact ro_set (by omega)
    rintro σ' H3 ⟨rfl, s3, hA3⟩
    simp -dsimp [tSeq, tAsg, tRet, tIfS, tIf, tTest, tVar, tCons, tNil, tC, tOp, tUn, rI, rI0, rU, tCB, tLst_A, tTup_A, gName, L2.start, CMul, CPow, CDiv, tDrop, tBM, tBM0, tNext, tPar, gSub, rSetL, rIxL, rIxT, tChain, tB, tNot, tNotV, tAnd, tOr, tAndV, tOrV, tFld, tCall, rIxLH, rIxTH, atI, ixN, upd_same, cxK, ex2, ex3, ex3b, rIs1, rIs2, rNe2, tyN, kb1, kb2, kb3, kb4, kb5, kb6, rEq, rNe, scal, tMake_S, tMakeK_S, tMakeN_S]
    have wA := ok.wpos
    have hg : ∀ k, (TB.wtsF n (c i) mh (ms i).toNat wh k).natAbs < bigH := fun k => by
      unfold TB.wtsF TB.upm
      split
      · exact hw
      · rcases wJ_lt (mh := mh) (fun j hj => hZ i j (by omega) hj) n (Nat.le_refl _) k with h | h
        · exact h
        · rw [h]
          exact Nat.lt_of_le_of_lt (Nat.zero_le _) hw
    have ltS : ms i < r := by
      have := (ok.un (ms i)).mp (.inr ⟨i, hi, rfl⟩)
      unfold TB.Un at this
      omega
    refine ⟨A, r, _, rfl, hA3, hr1, fun k _ => hg k, ⟨(ms i).toNat, by omega, ?_⟩, fun D H4 d nD s4 d0 hd h4 => q D H4 d (none_same s3 nD) (s3.trans s4) d0 hd h4⟩
    rw [show TB.wtsF n (c i) mh (ms i).toNat wh (ms i).toNat = wh from if_pos rfl]
    omega

end
theorem sm_succ (f : Nat → Int) : ∀ n, TB.sm (n + 1) f = f 0 + TB.sm n fun i => f (i + 1)
  | 0 => by
    show (0 : Int) + f 0 = f 0 + 0
    omega
  | n + 1 => by
    show TB.sm (n + 1) f + f (n + 1) = f 0 + (TB.sm n (fun i => f (i + 1)) + f (n + 1))
    rw [sm_succ f n, Int.add_assoc]
theorem sm_zero : ∀ n, TB.sm n (fun _ => (0 : Int)) = 0
  | 0 => rfl
  | n + 1 => by
    show TB.sm n (fun _ => (0 : Int)) + 0 = 0
    rw [sm_zero n]
    rfl
/-- the raised sums -/
def coneS (F : Nat → Nat → Int) (st : Nat → Bool) (r n : Nat) (k b : Nat) : Int := if k < r then (if b = 0 then (if st k = true then -1 else 0) else if b ≤ n then F k (b - 1) else 0) else 0
theorem coneS_0 {F : Nat → Nat → Int} {st : Nat → Bool} {r n k : Nat} (hk : k < r) : coneS F st r n k 0 = if st k = true then -1 else 0 := by
  unfold coneS
  rw [if_pos hk, if_pos rfl]
theorem coneS_s {F : Nat → Nat → Int} {st : Nat → Bool} {r n k b : Nat} (hk : k < r) (hb : b < n) : coneS F st r n k (b + 1) = F k b := by
  unfold coneS
  rw [if_pos hk, if_neg (by omega), if_pos (by omega)]
  rfl
theorem rep0 (m : Nat) : (List.replicate m [V.int 0]).flatten = ro m fun _ => 0 := by
  have e : ∀ m, (List.replicate m [V.int 0]).flatten = List.replicate m (V.int 0) := fun m => by
    induction m with
    | zero => rfl
    | succ m ih => rw [List.replicate_succ, List.flatten_cons, ih]; rfl
  rw [e]
  exact vl_of (by rw [List.length_replicate]) fun k hk => by rw [List.getElem?_replicate, if_pos hk]
def ConeP (F : Nat → Nat → Int) (st : Nat → Bool) (r n : Nat) (x : Nat → Int) : Prop := ∀ k, k < r → 0 ≤ TB.dotV n (F k) x ∧ (st k = true → 0 < TB.dotV n (F k) x)
def ConeN (F : Nat → Nat → Int) (st : Nat → Bool) (r n : Nat) (W : Nat → Int) : Prop := (∀ k, 0 ≤ W k) ∧ (∀ b, b < n → TB.sm r (fun k => W k * F k b) = 0) ∧ ∃ k, k < r ∧ st k = true ∧ 0 < W k
noncomputable def worthF (r : Nat) (c : Nat → Nat → Int) (ms : Nat → Int) (k : Nat) : Int := open Classical in if h : ∃ i, i < r ∧ ms i = -3 - (k : Int) then c h.choose 0 else 0
theorem worthF_at {r k i : Nat} {c : Nat → Nat → Int} {ms : Nat → Int} (si : ∀ i k, i ≤ r → k ≤ r → ms i = ms k → i = k) (hi : i < r) (e : ms i = -3 - (k : Int)) : worthF r c ms k = c i 0 := by
  unfold worthF
  have h : ∃ i, i < r ∧ ms i = -3 - (k : Int) := ⟨i, hi, e⟩
  rw [dif_pos h]
  have s := h.choose_spec
  rw [si h.choose i (by omega) (by omega) (by rw [s.2, e])]
theorem worthF_no {r k : Nat} {c : Nat → Nat → Int} {ms : Nat → Int} (h : ∀ i, i < r → ms i ≠ -3 - (k : Int)) : worthF r c ms k = 0 := by
  unfold worthF
  rw [dif_neg]
  rintro ⟨i, hi, e⟩
  exact h i hi e
noncomputable def amt (r : Nat) (c : Nat → Nat → Int) (wh : Int) (ms : Nat → Int) (k : Nat) : Int := if k = 0 then wh else worthF r c ms (k - 1)
theorem hVB {F : Nat → Nat → Int} {st : Nat → Bool} {r n B : Nat} (hB : ∀ k c, k < r → c < n → (F k c).natAbs ≤ B) (B1 : 1 ≤ B) (m : Int) (b : Nat) : (TB.Vf (coneS F st r n) (fun _ => 0) m b).natAbs ≤ B := by
  have h0 : (0 : Int).natAbs ≤ B := Nat.zero_le _
  unfold TB.Vf
  split
  · unfold coneS
    split
    · rename_i hk
      split
      · split
        · exact B1
        · exact h0
      · split
        · exact hB _ _ hk (by omega)
        · exact h0
    · exact h0
  · split
    · exact h0
    · unfold TB.unitV
      split
      · exact B1
      · exact h0
theorem ediv_abs {x d : Int} (d0 : 0 < d) (h : d ∣ x) : (x / d).natAbs ≤ x.natAbs := by
  obtain ⟨y, rfl⟩ := h
  rw [Int.mul_ediv_cancel_left y (by omega), Int.natAbs_mul]
  exact Nat.le_mul_of_pos_left _ (by omega)
theorem worthF_lt {r k B : Nat} {c : Nat → Nat → Int} {ms : Nat → Int} (h : ∀ i, i < r → (c i 0).natAbs < B) (b0 : 0 < B) : (worthF r c ms k).natAbs < B := by
  unfold worthF
  split
  · rename_i e
    exact h _ e.choose_spec.1
  · exact b0
theorem amt_X {n r : Nat} {c : Nat → Nat → Int} {wh : Int} {ms : Nat → Int} (si : ∀ i k, i ≤ r → k ≤ r → ms i = ms k → i = k) : TB.IsX n r c wh ms (amt r c wh ms) := by
  refine ⟨rfl, fun k k0 kn => ?_⟩
  have e : amt r c wh ms k = worthF r c ms (k - 1) := if_neg (by omega)
  rw [e]
  exact ⟨fun i hi h => worthF_at si hi (by omega), fun h => worthF_no fun i hi => by have := h i hi; omega⟩
theorem dot_div {n : Nat} {f x y : Nat → Int} {d : Int} (h : ∀ b, b < n → x b = d * y b) : TB.dotV n f x = d * TB.dotV n f y := by
  unfold TB.dotV
  rw [← TB.sm_mul]
  refine TB.sm_congr n fun b hb => ?_
  show f b * x b = d * (f b * y b)
  rw [h b hb, ← Int.mul_assoc, Int.mul_comm (f b) d, Int.mul_assoc]
theorem goal0 {sF : Nat → Nat → Int} {n r : Nat} {c : Nat → Nat → Int} {w : Int} {mh ms : Nat → Int} (A : TB.Ok (TB.Vf sF fun _ => 0) n r c w mh ms) {j : Nat} (hj : j < n) : c r j = 0 := by
  obtain ⟨h, s, e, T, hh, hS⟩ := A.tb.T
  have t := T.cell hj r
  have s0 : s r = fun _ => 0 := by
    rw [hS r (Nat.le_refl _), A.tb.goal]
    rfl
  rw [s0, TB.det_zero hj] at t
  rcases T.sg with rfl | rfl <;> omega
theorem cone_dot {F : Nat → Nat → Int} {st : Nat → Bool} {r n k : Nat} (hk : k < r) (x : Nat → Int) : TB.dotV (n + 1) (coneS F st r n k) x = (if st k = true then -1 else 0) * x 0 + TB.dotV n (F k) fun b => x (b + 1) := by
  unfold TB.dotV
  rw [sm_succ, coneS_0 hk]
  refine congrArg (_ + ·) (TB.sm_congr n fun b hb => ?_)
  show coneS F st r n k (b + 1) * _ = _
  rw [coneS_s hk hb]
theorem cone_P {F : Nat → Nat → Int} {st : Nat → Bool} {r n : Nat} {c : Nat → Nat → Int} {wh : Int} {mh ms : Nat → Int} (A : TB.Ok (TB.Vf (coneS F st r n) fun _ => 0) (n + 1) r c wh mh ms) (up : ∀ i, i < r → 0 ≤ ms i → 0 ≤ c i 0) :
    (∀ k, k < r → 0 ≤ TB.dotV n (F k) (worthF r c ms) ∧ (st k = true → 0 < TB.dotV n (F k) (worthF r c ms))) := by
  obtain ⟨x0, hold, _⟩ := A.holds (fun i b hb => by
    unfold coneS
    split
    · rw [if_neg (by omega), if_neg (by omega)]
    · rfl) (fun _ _ => rfl) (amt_X (n := n + 1) A.tb.si) up
  intro k hk
  have h := hold k hk
  rw [cone_dot hk] at h
  have e : (fun b => amt r c wh ms (b + 1)) = worthF r c ms := by
    funext b
    exact if_neg (by omega)
  rw [e] at h
  cases hs : st k with
  | true =>
    rw [hs, if_pos rfl] at h
    exact ⟨by omega, fun _ => by omega⟩
  | false =>
    rw [hs, if_neg (by decide)] at h
    exact ⟨by omega, fun x => by cases x⟩
theorem ConeP.div {F : Nat → Nat → Int} {st : Nat → Bool} {r n : Nat} {x : Nat → Int} {d : Int} (h : ConeP F st r n x) (d0 : 0 < d) (hd : ∀ b, b < n → d ∣ x b) : ConeP F st r n fun b => x b / d := fun k hk => by
  have e : TB.dotV n (F k) x = d * TB.dotV n (F k) fun b => x b / d := dot_div fun b hb => (Int.mul_ediv_cancel' (hd b hb)).symm
  obtain ⟨h1, h2⟩ := h k hk
  rw [e] at h1 h2
  refine ⟨Int.not_lt.mp fun l => ?_, fun s => Int.not_le.mp fun l => ?_⟩
  · have := Int.mul_neg_of_pos_of_neg d0 l
    omega
  · have := Int.mul_nonpos_of_nonneg_of_nonpos (Int.le_of_lt d0) l
    have := h2 s
    omega
theorem ConeP.some {F : Nat → Nat → Int} {st : Nat → Bool} {r n : Nat} {x : Nat → Int} (h : ConeP F st r n x) (e : ∃ k, k < r ∧ st k = true) : ∃ b, b < n ∧ x b ≠ 0 := by
  obtain ⟨k, hk, s⟩ := e
  refine Decidable.byContradiction fun no => ?_
  have h1 := (h k hk).2 s
  have : TB.dotV n (F k) x = TB.dotV n (F k) fun _ => 0 := TB.sm_congr n fun b hb => by
    rw [show x b = 0 from Decidable.byContradiction fun z => no ⟨b, hb, z⟩]
  have z : TB.dotV n (F k) (fun _ => 0) = 0 := by
    have := dot_div (n := n) (f := F k) (x := fun _ => 0) (y := fun _ => 0) (d := 0) fun _ _ => rfl
    omega
  omega
theorem sm_div {n : Nat} {f g : Nat → Int} {d : Int} (h : ∀ b, b < n → d ∣ f b) : TB.sm n (fun b => f b * g b) = d * TB.sm n fun b => f b / d * g b := by
  rw [← TB.sm_mul]
  refine TB.sm_congr n fun b hb => ?_
  show f b * g b = d * (f b / d * g b)
  rw [← Int.mul_assoc, Int.mul_ediv_cancel' (h b hb)]
theorem ConeN.div {F : Nat → Nat → Int} {st : Nat → Bool} {r n : Nat} {W : Nat → Int} {d : Int} (h : ConeN F st r n W) (d0 : 0 < d) (hd : ∀ b, b < r → d ∣ W b) : ConeN F st r n fun b => if b < r then W b / d else 0 := by
  obtain ⟨h1, h2, k, hk, h3, h4⟩ := h
  refine ⟨fun k => ?_, fun b hb => ?_, k, hk, h3, ?_⟩
  · show 0 ≤ if k < r then W k / d else 0
    split
    · exact Int.ediv_nonneg (h1 k) (Int.le_of_lt d0)
    · exact Int.le_refl _
  · have e := sm_div (g := fun k => F k b) hd
    rw [h2 b hb] at e
    have : TB.sm r (fun k => (if k < r then W k / d else 0) * F k b) = TB.sm r fun k => W k / d * F k b := TB.sm_congr r fun k hk => by rw [if_pos hk]
    rw [this]
    rcases Int.mul_eq_zero.mp e.symm with h | h
    · omega
    · exact h
  · show 0 < if k < r then W k / d else 0
    rw [if_pos hk]
    have e := Int.mul_ediv_cancel' (hd k hk)
    refine Int.not_le.mp fun l => ?_
    have := Int.mul_nonpos_of_nonneg_of_nonpos (Int.le_of_lt d0) l
    omega
theorem cone_N {F : Nat → Nat → Int} {st : Nat → Bool} {r n : Nat} {gl : Nat → Int} {c : Nat → Nat → Int} {wh : Int} {mh ms : Nat → Int} (A : TB.Ok (TB.Vf (coneS F st r n) gl) (n + 1) r c wh mh ms) (fr : TB.Fr (n + 1) r c mh ms (n + 1)) {i : Nat} (hi : i < r) (i0 : 0 ≤ ms i) (cn : c i 0 < 0)
    (neg : ∀ j, j < n + 1 → 0 ≤ mh j → c i j ≤ 0) : ConeN F st r n (TB.wtsF (n + 1) (c i) mh (ms i).toNat wh) := by
  obtain ⟨h1, h2, h3⟩ := A.weights fr hi i0 neg
  refine ⟨h1, fun b hb => ?_, ?_⟩
  · have e := h3 (b + 1)
    rw [show TB.unitV 0 (b + 1) = 0 from if_neg (by omega), Int.mul_zero] at e
    rw [← e]
    exact TB.sm_congr r fun k hk => by rw [coneS_s hk hb]
  · refine Decidable.byContradiction fun no => ?_
    have e := h3 0
    rw [show TB.unitV 0 0 = 1 from rfl, Int.mul_one] at e
    have z : TB.sm r (fun k => TB.wtsF (n + 1) (c i) mh (ms i).toNat wh k * coneS F st r n k 0) = TB.sm r fun _ => 0 := TB.sm_congr r fun k hk => by
      rw [coneS_0 hk]
      cases hs : st k with
      | true =>
        rw [if_pos rfl]
        have : TB.wtsF (n + 1) (c i) mh (ms i).toNat wh k = 0 := by
          have g := h1 k
          rcases Int.lt_or_le 0 (TB.wtsF (n + 1) (c i) mh (ms i).toNat wh k) with l | l
          · exact absurd ⟨k, hk, hs, l⟩ no
          · omega
        rw [this, Int.zero_mul]
      | false =>
        rw [if_neg (by decide), Int.mul_zero]
    have z0 : TB.sm r (fun _ => (0 : Int)) = 0 := sm_zero r
    rw [z, z0] at e
    omega
section
variable {P : Program} {w : World} {K : PySem.W.Frag} {mg : Str → Option Value} {base : Heap} {fd : FuncData}
def spCone (K : PySem.W.Frag) : Sp := fun vs H Q _ => ∃ (a b : Addr) (r n B : Nat) (F : Nat → Nat → Int) (st : Nat → Bool), vs = [.ref a, .ref b] ∧ Cl H a r n F ∧ H b = some (.lst (vl r fun k => .bl (st k))) ∧ 0 < r ∧ r < 900 ∧ 0 < n ∧ n < 800 ∧ (∀ k c, k < r → c < n → (F k c).natAbs ≤ B) ∧ 1 ≤ B ∧ TB.fac (n + 1) * B ^ (n + 1) < bigH ∧ (∃ k, k < r ∧ st k = true) ∧
  (∀ t D x H', Same H H' → H' t = some (.tup [.ref D, .non]) → H D = none → H' D = some (.lst (ro n x)) → (∀ k, k < n → (x k).natAbs < TB.fac (n + 1) * B ^ (n + 1) + 1) → ConeP F st r n x → Q (.ref t) H') ∧
  ∀ t D W H', Same H H' → H' t = some (.tup [.non, .ref D]) → H D = none → H' D = some (.lst (ro r W)) → (∀ k, k < r → (W k).natAbs < TB.fac (n + 1) * B ^ (n + 1) + 1) → ConeN F st r n W → Q (.ref t) H'
theorem scCone : FnScope ["sums", "stricts", "raised", "size", "table", "i", "j", "multiples", "strict", "k"] ["sums", "stricts"] d_cone.scope := ⟨rfl, rfl, rfl, by decide +kernel, rfl, by decide +kernel, by decide +kernel⟩
theorem ok_cone (W : Wd K mg) : ∃ fd, FnOk P w K mg base CX0 5 (He.ga K "cone") fd ["sums", "stricts"] (spCone K) ∧ Binds K fd ["sums", "stricts"] [] := by
  obtain ⟨fd_solved, G_solved, b_solved⟩ := ok_solved (P := P) (w := w) (base := base) W
  have k_solved : PySem.W.keepIn K (.ref (He.ga K "solved")) = true := by obtain ⟨fd, F⟩ := W.F_solved; exact F.kp
  obtain ⟨fd_first_table, G_first_table, b_first_table⟩ := ok_first_table (P := P) (w := w) (base := base) W
  have k_first_table : PySem.W.keepIn K (.ref (He.ga K "first_table")) = true := by obtain ⟨fd, F⟩ := W.F_first_table; exact F.kp
  obtain ⟨fd_weights_in, G_weights_in, b_weights_in⟩ := ok_weights_in (P := P) (w := w) (base := base) W
  have k_weights_in : PySem.W.keepIn K (.ref (He.ga K "weights_in")) = true := by obtain ⟨fd, F⟩ := W.F_weights_in; exact F.kp
  obtain ⟨fd_lowered, G_lowered, b_lowered⟩ := ok_lowered (P := P) (w := w) (base := base) W
  have k_lowered : PySem.W.keepIn K (.ref (He.ga K "lowered")) = true := by obtain ⟨fd, F⟩ := W.F_lowered; exact F.kp
  obtain ⟨fd_worth_of, G_worth_of, b_worth_of⟩ := ok_worth_of (P := P) (w := w) (base := base) W
  have k_worth_of : PySem.W.keepIn K (.ref (He.ga K "worth_of")) = true := by obtain ⟨fd, F⟩ := W.F_worth_of; exact F.kp
  obtain ⟨fd, F⟩ := W.F_cone
  refine ⟨fd, F.ok scCone (fun vs H Q E h => ?_) (fun cdv A outer s H vs Q E hr h => ?_), FunD.bindsN F fun _ _ _ _ _ _ us hl => match us, hl with | [_, _], _ => rfl⟩
  · obtain ⟨a, b, _, _, _, _, _, rfl, _⟩ := h
    rfl
  · obtain ⟨a, b, r, n, B, F, st, rfl, hc, hb, r0, hr1, n0, hn, hB, B1, hF, hst, qP, qN⟩ := h
    have r1 : Room 1 _ := hr.mono (by decide)
    have r2 : Room 2 _ := hr.mono (by decide)
    have r3 : Room 3 _ := hr.mono (by decide)
    have r4 : Room 4 _ := hr.mono (by decide)
    refine ⟨_, PSs.nox (C8.pss_cut (ps_setLc (i := 2) (own := [("multiples", 7), ("strict", 8)]) (g := gTup K 2 (gCons (gName 7) (gCons (gName 8) gNil))) (tt := tYes) (by rfl) scCone.nd rfl rfl (sw_true rfl rfl rfl (by decide +kernel)) (RZ.pi_zipA (by rfl) W.f_zip (pa_cons (pv 0) (pa_cons (pv 1) pa_nil))) (blkOk_by (N := ["sums", "stricts", "raised", "size", "table", "i", "j", "multiples", "strict", "k"]) (sc := defScope s_cone) (by decide +kernel))
            (fun _ _ _ _ _ => (pg_tup rfl (pgs_cons (pg_name (i := 7) scCone.nd rfl (Or.inl rfl)) (pgs_cons (pg_name (i := 8) scCone.nd rfl (Or.inl rfl)) pgs_nil)))) (fun _ _ _ _ _ => pts_nil)
            (fun _ _ _ _ _ => (pe_lst (pa_cons (pe_ifExp (pt_val (pv 8)) (pe_un un_neg pe_int) pe_int) (show PA _ _ (StX.tStar K (tVar 7) tNil) from StX.pa_star (pv 7) pa_nil)))))
    (C8.pss_cut (ps_set (i := 3) scCone.nd rfl (Or.inl rfl) (pe_callB len_lstH (by rfl) W.f_len boot_len (pa_cons (pe_ix ix_lstH (pv 0) pe_int (fun _ _ => rfl)) pa_nil)))
    (C8.pss_cut (ps_asg (pe_call G_solved r4 rfl W.g_solved k_solved b_solved .nil pass0 (pa_cons (pe_call G_first_table r4 rfl W.g_first_table k_first_table b_first_table .nil pass0 (pa_cons (pv 2) (pa_cons (pe_op op_rep (pe_lst (pa_cons pe_int pa_nil)) (pe_op op_add (pv 3) pe_int)) pa_nil))) pa_nil)) (pg_tup rfl (pgs_cons (pg_name (i := 4) scCone.nd rfl (Or.inr rfl)) (pgs_cons (pg_name (i := 5) scCone.nd rfl (Or.inl rfl)) (pgs_cons (pg_name (i := 6) scCone.nd rfl (Or.inl rfl)) pgs_nil)))))
    (pss_cons (ps_if (pt_cmpR op_notN (pv 5) pe_non (nomark _)) (pss_one (ps_ret (pe_tup (pa_cons pe_non (pa_cons (pe_call G_weights_in r3 rfl W.g_weights_in k_weights_in b_weights_in .nil pass0 (pa_cons (pv 4) (pa_cons (pv 5) (pa_cons (pe_callB len_lstH (by rfl) W.f_len boot_len (pa_cons (pv 0) pa_nil)) pa_nil)))) pa_nil))))) pss_nil)
    (pss_one (ps_ret (pe_tup (pa_cons (pe_call G_lowered r2 rfl W.g_lowered k_lowered b_lowered .nil pass0 (pa_cons (pe_lc (own := [("k", 9)]) (g := gName 9) (tt := tYes) rfl scCone.nd (pi_range1 rfl W.f_range (pa_cons (pv 3) pa_nil)) (blkOk_by (N := ["sums", "stricts", "raised", "size", "table", "i", "j", "multiples", "strict", "k"]) (sc := defScope s_cone) (by decide +kernel))
            (fun _ _ _ _ _ => (pg_name (i := 9) scCone.nd rfl (Or.inl rfl))) (fun _ _ _ _ _ => pts_nil)
            (fun _ _ _ _ _ => (pe_call G_worth_of r1 rfl W.g_worth_of k_worth_of b_worth_of .nil pass0 (pa_cons (pv 4) (pa_cons (pv 9) pa_nil))))) pa_nil)) (pa_cons pe_non pa_nil))))))))), ?_⟩
    have hc0 := hc
    obtain ⟨vs, hvl, ha, hrow⟩ := hc
    refine ⟨fun σ' H1 => ∃ A, σ' = [some (.ref a), some (.ref b), some (.ref A), none, none, none, none, none, none, none] ∧ Same H H1 ∧ Cl H1 A r (n + 1) (coneS F st r n), ?_, ?_⟩
    · simp -dsimp [tSeq, tAsg, tRet, tIfS, tIf, tTest, tVar, tCons, tNil, tC, tOp, tUn, rI, rI0, rU, tCB, tLst_A, tTup_A, gName, L2.start, CMul, CPow, CDiv, tDrop, tBM, tBM0, tNext, tPar, gSub, rSetL, rIxL, rIxT, tChain, tB, tNot, tNotV, tAnd, tOr, tAndV, tOrV, tFld, tCall, rIxLH, rIxTH, atI, ixN, upd_same, cxK, ex2, ex3, ex3b, rIs1, rIs2, rNe2, tyN, kb1, kb2, kb3, kb4, kb5, kb6, rEq, rNe, scal, tMake_S, tMakeK_S, tMakeN_S]
      refine lc_nwZ (K := K) a b vs _ (fun k => ro (n + 1) (coneS F st r n k)) (by rw [hvl, vl_len]) (by omega) (fun _ _ => rfl) ha hb (fun R h => ⟨_, rfl, _, rfl, h⟩) (fun k x y H1 R hx hy s1 k1 => ?_) (fun D H1 nD s1 h1 => ⟨D, rfl, s1, by rw [hvl] at h1; exact h1.cl fun k hk => rfl⟩)
      obtain ⟨hk, hy⟩ := vl_at hy
      obtain ⟨qk, ek, hqk⟩ := hrow k hk
      rw [ek] at hx
      cases hx
      subst hy
      have fin : ∀ z : Int, z = (if st k = true then -1 else 0) → (∃ xs, (SqT K H1 qk xs ∨ SqL K H1 qk xs) ∧ xs.length + 1 ≤ sizeLine ∧ Alloc H1 (HO.lst (V.int z :: xs)) R) := fun z hz => by
        refine ⟨_, .inr (SqL.of (s1 _ _ hqk)), by rw [vl_len]; exact Nat.le_of_lt (small1000 (by omega)), Alloc.of fun q' H2 n2 e2 s2 => k1 q' H2 s2 n2 ?_⟩
        rw [e2]
        refine congrArg (fun l => some (HO.lst l)) (vl_of (by rw [List.length_cons, vl_len]) fun j hj => ?_)
        cases j with
        | zero => rw [coneS_0 hk, hz]; rfl
        | succ j => rw [List.getElem?_cons_succ, vl_get (by omega), coneS_s hk (by omega)]
      cases hs : st k with
      | true =>
        rw [hs] at fin
        simp -dsimp [tSeq, tAsg, tRet, tIfS, tIf, tTest, tVar, tCons, tNil, tC, tOp, tUn, rI, rI0, rU, tCB, tLst_A, tTup_A, gName, L2.start, CMul, CPow, CDiv, tDrop, tBM, tBM0, tNext, tPar, gSub, rSetL, rIxL, rIxT, tChain, tB, tNot, tNotV, tAnd, tOr, tAndV, tOrV, tFld, tCall, rIxLH, rIxTH, atI, ixN, upd_same, cxK, ex2, ex3, ex3b, rIs1, rIs2, rNe2, tyN, kb1, kb2, kb3, kb4, kb5, kb6, rEq, rNe, scal, tMake_S, tMakeK_S, tMakeN_S, wipe, StX.tStar]
        exact fin _ rfl
      | false =>
        rw [hs] at fin
        simp -dsimp [tSeq, tAsg, tRet, tIfS, tIf, tTest, tVar, tCons, tNil, tC, tOp, tUn, rI, rI0, rU, tCB, tLst_A, tTup_A, gName, L2.start, CMul, CPow, CDiv, tDrop, tBM, tBM0, tNext, tPar, gSub, rSetL, rIxL, rIxT, tChain, tB, tNot, tNotV, tAnd, tOr, tAndV, tOrV, tFld, tCall, rIxLH, rIxTH, atI, ixN, upd_same, cxK, ex2, ex3, ex3b, rIs1, rIs2, rNe2, tyN, kb1, kb2, kb3, kb4, kb5, kb6, rEq, rNe, scal, tMake_S, tMakeK_S, tMakeN_S, wipe, StX.tStar]
        exact fin _ rfl
    rintro σ' H1 ⟨A, rfl, s1, cA⟩
    refine ⟨fun σ' H2 => H2 = H1 ∧ σ' = [some (.ref a), some (.ref b), some (.ref A), some (.int n), none, none, none, none, none, none], ?_, ?_⟩
    · obtain ⟨q0, e0, hq0⟩ := hrow 0 r0
      have e0 := ixK e0
      simp -dsimp [tSeq, tAsg, tRet, tIfS, tIf, tTest, tVar, tCons, tNil, tC, tOp, tUn, rI, rI0, rU, tCB, tLst_A, tTup_A, gName, L2.start, CMul, CPow, CDiv, tDrop, tBM, tBM0, tNext, tPar, gSub, rSetL, rIxL, rIxT, tChain, tB, tNot, tNotV, tAnd, tOr, tAndV, tOrV, tFld, tCall, rIxLH, rIxTH, atI, ixN, upd_same, cxK, ex2, ex3, ex3b, rIs1, rIs2, rNe2, tyN, kb1, kb2, kb3, kb4, kb5, kb6, rEq, rNe, scal, tMake_S, tMakeK_S, tMakeN_S, s1 _ _ ha, e0, s1 _ _ hq0, vl_len]
    rintro σ' H2 ⟨rfl, rfl⟩
    refine ⟨fun σ' H3 => ∃ z oi oj c wh mh ms, Same H2 H3 ∧ σ' = [some (.ref a), some (.ref b), some (.ref A), some (.int n), some (.ref z), some (optV oi), some (optV oj), none, none, none] ∧ IsTb K H3 z (n + 1) r c wh mh ms ∧ Fin (TB.Vf (coneS F st r n) fun _ => 0) (n + 1) r c wh mh ms oi oj, ?_, ?_⟩
    · simp -dsimp [tSeq, tAsg, tRet, tIfS, tIf, tTest, tVar, tCons, tNil, tC, tOp, tUn, rI, rI0, rU, tCB, tLst_A, tTup_A, gName, L2.start, CMul, CPow, CDiv, tDrop, tBM, tBM0, tNext, tPar, gSub, rSetL, rIxL, rIxT, tChain, tB, tNot, tNotV, tAnd, tOr, tAndV, tOrV, tFld, tCall, rIxLH, rIxTH, atI, ixN, upd_same, cxK, ex2, ex3, ex3b, rIs1, rIs2, rNe2, tyN, kb1, kb2, kb3, kb4, kb5, kb6, rEq, rNe, scal, tMake_S, tMakeK_S, tMakeN_S]
      have hs' : ∀ i b, n + 1 ≤ b → coneS F st r n i b = 0 := fun i b hb => by
        unfold coneS
        split
        · rw [if_neg (by omega), if_neg (by omega)]
        · rfl
      have hV := hVB (st := st) hB B1
      refine ⟨by decide, Alloc.of fun l0 H3 n3 e3 s3 => ⟨l0, _, _, rfl, rfl, e3, by omega, by omega, ?_, fun g ng => ?_⟩⟩
      · show 1 * ((n : Int) + 1).toNat ≤ sizeLine
        exact Nat.le_of_lt (small1000 (by omega))
      have sg := same_upd (o := HO.lst (List.replicate ((n : Int) + 1).toNat [V.int 0]).flatten) ng
      have hg : upd H3 g (HO.lst (List.replicate ((n : Int) + 1).toNat [V.int 0]).flatten) g = some (.lst (ro (n + 1) fun _ => 0)) := by
        rw [upd_same, rep0, show ((n : Int) + 1).toNat = n + 1 by omega]
      have sA := s3.trans sg
      refine ⟨A, g, n + 1, r, B, coneS F st r n, fun _ => 0, rfl, cA.same sA, hg, by omega, by omega, hr1, hs', fun _ _ => rfl, hV, hF, fun z c wh mh ms H4 s4 it ok fr => ?_⟩
      refine ⟨z, _, n + 1, r, B, c, wh, mh, ms, rfl, it, ok, fr, by omega, by omega, hV, hF, fun t z' oi oj c' wh' mh' ms' H5 s5 ht it' fin => ?_⟩
      exact ⟨t, _, rfl, SqT.of ht, rfl, _, _, rfl, _, _, rfl, _, _, rfl, rfl, (sA.trans s4).trans s5, z', oi, oj, rfl, c', wh', mh', ms', it', fin⟩
    rintro σ' H3 ⟨z, oi, oj, c, wh, mh, ms, s3, rfl, it, fin⟩
    have ok := fin.ok
    have s13 := s1.trans s3
    have cz : ∀ a b, a ≤ r → b < n + 1 → (c a b).natAbs < TB.fac (n + 1) * B ^ (n + 1) + 1 := fun a b ha hb => Nat.lt_succ_of_le (ok.cell_le (hVB hB B1) ha hb)
    have wz : wh.natAbs < TB.fac (n + 1) * B ^ (n + 1) + 1 := Nat.lt_succ_of_le (ok.whole_le (hVB hB B1))
    have cb : ∀ a b, a ≤ r → b < n + 1 → (c a b).natAbs < bigH := fun a b ha hb => Nat.lt_of_lt_of_le (cz a b ha hb) hF
    have wb : wh.natAbs < bigH := Nat.lt_of_lt_of_le wz hF
    cases oi with
    | some i =>
      have ej : oj = none := fin.no.resolve_left fun e => by cases e
      subst ej
      obtain ⟨hi, i0, cn, neg⟩ := fin.nx
      simp -dsimp [tSeq, tAsg, tRet, tIfS, tIf, tTest, tVar, tCons, tNil, tC, tOp, tUn, rI, rI0, rU, tCB, tLst_A, tTup_A, gName, L2.start, CMul, CPow, CDiv, tDrop, tBM, tBM0, tNext, tPar, gSub, rSetL, rIxL, rIxT, tChain, tB, tNot, tNotV, tAnd, tOr, tAndV, tOrV, tFld, tCall, rIxLH, rIxTH, atI, ixN, upd_same, cxK, ex2, ex3, ex3b, rIs1, rIs2, rNe2, tyN, kb1, kb2, kb3, kb4, kb5, kb6, rEq, rNe, scal, tMake_S, tMakeK_S, tMakeN_S, optV, s13 _ _ ha]
      have cN := cone_N ok fin.fr hi i0 cn neg
      have hg : ∀ k, (TB.wtsF (n + 1) (c i) mh (ms i).toNat wh k).natAbs < TB.fac (n + 1) * B ^ (n + 1) + 1 := fun k => by
        unfold TB.wtsF TB.upm
        split
        · exact wz
        · rcases wJ_lt (mh := mh) (fun j hj => cz i j (by omega) hj) (n + 1) (Nat.le_refl _) k with h | h
          · exact h
          · rw [h]
            exact Nat.succ_pos _
      refine ⟨z, i, n + 1, r, _, _, c, wh, mh, ms, by rw [hvl], it, ok, by omega, hr1, hi, i0, wb, cb, fun D H4 d nD s4 d0 hd h4 => ⟨by decide, Alloc.of fun t H5 nt et s5 => ?_⟩⟩
      refine qN t D _ H5 ((s13.trans s4).trans s5) et (none_same s13 nD) (by rw [s5 _ _ h4]; exact congrArg (fun l => some (HO.lst l)) (ro_congr fun k hk => (if_pos hk).symm)) (fun k hk => ?_) (cN.div d0 hd)
      show (if k < r then _ / d else 0).natAbs < _
      rw [if_pos hk]
      exact Nat.lt_of_le_of_lt (ediv_abs d0 (hd k hk)) (hg k)
    | none =>
      have up : ∀ i, i < r → 0 ≤ ms i → 0 ≤ c i 0 := by
        cases oj with
        | none => exact fin.nx.1
        | some j =>
          have g := fin.nx.2.2.1
          rw [goal0 ok fin.nx.1] at g
          omega
      simp -dsimp [tSeq, tAsg, tRet, tIfS, tIf, tTest, tVar, tCons, tNil, tC, tOp, tUn, rI, rI0, rU, tCB, tLst_A, tTup_A, gName, L2.start, CMul, CPow, CDiv, tDrop, tBM, tBM0, tNext, tPar, gSub, rSetL, rIxL, rIxT, tChain, tB, tNot, tNotV, tAnd, tOr, tAndV, tOrV, tFld, tCall, rIxLH, rIxTH, atI, ixN, upd_same, cxK, ex2, ex3, ex3b, rIs1, rIs2, rNe2, tyN, kb1, kb2, kb3, kb4, kb5, kb6, rEq, rNe, scal, tMake_S, tMakeK_S, tMakeN_S, optV]
      have cP : ConeP F st r n (worthF r c ms) := cone_P ok up
      have wl : ∀ k, (worthF r c ms k).natAbs < TB.fac (n + 1) * B ^ (n + 1) + 1 := fun k => worthF_lt (fun i hi => cz i 0 (by omega) (by omega)) (Nat.succ_pos _)
      refine lc_vlRT (n := n) (fun k => .int (worthF r c ms k)) (by omega) (fun _ => rfl) (fun R h => ⟨_, rfl, h⟩) (fun k H4 R hk s4 k4 => ?_) (fun D H4 nD s4 h4 => ?_)
      · simp -dsimp [tSeq, tAsg, tRet, tIfS, tIf, tTest, tVar, tCons, tNil, tC, tOp, tUn, rI, rI0, rU, tCB, tLst_A, tTup_A, gName, L2.start, CMul, CPow, CDiv, tDrop, tBM, tBM0, tNext, tPar, gSub, rSetL, rIxL, rIxT, tChain, tB, tNot, tNotV, tAnd, tOr, tAndV, tOrV, tFld, tCall, rIxLH, rIxTH, atI, ixN, upd_same, cxK, ex2, ex3, ex3b, rIs1, rIs2, rNe2, tyN, kb1, kb2, kb3, kb4, kb5, kb6, rEq, rNe, scal, tMake_S, tMakeK_S, tMakeN_S, wipe]
        refine ⟨z, k, _, n + 1, r, c, wh, mh, ms, rfl, it.same s4, ok, by omega, hr1, fun x H5 s5 ⟨x1, x2⟩ => ?_⟩
        have e : x = worthF r c ms k := by
          by_cases h : ∃ i, i < r ∧ ms i = -3 - (k : Int)
          · obtain ⟨i, hi, e⟩ := h
            rw [x1 i hi e, worthF_at ok.tb.si hi e]
          · have h' : ∀ i, i < r → ms i ≠ -3 - (k : Int) := fun i hi e => h ⟨i, hi, e⟩
            rw [x2 h', worthF_no h']
        rw [e]
        exact k4 _ s5
      · refine ⟨D, n, _, rfl, h4, by omega, fun k _ => Nat.lt_of_lt_of_le (wl k) hF, cP.some hst, fun D' H5 d nD' s5 d0 hd h5 => ⟨by decide, Alloc.of fun t H6 nt et s6 => ?_⟩⟩
        exact qP t D' _ H6 (((s13.trans s4).trans s5).trans s6) et (none_same (s13.trans s4) nD') (s6 _ _ h5) (fun k hk => Nat.lt_of_le_of_lt (ediv_abs d0 (hd k hk)) (wl k)) (cP.div d0 hd)

end
theorem tLc_frontL {K : PySem.W.Frag} {tl te : TE} {gg : TG} {tt : TT} {own : List Nat} {σ : List (Option V)} {H : Hp} {Q : V → Hp → Prop} : tLc (iList K tl) gg tt te own σ H Q = tl σ H fun x H1 => tLc (iList K (tC x)) gg tt te own σ H1 Q := rfl
theorem i4_fn (f : Nat → Int) {b : Nat} (hb : b < 4) : i4 (f 0) (f 1) (f 2) (f 3) b = f b := by
  match b, hb with
  | 0, _ => rfl
  | 1, _ => rfl
  | 2, _ => rfl
  | 3, _ => rfl
theorem cut_one (xs : List V) (h : 1 ≤ xs.length) : cutV xs (some 1) none = xs.drop 1 := by
  unfold cutV
  have e1 : HT.sIx xs.length 0 (some 1) = 1 := by
    unfold HT.sIx
    simp -dsimp [tSeq, tAsg, tRet, tIfS, tIf, tTest, tVar, tCons, tNil, tC, tOp, tUn, rI, rI0, rU, tCB, tLst_A, tTup_A, gName, L2.start, CMul, CPow, CDiv, tDrop, tBM, tBM0, tNext, tPar, gSub, rSetL, rIxL, rIxT, tChain, tB, tNot, tNotV, tAnd, tOr, tAndV, tOrV, tFld, tCall, rIxLH, rIxTH, atI, ixN, upd_same, cxK, ex2, ex3, ex3b, rIs1, rIs2, rNe2, tyN, kb1, kb2, kb3, kb4, kb5, kb6, rEq, rNe, scal, tMake_S, tMakeK_S, tMakeN_S]
    omega
  have e2 : HT.sIx xs.length xs.length none = xs.length := rfl
  rw [e1, e2, List.take_of_length_le]
  rw [List.length_drop]
  omega
theorem ro_drop (m : Nat) (f : Nat → Int) : (ro (m + 1) f).drop 1 = ro m fun k => f (k + 1) := vl_of (by rw [List.length_drop, vl_len]; omega) fun k hk => by
  rw [List.getElem?_drop, vl_get (by omega), Nat.add_comm]
/-- rows: whether each is strict, its four integers -/
def Rws (K : PySem.W.Frag) (H : Hp) (a : Addr) (m : Nat) (G : Nat → Nat → Int) (st : Nat → Bool) : Prop := ∃ vs : List V, vs.length = m ∧ H a = some (.lst vs) ∧ ∀ k, k < m → ∃ z, vs[k]? = some (.ref z) ∧ IsRow K H z (st k) (G k 0, 1) (G k 1, 1) (G k 2, 1) (G k 3, 1)
theorem Rws.same {K : PySem.W.Frag} {H H' : Hp} {a : Addr} {m : Nat} {G : Nat → Nat → Int} {st : Nat → Bool} (h : Rws K H a m G st) (s : Same H H') : Rws K H' a m G st := by
  obtain ⟨vs, hl, ha, h⟩ := h
  refine ⟨vs, hl, s _ _ ha, fun k hk => ?_⟩
  obtain ⟨z, e, i⟩ := h k hk
  exact ⟨z, e, i.same s⟩
/-- the sums of rows, ahead of them that the number 1 is above 0 -/
def shF (G : Nat → Nat → Int) : Nat → Nat → Int
  | 0, b => if b = 0 then 1 else 0
  | k + 1, b => G k b
def shS (st : Nat → Bool) : Nat → Bool
  | 0 => true
  | k + 1 => st k
/-- a point, as parts -/
def Holds (G : Nat → Nat → Int) (st : Nat → Bool) (m : Nat) (x : Nat → Int) : Prop := 0 < x 0 ∧ ∀ k, k < m → 0 ≤ TB.dotV 4 (G k) x ∧ (st k = true → 0 < TB.dotV 4 (G k) x)
/-- weights that show that there is no point -/
def Shows (G : Nat → Nat → Int) (st : Nat → Bool) (m : Nat) (w : Nat → Int) : Prop := (∀ k, k < m → 0 ≤ w k) ∧ (∀ b, 0 < b → b < 4 → TB.sm m (fun k => w k * G k b) = 0) ∧ (TB.sm m (fun k => w k * G k 0) < 0 ∨ (TB.sm m (fun k => w k * G k 0) = 0 ∧ ∃ k, k < m ∧ st k = true ∧ 0 < w k))
theorem dot4 (f x : Nat → Int) : TB.dotV 4 f x = 0 + f 0 * x 0 + f 1 * x 1 + f 2 * x 2 + f 3 * x 3 := rfl
theorem ConeP.holds {G : Nat → Nat → Int} {st : Nat → Bool} {m : Nat} {x : Nat → Int} (h : ConeP (shF G) (shS st) (m + 1) 4 x) : Holds G st m x := by
  refine ⟨?_, fun k hk => h (k + 1) (by omega)⟩
  have := (h 0 (by omega)).2 rfl
  rw [dot4] at this
  have e0 : shF G 0 0 = 1 := rfl
  have e1 : shF G 0 1 = 0 := rfl
  have e2 : shF G 0 2 = 0 := rfl
  have e3 : shF G 0 3 = 0 := rfl
  rw [e0, e1, e2, e3] at this
  omega
theorem ConeN.sums {G : Nat → Nat → Int} {st : Nat → Bool} {m : Nat} {W : Nat → Int} (h : ConeN (shF G) (shS st) (m + 1) 4 W) : (∀ b, b < 4 → TB.sm m (fun k => W (k + 1) * G k b) = if b = 0 then -(W 0) else 0) := fun b hb => by
  have e := h.2.1 b hb
  rw [sm_succ] at e
  have e2 : TB.sm m (fun i => W (i + 1) * shF G (i + 1) b) = TB.sm m (fun k => W (k + 1) * G k b) := rfl
  rw [e2] at e
  have e3 : shF G 0 b = if b = 0 then 1 else 0 := rfl
  rw [e3] at e
  split
  · rename_i h0
    rw [if_pos h0] at e
    omega
  · rename_i h0
    rw [if_neg h0] at e
    omega
theorem ConeN.some {G : Nat → Nat → Int} {st : Nat → Bool} {m : Nat} {W : Nat → Int} (h : ConeN (shF G) (shS st) (m + 1) 4 W) : ∃ k, k < m ∧ W (k + 1) ≠ 0 := by
  refine Decidable.byContradiction fun no => ?_
  have z : ∀ k, k < m → W (k + 1) = 0 := fun k hk => Decidable.byContradiction fun x => no ⟨k, hk, x⟩
  have e := h.sums 0 (by decide)
  rw [if_pos rfl, TB.sm_congr (g := fun _ => 0) m fun k hk => by rw [z k hk, Int.zero_mul], sm_zero] at e
  obtain ⟨k, hk, _, hw⟩ := h.2.2
  cases k with
  | zero => omega
  | succ k =>
    rw [z k (by omega)] at hw
    omega
theorem ConeN.shows {G : Nat → Nat → Int} {st : Nat → Bool} {m : Nat} {W : Nat → Int} {d : Int} (h : ConeN (shF G) (shS st) (m + 1) 4 W) (d0 : 0 < d) (hd : ∀ k, k < m → d ∣ W (k + 1)) : Shows G st m fun k => W (k + 1) / d := by
  have dv : ∀ b, TB.sm m (fun k => W (k + 1) * G k b) = d * TB.sm m fun k => W (k + 1) / d * G k b := fun b => sm_div hd
  have pos : ∀ {y : Int}, 0 < d * y → 0 < y := fun {y} hy => Int.not_le.mp fun l => by
    have := Int.mul_nonpos_of_nonneg_of_nonpos (Int.le_of_lt d0) l
    omega
  refine ⟨fun k _ => Int.ediv_nonneg (h.1 _) (Int.le_of_lt d0), fun b b0 hb => ?_, ?_⟩
  · have e := h.sums b hb
    rw [if_neg (by omega), dv] at e
    rcases Int.mul_eq_zero.mp e with e | e
    · omega
    · exact e
  · have e := h.sums 0 (by decide)
    rw [if_pos rfl, dv] at e
    have w0 := h.1 0
    rcases Int.lt_or_le 0 (W 0) with l | l
    · refine .inl (Int.not_le.mp fun g => ?_)
      have t : 0 ≤ d * TB.sm m (fun k => W (k + 1) / d * G k 0) := Int.mul_nonneg (Int.le_of_lt d0) g
      omega
    · refine .inr ⟨?_, ?_⟩
      · rcases Int.mul_eq_zero.mp (show d * _ = 0 by rw [e]; omega) with e | e
        · omega
        · exact e
      · obtain ⟨k, hk, hs, hw⟩ := h.2.2
        cases k with
        | zero => omega
        | succ k =>
          refine ⟨k, by omega, hs, pos ?_⟩
          rw [Int.mul_ediv_cancel' (hd k (by omega))]
          exact hw
theorem sm_add (f g : Nat → Int) (n : Nat) : TB.sm n (fun i => f i + g i) = TB.sm n f + TB.sm n g := by
  have := TB.sm_lin f g 1 1 n
  rw [Int.one_mul, Int.one_mul] at this
  rw [← this]
  exact TB.sm_congr n fun i _ => by rw [Int.one_mul, Int.one_mul]
theorem sm_le {f : Nat → Int} : ∀ n, (∀ i, i < n → 0 ≤ f i) → 0 ≤ TB.sm n f
  | 0, _ => Int.le_refl _
  | n + 1, h => by
    have h1 := sm_le n fun i hi => h i (by omega)
    have h2 := h n (by omega)
    show 0 ≤ TB.sm n f + f n
    omega
theorem sm_pos {f : Nat → Int} {k : Nat} : ∀ n, k < n → (∀ i, i < n → 0 ≤ f i) → 0 < f k → 0 < TB.sm n f := fun n hk h hp => by
  rw [TB.sm_split hk]
  have : 0 ≤ TB.sm n fun i => if i = k then 0 else f i := sm_le n fun i hi => by
    show 0 ≤ if i = k then 0 else f i
    split
    · exact Int.le_refl _
    · exact h i hi
  omega
/-- a point and weights do not go together -/
theorem not_both {G : Nat → Nat → Int} {st : Nat → Bool} {m : Nat} {x w : Nat → Int} (h : Holds G st m x) (s : Shows G st m w) : False := by
  obtain ⟨x0, hx⟩ := h
  obtain ⟨w0, wz, wn⟩ := s
  have e : TB.sm m (fun k => w k * TB.dotV 4 (G k) x) = TB.sm m (fun k => w k * G k 0) * x 0 := by
    have e1 : ∀ k, w k * TB.dotV 4 (G k) x = w k * G k 0 * x 0 + (w k * G k 1 * x 1 + (w k * G k 2 * x 2 + w k * G k 3 * x 3)) := fun k => by
      rw [dot4]
      grind
    rw [TB.sm_congr m fun k _ => e1 k, sm_add, sm_add, sm_add]
    have mul : ∀ b, TB.sm m (fun k => w k * G k b * x b) = TB.sm m (fun k => w k * G k b) * x b := fun b => by
      rw [Int.mul_comm, ← TB.sm_mul]
      exact TB.sm_congr m fun k _ => Int.mul_comm _ _
    rw [mul, mul, mul, mul, wz 1 (by decide) (by decide), wz 2 (by decide) (by decide), wz 3 (by decide) (by decide)]
    omega
  have nn : ∀ k, k < m → 0 ≤ w k * TB.dotV 4 (G k) x := fun k hk => Int.mul_nonneg (w0 k hk) (hx k hk).1
  have g := sm_le m nn
  rw [e] at g
  rcases wn with l | ⟨z, k, hk, hs, hw⟩
  · have := Int.mul_neg_of_neg_of_pos l x0
    omega
  · have p := sm_pos m hk nn (Int.mul_pos hw ((hx k hk).2 hs))
    rw [e, z, Int.zero_mul] at p
    omega
section
variable {P : Program} {w : World} {K : PySem.W.Frag} {mg : Str → Option Value} {base : Heap} {fd : FuncData}
def spAnswer (K : PySem.W.Frag) : Sp := fun vs H Q _ => ∃ (a : Addr) (m B : Nat) (G : Nat → Nat → Int) (st : Nat → Bool), vs = [.ref a] ∧ Rws K H a m G st ∧ m < 800 ∧ (∀ k c, k < m → c < 4 → (G k c).natAbs ≤ B) ∧ 1 ≤ B ∧ TB.fac 5 * B ^ 5 < bigH ∧
  (∀ t D x H', Same H H' → H' t = some (.tup [.ref D, .non]) → H D = none → H' D = some (.lst (ro 4 x)) → (∀ k, k < 4 → (x k).natAbs < TB.fac 5 * B ^ 5 + 1) → ConeP (shF G) (shS st) (m + 1) 4 x → Q (.ref t) H') ∧
  ∀ t D W H', Same H H' → H' t = some (.tup [.non, .ref D]) → H D = none → H' D = some (.lst (ro (m + 1) W)) → (∀ k, k < m + 1 → (W k).natAbs < TB.fac 5 * B ^ 5 + 1) → ConeN (shF G) (shS st) (m + 1) 4 W → Q (.ref t) H'
theorem scAnswerOf : FnScope ["rows", "sums", "row"] ["rows"] d_answer_of.scope := ⟨rfl, rfl, rfl, by decide +kernel, rfl, by decide +kernel, by decide +kernel⟩
theorem ok_answer_of (W : Wd K mg) : ∃ fd, FnOk P w K mg base CX0 6 (He.ga K "answer_of") fd ["rows"] (spAnswer K) ∧ Binds K fd ["rows"] [] := by
  obtain ⟨fd_integers_of, G_integers_of, b_integers_of⟩ := ok_integers_of (P := P) (w := w) (base := base) W
  have k_integers_of : PySem.W.keepIn K (.ref (He.ga K "integers_of")) = true := by obtain ⟨fd, F⟩ := W.F_integers_of; exact F.kp
  obtain ⟨fd_cone, G_cone, b_cone⟩ := ok_cone (P := P) (w := w) (base := base) W
  have k_cone : PySem.W.keepIn K (.ref (He.ga K "cone")) = true := by obtain ⟨fd, F⟩ := W.F_cone; exact F.kp
  obtain ⟨fd, F⟩ := W.F_answer_of
  refine ⟨fd, F.ok scAnswerOf (fun vs H Q E h => ?_) (fun cdv A outer s H vs Q E hr h => ?_), FunD.bindsN F fun _ _ _ _ _ _ us hl => match us, hl with | [_], _ => rfl⟩
  · obtain ⟨a, _, _, _, _, rfl, _⟩ := h
    rfl
  · obtain ⟨a, m, B, G, st, rfl, hR, hm, hB, B1, hF, qP, qN⟩ := h
    have r1 : Room 1 _ := hr.mono (by decide)
    have r2 : Room 2 _ := hr.mono (by decide)
    have r3 : Room 3 _ := hr.mono (by decide)
    have r4 : Room 4 _ := hr.mono (by decide)
    have r5 : Room 5 _ := hr.mono (by decide)
    refine ⟨_, PSs.nox (C8.pss_cut (ps_set (i := 1) scAnswerOf.nd rfl (Or.inl rfl) (pe_lst (pa_cons (pe_lst (pa_cons pe_int (pa_cons pe_int (pa_cons pe_int (pa_cons pe_int pa_nil))))) (StX.pa_star (pe_lc (own := [("row", 2)]) (g := gName 2) (tt := tYes) rfl scAnswerOf.nd (pi_list (pv 0)) (blkOk_by (N := ["rows", "sums", "row"]) (sc := defScope s_answer_of) (by decide +kernel))
            (fun _ _ _ _ _ => (pg_name (i := 2) scAnswerOf.nd rfl (Or.inl rfl))) (fun _ _ _ _ _ => pts_nil)
            (fun _ _ _ _ _ => (pe_call G_integers_of r1 rfl W.g_integers_of k_integers_of b_integers_of .nil pass0 (pa_cons (show PE _ _ (tFld K (tVar 2) "term") from pe_fld (pv 2) rfl) pa_nil)))) pa_nil))))
    (pss_one (ps_ret (pe_call G_cone r5 rfl W.g_cone k_cone b_cone .nil pass0 (pa_cons (pv 1) (pa_cons (pe_lst (pa_cons pe_bl (StX.pa_star (pe_lc (own := [("row", 2)]) (g := gName 2) (tt := tYes) rfl scAnswerOf.nd (pi_list (pv 0)) (blkOk_by (N := ["rows", "sums", "row"]) (sc := defScope s_answer_of) (by decide +kernel))
            (fun _ _ _ _ _ => (pg_name (i := 2) scAnswerOf.nd rfl (Or.inl rfl))) (fun _ _ _ _ _ => pts_nil)
            (fun _ _ _ _ _ => (show PE _ _ (tFld K (tVar 2) "strict") from pe_fld (pv 2) rfl))) pa_nil))) pa_nil)))))), ?_⟩
    obtain ⟨vs, hvl, ha, hrow⟩ := hR
    refine ⟨fun σ' H1 => ∃ A, σ' = [some (.ref a), some (.ref A), none] ∧ Same H H1 ∧ Cl H1 A (m + 1) 4 (shF G), ?_, ?_⟩
    · simp -dsimp [tSeq, tAsg, tRet, tIfS, tIf, tTest, tVar, tCons, tNil, tC, tOp, tUn, rI, rI0, rU, tCB, tLst_A, tTup_A, gName, L2.start, CMul, CPow, CDiv, tDrop, tBM, tBM0, tNext, tPar, gSub, rSetL, rIxL, rIxT, tChain, tB, tNot, tNotV, tAnd, tOr, tAndV, tOrV, tFld, tCall, rIxLH, rIxTH, atI, ixN, upd_same, cxK, ex2, ex3, ex3b, rIs1, rIs2, rNe2, tyN, kb1, kb2, kb3, kb4, kb5, kb6, rEq, rNe, scal, tMake_S, tMakeK_S, tMakeN_S, StX.tStar]
      refine ⟨by decide, Alloc.of fun q0 H1 n1 e1 s1 => ?_⟩
      refine lc_nw (K := K) a vs (fun k => ro 4 (G k)) (by omega) (fun _ => rfl) (s1 _ _ ha) (fun R h => ⟨_, rfl, h⟩) (fun k x H2 R hx s2 k2 => ?_) (fun D H2 nD s2 nw => ?_)
      · obtain ⟨z, ez, dx, tz, hz, tm⟩ := hrow k (by have := (List.getElem?_eq_some_iff.mp hx).1; omega)
        rw [ez] at hx
        cases hx
        simp -dsimp [tSeq, tAsg, tRet, tIfS, tIf, tTest, tVar, tCons, tNil, tC, tOp, tUn, rI, rI0, rU, tCB, tLst_A, tTup_A, gName, L2.start, CMul, CPow, CDiv, tDrop, tBM, tBM0, tNext, tPar, gSub, rSetL, rIxL, rIxT, tChain, tB, tNot, tNotV, tAnd, tOr, tAndV, tOrV, tFld, tCall, rIxLH, rIxTH, atI, ixN, upd_same, cxK, ex2, ex3, ex3b, rIs1, rIs2, rNe2, tyN, kb1, kb2, kb3, kb4, kb5, kb6, rEq, rNe, scal, tMake_S, tMakeK_S, tMakeN_S, wipe, (s1.trans s2) _ _ hz, rowO, W.cls_Row, W.n_Row_term, look_term]
        exact ⟨tz, _, _, _, _, rfl, tm.same (s1.trans s2), fun D' H3 nD s3 h3 => k2 D' H3 s3 nD (by rw [h3]; exact congrArg (fun l => some (HO.lst l)) (ro_congr fun b hb => i4_fn (G k) hb))⟩
      · obtain ⟨vs', hl', hD, hv⟩ := nw
        refine ⟨D, rfl, _, .inr (SqL.of hD), by rw [hl']; exact Nat.le_of_lt (small1000 (by omega)), Alloc.of fun A H3 n3 e3 s3 => ⟨A, rfl, (s1.trans s2).trans s3, .ref q0 :: vs', by rw [List.length_cons]; omega, e3, fun k hk => ?_⟩⟩
        cases k with
        | zero => exact ⟨q0, rfl, (s2.trans s3) _ _ e1⟩
        | succ k =>
          obtain ⟨q, g1, _, g2⟩ := hv k (by omega)
          exact ⟨q, by rw [List.getElem?_cons_succ]; exact g1, s3 _ _ g2⟩
    rintro σ' H1 ⟨A, rfl, s1, cA⟩
    simp -dsimp [tSeq, tAsg, tRet, tIfS, tIf, tTest, tVar, tCons, tNil, tC, tOp, tUn, rI, rI0, rU, tCB, tLst_A, tTup_A, gName, L2.start, CMul, CPow, CDiv, tDrop, tBM, tBM0, tNext, tPar, gSub, rSetL, rIxL, rIxT, tChain, tB, tNot, tNotV, tAnd, tOr, tAndV, tOrV, tFld, tCall, rIxLH, rIxTH, atI, ixN, upd_same, cxK, ex2, ex3, ex3b, rIs1, rIs2, rNe2, tyN, kb1, kb2, kb3, kb4, kb5, kb6, rEq, rNe, scal, tMake_S, tMakeK_S, tMakeN_S, StX.tStar]
    refine lc_vl (K := K) a vs (fun k => .bl (st k)) (by omega) (fun _ => rfl) (s1 _ _ ha) (fun R h => ⟨_, rfl, h⟩) (fun k x H2 R hx s2 k2 => ?_) (fun D H2 nD s2 h2 => ?_)
    · obtain ⟨z, ez, dx, tz, hz, tm⟩ := hrow k (by have := (List.getElem?_eq_some_iff.mp hx).1; omega)
      rw [ez] at hx
      cases hx
      simp -dsimp [tSeq, tAsg, tRet, tIfS, tIf, tTest, tVar, tCons, tNil, tC, tOp, tUn, rI, rI0, rU, tCB, tLst_A, tTup_A, gName, L2.start, CMul, CPow, CDiv, tDrop, tBM, tBM0, tNext, tPar, gSub, rSetL, rIxL, rIxT, tChain, tB, tNot, tNotV, tAnd, tOr, tAndV, tOrV, tFld, tCall, rIxLH, rIxTH, atI, ixN, upd_same, cxK, ex2, ex3, ex3b, rIs1, rIs2, rNe2, tyN, kb1, kb2, kb3, kb4, kb5, kb6, rEq, rNe, scal, tMake_S, tMakeK_S, tMakeN_S, wipe, (s1.trans s2) _ _ hz, rowO, W.cls_Row, W.n_Row_strict, look_strict]
      exact k2 _ (Same.refl _)
    · rw [hvl] at h2
      refine ⟨D, rfl, _, .inr (SqL.of h2), by rw [vl_len]; exact Nat.le_of_lt (small1000 (by omega)), Alloc.of fun S H3 n3 e3 s3 => ?_⟩
      have sA := (s1.trans s2).trans s3
      have e : V.bl true :: vl m (fun k => V.bl (st k)) = vl (m + 1) fun k => .bl (shS st k) := vl_of (by rw [List.length_cons, vl_len]) fun k hk => by
        cases k with
        | zero => rfl
        | succ k => rw [List.getElem?_cons_succ, vl_get (by omega)]; rfl
      rw [e] at e3
      refine ⟨A, S, m + 1, 4, B, shF G, shS st, rfl, cA.same (s2.trans s3), e3, by omega, by omega, by decide, by decide, fun k c hk hc => ?_, B1, hF, ⟨0, by omega, rfl⟩, fun t D' x H4 s4 ht nD' hD hx c => qP t D' x H4 (sA.trans s4) ht (none_same sA nD') hD hx c, fun t D' W' H4 s4 ht nD' hD hx c => qN t D' W' H4 (sA.trans s4) ht (none_same sA nD') hD hx c⟩
      cases k with
      | zero =>
        show (if c = 0 then (1 : Int) else 0).natAbs ≤ B
        split
        · exact B1
        · exact Nat.zero_le _
      | succ k => exact hB k c (by omega) hc

def spPoint (K : PySem.W.Frag) : Sp := fun vs H Q _ => ∃ (a : Addr) (m B : Nat) (G : Nat → Nat → Int) (st : Nat → Bool), vs = [.ref a] ∧ Rws K H a m G st ∧ m < 800 ∧ (∀ k c, k < m → c < 4 → (G k c).natAbs ≤ B) ∧ 1 ≤ B ∧ TB.fac 5 * B ^ 5 < bigH ∧
  (∀ t z0 z1 z2 x H', Same H H' → H' t = some (.tup [.ref z0, .ref z1, .ref z2]) → IsS K H' z0 (lo (x 1) (x 0)) → IsS K H' z1 (lo (x 2) (x 0)) → IsS K H' z2 (lo (x 3) (x 0)) → (∀ k, k < 4 → (x k).natAbs < TB.fac 5 * B ^ 5 + 1) → Holds G st m x → Q (.ref t) H') ∧
  ∀ w H', Same H H' → Shows G st m w → Q .non H'
theorem scPointOf : FnScope ["rows", "amounts", "weights", "amount"] ["rows"] d_point_of.scope := ⟨rfl, rfl, rfl, by decide +kernel, rfl, by decide +kernel, by decide +kernel⟩
theorem ok_point_of (W : Wd K mg) : ∃ fd, FnOk P w K mg base CX0 7 (He.ga K "point_of") fd ["rows"] (spPoint K) ∧ Binds K fd ["rows"] [] := by
  obtain ⟨fd_init, G_init, F_init⟩ := ok_init (P := P) (w := w) (base := base) W
  obtain ⟨ds_init1, v_init1, b_init1⟩ := bind2 F_init
  obtain ⟨fd_answer_of, G_answer_of, b_answer_of⟩ := ok_answer_of (P := P) (w := w) (base := base) W
  have k_answer_of : PySem.W.keepIn K (.ref (He.ga K "answer_of")) = true := by obtain ⟨fd, F⟩ := W.F_answer_of; exact F.kp
  obtain ⟨fd, F⟩ := W.F_point_of
  refine ⟨fd, F.ok scPointOf (fun vs H Q E h => ?_) (fun cdv A outer s H vs Q E hr h => ?_), FunD.bindsN F fun _ _ _ _ _ _ us hl => match us, hl with | [_], _ => rfl⟩
  · obtain ⟨a, _, _, _, _, rfl, _⟩ := h
    rfl
  · obtain ⟨a, m, B, G, st, rfl, hR, hm, hB, B1, hF, qP, qN⟩ := h
    have r1 : Room 1 _ := hr.mono (by decide)
    have r2 : Room 2 _ := hr.mono (by decide)
    have r3 : Room 3 _ := hr.mono (by decide)
    have r4 : Room 4 _ := hr.mono (by decide)
    have r5 : Room 5 _ := hr.mono (by decide)
    have r6 : Room 6 _ := hr.mono (by decide)
    refine ⟨_, PSs.nox (C8.pss_cut (ps_asg (pe_call G_answer_of r6 rfl W.g_answer_of k_answer_of b_answer_of .nil pass0 (pa_cons (pv 0) pa_nil)) (pg_tup rfl (pgs_cons (pg_name (i := 1) scPointOf.nd rfl (Or.inr rfl)) (pgs_cons (pg_name (i := 2) scPointOf.nd rfl (Or.inl rfl)) pgs_nil))))
    (pss_cons (ps_if (pt_cmpR op_isN (pv 1) pe_non (nomark _)) (pss_one (ps_ret pe_non)) pss_nil)
    (pss_one (ps_ret (pe_callTy call_tuple_of (by rfl) W.f_tuple (by decide +kernel) (pa_cons (pe_lc (own := [("amount", 3)]) (g := gName 3) (tt := tYes) rfl scPointOf.nd (pi_list (pe_slice sl_list (pv 1) (po_some pe_int) po_none)) (blkOk_by (N := ["rows", "amounts", "weights", "amount"]) (sc := defScope s_point_of) (by decide +kernel))
            (fun _ _ _ _ _ => (pg_name (i := 3) scPointOf.nd rfl (Or.inl rfl))) (fun _ _ _ _ _ => pts_nil)
            (fun _ _ _ _ _ => (pe_make W.mkr_Share G_init r3 rfl W.g_Share (bind3 F_init) .nil pass0 (pa_cons (pv 3) (pa_cons (pe_ix ix_lstH (pv 1) pe_int (fun _ _ => rfl)) pa_nil))))) pa_nil)))))), ?_⟩
    refine ⟨fun σ' H1 => ∃ u v, σ' = [some (.ref a), some u, some v, none] ∧ Same H H1 ∧ ((∃ D x, u = .ref D ∧ v = .non ∧ H1 D = some (.lst (ro 4 x)) ∧ (∀ k, k < 4 → (x k).natAbs < TB.fac 5 * B ^ 5 + 1) ∧ ConeP (shF G) (shS st) (m + 1) 4 x) ∨ (u = .non ∧ ∃ w, Shows G st m w)), ?_, ?_⟩
    · simp -dsimp [tSeq, tAsg, tRet, tIfS, tIf, tTest, tVar, tCons, tNil, tC, tOp, tUn, rI, rI0, rU, tCB, tLst_A, tTup_A, gName, L2.start, CMul, CPow, CDiv, tDrop, tBM, tBM0, tNext, tPar, gSub, rSetL, rIxL, rIxT, tChain, tB, tNot, tNotV, tAnd, tOr, tAndV, tOrV, tFld, tCall, rIxLH, rIxTH, atI, ixN, upd_same, cxK, ex2, ex3, ex3b, rIs1, rIs2, rNe2, tyN, kb1, kb2, kb3, kb4, kb5, kb6, rEq, rNe, scal, tMake_S, tMakeK_S, tMakeN_S]
      refine ⟨a, m, B, G, st, rfl, hR, hm, hB, B1, hF, fun t D x H1 s1 ht nD hD hx c => ?_, fun t D W H1 s1 ht nD hD hx c => ?_⟩
      · exact tup2n ht ⟨_, _, rfl, s1, .inl ⟨D, rfl, rfl, x, hD, hx, c⟩⟩
      · exact tup2n ht ⟨_, _, rfl, s1, .inr ⟨rfl, _, c.shows (d := 1) (by decide) fun k _ => Int.one_dvd _⟩⟩
    rintro σ' H1 ⟨u, v, rfl, s1, ⟨D, x, rfl, rfl, hD, hx, c⟩ | ⟨rfl, w', c⟩⟩
    · simp -dsimp [tSeq, tAsg, tRet, tIfS, tIf, tTest, tVar, tCons, tNil, tC, tOp, tUn, rI, rI0, rU, tCB, tLst_A, tTup_A, gName, L2.start, CMul, CPow, CDiv, tDrop, tBM, tBM0, tNext, tPar, gSub, rSetL, rIxL, rIxT, tChain, tB, tNot, tNotV, tAnd, tOr, tAndV, tOrV, tFld, tCall, rIxLH, rIxTH, atI, ixN, upd_same, cxK, ex2, ex3, ex3b, rIs1, rIs2, rNe2, tyN, kb1, kb2, kb3, kb4, kb5, kb6, rEq, rNe, scal, tMake_S, tMakeK_S, tMakeN_S]
      rw [tLc_frontL]
      refine ⟨_, rfl, 1, rfl, D, _, rfl, SqL.of hD, fun S nS => ?_⟩
      rw [cut_one _ (by rw [vl_len]; decide), ro_drop 3 x]
      have sS := same_upd (o := HO.lst (ro 3 fun k => x (k + 1))) nS
      obtain ⟨x0, _⟩ := c.holds
      refine lc_lst (K := K) S _ (fun j v H => ∃ z, v = .ref z ∧ IsS K H z (lo (x (j + 1)) (x 0))) (by rw [vl_len]; decide) (fun j D xs v H H' hD s ⟨z, e, dx, hz⟩ => ⟨z, e, dx, s _ _ (fun ez => by rw [ez, hD] at hz; cases hz) hz⟩) (fun _ => rfl) upd_same (fun R h => h) (fun j y H2 R hj s2 k2 => ?_) (fun L H2 vs s2 hl hL hv => ?_)
      · obtain ⟨hj', hj⟩ := vl_at hj
        subst hj
        have e0 := ixK (vl_get (n := 4) (g := fun b => V.int (x b)) (show 0 < 4 by decide))
        simp -dsimp [tSeq, tAsg, tRet, tIfS, tIf, tTest, tVar, tCons, tNil, tC, tOp, tUn, rI, rI0, rU, tCB, tLst_A, tTup_A, gName, L2.start, CMul, CPow, CDiv, tDrop, tBM, tBM0, tNext, tPar, gSub, rSetL, rIxL, rIxT, tChain, tB, tNot, tNotV, tAnd, tOr, tAndV, tOrV, tFld, tCall, rIxLH, rIxTH, atI, ixN, upd_same, cxK, ex2, ex3, ex3b, rIs1, rIs2, rNe2, tyN, kb1, kb2, kb3, kb4, kb5, kb6, rEq, rNe, scal, tMake_S, tMakeK_S, tMakeN_S, wipe, (sS.trans s2) _ _ hD, e0]
        exact MkS.of rfl (by omega) (h_lt_9 (Nat.lt_of_lt_of_le (hx 0 (by decide)) hF)) fun z H3 n3 i3 s3 => k2 _ H3 s3 ⟨z, rfl, i3⟩
      · rw [vl_len] at hl
        refine ⟨L, rfl, vs, .inl ⟨SqL.of hL, fun t nt => ?_⟩⟩
        match vs, hl with
        | [v0, v1, v2], _ =>
          obtain ⟨z0, e0, i0⟩ := hv 0 v0 rfl
          obtain ⟨z1, e1, i1⟩ := hv 1 v1 rfl
          obtain ⟨z2, e2, i2⟩ := hv 2 v2 rfl
          subst e0 e1 e2
          have st' := same_upd (o := HO.tup [V.ref z0, V.ref z1, V.ref z2]) nt
          exact qP t z0 z1 z2 x _ (((s1.trans sS).trans s2).trans st') upd_same (IsSh.same i0 st') (IsSh.same i1 st') (IsSh.same i2 st') hx c.holds
    · simp -dsimp [tSeq, tAsg, tRet, tIfS, tIf, tTest, tVar, tCons, tNil, tC, tOp, tUn, rI, rI0, rU, tCB, tLst_A, tTup_A, gName, L2.start, CMul, CPow, CDiv, tDrop, tBM, tBM0, tNext, tPar, gSub, rSetL, rIxL, rIxT, tChain, tB, tNot, tNotV, tAnd, tOr, tAndV, tOrV, tFld, tCall, rIxLH, rIxTH, atI, ixN, upd_same, cxK, ex2, ex3, ex3b, rIs1, rIs2, rNe2, tyN, kb1, kb2, kb3, kb4, kb5, kb6, rEq, rNe, scal, tMake_S, tMakeK_S, tMakeN_S]
      exact qN w' H1 s1 c

def spWof (K : PySem.W.Frag) : Sp := fun vs H Q _ => ∃ (a : Addr) (m B : Nat) (G : Nat → Nat → Int) (st : Nat → Bool), vs = [.ref a] ∧ Rws K H a m G st ∧ m < 800 ∧ (∀ k c, k < m → c < 4 → (G k c).natAbs ≤ B) ∧ 1 ≤ B ∧ TB.fac 5 * B ^ 5 < bigH ∧
  (∀ x H', Same H H' → Holds G st m x → Q .non H') ∧
  ∀ D w H', Same H H' → H D = none → H' D = some (.lst (ro m w)) → (∀ k, k < m → (w k).natAbs < TB.fac 5 * B ^ 5 + 1) → Shows G st m w → Q (.ref D) H'
theorem scWeightsOf : FnScope ["rows", "amounts", "weights"] ["rows"] d_weights_of.scope := ⟨rfl, rfl, rfl, by decide +kernel, rfl, by decide +kernel, by decide +kernel⟩
theorem ok_weights_of (W : Wd K mg) : ∃ fd, FnOk P w K mg base CX0 7 (He.ga K "weights_of") fd ["rows"] (spWof K) ∧ Binds K fd ["rows"] [] := by
  obtain ⟨fd_answer_of, G_answer_of, b_answer_of⟩ := ok_answer_of (P := P) (w := w) (base := base) W
  have k_answer_of : PySem.W.keepIn K (.ref (He.ga K "answer_of")) = true := by obtain ⟨fd, F⟩ := W.F_answer_of; exact F.kp
  obtain ⟨fd_lowered, G_lowered, b_lowered⟩ := ok_lowered (P := P) (w := w) (base := base) W
  have k_lowered : PySem.W.keepIn K (.ref (He.ga K "lowered")) = true := by obtain ⟨fd, F⟩ := W.F_lowered; exact F.kp
  obtain ⟨fd, F⟩ := W.F_weights_of
  refine ⟨fd, F.ok scWeightsOf (fun vs H Q E h => ?_) (fun cdv A outer s H vs Q E hr h => ?_), FunD.bindsN F fun _ _ _ _ _ _ us hl => match us, hl with | [_], _ => rfl⟩
  · obtain ⟨a, _, _, _, _, rfl, _⟩ := h
    rfl
  · obtain ⟨a, m, B, G, st, rfl, hR, hm, hB, B1, hF, qP, qN⟩ := h
    have r1 : Room 1 _ := hr.mono (by decide)
    have r2 : Room 2 _ := hr.mono (by decide)
    have r3 : Room 3 _ := hr.mono (by decide)
    have r4 : Room 4 _ := hr.mono (by decide)
    have r5 : Room 5 _ := hr.mono (by decide)
    have r6 : Room 6 _ := hr.mono (by decide)
    refine ⟨_, PSs.nox (C8.pss_cut (ps_asg (pe_call G_answer_of r6 rfl W.g_answer_of k_answer_of b_answer_of .nil pass0 (pa_cons (pv 0) pa_nil)) (pg_tup rfl (pgs_cons (pg_name (i := 1) scWeightsOf.nd rfl (Or.inl rfl)) (pgs_cons (pg_name (i := 2) scWeightsOf.nd rfl (Or.inl rfl)) pgs_nil))))
    (pss_cons (ps_if (pt_cmpR op_isN (pv 2) pe_non (nomark _)) (pss_one (ps_ret pe_non)) pss_nil)
    (pss_one (ps_ret (pe_call G_lowered r2 rfl W.g_lowered k_lowered b_lowered .nil pass0 (pa_cons (pe_slice sl_list (pv 2) (po_some pe_int) po_none) pa_nil)))))), ?_⟩
    refine ⟨fun σ' H1 => ∃ u v, σ' = [some (.ref a), some u, some v] ∧ Same H H1 ∧ ((v = .non ∧ ∃ x, Holds G st m x) ∨ ∃ D W, v = .ref D ∧ H1 D = some (.lst (ro (m + 1) W)) ∧ (∀ k, k < m + 1 → (W k).natAbs < TB.fac 5 * B ^ 5 + 1) ∧ ConeN (shF G) (shS st) (m + 1) 4 W), ?_, ?_⟩
    · simp -dsimp [tSeq, tAsg, tRet, tIfS, tIf, tTest, tVar, tCons, tNil, tC, tOp, tUn, rI, rI0, rU, tCB, tLst_A, tTup_A, gName, L2.start, CMul, CPow, CDiv, tDrop, tBM, tBM0, tNext, tPar, gSub, rSetL, rIxL, rIxT, tChain, tB, tNot, tNotV, tAnd, tOr, tAndV, tOrV, tFld, tCall, rIxLH, rIxTH, atI, ixN, upd_same, cxK, ex2, ex3, ex3b, rIs1, rIs2, rNe2, tyN, kb1, kb2, kb3, kb4, kb5, kb6, rEq, rNe, scal, tMake_S, tMakeK_S, tMakeN_S]
      refine ⟨a, m, B, G, st, rfl, hR, hm, hB, B1, hF, fun t D x H1 s1 ht nD hD hx c => ?_, fun t D W H1 s1 ht nD hD hx c => ?_⟩
      · exact tup2n ht ⟨_, _, rfl, s1, .inl ⟨rfl, x, c.holds⟩⟩
      · exact tup2n ht ⟨_, _, rfl, s1, .inr ⟨D, rfl, W, hD, hx, c⟩⟩
    rintro σ' H1 ⟨u, v, rfl, s1, ⟨rfl, x, c⟩ | ⟨D, W', rfl, hD, hx, c⟩⟩
    · simp -dsimp [tSeq, tAsg, tRet, tIfS, tIf, tTest, tVar, tCons, tNil, tC, tOp, tUn, rI, rI0, rU, tCB, tLst_A, tTup_A, gName, L2.start, CMul, CPow, CDiv, tDrop, tBM, tBM0, tNext, tPar, gSub, rSetL, rIxL, rIxT, tChain, tB, tNot, tNotV, tAnd, tOr, tAndV, tOrV, tFld, tCall, rIxLH, rIxTH, atI, ixN, upd_same, cxK, ex2, ex3, ex3b, rIs1, rIs2, rNe2, tyN, kb1, kb2, kb3, kb4, kb5, kb6, rEq, rNe, scal, tMake_S, tMakeK_S, tMakeN_S]
      exact qP x H1 s1 c
    · simp -dsimp [tSeq, tAsg, tRet, tIfS, tIf, tTest, tVar, tCons, tNil, tC, tOp, tUn, rI, rI0, rU, tCB, tLst_A, tTup_A, gName, L2.start, CMul, CPow, CDiv, tDrop, tBM, tBM0, tNext, tPar, gSub, rSetL, rIxL, rIxT, tChain, tB, tNot, tNotV, tAnd, tOr, tAndV, tOrV, tFld, tCall, rIxLH, rIxTH, atI, ixN, upd_same, cxK, ex2, ex3, ex3b, rIs1, rIs2, rNe2, tyN, kb1, kb2, kb3, kb4, kb5, kb6, rEq, rNe, scal, tMake_S, tMakeK_S, tMakeN_S]
      refine ⟨_, rfl, 1, rfl, D, _, rfl, SqL.of hD, fun S nS => ?_⟩
      rw [cut_one _ (by rw [vl_len]; omega), ro_drop m W']
      have sS := same_upd (o := HO.lst (ro m fun k => W' (k + 1))) nS
      refine ⟨S, m, _, rfl, upd_same, by omega, fun k hk => Nat.lt_of_lt_of_le (hx (k + 1) (by omega)) hF, c.some, fun D' H2 d nD s2 d0 hd h2 => ?_⟩
      have s12 := (s1.trans sS).trans s2
      exact qN D' _ H2 s12 (none_same (s1.trans sS) nD) h2 (fun k hk => Nat.lt_of_le_of_lt (ediv_abs d0 (hd k hk)) (hx (k + 1) (by omega))) (c.shows d0 hd)

end
/-- != of two lists that hold the same -/
def rNeS : R2 := fun x y H Q => ∃ (a b : Addr) (xs : List V), x = .ref a ∧ y = .ref b ∧ H a = some (.lst xs) ∧ H b = some (.lst xs) ∧ (∀ v ∈ xs, flatB v = true ∨ ∃ c, v = .ref c) ∧ Q (.bl false) H
theorem op_neS {X : Cx} (hu : X.A.units + 64 < cLine) : OpR X (compareOp .NotEq) rNeS := by
  intro pins s σ H x y v u Q I rx ry h
  obtain ⟨a, b, xs, rfl, rfl, ha, hb, f, q⟩ := h
  cases (show v = Value.ref a from rx)
  cases (show u = Value.ref b from ry)
  obtain ⟨us, r1, p1, _⟩ := I.list (SqL.of ha)
  obtain ⟨ws, r2, p2, _⟩ := I.list (SqL.of hb)
  have l1 := r1.length
  have l2 := r2.length
  refine SeqAt.RcNeAt.lists (e := fun _ => true) p1.isList p2.isList (by rw [List.size_toArray, List.size_toArray]; omega) (by omega) (fun j h1 h2 => ?_) X.prog X.w _ _ ?_
  · have hj : j < xs.length := by
      rw [List.size_toArray] at h1
      omega
    have hx : xs[j]? = some xs[j] := List.getElem?_eq_getElem hj
    obtain ⟨w1, e1, q1⟩ := r1.get hx
    obtain ⟨w2, e2, q2⟩ := r2.get hx
    have k1 : us.toArray[j] = w1 := by
      have := (List.getElem?_eq_some_iff.mp e1).2
      simpa using this
    have k2 : ws.toArray[j] = w2 := by
      have := (List.getElem?_eq_some_iff.mp e2).2
      simpa using this
    rw [k1, k2]
    rcases f xs[j] (List.getElem_mem hj) with k | ⟨c, k⟩
    · exact eqAt_same q1 q2 k
    · rw [k] at q1 q2
      cases (show w1 = Value.ref c from q1)
      cases (show w2 = Value.ref c from q2)
      exact SeqAt.EqAt.same _
  · rw [show ((List.range us.toArray.size).all fun _ => true) = true from List.all_eq_true.mpr fun _ _ => rfl]
    exact ⟨.bl false, H, I, rfl, q⟩
section
variable {P : Program} {w : World} {K : PySem.W.Frag} {mg : Str → Option Value} {base : Heap} {fd : FuncData}
/-- two fractions as tuples of ints -/
def spF2 (K : PySem.W.Frag) (f : Int × Int → Int × Int → Int × Int) : Sp := fun vs H Q _ => ∃ (p q : Addr) (a b : Int × Int), vs = [.ref p, .ref q] ∧ H p = some (.tup [.int a.1, .int a.2]) ∧ H q = some (.tup [.int b.1, .int b.2]) ∧ a.2 ≠ 0 ∧ b.2 ≠ 0 ∧ (∃ n, n ≤ 400 ∧ a.1.natAbs < 10 ^ n ∧ a.2.natAbs < 10 ^ n ∧ b.1.natAbs < 10 ^ n ∧ b.2.natAbs < 10 ^ n) ∧
  ∀ r H', Same H H' → H' r = some (.tup [.int (f a b).1, .int (f a b).2]) → Q (.ref r) H'
theorem scSum : FnScope ["_law_one", "_law_two"] ["_law_one", "_law_two"] d_sum.scope := ⟨rfl, rfl, rfl, by decide +kernel, rfl, by decide +kernel, by decide +kernel⟩
theorem ok_sum (W : Wd K mg) : ∃ fd, FnOk P w K mg base CX0 2 (He.ga K "_law_sum") fd ["_law_one", "_law_two"] (spF2 K pAdd) ∧ Binds K fd ["_law_one", "_law_two"] [] := by
  obtain ⟨fd_lowest, G_lowest, b_lowest⟩ := ok_lowest (P := P) (w := w) (base := base) W
  have k_lowest : PySem.W.keepIn K (.ref (He.ga K "_law_lowest")) = true := by obtain ⟨fd, F⟩ := W.F_lowest; exact F.kp
  obtain ⟨fd, F⟩ := W.F_sum
  refine ⟨fd, F.ok scSum (fun vs H Q E h => ?_) (fun cdv A outer s H vs Q E hr h => ?_), FunD.bindsN F fun _ _ _ _ _ _ us hl => match us, hl with | [_, _], _ => rfl⟩
  · obtain ⟨p, q, _, _, rfl, _⟩ := h
    rfl
  · obtain ⟨p, q, a, b, rfl, hp, hq, na, nb, ⟨n, hn, ba, bb, bc, bd⟩, k⟩ := h
    have r1 : Room 1 _ := hr.mono (by decide)
    refine ⟨_, PSs.nox (pss_one (ps_ret (pe_call G_lowest r1 rfl W.g_law_lowest k_lowest b_lowest .nil pass0 (pa_cons (pe_op op_add (pe_op op_mulX9 (pe_ix ix_tupH (pv 0) pe_int (fun _ _ => rfl)) (pe_ix ix_tupH (pv 1) pe_int (fun _ _ => rfl))) (pe_op op_mulX9 (pe_ix ix_tupH (pv 1) pe_int (fun _ _ => rfl)) (pe_ix ix_tupH (pv 0) pe_int (fun _ _ => rfl)))) (pa_cons (pe_op op_mulX9 (pe_ix ix_tupH (pv 0) pe_int (fun _ _ => rfl)) (pe_ix ix_tupH (pv 1) pe_int (fun _ _ => rfl))) pa_nil))))), ?_⟩
    simp -dsimp [tSeq, tAsg, tRet, tIfS, tIf, tTest, tVar, tCons, tNil, tC, tOp, tUn, rI, rI0, rU, tCB, tLst_A, tTup_A, gName, L2.start, CMul, CPow, CDiv, tDrop, tBM, tBM0, tNext, tPar, gSub, rSetL, rIxL, rIxT, tChain, tB, tNot, tNotV, tAnd, tOr, tAndV, tOrV, tFld, tCall, rIxLH, rIxTH, atI, ixN, upd_same, cxK, ex2, ex3, ex3b, rIs1, rIs2, rNe2, tyN, kb1, kb2, kb3, kb4, kb5, kb6, rEq, rNe, scal, tMake_S, tMakeK_S, tMakeN_S, hp, hq]
    have m : ∀ {x : Nat}, x < 10 ^ n → x < bigM := fun h => h_lt_M (p10 hn h)
    have g9 : (a.2 * b.2).natAbs < big9 := by
      rw [Int.natAbs_mul]
      exact Nat.lt_of_lt_of_le (Nat.mul_lt_mul'' (p10 hn bb) (p10 hn bd)) (by unfold bigH big9; rw [← Nat.pow_add]; exact Nat.pow_le_pow_right (by decide) (by decide))
    refine ⟨⟨m ba, m bd⟩, ⟨m bc, m bb⟩, ⟨m bb, m bd⟩, _, _, rfl, Int.mul_ne_zero na nb, g9, fun r nr => k r _ (same_upd nr) upd_same⟩

end
/-! ### zip of a list and a tuple, of any lengths -/
namespace ZlY
open PySem PySem.Spec PyProof.Rows L2
/-- the list at a and the tuple at b -/
def ItzM (K : PySem.W.Frag) (a b : Addr) : It where
  go := fun i H => ∃ (xs ys : List V) (x y : V), (SqL K H a xs ∧ SqT K H b ys) ∧ xs[i]? = some x ∧ ys[i]? = some y
  yld := fun i H v H' => ∃ (T : Addr) (x y : V), v = .ref T ∧ H T = none ∧ H' = upd H T (.tup [x, y]) ∧ (∀ xs, SqL K H a xs → xs[i]? = some x) ∧ ∀ ys, SqT K H b ys → ys[i]? = some y
  stop := fun i H => ∃ xs ys : List V, (SqL K H a xs ∧ SqT K H b ys) ∧ i ≤ xs.length ∧ i ≤ ys.length ∧ (i = xs.length ∨ i = ys.length)
theorem sep {z TI TO i1 i2 a b : Addr} (D : ZipApart z TI TO i1 i2 a b) : ZipSep2 z TI TO i1 i2 [i1, a] [i2, b] where
  TIz := D.TIz
  TOz := D.TOz
  TITO := D.TITO
  TIi1 := D.TIi1
  mem1 := by simp -dsimp [tSeq, tAsg, tRet, tIfS, tIf, tTest, tVar, tCons, tNil, tC, tOp, tUn, rI, rI0, rU, tCB, tLst_A, tTup_A, gName, L2.start, CMul, CPow, CDiv, tDrop, tBM, tBM0, tNext, tPar, gSub, rSetL, rIxL, rIxT, tChain, tB, tNot, tNotV, tAnd, tOr, tAndV, tOrV, tFld, tCall, rIxLH, rIxTH, atI, ixN, upd_same, cxK, ex2, ex3, ex3b, rIs1, rIs2, rNe2, tyN, kb1, kb2, kb3, kb4, kb5, kb6, rEq, rNe, scal, tMake_S, tMakeK_S, tMakeN_S]
  zf1 := by simp; exact ⟨D.i1z.symm, D.l1z.symm⟩
  Tf1 := by simp; exact ⟨D.TOi1, D.l1TO.symm⟩
  TIi2 := D.TIi2
  mem2 := by simp -dsimp [tSeq, tAsg, tRet, tIfS, tIf, tTest, tVar, tCons, tNil, tC, tOp, tUn, rI, rI0, rU, tCB, tLst_A, tTup_A, gName, L2.start, CMul, CPow, CDiv, tDrop, tBM, tBM0, tNext, tPar, gSub, rSetL, rIxL, rIxT, tChain, tB, tNot, tNotV, tAnd, tOr, tAndV, tOrV, tFld, tCall, rIxLH, rIxTH, atI, ixN, upd_same, cxK, ex2, ex3, ex3b, rIs1, rIs2, rNe2, tyN, kb1, kb2, kb3, kb4, kb5, kb6, rEq, rNe, scal, tMake_S, tMakeK_S, tMakeN_S]
  zf2 := by simp; exact ⟨D.i2z.symm, D.l2z.symm⟩
  Tf2 := by simp; exact ⟨D.TOi2, D.l2TO.symm⟩
  sep1_2 := by simp; exact ⟨D.i12, D.l2i1.symm⟩
  sep2_1 := by simp; exact ⟨D.i12.symm, D.l1i2.symm⟩
abbrev StM (z TI TO i1 i2 a b : Addr) : Nat → Heap → Prop := fun i h => (IsZip h z TI TO .none ∧ IsPair h TI (.ref i1) (.ref i2)) ∧ (∃ x y, IsPair h TO x y) ∧ h.IsListIter i1 a i ∧ h.IsTupleIter i2 b i
theorem five {z TI TO i1 i2 c : Addr} (h : c ∈ [z, TI, TO, i1, i2]) : c = z ∨ c = TI ∨ c = TO ∨ c = i1 ∨ c = i2 := by simpa using h
theorem turn {P : Program} {w : World} {K : PySem.W.Frag} {el : List Expr} {k : Nat} {tp : Pos} {a b z TI TO i1 i2 : Addr} (D : ZipApart z TI TO i1 i2 a b) :
    Turn P w K (.Tuple el k tp) (ItzM K a b) [z, TI, TO, i1, i2] z (StM z TI TO i1 i2 a b) where
  mem := List.mem_cons_self
  obj := fun i h st c hc => by
    obtain ⟨⟨g1, g2⟩, ⟨x, y, g3⟩, ⟨o1, g4, _, d1⟩, ⟨o2, g5, _, d2⟩⟩ := st
    rcases five hc with rfl | rfl | rfl | rfl | rfl
    · exact ⟨_, g1, fun v e => nomatch e⟩
    · exact ⟨_, g2, fun v e => nomatch e⟩
    · exact ⟨_, g3, fun v e => nomatch e⟩
    · exact ⟨o1, g4, fun v e => by rw [d1] at e; cases e⟩
    · exact ⟨o2, g5, fun v e => by rw [d2] at e; cases e⟩
  keep := fun i h h' st kp => by
    obtain ⟨⟨g1, g2⟩, ⟨x, y, g3⟩, g4, g5⟩ := st
    exact ⟨⟨kp _ (by simp -dsimp [tSeq, tAsg, tRet, tIfS, tIf, tTest, tVar, tCons, tNil, tC, tOp, tUn, rI, rI0, rU, tCB, tLst_A, tTup_A, gName, L2.start, CMul, CPow, CDiv, tDrop, tBM, tBM0, tNext, tPar, gSub, rSetL, rIxL, rIxT, tChain, tB, tNot, tNotV, tAnd, tOr, tAndV, tOrV, tFld, tCall, rIxLH, rIxTH, atI, ixN, upd_same, cxK, ex2, ex3, ex3b, rIs1, rIs2, rNe2, tyN, kb1, kb2, kb3, kb4, kb5, kb6, rEq, rNe, scal, tMake_S, tMakeK_S, tMakeN_S]) _ g1, kp _ (by simp -dsimp [tSeq, tAsg, tRet, tIfS, tIf, tTest, tVar, tCons, tNil, tC, tOp, tUn, rI, rI0, rU, tCB, tLst_A, tTup_A, gName, L2.start, CMul, CPow, CDiv, tDrop, tBM, tBM0, tNext, tPar, gSub, rSetL, rIxL, rIxT, tChain, tB, tNot, tNotV, tAnd, tOr, tAndV, tOrV, tFld, tCall, rIxLH, rIxTH, atI, ixN, upd_same, cxK, ex2, ex3, ex3b, rIs1, rIs2, rNe2, tyN, kb1, kb2, kb3, kb4, kb5, kb6, rEq, rNe, scal, tMake_S, tMakeK_S, tMakeN_S]) _ g2⟩, ⟨x, y, kp _ (by simp -dsimp [tSeq, tAsg, tRet, tIfS, tIf, tTest, tVar, tCons, tNil, tC, tOp, tUn, rI, rI0, rU, tCB, tLst_A, tTup_A, gName, L2.start, CMul, CPow, CDiv, tDrop, tBM, tBM0, tNext, tPar, gSub, rSetL, rIxL, rIxT, tChain, tB, tNot, tNotV, tAnd, tOr, tAndV, tOrV, tFld, tCall, rIxLH, rIxTH, atI, ixN, upd_same, cxK, ex2, ex3, ex3b, rIs1, rIs2, rNe2, tyN, kb1, kb2, kb3, kb4, kb5, kb6, rEq, rNe, scal, tMake_S, tMakeK_S, tMakeN_S]) _ g3⟩, g4.at fun o e => kp _ (by simp -dsimp [tSeq, tAsg, tRet, tIfS, tIf, tTest, tVar, tCons, tNil, tC, tOp, tUn, rI, rI0, rU, tCB, tLst_A, tTup_A, gName, L2.start, CMul, CPow, CDiv, tDrop, tBM, tBM0, tNext, tPar, gSub, rSetL, rIxL, rIxT, tChain, tB, tNot, tNotV, tAnd, tOr, tAndV, tOrV, tFld, tCall, rIxLH, rIxTH, atI, ixN, upd_same, cxK, ex2, ex3, ex3b, rIs1, rIs2, rNe2, tyN, kb1, kb2, kb3, kb4, kb5, kb6, rEq, rNe, scal, tMake_S, tMakeK_S, tMakeN_S]) o e, g5.at fun o e => kp _ (by simp -dsimp [tSeq, tAsg, tRet, tIfS, tIf, tTest, tVar, tCons, tNil, tC, tOp, tUn, rI, rI0, rU, tCB, tLst_A, tTup_A, gName, L2.start, CMul, CPow, CDiv, tDrop, tBM, tBM0, tNext, tPar, gSub, rSetL, rIxL, rIxT, tChain, tB, tNot, tNotV, tAnd, tOr, tAndV, tOrV, tFld, tCall, rIxLH, rIxTH, atI, ixN, upd_same, cxK, ex2, ex3, ex3b, rIs1, rIs2, rNe2, tyN, kb1, kb2, kb3, kb4, kb5, kb6, rEq, rNe, scal, tMake_S, tMakeK_S, tMakeN_S]) o e⟩
  item := by
    intro X eP ew eK hc i pins s σ H E I hf st hg
    subst eP ew eK
    obtain ⟨⟨g1, g2⟩, ⟨x0, y0, g3⟩, g4, g5⟩ := st
    obtain ⟨xs, ys, x, y, ⟨qx, qy⟩, hx, hy⟩ := hg
    obtain ⟨its, rv, p, _⟩ := I.list qx
    obtain ⟨its2, rv2, p2, _⟩ := I.tuple qy
    obtain ⟨u, hu, ru⟩ := rv.get hx
    obtain ⟨u2, hu2, ru2⟩ := rv2.get hy
    have hh : X.A.in1.handled = none := I.ok.hd hc
    have lz : z < s.heap.objs.size := Heap.lt_size g1
    have lu : i < its.toArray.size := by
      have := (List.getElem?_eq_some_iff.mp hu).1
      simpa using this
    have lu2 : i < its2.toArray.size := by
      have := (List.getElem?_eq_some_iff.mp hu2).1
      simpa using this
    refine wpAny_pyNext_zipD2_item (sep D) (Draws.list hh i1 a D.l1i1 its.toArray) (Draws.tuple hh i2 b D.l2i2 its2.toArray) g1 g2 g3 ⟨g4, p.isList⟩ ⟨g5, p2⟩ lu lu2 fun v1 v2 h' tk e1 e2 z' TO' s1 s2 hT hsz hk => ?_
    have ev1 : v1 = u := by
      have : its[i]? = some v1 := by simpa using e1
      rw [hu] at this
      exact (Option.some.inj this).symm
    have ev2 : v2 = u2 := by
      have : its2[i]? = some v2 := by simpa using e2
      rw [hu2] at this
      exact (Option.some.inj this).symm
    subst ev1 ev2
    refine ⟨_, rfl, wpAny_letOwnedTupleGo_zip (s := { s with heap := h', toks := tk }) z' fun h'' z'' sb => ?_⟩
    have hT2 : h''.get? s.heap.objs.size = some { cls := .type "tuple", data := .seq #[v1, v2] } := (sb.2 _ (Nat.ne_of_gt lz)).trans hT
    have nw : ObjOk X.prog X.w (upd H s.heap.objs.size (.tup [x, y])) h'' s.heap.objs.size (.tup [x, y]) := ⟨(by show 2 ≤ sizeLine; decide), [v1, v2], .cons ru (.cons ru2 .nil), _, hT2, rfl, _, rfl⟩
    have I1 : Inv X pins σ (upd H s.heap.objs.size (.tup [x, y])) { s with heap := h'', toks := tk } := I.turnedNew (ch := [z, TI, TO, i1, i2]) (fun c o nb e => by
      have nz : c ≠ z := fun k => nb (by rw [k]; simp -dsimp [tSeq, tAsg, tRet, tIfS, tIf, tTest, tVar, tCons, tNil, tC, tOp, tUn, rI, rI0, rU, tCB, tLst_A, tTup_A, gName, L2.start, CMul, CPow, CDiv, tDrop, tBM, tBM0, tNext, tPar, gSub, rSetL, rIxL, rIxT, tChain, tB, tNot, tNotV, tAnd, tOr, tAndV, tOrV, tFld, tCall, rIxLH, rIxTH, atI, ixN, upd_same, cxK, ex2, ex3, ex3b, rIs1, rIs2, rNe2, tyN, kb1, kb2, kb3, kb4, kb5, kb6, rEq, rNe, scal, tMake_S, tMakeK_S, tMakeN_S])
      refine (sb.2 c nz).trans (hk c o nz (fun k => nb ?_) (fun k => nb ?_) (fun k => nb ?_) e)
      all_goals (rw [k]; simp -dsimp [tSeq, tAsg, tRet, tIfS, tIf, tTest, tVar, tCons, tNil, tC, tOp, tUn, rI, rI0, rU, tCB, tLst_A, tTup_A, gName, L2.start, CMul, CPow, CDiv, tDrop, tBM, tBM0, tNext, tPar, gSub, rSetL, rIxL, rIxT, tChain, tB, tNot, tNotV, tAnd, tOr, tAndV, tOrV, tFld, tCall, rIxLH, rIxTH, atI, ixN, upd_same, cxK, ex2, ex3, ex3b, rIs1, rIs2, rNe2, tyN, kb1, kb2, kb3, kb4, kb5, kb6, rEq, rNe, scal, tMake_S, tMakeK_S, tMakeN_S])) hf (Nat.le_refl _) nw
    refine ⟨.ref s.heap.objs.size, _, I1, rfl, ⟨_, x, y, rfl, I.hok.fresh (Nat.le_refl _), rfl, fun l hl => by rw [I.list_inj hl qx]; exact hx, fun l hl => by rw [I.tuple_inj hl qy]; exact hy⟩, ⟨⟨z'', ?_⟩, ⟨v1, v2, ?_⟩, ?_, ?_⟩, fun c hcm => ?_⟩
    · exact (sb.2 _ D.TIz).trans (hk _ _ D.TIz D.TITO D.TIi1 D.TIi2 g2)
    · exact (sb.2 _ D.TOz).trans TO'
    · exact s1.1.at fun o e => (sb.2 _ D.i1z).trans e
    · exact s2.1.at fun o e => (sb.2 _ D.i2z).trans e
    · have lt : c < s.heap.objs.size := by
        rcases five hcm with rfl | rfl | rfl | rfl | rfl
        · exact lz
        · exact Heap.lt_size g2
        · exact Heap.lt_size g3
        · obtain ⟨_, e, _⟩ := g4
          exact Heap.lt_size e
        · obtain ⟨_, e, _⟩ := g5
          exact Heap.lt_size e
      rw [upd_ne (Nat.ne_of_lt lt)]
      exact (hf c hcm).1
  done := by
    intro X eP ew eK hc i pins s σ H E I hf st hg
    subst eP ew eK
    obtain ⟨⟨g1, g2⟩, ⟨x0, y0, g3⟩, g4, g5⟩ := st
    obtain ⟨xs, ys, ⟨qx, qy⟩, hx, hy, he⟩ := hg
    obtain ⟨its, rv, p, _⟩ := I.list qx
    obtain ⟨its2, rv2, p2, _⟩ := I.tuple qy
    have l1 := rv.length
    have l2 := rv2.length
    have hh : X.A.in1.handled = none := I.ok.hd hc
    refine wpAny_pyNext_zipD2_end (sep D) (Draws.list hh i1 a D.l1i1 its.toArray) (Draws.tuple hh i2 b D.l2i2 its2.toArray) g1 g2 g3 ⟨g4, p.isList⟩ ⟨g5, p2⟩ (by simp; omega) (by simp; omega) (by simp; omega) fun h' tk hk => ⟨rfl, I.turnedL (ch := [z, TI, TO, i1, i2]) (fun c o nb e => ?_) hf⟩
    refine hk c o (fun k => nb ?_) (fun k => nb ?_) (fun k => nb ?_) (fun k => nb ?_) e
    all_goals (rw [k]; simp -dsimp [tSeq, tAsg, tRet, tIfS, tIf, tTest, tVar, tCons, tNil, tC, tOp, tUn, rI, rI0, rU, tCB, tLst_A, tTup_A, gName, L2.start, CMul, CPow, CDiv, tDrop, tBM, tBM0, tNext, tPar, gSub, rSetL, rIxL, rIxT, tChain, tB, tNot, tNotV, tAnd, tOr, tAndV, tOrV, tFld, tCall, rIxLH, rIxTH, atI, ixN, upd_same, cxK, ex2, ex3, ex3b, rIs1, rIs2, rNe2, tyN, kb1, kb2, kb3, kb4, kb5, kb6, rEq, rNe, scal, tMake_S, tMakeK_S, tMakeN_S])
  self := fun A i s Q E st h => wpAny_pyIter_zip st.1.1 h
def iZipM (K : PySem.W.Frag) (ta : TA) : TI := fun σ H R => ta σ H fun vs H1 => ∃ (a b : Addr) (xs ys : List V), vs = [.ref a, .ref b] ∧ SqL K H1 a xs ∧ SqT K H1 b ys ∧ R (ItzM K a b) H1
theorem fresh5 {X : Cx} {pins : List (Addr × Obj)} {σ : L2.St} {H : Hp} {s : Shared} (I : Inv X pins σ H s) (c : Addr) (h : c ∈ [s.heap.objs.size + 4, s.heap.objs.size + 2, s.heap.objs.size + 3, s.heap.objs.size, s.heap.objs.size + 1]) : FpOk X pins H c := by
  have le : s.heap.objs.size ≤ c := by
    rcases five h with rfl | rfl | rfl | rfl | rfl <;> omega
  exact I.fpOk le (I.hok.fresh le)
/-- zip of a tuple, and a list or a tuple -/
theorem pi_zipM {X : Cx} {e e2 : Expr} {ta : TA} {p pos tp : Pos} {el : List Expr} {k : Nat} (hg : Gl X "zip") (hm : X.mg "zip" = none) (ha : PA X [e, e2] ta)
    (h1 : starEach [e, e2] X.env = (false, eval e X.env) :: starEach [e2] X.env := by rfl) (h2 : (backTo pos (starEach [e2] X.env)).any (·.1) = false := by rfl) :
    PI X (.Tuple el k tp) (.Call (.Name "zip" p) [e, e2] [] pos) (iZipM X.K ta) := by
  refine ⟨fun pins s σ H R I h => Call_ (ld_blt I hg hm PyProof.Rows.boot_zip (PyProof.Rows.callWith_type1 (thn (ha.run pos pins s σ H _ I h) fun us t ⟨vs, G, J, r, q⟩ => ?_) h1 h2))⟩
  obtain ⟨a, b, xs, ys, rfl, qa, qb, q⟩ := q
  obtain ⟨u, u2, rfl, r1, r2⟩ : ∃ u u2, us = [u, u2] ∧ RelV (.ref a) u ∧ RelV (.ref b) u2 := by
    cases r with
    | cons r rr =>
      cases rr with
      | cons r' rr =>
        cases rr
        exact ⟨_, _, rfl, r, r'⟩
  cases r1
  cases r2
  obtain ⟨i1, v1, p1, _⟩ := J.list qa
  obtain ⟨i2, v2, p2, _⟩ := J.tuple qb
  obtain ⟨o2, ho2, _⟩ := id p2
  refine zip_begins2 (begins_list a i1.toArray) (begins_tuple b i2.toArray) p1.isList p2 fun h' g1 g2 g3 g4 g5 _ hk => wpAny_pyIter_zip g1 ?_
  exact ⟨_, _, _, _, G, rfl, J.kept (t' := t.toks) hk, turn (PySem.W.ktu_apart t.heap.objs.size a b p1.lt (Heap.lt_size ho2)), ⟨⟨g1, g2⟩, ⟨_, _, g3⟩, ⟨_, g4, rfl, rfl⟩, ⟨_, g5, rfl, rfl⟩⟩, fun c hc => fresh5 J c hc, q⟩
theorem walkM {K : PySem.W.Frag} {a b : Addr} {xs ys : List V} : Walk (ItzM K a b) (min xs.length ys.length) (fun H => SqL K H a xs ∧ SqT K H b ys) (YPair (fun i => xs[i]?) (fun i => ys[i]?)) where
  goes := fun i H hi h => ⟨xs, ys, xs[i]'(by omega), ys[i]'(by omega), h, List.getElem?_eq_getElem _, List.getElem?_eq_getElem _⟩
  stops := fun H h => ⟨xs, ys, h, by omega, by omega, by omega⟩
  yields := fun i H v H' hi h y => by
    obtain ⟨T, x, y, e, n, u, f, g⟩ := y
    exact ⟨T, x, y, e, n, u, f _ h.1, g _ h.2⟩
end ZlY
/-- a list beside an empty one -/
def rEqE : R2 := fun x y H Q => ∃ (a b : Addr) (xs : List V), x = .ref a ∧ y = .ref b ∧ H a = some (.lst xs) ∧ H b = some (.lst []) ∧ Q (.bl (decide (xs.length = 0))) H
theorem op_eqE {X : Cx} (hu : X.A.units + 64 < cLine) : OpR X (compareOp .Eq) rEqE := by
  intro pins s σ H x y v u Q I rx ry h
  obtain ⟨a, b, xs, rfl, rfl, ha, hb, q⟩ := h
  cases (show v = Value.ref a from rx)
  cases (show u = Value.ref b from ry)
  obtain ⟨us, r1, p1, _⟩ := I.list (SqL.of ha)
  obtain ⟨ws, r2, p2, _⟩ := I.list (SqL.of hb)
  have l1 := r1.length
  have l2 := r2.length
  have l2 : ws.length = 0 := l2.symm
  by_cases e : xs.length = 0
  · rw [decide_eq_true e] at q
    refine SeqAt.RcAt.lists (e := fun _ => true) p1.isList p2.isList (by rw [List.size_toArray, List.size_toArray]; omega) (by omega) (fun j h1 h2 => ?_) X.prog X.w _ _ ?_
    · rw [List.size_toArray] at h1
      omega
    · rw [show ((List.range us.toArray.size).all fun _ => true) = true from List.all_eq_true.mpr fun _ _ => rfl]
      exact ⟨.bl true, H, I, rfl, q⟩
  · rw [decide_eq_false e] at q
    refine SeqAt.RcAt.lists_lengths p1.isList p2.isList (by rw [List.size_toArray, List.size_toArray]; exact bne_iff_ne.mpr (by omega)) (by omega) X.prog X.w _ _ ?_
    exact ⟨.bl false, H, I, rfl, q⟩
def rNeE : R2 := fun x y H Q => ∃ (a b : Addr) (xs : List V), x = .ref a ∧ y = .ref b ∧ H a = some (.lst xs) ∧ H b = some (.lst []) ∧ Q (.bl (!decide (xs.length = 0))) H
theorem op_neE {X : Cx} (hu : X.A.units + 64 < cLine) : OpR X (compareOp .NotEq) rNeE := by
  intro pins s σ H x y v u Q I rx ry h
  obtain ⟨a, b, xs, rfl, rfl, ha, hb, q⟩ := h
  cases (show v = Value.ref a from rx)
  cases (show u = Value.ref b from ry)
  obtain ⟨us, r1, p1, _⟩ := I.list (SqL.of ha)
  obtain ⟨ws, r2, p2, _⟩ := I.list (SqL.of hb)
  have l1 := r1.length
  have l2 := r2.length
  have l2 : ws.length = 0 := l2.symm
  by_cases e : xs.length = 0
  · rw [decide_eq_true e] at q
    refine SeqAt.RcNeAt.lists (e := fun _ => true) p1.isList p2.isList (by rw [List.size_toArray, List.size_toArray]; omega) (by omega) (fun j h1 h2 => ?_) X.prog X.w _ _ ?_
    · rw [List.size_toArray] at h1
      omega
    · rw [show ((List.range us.toArray.size).all fun _ => true) = true from List.all_eq_true.mpr fun _ _ => rfl]
      exact ⟨.bl false, H, I, rfl, q⟩
  · rw [decide_eq_false e] at q
    refine SeqAt.RcNeAt.lists_lengths p1.isList p2.isList (by rw [List.size_toArray, List.size_toArray]; exact bne_iff_ne.mpr (by omega)) (by omega) X.prog X.w _ _ ?_
    exact ⟨.bl true, H, I, rfl, q⟩
/-- two lists of as many ints -/
def rEqRo : R2 := fun x y H Q => ∃ (a b : Addr) (n : Nat) (f g : Nat → Int), x = .ref a ∧ y = .ref b ∧ H a = some (.lst (ro n f)) ∧ H b = some (.lst (ro n g)) ∧ Q (.bl ((List.range n).all fun k => decide (f k = g k))) H
theorem op_eqRo {X : Cx} (hu : X.A.units + 64 < cLine) : OpR X (compareOp .Eq) rEqRo := by
  intro pins s σ H x y v u Q I rx ry h
  obtain ⟨a, b, n, f, g, rfl, rfl, ha, hb, q⟩ := h
  cases (show v = Value.ref a from rx)
  cases (show u = Value.ref b from ry)
  obtain ⟨us, r1, p1, _⟩ := I.list (SqL.of ha)
  obtain ⟨ws, r2, p2, _⟩ := I.list (SqL.of hb)
  have l1 := r1.length
  have l2 := r2.length
  rw [vl_len] at l1 l2
  refine SeqAt.RcAt.lists (e := fun k => decide (f k = g k)) p1.isList p2.isList (by rw [List.size_toArray, List.size_toArray]; omega) (by omega) (fun j h1 h2 => ?_) X.prog X.w _ _ ?_
  · have hj : j < n := by
      rw [List.size_toArray] at h1
      omega
    obtain ⟨w1, e1, q1⟩ := r1.get (vl_get (g := fun b => V.int (f b)) hj)
    obtain ⟨w2, e2, q2⟩ := r2.get (vl_get (g := fun b => V.int (g b)) hj)
    have k1 : us.toArray[j] = w1 := by
      have := (List.getElem?_eq_some_iff.mp e1).2
      simpa using this
    have k2 : ws.toArray[j] = w2 := by
      have := (List.getElem?_eq_some_iff.mp e2).2
      simpa using this
    rw [k1, k2, ← eqV_int]
    exact eqAt_V q1 q2 rfl rfl
  · rw [List.size_toArray, ← l1]
    exact ⟨.bl _, H, I, rfl, q⟩
/-- two lists of as many ints -/
def rNeRo : R2 := fun x y H Q => ∃ (a b : Addr) (n : Nat) (f g : Nat → Int), x = .ref a ∧ y = .ref b ∧ H a = some (.lst (ro n f)) ∧ H b = some (.lst (ro n g)) ∧ Q (.bl (!(List.range n).all fun k => decide (f k = g k))) H
theorem op_neRo {X : Cx} (hu : X.A.units + 64 < cLine) : OpR X (compareOp .NotEq) rNeRo := by
  intro pins s σ H x y v u Q I rx ry h
  obtain ⟨a, b, n, f, g, rfl, rfl, ha, hb, q⟩ := h
  cases (show v = Value.ref a from rx)
  cases (show u = Value.ref b from ry)
  obtain ⟨us, r1, p1, _⟩ := I.list (SqL.of ha)
  obtain ⟨ws, r2, p2, _⟩ := I.list (SqL.of hb)
  have l1 := r1.length
  have l2 := r2.length
  rw [vl_len] at l1 l2
  refine SeqAt.RcNeAt.lists (e := fun k => decide (f k = g k)) p1.isList p2.isList (by rw [List.size_toArray, List.size_toArray]; omega) (by omega) (fun j h1 h2 => ?_) X.prog X.w _ _ ?_
  · have hj : j < n := by
      rw [List.size_toArray] at h1
      omega
    obtain ⟨w1, e1, q1⟩ := r1.get (vl_get (g := fun b => V.int (f b)) hj)
    obtain ⟨w2, e2, q2⟩ := r2.get (vl_get (g := fun b => V.int (g b)) hj)
    have k1 : us.toArray[j] = w1 := by
      have := (List.getElem?_eq_some_iff.mp e1).2
      simpa using this
    have k2 : ws.toArray[j] = w2 := by
      have := (List.getElem?_eq_some_iff.mp e2).2
      simpa using this
    rw [k1, k2, ← eqV_int]
    exact eqAt_V q1 q2 rfl rfl
  · rw [List.size_toArray, ← l1]
    exact ⟨.bl _, H, I, rfl, q⟩
theorem lc_dr {l : Addr} {i0 n : Nat} {ta : TA} {te : TE} {σ : List (Option V)} {H : Hp} {Q : V → Hp → Prop} {d0 d1 d2 : Int} (P : Nat → V → Hp → Prop) (hn : n < 1000) (mono : ∀ j, Mono (P j)) (hl : H l = some (draws d0 d1 d2)) (hw : ∀ x : V, wipe ((wipe σ [i0]).set i0 (some x)) [i0] = wipe σ [i0])
    (he : ∀ (j : Nat) (H' : Hp) (R : V → Hp → Prop) (e0 e1 e2 : Int), j < n → SameN l H H' → H' l = some (draws e0 e1 e2) → (∀ (y : V) (H4 : Hp) (f0 f1 f2 : Int), SameN l H' H4 → H4 l = some (draws f0 f1 f2) → P j y H4 → R y H4) → te ((wipe σ [i0]).set i0 (some (.int (j : Int)))) H' R)
    (hq : ∀ (D : Addr) (H' : Hp) (vs : List V) (e0 e1 e2 : Int), D ≠ l → H D = none → SameN l H H' → H' l = some (draws e0 e1 e2) → H' D = some (.lst vs) → vs.length = n → (∀ (j : Nat) (v : V), vs[j]? = some v → P j v H') → Q (.ref D) H') (hta : ∀ R : List V → Hp → Prop, R [.int (n : Int)] H → ta σ H R) : tLc (iRng1 ta) (gName i0) tYes te [i0] σ H Q := by
  refine hta _ ⟨(n : Int), rfl, by omega, by omega, fun D hD => ?_⟩
  rw [Int.toNat_natCast]
  have nDl : D ≠ l := fun e => by rw [e, hl] at hD; cases hD
  refine lc_it (walk_range (lo := 0) (n := n)) (fun i H' => SameN l H H' ∧ (∃ e0 e1 e2, H' l = some (draws e0 e1 e2)) ∧ ∃ vs : List V, vs.length = i ∧ H' D = some (.lst vs) ∧ ∀ (j : Nat) (v : V), vs[j]? = some v → P j v H') ⟨SameN.of (same_upd hD), ⟨d0, d1, d2, by rw [upd_ne nDl.symm]; exact hl⟩, [], rfl, upd_same, fun j x h => by cases h⟩ (fun _ _ _ _ => True.intro) ?_ ?_
  · rintro i x H' H'' hi ⟨sm, ⟨e0, e1, e2, el⟩, vs, hm, hd, hb⟩ ⟨rfl, rfl⟩
    refine ⟨hw _, ?_⟩
    simp only [tYes, if_true]
    rw [Int.zero_add]
    refine he i H'' _ e0 e1 e2 hi sm el fun y H4 f0 f1 f2 N4 L4 py => ?_
    have hd4 := N4 _ _ nDl hd
    refine ⟨vs, hd4, small1000 (by omega), fun b o nb eb => ?_, ⟨f0, f1, f2, ?_⟩, vs ++ [y], by rw [List.length_append, hm]; rfl, upd_same, fun j v hj => ?_⟩
    · rw [upd_ne (ne_of_none eb hD)]
      exact N4 _ _ nb (sm b o nb eb)
    · rw [upd_ne nDl.symm]
      exact L4
    · by_cases hji : j < vs.length
      · rw [List.getElem?_append_left hji] at hj
        exact mono j D vs v _ _ hd4 .upd (mono j l _ v _ _ el N4 (hb j v hj))
      · rw [List.getElem?_append_right (by omega)] at hj
        have ej : j - vs.length = 0 := by
          rcases Nat.eq_zero_or_pos (j - vs.length) with h | h
          · exact h
          · rw [List.getElem?_eq_none (by simp; omega)] at hj
            cases hj
        rw [ej] at hj
        cases hj
        have : j = i := by omega
        subst this
        exact mono j D vs _ _ _ hd4 .upd py
  · rintro H' ⟨sm, ⟨e0, e1, e2, el⟩, vs, hm, hd, hb⟩
    exact hq D H' vs e0 e1 e2 nDl hD sm el hd hm hb
theorem get_lstH {X : Cx} : PGet X rIxLH := by
  intro pins s σ H x y v u Q I rx ry h
  obtain ⟨p, xs, i, z, rfl, rfl, hp, he, q⟩ := h
  cases rx
  obtain ⟨t, rfl⟩ := ry
  obtain ⟨its, r, pl, hz⟩ := I.list (SqL.of hp)
  obtain ⟨j, h1, h2, h3, h4, h5⟩ := atI_get he
  obtain ⟨w, ew, rw'⟩ := r.get h2
  have hl := r.length
  have hn := line63
  have fin : EP X pins σ Q w s := ⟨z, H, I, rw', q⟩
  by_cases h0 : 0 ≤ i
  · have hj : i.toNat = j := by
      rw [seqIndex_of h0 h5] at h1
      exact Option.some.inj h1
    exact wpAny_getItem_list pl.isList h0 (by omega) (by rw [hj]; simpa using ew) fin
  · have hj : (i + (its.toArray.size : Int)).toNat = j := by
      rw [seqIndex_neg (by omega) h4] at h1
      rw [List.size_toArray, ← hl]
      exact Option.some.inj h1
    exact wpAny_getItem_list_neg pl.isList (by omega) (by rw [List.size_toArray] <;> omega) (by omega) (by rw [hj]; simpa using ew) fin
/-- the law's rows: numbers, strict -/
def RowsL (H : Hp) (a : Addr) (m : Nat) (A : Nat → Nat → Int) (st : Nat → Bool) : Prop := ∃ vs : List V, vs.length = m ∧ H a = some (.lst vs) ∧ ∀ k, k < m → ∃ p q, vs[k]? = some (.ref p) ∧ H p = some (.tup [.ref q, .bl (st k)]) ∧ H q = some (.lst (ro 4 (A k)))
theorem ro4_ne {f : Nat → Int} {e0 e1 e2 : Int} : HO.lst (ro 4 f) ≠ draws e0 e1 e2 := fun h => by
  injection h with h
  have := congrArg List.length h
  rw [vl_len] at this
  cases this
theorem RowsL.ne {H : Hp} {a l : Addr} {m : Nat} {A : Nat → Nat → Int} {st : Nat → Bool} {e0 e1 e2 : Int} (h : RowsL H a m A st) (hl : H l = some (draws e0 e1 e2)) : a ≠ l := fun e => by
  obtain ⟨vs, hm, ha, h⟩ := h
  rw [e, hl] at ha
  have ha : [V.int e0, V.int e1, V.int e2] = vs := by injection ha with ha; injection ha
  subst ha
  obtain ⟨p, q, e, _⟩ := h 0 (by rw [← hm]; exact (by decide : 0 < 3))
  cases e
theorem RowsL.sameN {H H' : Hp} {a l : Addr} {m : Nat} {A : Nat → Nat → Int} {st : Nat → Bool} {e0 e1 e2 : Int} (h : RowsL H a m A st) (hl : H l = some (draws e0 e1 e2)) (s : SameN l H H') : RowsL H' a m A st := by
  have na := h.ne hl
  obtain ⟨vs, hm, ha, h⟩ := h
  refine ⟨vs, hm, s _ _ na ha, fun k hk => ?_⟩
  obtain ⟨p, q, e1, e2, e3⟩ := h k hk
  refine ⟨p, q, e1, s _ _ (fun e => ?_) e2, s _ _ (fun e => ?_) e3⟩
  · rw [e, hl] at e2
    cases e2
  · rw [e, hl] at e3
    exact ro4_ne (Option.some.inj e3).symm
theorem RowsL.same {H H' : Hp} {a : Addr} {m : Nat} {A : Nat → Nat → Int} {st : Nat → Bool} (h : RowsL H a m A st) (s : Same H H') : RowsL H' a m A st := by
  obtain ⟨vs, hm, ha, h⟩ := h
  refine ⟨vs, hm, s _ _ ha, fun k hk => ?_⟩
  obtain ⟨p, q, e1, e2, e3⟩ := h k hk
  exact ⟨p, q, e1, s _ _ e2, s _ _ e3⟩
def IsBl (v : V) : Prop := ∃ s : Bool, v = .bl s
/-- but for draws, and new things, nothing has changed -/
def Dr (l : Addr) (H H' : Hp) : Prop := SameN l H H' ∧ ∃ e0 e1 e2, H' l = some (draws e0 e1 e2)
theorem Dr.start {l : Addr} {H : Hp} {d0 d1 d2 : Int} (h : H l = some (draws d0 d1 d2)) : Dr l H H := ⟨.of (Same.refl _), d0, d1, d2, h⟩
theorem Dr.same {l : Addr} {H H1 H2 : Hp} (h : Dr l H H1) (s : Same H1 H2) : Dr l H H2 := by
  obtain ⟨h1, e0, e1, e2, h2⟩ := h
  exact ⟨h1.trans (.of s), e0, e1, e2, s _ _ h2⟩
theorem Dr.upd {l : Addr} {H H1 : Hp} {e0 e1 e2 : Int} (h : Dr l H H1) : Dr l H (upd H1 l (draws e0 e1 e2)) := ⟨h.1.trans .upd, e0, e1, e2, upd_same⟩
theorem Dr.draw {l : Addr} {H H1 H2 : Hp} {e0 e1 e2 : Int} (h : Dr l H H1) (s : SameN l H1 H2) (e : H2 l = some (draws e0 e1 e2)) : Dr l H H2 := ⟨h.1.trans s, e0, e1, e2, e⟩
theorem Dr.trans {l : Addr} {H H1 H2 : Hp} (h : Dr l H H1) (k : Dr l H1 H2) : Dr l H H2 := ⟨h.1.trans k.1, k.2⟩
theorem RowsL.dr {H H' : Hp} {a l : Addr} {m : Nat} {A : Nat → Nat → Int} {st : Nat → Bool} (h : RowsL H a m A st) (hl : ∃ e0 e1 e2, H l = some (draws e0 e1 e2)) (s : Dr l H H') : RowsL H' a m A st := by
  obtain ⟨e0, e1, e2, hl⟩ := hl
  exact h.sameN hl s.1
theorem ro4_dr {H H' : Hp} {q l : Addr} {f : Nat → Int} (h : H q = some (.lst (ro 4 f))) (hl : ∃ e0 e1 e2, H l = some (draws e0 e1 e2)) (s : SameN l H H') : H' q = some (.lst (ro 4 f)) := s _ _ (fun e => by
  obtain ⟨e0, e1, e2, hl⟩ := hl
  rw [e, hl] at h
  exact ro4_ne (Option.some.inj h).symm) h
/-- the numbers of rows in their one form -/
def prG (A : Nat → Nat → Int) (k b : Nat) : Int := pr (g4 (A k 0) (A k 1) (A k 2) (A k 3)) (A k b)
theorem prG_le {A : Nat → Nat → Int} {k b M : Nat} (h : (A k b).natAbs ≤ M) : (prG A k b).natAbs ≤ M := Nat.le_trans pr_le h
theorem IsRow.keepL {K : PySem.W.Frag} {H H' : Hp} {z : Addr} {st : Bool} {m t0 t1 t2 : Int × Int} (h : IsRow K H z st m t0 t1 t2) (s : KeepL H H') : IsRow K H' z st m t0 t1 t2 := by
  obtain ⟨dx, tz, h1, h2⟩ := h
  exact ⟨dx, tz, s _ _ h1 (fun xs e => by cases e), h2.keepL s⟩
section
variable {P : Program} {w : World} {K : PySem.W.Frag} {mg : Str → Option Value} {base : Heap} {fd : FuncData}
def spRowsOf (K : PySem.W.Frag) : Sp := fun vs H Q _ => ∃ (l a : Addr) (d0 d1 d2 : Int) (m : Nat) (A : Nat → Nat → Int) (st : Nat → Bool), vs = [.ref l, .ref a] ∧ H l = some (draws d0 d1 d2) ∧ RowsL H a m A st ∧ m < 800 ∧ (∀ k b, k < m → b < 4 → (A k b).natAbs < 10 ^ 12) ∧
  ∀ D H', Dr l H H' → H D = none → Rws K H' D m (prG A) st → Q (.ref D) H'
theorem scRowsOf : FnScope ["_law_draws", "_law_rows", "_law_found", "_law_numbers", "_law_strict", "_law_way", "_law_part"] ["_law_draws", "_law_rows"] d_rows_of.scope := ⟨rfl, rfl, rfl, by decide +kernel, rfl, by decide +kernel, by decide +kernel⟩
theorem ok_rows_of (W : Wd K mg) : ∃ fd, FnOk P w K mg base CX0 10 (He.ga K "_law_rows_of") fd ["_law_draws", "_law_rows"] (spRowsOf K) ∧ Binds K fd ["_law_draws", "_law_rows"] [] := by
  obtain ⟨fd_draw, G_draw, b_draw⟩ := ok_draw (P := P) (w := w) (base := base) W
  have k_draw : PySem.W.keepIn K (.ref (He.ga K "_law_draw")) = true := by obtain ⟨fd, F⟩ := W.F_draw; exact F.kp
  obtain ⟨fd_written, G_written, b_written⟩ := ok_written (P := P) (w := w) (base := base) W
  have k_written : PySem.W.keepIn K (.ref (He.ga K "_law_written")) = true := by obtain ⟨fd, F⟩ := W.F_written; exact F.kp
  obtain ⟨fd, F⟩ := W.F_rows_of
  refine ⟨fd, F.ok scRowsOf (fun vs H Q E h => ?_) (fun cdv A outer s H vs Q E hr h => ?_), FunD.bindsN F fun _ _ _ _ _ _ us hl => match us, hl with | [_, _], _ => rfl⟩
  · obtain ⟨l, a, _, _, _, _, _, _, rfl, _⟩ := h
    rfl
  · obtain ⟨l, a, d0, d1, d2, m, A, st, rfl, hl, hR, hm, hB, q⟩ := h
    have r1 : Room 1 _ := hr.mono (by decide)
    have r2 : Room 2 _ := hr.mono (by decide)
    have r3 : Room 3 _ := hr.mono (by decide)
    have r4 : Room 4 _ := hr.mono (by decide)
    have r5 : Room 5 _ := hr.mono (by decide)
    have r6 : Room 6 _ := hr.mono (by decide)
    have r7 : Room 7 _ := hr.mono (by decide)
    have r8 : Room 8 _ := hr.mono (by decide)
    have r9 : Room 9 _ := hr.mono (by decide)
    refine ⟨_, PSs.nox (C8.pss_cut (ps_set (i := 2) scRowsOf.nd rfl (Or.inl rfl) (pe_lst pa_nil))
    (C8.pss_cut (ps_for PassesOwn.never rfl (pi_list (pv 1)) (pg_tup rfl (pgs_cons (pg_name (i := 3) scRowsOf.nd rfl (Or.inl rfl)) (pgs_cons (pg_name (i := 4) scRowsOf.nd rfl (Or.inl rfl)) pgs_nil))) (pss_cons (ps_par (i := 5) (j := 6) rfl scRowsOf.nd rfl rfl (by decide) rfl rfl (pa_cons (pe_call G_draw r1 rfl W.g_law_draw k_draw b_draw .nil pass0 (pa_cons (pv 0) (pa_cons pe_int pa_nil))) (pa_cons (pe_op op_add pe_int (pe_call G_draw r1 rfl W.g_law_draw k_draw b_draw .nil pass0 (pa_cons (pv 0) (pa_cons pe_int pa_nil)))) pa_nil)) rfl)
    (pss_one (ps_expr (pe_bm PySem.F.plainAttrs_list PySem.F.slot_list_append PySem.F.type_list_append mt_append (pv 2) (pa_cons (pe_call G_written r9 rfl W.g_law_written k_written b_written .nil pass0 (pa_cons (pv 3) (pa_cons (pv 4) (pa_cons (pv 5) (pa_cons (pv 6) pa_nil))))) pa_nil))))))
    (pss_one (ps_ret (pv 2))))), ?_⟩
    refine ⟨fun σ' H1 => ∃ F, σ' = [some (.ref l), some (.ref a), some (.ref F), none, none, none, none] ∧ H F = none ∧ Same H H1 ∧ H1 F = some (.lst []), ?_, ?_⟩
    · simp -dsimp [tSeq, tAsg, tRet, tIfS, tIf, tTest, tVar, tCons, tNil, tC, tOp, tUn, rI, rI0, rU, tCB, tLst_A, tTup_A, gName, L2.start, CMul, CPow, CDiv, tDrop, tBM, tBM0, tNext, tPar, gSub, rSetL, rIxL, rIxT, tChain, tB, tNot, tNotV, tAnd, tOr, tAndV, tOrV, tFld, tCall, rIxLH, rIxTH, atI, ixN, upd_same, cxK, ex2, ex3, ex3b, rIs1, rIs2, rNe2, tyN, kb1, kb2, kb3, kb4, kb5, kb6, rEq, rNe, scal, tMake_S, tMakeK_S, tMakeN_S]
      exact Alloc.of fun F H1 n1 e1 s1 => ⟨F, rfl, n1, s1, e1⟩
    rintro σ' H1 ⟨F, rfl, nF, s1, hF⟩
    refine ⟨fun σ' H2 => ∃ w3 w4 w5 w6, σ' = [some (.ref l), some (.ref a), some (.ref F), w3, w4, w5, w6] ∧ Dr l H H2 ∧ Rws K H2 F m (prG A) st, ?_, ?_⟩
    · have na := hR.ne hl
      obtain ⟨vs, hvl, ha, hrow⟩ := id hR
      have Fl : F ≠ l := fun e => by rw [e, hl] at nF; cases nF
      simp -dsimp [tSeq, tAsg, tRet, tIfS, tIf, tTest, tVar, tCons, tNil, tC, tOp, tUn, rI, rI0, rU, tCB, tLst_A, tTup_A, gName, L2.start, CMul, CPow, CDiv, tDrop, tBM, tBM0, tNext, tPar, gSub, rSetL, rIxL, rIxT, tChain, tB, tNot, tNotV, tAnd, tOr, tAndV, tOrV, tFld, tCall, rIxLH, rIxTH, atI, ixN, upd_same, cxK, ex2, ex3, ex3b, rIs1, rIs2, rNe2, tyN, kb1, kb2, kb3, kb4, kb5, kb6, rEq, rNe, scal, tMake_S, tMakeK_S, tMakeN_S, tFor_iL]
      refine ⟨⟨_, SqL.of (s1 _ _ ha)⟩, ?_⟩
      unfold ForW
      refine for_list (K := K) (a := a) (xs := vs) (fun i σ' G => ∃ w3 w4 w5 w6, σ' = [some (.ref l), some (.ref a), some (.ref F), w3, w4, w5, w6] ∧ Dr l H G ∧ Rws K G F i (prG A) st) ⟨_, _, _, _, rfl, (Dr.start hl).same s1, [], rfl, hF, fun k hk => absurd hk (by omega)⟩ (fun i σ' G _ h => ?_) ?_ ?_
      · obtain ⟨_, _, _, _, _, dG, _⟩ := h
        exact SqL.of (dG.1 _ _ na ha)
      · rintro i x σ' G hx ⟨w3, w4, w5, w6, rfl, dG, rw⟩
        have hi : i < m := by have := (List.getElem?_eq_some_iff.mp hx).1; omega
        obtain ⟨p, q', e3, e4, e5⟩ := hrow i hi
        rw [e3] at hx
        cases hx
        have np : p ≠ l := fun e => by rw [e, hl] at e4; cases e4
        have nq : q' ≠ l := fun e => by rw [e, hl] at e5; exact ro4_ne (Option.some.inj e5).symm
        obtain ⟨e0, e1, e2, L⟩ := id dG.2
        refine tup2n (dG.1 _ _ np e4) ?_
        simp -dsimp [tSeq, tAsg, tRet, tIfS, tIf, tTest, tVar, tCons, tNil, tC, tOp, tUn, rI, rI0, rU, tCB, tLst_A, tTup_A, gName, L2.start, CMul, CPow, CDiv, tDrop, tBM, tBM0, tNext, tPar, gSub, rSetL, rIxL, rIxT, tChain, tB, tNot, tNotV, tAnd, tOr, tAndV, tOrV, tFld, tCall, rIxLH, rIxTH, atI, ixN, upd_same, cxK, ex2, ex3, ex3b, rIs1, rIs2, rNe2, tyN, kb1, kb2, kb3, kb4, kb5, kb6, rEq, rNe, scal, tMake_S, tMakeK_S, tMakeN_S]
        refine ⟨l, e0, e1, e2, 6, rfl, L, by decide, by decide, fun way f0 f1 f2 y0 y1 => ⟨l, f0, f1, f2, 5, rfl, upd_same, by decide, by decide, fun part g0 g1 g2 p0 p1 => ⟨part, rfl, ?_⟩⟩⟩
        have D2 := (dG.upd (e0 := f0) (e1 := f1) (e2 := f2)).upd (e0 := g0) (e1 := g1) (e2 := g2)
        have uu : ∀ {b : Addr} {o : HO}, b ≠ l → G b = some o → upd (upd G l (draws f0 f1 f2)) l (draws g0 g1 g2) b = some o := fun n e => by
          rw [upd_ne n, upd_ne n]
          exact e
        have kU : KeepL G (upd (upd G l (draws f0 f1 f2)) l (draws g0 g1 g2)) := KeepL.sameN L (SameN.upd.trans .upd)
        obtain ⟨ws, wl, hF, wr⟩ := rw
        have hF2 := uu Fl hF
        refine ⟨.inl ⟨rfl, _, SqL.of hF2⟩, q', st i, way, .int (1 + part), A i 0, A i 1, A i 2, A i 3, (1 + part, 1), rfl, ?_, ?_, y0, y1, .inr ⟨rfl, rfl⟩, Gd.int (by omega), by show 0 < 1 + part; omega, fun z H4 s4 iz => ⟨F, ws, _, rfl, rfl, s4 _ _ hF2, small1000 (by omega), ?_, ws ++ [.ref z], by rw [List.length_append, wl]; rfl, upd_same, fun k hk => ?_⟩⟩
        · rw [uu nq (dG.1 _ _ nq e5)]
          rfl
        · exact i4_all (P := fun x => x.natAbs < 10 ^ 12) (hB i 0 hi (by decide)) (hB i 1 hi (by decide)) (hB i 2 hi (by decide)) (hB i 3 hi (by decide))
        · obtain ⟨h1, h0, h2, h3, h4⟩ := D2.same s4
          refine ⟨fun b o n e => ?_, h0, h2, h3, by rw [upd_ne Fl.symm]; exact h4⟩
          rw [upd_ne (ne_of_none e nF)]
          exact h1 b o n e
        · have kF : KeepL H4 (upd H4 F (.lst (ws ++ [.ref z]))) := KeepL.sameN (s4 _ _ hF2) .upd
          by_cases hki : k < i
          · obtain ⟨zk, e, ik⟩ := wr k hki
            exact ⟨zk, by rw [List.getElem?_append_left (by omega)]; exact e, ((ik.keepL kU).same s4).keepL kF⟩
          · obtain rfl : k = i := by omega
            exact ⟨z, by rw [List.getElem?_append_right (by omega), wl, Nat.sub_self]; rfl, IsRow.keepL iz kF⟩
      · rintro σ' G ⟨w3, w4, w5, w6, rfl, dG, rw⟩
        rw [hvl] at rw
        exact ⟨⟨_, _, _, _, rfl⟩, dG, rw⟩
    rintro σ' H2 ⟨w3, w4, w5, w6, rfl, d2', rw⟩
    simp -dsimp [tSeq, tAsg, tRet, tIfS, tIf, tTest, tVar, tCons, tNil, tC, tOp, tUn, rI, rI0, rU, tCB, tLst_A, tTup_A, gName, L2.start, CMul, CPow, CDiv, tDrop, tBM, tBM0, tNext, tPar, gSub, rSetL, rIxL, rIxT, tChain, tB, tNot, tNotV, tAnd, tOr, tAndV, tOrV, tFld, tCall, rIxLH, rIxTH, atI, ixN, upd_same, cxK, ex2, ex3, ex3b, rIs1, rIs2, rNe2, tyN, kb1, kb2, kb3, kb4, kb5, kb6, rEq, rNe, scal, tMake_S, tMakeK_S, tMakeN_S]
    exact q F H2 d2' nF rw

end
/-- an amount over x0: a pair of ints -/
def AmOk (H : Hp) (am : Addr) (x0 N : Int) (n : Nat) : Prop := ∃ f : Int × Int, H am = some (.tup [.int f.1, .int f.2]) ∧ 0 < f.2 ∧ f.1 * x0 = N * f.2 ∧ f.1.natAbs < 10 ^ n ∧ f.2.natAbs < 10 ^ n
/-- a loop over zip(list, tuple), kept shut -/
def ForY (K : PySem.W.Frag) (a b : Addr) (g : TG) (tb : TS) (D : Ends) (σ : List (Option V)) (H : Hp) (_ : Lk (g, tb, D) := ⟨⟩) : Prop :=
  ∃ W : Nat → Nat → List (Option V) → Hp → Prop, (∃ m, W 0 m σ H) ∧ ∀ i m σ H, W i m σ H → ((ZlY.ItzM K a b).stop i H ∧ D.nx σ H) ∨ ((ZlY.ItzM K a b).go i H ∧ ∃ N : List (Option V) → Hp → Prop, (∀ σ' H', N σ' H' → ∃ m', m' < m ∧ W (i + 1) m' σ' H') ∧ ∀ x H', (ZlY.ItzM K a b).yld i H x H' → g x σ H' fun σ2 H2 => tb { D with nx := N, ct := N, bk := D.nx } σ2 H2)
theorem tFor_iY {K : PySem.W.Frag} {ta : TA} {g : TG} {tb : TS} {D : Ends} {σ : List (Option V)} {H : Hp} : tFor (ZlY.iZipM K ta) g tb D σ H = ta σ H fun vs H1 => ∃ a b xs ys, vs = [.ref a, .ref b] ∧ SqL K H1 a xs ∧ SqT K H1 b ys ∧ ForY K a b g tb D σ H1 := rfl
theorem pAdd_sum {f : Int × Int} {x0 x1 N a : Int} (f2 : 0 < f.2) (h : f.1 * x0 = N * f.2) (hx : 0 < x0) :
    0 < (pAdd f (a * (lo x1 x0).1, (lo x1 x0).2)).2 ∧ (pAdd f (a * (lo x1 x0).1, (lo x1 x0).2)).1 * x0 = (N + a * x1) * (pAdd f (a * (lo x1 x0).1, (lo x1 x0).2)).2 := by
  have c2 : 0 < (lo x1 x0).2 := (low_lo (x := x1) (show x0 ≠ 0 by omega)).1
  have ce : (lo x1 x0).1 * x0 = x1 * (lo x1 x0).2 := lo_cross (by omega)
  have y0 : f.2 * (lo x1 x0).2 ≠ 0 := Int.mul_ne_zero (by omega) (by omega)
  have e := lo_cross (x := f.1 * (lo x1 x0).2 + a * (lo x1 x0).1 * f.2) y0
  have p := (low_lo (x := f.1 * (lo x1 x0).2 + a * (lo x1 x0).1 * f.2) y0).1
  refine ⟨p, ?_⟩
  have e : (pAdd f (a * (lo x1 x0).1, (lo x1 x0).2)).1 * (f.2 * (lo x1 x0).2) = (f.1 * (lo x1 x0).2 + a * (lo x1 x0).1 * f.2) * (pAdd f (a * (lo x1 x0).1, (lo x1 x0).2)).2 := e
  generalize (pAdd f (a * (lo x1 x0).1, (lo x1 x0).2)).1 = u at e ⊢
  generalize (pAdd f (a * (lo x1 x0).1, (lo x1 x0).2)).2 = v at e ⊢
  generalize (lo x1 x0).1 = c at e ce
  generalize (lo x1 x0).2 = d at e ce y0
  generalize f.1 = p1 at e h
  generalize f.2 = p2 at e h y0
  refine Int.eq_of_mul_eq_mul_right y0 ?_
  have e3 : u * x0 * (p2 * d) = (p1 * x0 * d + a * (c * x0) * p2) * v := by grind
  rw [e3, h, ce]
  grind
theorem pAdd_abs {f q : Int × Int} {n : Nat} (h : f.2 * q.2 ≠ 0) (b1 : f.1.natAbs < 10 ^ n) (b2 : f.2.natAbs < 10 ^ n) (b3 : q.1.natAbs < 10 ^ n) (b4 : q.2.natAbs < 10 ^ n) : (pAdd f q).1.natAbs < 10 ^ (2 * n + 1) ∧ (pAdd f q).2.natAbs < 10 ^ (2 * n + 1) := by
  have m : ∀ {x y : Int}, x.natAbs < 10 ^ n → y.natAbs < 10 ^ n → (x * y).natAbs < 10 ^ (2 * n) := fun h1 h2 => by
    rw [Int.natAbs_mul, Nat.two_mul, Nat.pow_add]
    exact Nat.mul_lt_mul'' h1 h2
  have e : 10 ^ (2 * n + 1) = 10 * 10 ^ (2 * n) := by rw [Nat.pow_succ, Nat.mul_comm]
  have m1 := m b1 b4
  have m2 := m b3 b2
  have m3 := m b2 b4
  have g := lo_gd (n := 2 * n + 1) (x := f.1 * q.2 + q.1 * f.2) (y := f.2 * q.2) h (by omega) (by omega)
  exact ⟨g.n1, g.n2⟩
/-- the number of digits behind so many sums -/
def nd : Nat → Nat
  | 0 => 46
  | j + 1 => 2 * nd j + 1
theorem dot_pr {A : Nat → Nat → Int} {k : Nat} {x : Nat → Int} : ∃ g : Int, 0 < g ∧ TB.dotV 4 (A k) x = g * TB.dotV 4 (prG A k) x := by
  obtain ⟨d0, d1, d2, d3⟩ := g4_dvd (A k 0) (A k 1) (A k 2) (A k 3)
  refine ⟨if g4 (A k 0) (A k 1) (A k 2) (A k 3) = 0 then 1 else ((g4 (A k 0) (A k 1) (A k 2) (A k 3) : Nat) : Int), by split <;> omega, ?_⟩
  have e0 := pr_mul d0
  have e1 := pr_mul d1
  have e2 := pr_mul d2
  have e3 := pr_mul d3
  rw [dot4, dot4]
  show 0 + A k 0 * x 0 + A k 1 * x 1 + A k 2 * x 2 + A k 3 * x 3 = _ * (0 + pr _ (A k 0) * x 0 + pr _ (A k 1) * x 1 + pr _ (A k 2) * x 2 + pr _ (A k 3) * x 3)
  generalize (if g4 (A k 0) (A k 1) (A k 2) (A k 3) = 0 then (1 : Int) else ((g4 (A k 0) (A k 1) (A k 2) (A k 3) : Nat) : Int)) = g at *
  generalize g4 (A k 0) (A k 1) (A k 2) (A k 3) = q at *
  grind
section
variable {P : Program} {w : World} {K : PySem.W.Frag} {mg : Str → Option Value} {base : Heap} {fd : FuncData}
def spKeeps (K : PySem.W.Frag) : Sp := fun vs H Q _ => ∃ (t a z0 z1 z2 : Addr) (m : Nat) (A : Nat → Nat → Int) (st : Nat → Bool) (x : Nat → Int), vs = [.ref t, .ref a] ∧ H t = some (.tup [.ref z0, .ref z1, .ref z2]) ∧ IsS K H z0 (lo (x 1) (x 0)) ∧ IsS K H z1 (lo (x 2) (x 0)) ∧ IsS K H z2 (lo (x 3) (x 0)) ∧ (∀ k, k < 4 → (x k).natAbs < 10 ^ 38) ∧ RowsL H a m A st ∧ m < 800 ∧ (∀ k b, k < m → b < 4 → (A k b).natAbs < 10 ^ 8) ∧ Holds (prG A) st m x ∧
  ∀ H', Same H H' → Q (.bl true) H'
theorem scKeeps : FnScope ["_law_point", "_law_rows", "_law_here", "_law_numbers", "_law_strict", "_law_amount", "_law_number"] ["_law_point", "_law_rows"] d_keeps.scope := ⟨rfl, rfl, rfl, by decide +kernel, rfl, by decide +kernel, by decide +kernel⟩
theorem ok_keeps (W : Wd K mg) : ∃ fd, FnOk P w K mg base CX0 3 (He.ga K "_law_keeps") fd ["_law_point", "_law_rows"] (spKeeps K) ∧ Binds K fd ["_law_point", "_law_rows"] [] := by
  obtain ⟨fd_sum, G_sum, b_sum⟩ := ok_sum (P := P) (w := w) (base := base) W
  have k_sum : PySem.W.keepIn K (.ref (He.ga K "_law_sum")) = true := by obtain ⟨fd, F⟩ := W.F_sum; exact F.kp
  obtain ⟨fd, F⟩ := W.F_keeps
  refine ⟨fd, F.ok scKeeps (fun vs H Q E h => ?_) (fun cdv A outer s H vs Q E hr h => ?_), FunD.bindsN F fun _ _ _ _ _ _ us hl => match us, hl with | [_, _], _ => rfl⟩
  · obtain ⟨t, a, _, _, _, _, _, _, _, rfl, _⟩ := h
    rfl
  · obtain ⟨t, a, z0, z1, z2, m, A, st, x, rfl, ht, i0, i1, i2, hx, hR, hm, hA, hH, q⟩ := h
    have r1 : Room 1 _ := hr.mono (by decide)
    have r2 : Room 2 _ := hr.mono (by decide)
    refine ⟨_, PSs.nox (C8.pss_cut (ps_if (PW.pt (pw_or (pt_not (pt_val (pe_callB isi_1 (by rfl) W.f_isinstance boot_isinstance (pa_cons (pv 0) (pa_cons (pe_bltn (v := .ty "tuple") (by rfl) W.f_tuple (by decide +kernel) rfl) pa_nil))))) (pw_or (pt_cmpR op_ne (pe_callB len_tupH (by rfl) W.f_len boot_len (pa_cons (pv 0) pa_nil)) pe_int (nomark _)) (pw_or1 (pt_not (pt_val (pe_callB (cr_all rfl) (by rfl) W.f_all boot_all (pa_cons (pe_lc (own := [("_law_here", 2)]) (g := gName 2) (tt := tYes) rfl scKeeps.nd (pi_tup (pv 0)) (blkOk_by (N := ["_law_point", "_law_rows", "_law_here", "_law_numbers", "_law_strict", "_law_amount", "_law_number"]) (sc := defScope s_keeps) (by decide +kernel))
            (fun _ _ _ _ _ => (pg_name (i := 2) scKeeps.nd rfl (Or.inl rfl))) (fun _ _ _ _ _ => pts_nil)
            (fun _ _ _ _ _ => (pe_callB (show CallR _ _ (rIsG K) from isi_G) (by rfl) W.f_isinstance boot_isinstance (pa_cons (pv 2) (pa_cons (pe_glob (v := .ref (He.ga K "Share")) rfl W.g_Share rfl) pa_nil))))) pa_nil)))))))) (pss_one (ps_ret pe_bl)) pss_nil)
    (C8.pss_cut (ps_for PassesOwn.never rfl (pi_list (pv 1)) (pg_tup rfl (pgs_cons (pg_name (i := 3) scKeeps.nd rfl (Or.inl rfl)) (pgs_cons (pg_name (i := 4) scKeeps.nd rfl (Or.inl rfl)) pgs_nil))) (pss_cons (ps_set (i := 5) scKeeps.nd rfl (Or.inl rfl) (pe_tup (pa_cons (pe_ix ix_lstH (pv 3) pe_int (fun _ _ => rfl)) (pa_cons pe_int pa_nil))))
    (C8.pss_cut (ps_for PassesOwn.never rfl (ZlY.pi_zipM (by rfl) W.f_zip (pa_cons (pe_slice sl_list (pv 3) (po_some pe_int) po_none) (pa_cons (pv 0) pa_nil))) (pg_tup rfl (pgs_cons (pg_name (i := 6) scKeeps.nd rfl (Or.inl rfl)) (pgs_cons (pg_name (i := 2) scKeeps.nd rfl (Or.inl rfl)) pgs_nil))) (pss_one (ps_set (i := 5) scKeeps.nd rfl (Or.inl rfl) (pe_call G_sum r2 rfl W.g_law_sum k_sum b_sum .nil pass0 (pa_cons (pv 5) (pa_cons (pe_tup (pa_cons (pe_op op_mulX9 (pv 6) (pe_fld (pv 2) rfl)) (pa_cons (pe_fld (pv 2) rfl) pa_nil))) pa_nil))))))
    (pss_one (ps_if (PW.pt (pw_or (pt_cmpR op_lt (pe_ix ix_tupH (pv 5) pe_int (fun _ _ => rfl)) pe_int (nomark _)) (pw_or1 (PW.pt (pw_and (pt_cmpR op_eq (pe_ix ix_tupH (pv 5) pe_int (fun _ _ => rfl)) pe_int (nomark _)) (pw_and1 (pt_val (pv 4)))))))) (pss_one (ps_ret pe_bl)) pss_nil)))))
    (pss_one (ps_ret pe_bl)))), ?_⟩
    refine ⟨fun σ' H1 => σ' = [some (.ref t), some (.ref a), none, none, none, none, none] ∧ Same H H1, ?_, ?_⟩
    · simp -dsimp [tSeq, tAsg, tRet, tIfS, tIf, tTest, tVar, tCons, tNil, tC, tOp, tUn, rI, rI0, rU, tCB, tLst_A, tTup_A, gName, L2.start, CMul, CPow, CDiv, tDrop, tBM, tBM0, tNext, tPar, gSub, rSetL, rIxL, rIxT, tChain, tB, tNot, tNotV, tAnd, tOr, tAndV, tOrV, tFld, tCall, rIxLH, rIxTH, atI, ixN, upd_same, cxK, ex2, ex3, ex3b, rIs1, rIs2, rNe2, tyN, kb1, kb2, kb3, kb4, kb5, kb6, rEq, rNe, scal, tMake_S, tMakeK_S, tMakeN_S]
      refine ⟨"tuple", by rw [ht], .inr ⟨kb6, _, ht, .inl ⟨rfl, ?_⟩⟩⟩
      refine lc_vlT (K := K) t _ (fun _ => .bl true) (by show 3 < 1000; decide) (fun _ => rfl) ht (fun R h => ⟨_, rfl, h⟩) (fun j y H1 R hj s1 k1 => ?_) (fun D H1 nD s1 h1 => ?_)
      · simp -dsimp [tSeq, tAsg, tRet, tIfS, tIf, tTest, tVar, tCons, tNil, tC, tOp, tUn, rI, rI0, rU, tCB, tLst_A, tTup_A, gName, L2.start, CMul, CPow, CDiv, tDrop, tBM, tBM0, tNext, tPar, gSub, rSetL, rIxL, rIxT, tChain, tB, tNot, tNotV, tAnd, tOr, tAndV, tOrV, tFld, tCall, rIxLH, rIxTH, atI, ixN, upd_same, cxK, ex2, ex3, ex3b, rIs1, rIs2, rNe2, tyN, kb1, kb2, kb3, kb4, kb5, kb6, rEq, rNe, scal, tMake_S, tMakeK_S, tMakeN_S, wipe]
        have hz : ∃ (u : Addr) (c : Int × Int), y = .ref u ∧ IsS K H u c := by
          match j, hj with
          | 0, hj => cases hj; exact ⟨_, _, rfl, i0⟩
          | 1, hj => cases hj; exact ⟨_, _, rfl, i1⟩
          | 2, hj => cases hj; exact ⟨_, _, rfl, i2⟩
        obtain ⟨u, c, rfl, iu⟩ := hz
        exact ⟨_, _, _, _, true, rfl, .own _, W.isSh (IsSh.same iu s1), W.kitS, k1 _ (Same.refl _)⟩
      · exact ⟨D, List.replicate 3 true, rfl, SqL.of h1, .inr ⟨rfl, s1⟩⟩
    rintro σ' H1 ⟨rfl, s1⟩
    refine ⟨fun σ' H2 => ∃ w2 w3 w4 w5 w6, σ' = [some (.ref t), some (.ref a), w2, w3, w4, w5, w6] ∧ Same H H2, ?_, ?_⟩
    · obtain ⟨vs, hvl, ha, hrow⟩ := id hR
      simp -dsimp [tSeq, tAsg, tRet, tIfS, tIf, tTest, tVar, tCons, tNil, tC, tOp, tUn, rI, rI0, rU, tCB, tLst_A, tTup_A, gName, L2.start, CMul, CPow, CDiv, tDrop, tBM, tBM0, tNext, tPar, gSub, rSetL, rIxL, rIxT, tChain, tB, tNot, tNotV, tAnd, tOr, tAndV, tOrV, tFld, tCall, rIxLH, rIxTH, atI, ixN, upd_same, cxK, ex2, ex3, ex3b, rIs1, rIs2, rNe2, tyN, kb1, kb2, kb3, kb4, kb5, kb6, rEq, rNe, scal, tMake_S, tMakeK_S, tMakeN_S, tFor_iL]
      refine ⟨⟨_, SqL.of (s1 _ _ ha)⟩, ?_⟩
      unfold ForW
      refine for_list (K := K) (a := a) (xs := vs) (fun i σ' G => ∃ w2 w3 w4 w5 w6, σ' = [some (.ref t), some (.ref a), w2, w3, w4, w5, w6] ∧ Same H G) ⟨_, _, _, _, _, rfl, s1⟩ (fun i σ' G _ h => ?_) ?_ ?_
      · obtain ⟨_, _, _, _, _, _, s⟩ := h
        exact SqL.of (s _ _ ha)
      · rintro i y σ' G hx' ⟨w2, w3, w4, w5, w6, rfl, sG⟩
        have hi : i < m := by have := (List.getElem?_eq_some_iff.mp hx').1; omega
        obtain ⟨p, qq, e3, e4, e5⟩ := hrow i hi
        rw [e3] at hx'
        cases hx'
        refine tup2n (sG _ _ e4) ?_
        have en := ixK (vl_get (n := 4) (g := fun b => V.int (A i b)) (show 0 < 4 by decide))
        simp -dsimp [tSeq, tAsg, tRet, tIfS, tIf, tTest, tVar, tCons, tNil, tC, tOp, tUn, rI, rI0, rU, tCB, tLst_A, tTup_A, gName, L2.start, CMul, CPow, CDiv, tDrop, tBM, tBM0, tNext, tPar, gSub, rSetL, rIxL, rIxT, tChain, tB, tNot, tNotV, tAnd, tOr, tAndV, tOrV, tFld, tCall, rIxLH, rIxTH, atI, ixN, upd_same, cxK, ex2, ex3, ex3b, rIs1, rIs2, rNe2, tyN, kb1, kb2, kb3, kb4, kb5, kb6, rEq, rNe, scal, tMake_S, tMakeK_S, tMakeN_S, sG _ _ e5, en]
        refine ⟨by decide, Alloc.of fun am H2 n2 e2 s2 => ?_⟩
        have s02 := sG.trans s2
        refine ⟨fun σ' H3 => ∃ (am : Addr) (w2 w6 : Option V), σ' = [some (.ref t), some (.ref a), w2, some (.ref qq), some (.bl (st i)), some (.ref am), w6] ∧ Same H H3 ∧ AmOk H3 am (x 0) (TB.dotV 4 (A i) x) 375, ?_, ?_⟩
        · simp -dsimp [tSeq, tAsg, tRet, tIfS, tIf, tTest, tVar, tCons, tNil, tC, tOp, tUn, rI, rI0, rU, tCB, tLst_A, tTup_A, gName, L2.start, CMul, CPow, CDiv, tDrop, tBM, tBM0, tNext, tPar, gSub, rSetL, rIxL, rIxT, tChain, tB, tNot, tNotV, tAnd, tOr, tAndV, tOrV, tFld, tCall, rIxLH, rIxTH, atI, ixN, upd_same, cxK, ex2, ex3, ex3b, rIs1, rIs2, rNe2, tyN, kb1, kb2, kb3, kb4, kb5, kb6, rEq, rNe, scal, tMake_S, tMakeK_S, tMakeN_S, tFor_iY]
          refine ⟨_, rfl, 1, rfl, qq, _, rfl, SqL.of (s02 _ _ e5), fun S nS => ?_⟩
          rw [cut_one _ (by rw [vl_len]; decide), ro_drop 3 (A i)]
          have sS := same_upd (o := HO.lst (ro 3 fun k => A i (k + 1))) nS
          have s03 := s02.trans sS
          refine ⟨S, t, ⟨rfl, rfl⟩, ⟨_, SqL.of upd_same⟩, ⟨_, SqT.of (s03 _ _ ht)⟩, ?_⟩
          unfold ForY
          refine for_it (ZlY.walkM (K := K) (a := S) (b := t) (xs := ro 3 fun k => A i (k + 1)) (ys := [.ref z0, .ref z1, .ref z2])) (fun j σ' G => ∃ (am : Addr) (w2 w6 : Option V), σ' = [some (.ref t), some (.ref a), w2, some (.ref qq), some (.bl (st i)), some (.ref am), w6] ∧ Same (upd H2 S (HO.lst (ro 3 fun k => A i (k + 1)))) G ∧ AmOk G am (x 0) (TB.dotV (j + 1) (A i) x) (nd j)) ⟨am, _, _, rfl, Same.refl _, (A i 0, 1), sS _ _ e2, (by decide : (0 : Int) < 1), by show A i 0 * x 0 = (0 + A i 0 * x 0) * 1; omega, Nat.lt_of_lt_of_le (hA i 0 hi (by decide)) (by decide), (by decide : 1 < 10 ^ 46)⟩ (fun j σ' G _ h => ?_) ?_ ?_
          · obtain ⟨_, _, _, _, s, _⟩ := h
            exact ⟨SqL.of (s _ _ upd_same), SqT.of (s _ _ (s03 _ _ ht))⟩
          · rintro j y σ' G2 G3 hj ⟨am, w2, w6, rfl, sG2, f, ham, f2, fe, b1, b2⟩ ⟨T, u, v, rfl, nT, rfl, eu, ev⟩
            obtain ⟨hj3, eu⟩ := vl_at (show (ro 3 fun k => A i (k + 1))[j]? = some u from eu)
            subst eu
            have hz : ∃ (zz : Addr), v = .ref zz ∧ IsS K H zz (lo (x (j + 1)) (x 0)) := by
              match j, hj3, ev with
              | 0, _, ev => cases ev; exact ⟨_, rfl, i0⟩
              | 1, _, ev => cases ev; exact ⟨_, rfl, i1⟩
              | 2, _, ev => cases ev; exact ⟨_, rfl, i2⟩
            obtain ⟨zz, rfl, dz, hzz⟩ := hz
            refine tup2n upd_same ?_
            have sT : Same G2 (upd G2 T (HO.tup [V.int (A i (j + 1)), V.ref zz])) := same_upd nT
            have sa := (s03.trans sG2).trans sT
            simp -dsimp [tSeq, tAsg, tRet, tIfS, tIf, tTest, tVar, tCons, tNil, tC, tOp, tUn, rI, rI0, rU, tCB, tLst_A, tTup_A, gName, L2.start, CMul, CPow, CDiv, tDrop, tBM, tBM0, tNext, tPar, gSub, rSetL, rIxL, rIxT, tChain, tB, tNot, tNotV, tAnd, tOr, tAndV, tOrV, tFld, tCall, rIxLH, rIxTH, atI, ixN, upd_same, cxK, ex2, ex3, ex3b, rIs1, rIs2, rNe2, tyN, kb1, kb2, kb3, kb4, kb5, kb6, rEq, rNe, scal, tMake_S, tMakeK_S, tMakeN_S, sa _ _ hzz, shareO, W.cls_Share, W.n_Share_top, W.n_Share_bottom, look_top, look_bot]
            have hx0 := hx 0 (by decide)
            have hxj := hx (j + 1) (by omega)
            have x0 := hH.1
            have c2 : 0 < (lo (x (j + 1)) (x 0)).2 := (low_lo (x := x (j + 1)) (show x 0 ≠ 0 by omega)).1
            have gl := lo_gd (n := 38) (x := x (j + 1)) (y := x 0) (by omega) hxj hx0
            have gA := hA i (j + 1) hi (by omega)
            have nj : 46 ≤ nd j ∧ nd j ≤ 187 := by
              match j, hj3 with
              | 0, _ => decide
              | 1, _ => decide
              | 2, _ => decide
            have p46 : 10 ^ 46 ≤ 10 ^ nd j := Nat.pow_le_pow_right (by decide) nj.1
            have m46 : (A i (j + 1) * (lo (x (j + 1)) (x 0)).1).natAbs < 10 ^ nd j := by
              rw [Int.natAbs_mul]
              exact Nat.lt_of_lt_of_le (Nat.mul_lt_mul'' gA gl.n1) p46
            have m38 : (lo (x (j + 1)) (x 0)).2.natAbs < 10 ^ nd j := Nat.lt_of_lt_of_le (Nat.lt_trans gl.n2 (by decide : 10 ^ 38 < 10 ^ 46)) p46
            have big : ∀ {y : Nat}, y < 10 ^ 38 → y < bigM := fun h => h_lt_M (h_of (Nat.lt_trans h (by decide)))
            refine ⟨⟨big (Nat.lt_trans gA (by decide)), big gl.n1⟩, by decide, Alloc.of fun tq H5 n5 e5' s5 => ?_⟩
            refine ⟨am, tq, f, (A i (j + 1) * (lo (x (j + 1)) (x 0)).1, (lo (x (j + 1)) (x 0)).2), rfl, (sT.trans s5) _ _ ham, e5', by omega, by show (lo (x (j + 1)) (x 0)).2 ≠ 0; omega, ⟨nd j, by omega, b1, b2, m46, m38⟩, fun r' H6 s6 hr => ?_⟩
            obtain ⟨g1, g2⟩ := pAdd_sum (a := A i (j + 1)) (x1 := x (j + 1)) f2 fe x0
            have g3 := pAdd_abs (q := (A i (j + 1) * (lo (x (j + 1)) (x 0)).1, (lo (x (j + 1)) (x 0)).2)) (Int.mul_ne_zero (by omega) (by show (lo (x (j + 1)) (x 0)).2 ≠ 0; omega)) b1 b2 m46 m38
            exact ⟨r', rfl, ((sG2.trans sT).trans s5).trans s6, _, hr, g1, g2, g3⟩
          · rintro σ' G2 ⟨am, w2, w6, rfl, sG2, ok⟩
            exact ⟨am, ⟨_, _, rfl⟩, s03.trans sG2, ok⟩
        rintro σ' H3 ⟨am, w2, w6, rfl, s3, f, ham, f2, fe, _⟩
        simp -dsimp [tSeq, tAsg, tRet, tIfS, tIf, tTest, tVar, tCons, tNil, tC, tOp, tUn, rI, rI0, rU, tCB, tLst_A, tTup_A, gName, L2.start, CMul, CPow, CDiv, tDrop, tBM, tBM0, tNext, tPar, gSub, rSetL, rIxL, rIxT, tChain, tB, tNot, tNotV, tAnd, tOr, tAndV, tOrV, tFld, tCall, rIxLH, rIxTH, atI, ixN, upd_same, cxK, ex2, ex3, ex3b, rIs1, rIs2, rNe2, tyN, kb1, kb2, kb3, kb4, kb5, kb6, rEq, rNe, scal, tMake_S, tMakeK_S, tMakeN_S, ham]
        obtain ⟨g, g0, ge⟩ := dot_pr (A := A) (k := i) (x := x)
        obtain ⟨h1, h2⟩ := hH.2 i hi
        have x0 := hH.1
        have n0 : 0 ≤ TB.dotV 4 (A i) x := by
          rw [ge]
          exact Int.mul_nonneg (Int.le_of_lt g0) h1
        have p0 := Int.mul_nonneg n0 (Int.le_of_lt f2)
        rw [← fe] at p0
        split
        · rename_i l
          have := Int.mul_neg_of_neg_of_pos l x0
          omega
        · split
          · rename_i e
            refine .inl ⟨?_, s3⟩
            cases hs : st i with
            | false => rfl
            | true =>
              have := Int.mul_pos (Int.mul_pos g0 (h2 hs)) f2
              rw [← ge, ← fe, e] at this
              omega
          · exact s3
      · rintro σ' G ⟨w2, w3, w4, w5, w6, rfl, sG⟩
        exact ⟨⟨_, _, _, _, _, rfl⟩, sG⟩
    rintro σ' H2 ⟨w2, w3, w4, w5, w6, rfl, s2⟩
    simp -dsimp [tSeq, tAsg, tRet, tIfS, tIf, tTest, tVar, tCons, tNil, tC, tOp, tUn, rI, rI0, rU, tCB, tLst_A, tTup_A, gName, L2.start, CMul, CPow, CDiv, tDrop, tBM, tBM0, tNext, tPar, gSub, rSetL, rIxL, rIxT, tChain, tB, tNot, tNotV, tAnd, tOr, tAndV, tOrV, tFld, tCall, rIxLH, rIxTH, atI, ixN, upd_same, cxK, ex2, ex3, ex3b, rIs1, rIs2, rNe2, tyN, kb1, kb2, kb3, kb4, kb5, kb6, rEq, rNe, scal, tMake_S, tMakeK_S, tMakeN_S]
    exact q H2 s2

end
/-- over the list at a, a test that always holds: values -/
theorem lc_vlF {K : PySem.W.Frag} {i0 : Nat} {tl : TE} {tt : TT} {te : TE} {σ : List (Option V)} {H : Hp} {Q : V → Hp → Prop} (a : Addr) (xs : List V) (g : Nat → V) (hn : xs.length < 1000) (hw : ∀ x : V, wipe ((wipe σ [i0]).set i0 (some x)) [i0] = wipe σ [i0])
    (ha : H a = some (.lst xs)) (htl : ∀ R : V → Hp → Prop, R (.ref a) H → tl σ H R)
    (ht : ∀ (j : Nat) (x : V) (H' : Hp) (R : Bool → Hp → Prop), xs[j]? = some x → Same H H' → R true H' → tt ((wipe σ [i0]).set i0 (some x)) H' R)
    (he : ∀ (j : Nat) (x : V) (H' : Hp) (R : V → Hp → Prop), xs[j]? = some x → Same H H' → (∀ H4, Same H' H4 → R (g j) H4) → te ((wipe σ [i0]).set i0 (some x)) H' R)
    (hq : ∀ (D : Addr) (H' : Hp), H D = none → Same H H' → H' D = some (.lst (vl xs.length g)) → Q (.ref D) H') : tLc (iList K tl) (gName i0) tt te [i0] σ H Q := by
  refine htl _ ⟨a, rfl, ⟨xs, SqL.of ha⟩, fun D hD => ?_⟩
  refine lc_it (walk_list (K := K) (a := a) (xs := xs)) (fun i H' => Same H H' ∧ H' D = some (.lst (vl i g))) (vl_zero hD) (fun _ _ _ h => SqL.of (h.1 _ _ ha)) ?_ ?_
  · rintro i x H' H'' hi ⟨sm, dD⟩ ⟨rfl, fx⟩
    refine ⟨hw _, ?_⟩
    refine ht i x _ _ fx sm ?_
    rw [if_pos rfl]
    exact he i x _ _ fx sm (vl_step sm hD (by omega) dD fun _ h => h)
  · rintro H' ⟨sm, dD⟩
    exact hq D H' hD sm dD
/-- whether a strict row so far has a weight -/
def anyS (st : Nat → Bool) (w : Nat → Int) : Nat → Bool
  | 0 => false
  | i + 1 => anyS st w i || (decide (0 < w i) && st i)
theorem anyS_true {st : Nat → Bool} {w : Nat → Int} {k : Nat} : ∀ m, k < m → st k = true → 0 < w k → anyS st w m = true
  | 0, h, _, _ => absurd h (by omega)
  | m + 1, h, h1, h2 => by
    show (anyS st w m || (decide (0 < w m) && st m)) = true
    by_cases e : k = m
    · subst e
      rw [h1, decide_eq_true h2, Bool.and_self, Bool.or_true]
    · rw [anyS_true m (by omega) h1 h2, Bool.true_or]
def tCst (vs : List V) : TA := fun _ H R => R vs H
theorem tLc_frontZ {K : PySem.W.Frag} {ta : TA} {te : TE} {gg : TG} {tt : TT} {own : List Nat} {σ : List (Option V)} {H : Hp} {Q : V → Hp → Prop} : tLc (RZ.iZipA K ta) gg tt te own σ H Q = ta σ H fun vs H1 => tLc (RZ.iZipA K (tCst vs)) gg tt te own σ H1 Q := rfl
section
variable {P : Program} {w : World} {K : PySem.W.Frag} {mg : Str → Option Value} {base : Heap} {fd : FuncData}
def spShows (K : PySem.W.Frag) : Sp := fun vs H Q _ => ∃ (D a : Addr) (m : Nat) (A : Nat → Nat → Int) (st : Nat → Bool) (w : Nat → Int), vs = [.ref D, .ref a] ∧ H D = some (.lst (ro m w)) ∧ (∀ k, k < m → (w k).natAbs < 10 ^ 38) ∧ RowsL H a m A st ∧ m < 800 ∧ (∀ k b, k < m → b < 4 → (A k b).natAbs < 10 ^ 8) ∧ Shows (prG A) st m w ∧
  ∀ H', Same H H' → Q (.bl true) H'
theorem scShows : FnScope ["_law_weights", "_law_rows", "_law_weight", "_law_sums", "_law_is_strict", "_law_row", "_law_a", "_law_b"] ["_law_weights", "_law_rows"] d_shows.scope := ⟨rfl, rfl, rfl, by decide +kernel, rfl, by decide +kernel, by decide +kernel⟩
theorem ok_shows (W : Wd K mg) : ∃ fd, FnOk P w K mg base CX0 2 (He.ga K "_law_shows") fd ["_law_weights", "_law_rows"] (spShows K) ∧ Binds K fd ["_law_weights", "_law_rows"] [] := by
  obtain ⟨fd_sameI, G_sameI, b_sameI⟩ := ok_sameI (P := P) (w := w) (base := base) W
  have k_sameI : PySem.W.keepIn K (.ref (He.ga K "_law_same")) = true := by obtain ⟨fd, F⟩ := W.F_same; exact F.kp
  obtain ⟨fd_primitive, G_primitive, b_primitive⟩ := ok_primitive (P := P) (w := w) (base := base) W
  have k_primitive : PySem.W.keepIn K (.ref (He.ga K "_law_primitive")) = true := by obtain ⟨fd, F⟩ := W.F_primitive; exact F.kp
  obtain ⟨fd, F⟩ := W.F_shows
  refine ⟨fd, F.ok scShows (fun vs H Q E h => ?_) (fun cdv A outer s H vs Q E hr h => ?_), FunD.bindsN F fun _ _ _ _ _ _ us hl => match us, hl with | [_, _], _ => rfl⟩
  · obtain ⟨D, a, _, _, _, _, rfl, _⟩ := h
    rfl
  · obtain ⟨D, a, m, A, st, w, rfl, hD, hw, hR, hm, hA, hS, q⟩ := h
    have r1 : Room 1 _ := hr.mono (by decide)
    refine ⟨_, PSs.nox (C8.pss_cut (ps_if (PW.pt (pw_or (pt_not (pt_val (pe_callB isi_1 (by rfl) W.f_isinstance boot_isinstance (pa_cons (pv 0) (pa_cons (pe_bltn (v := .ty "list") (by rfl) W.f_list (by decide +kernel) rfl) pa_nil))))) (pw_or1 (pt_cmpR op_ne (pe_callB len_lstH (by rfl) W.f_len boot_len (pa_cons (pv 0) pa_nil)) (pe_callB len_lstH (by rfl) W.f_len boot_len (pa_cons (pv 1) pa_nil)) (nomark _))))) (pss_one (ps_ret pe_bl)) pss_nil)
    (C8.pss_cut (ps_if (pt_not (pt_val (pe_callB (cr_all rfl) (by rfl) W.f_all boot_all (pa_cons (pe_lc (own := [("_law_weight", 2)]) (g := gName 2) (tt := _) rfl scShows.nd (pi_list (pv 0)) (blkOk_by (N := ["_law_weights", "_law_rows", "_law_weight", "_law_sums", "_law_is_strict", "_law_row", "_law_a", "_law_b"]) (sc := defScope s_shows) (by decide +kernel))
            (fun _ _ _ _ _ => (pg_name (i := 2) scShows.nd rfl (Or.inl rfl))) (fun _ _ _ _ _ => (pts_one (pt_val (pe_callB isi_1 (by rfl) W.f_isinstance boot_isinstance (pa_cons (pv 2) (pa_cons (pe_bltn (v := .ty "int") (by rfl) W.f_int (by decide +kernel) rfl) pa_nil))))))
            (fun _ _ _ _ _ => (pe_call G_sameI r1 rfl W.g_law_same k_sameI b_sameI .nil pass0 (pa_cons (pv 2) (pa_cons (pe_callB call_abs (by rfl) W.f_abs (by decide +kernel) (pa_cons (pv 2) pa_nil)) pa_nil))))) pa_nil)))) (pss_one (ps_ret pe_bl)) pss_nil)
    (C8.pss_cut (ps_if (pt_not (pt_val (pe_callB (cr_all rfl) (by rfl) W.f_all boot_all (pa_cons (pe_lc (own := [("_law_weight", 2)]) (g := gName 2) (tt := tYes) rfl scShows.nd (pi_list (pv 0)) (blkOk_by (N := ["_law_weights", "_law_rows", "_law_weight", "_law_sums", "_law_is_strict", "_law_row", "_law_a", "_law_b"]) (sc := defScope s_shows) (by decide +kernel))
            (fun _ _ _ _ _ => (pg_name (i := 2) scShows.nd rfl (Or.inl rfl))) (fun _ _ _ _ _ => pts_nil)
            (fun _ _ _ _ _ => (pe_callB isi_1 (by rfl) W.f_isinstance boot_isinstance (pa_cons (pv 2) (pa_cons (pe_bltn (v := .ty "int") (by rfl) W.f_int (by decide +kernel) rfl) pa_nil))))) pa_nil)))) (pss_one (ps_ret pe_bl)) pss_nil)
    (C8.pss_cut (ps_par (i := 3) (j := 4) rfl scShows.nd rfl rfl (by decide) rfl rfl (pa_cons (pe_lst (pa_cons pe_int (pa_cons pe_int (pa_cons pe_int (pa_cons pe_int pa_nil))))) (pa_cons pe_bl pa_nil)) rfl)
    (C8.pss_cut (ps_for PassesOwn.never rfl (pi_zip (by rfl) W.f_zip (pa_cons (pv 0) (pa_cons (pv 1) pa_nil))) (pg_tup rfl (pgs_cons (pg_name (i := 2) scShows.nd rfl (Or.inr rfl)) (pgs_cons (pg_name (i := 5) scShows.nd rfl (Or.inl rfl)) pgs_nil))) (pss_cons (ps_setLc (i := 3) (own := [("_law_a", 6), ("_law_b", 7)]) (g := gTup K 2 (gCons (gName 6) (gCons (gName 7) gNil))) (tt := tYes) (by rfl) scShows.nd rfl rfl (sw_true rfl rfl rfl (by decide +kernel)) (RZ.pi_zipA (by rfl) W.f_zip (pa_cons (pv 3) (pa_cons (pe_call G_primitive r1 rfl W.g_law_primitive k_primitive b_primitive .nil pass0 (pa_cons (pe_ix ix_tupH (pv 5) pe_int (fun _ _ => rfl)) pa_nil)) pa_nil))) (blkOk_by (N := ["_law_weights", "_law_rows", "_law_weight", "_law_sums", "_law_is_strict", "_law_row", "_law_a", "_law_b"]) (sc := defScope s_shows) (by decide +kernel))
            (fun _ _ _ _ _ => (pg_tup rfl (pgs_cons (pg_name (i := 6) scShows.nd rfl (Or.inl rfl)) (pgs_cons (pg_name (i := 7) scShows.nd rfl (Or.inl rfl)) pgs_nil)))) (fun _ _ _ _ _ => pts_nil)
            (fun _ _ _ _ _ => (pe_op op_add (pv 6) (pe_op op_mulX9 (pv 2) (pv 7)))))
    (pss_one (ps_set (i := 4) scShows.nd rfl (Or.inl rfl) (pe_or (pv 4) (pe_one (pe_and (pe_cmpR op_gt (pv 2) pe_int (nomark _)) (pe_one (pe_ix ix_tupH (pv 5) pe_int (fun _ _ => rfl))))))))))
    (pss_one (ps_ret (pe_and (pe_cmpR ((op_eqRo hr.units)) (pe_slice sl_list (pv 3) (po_some pe_int) po_none) (pe_lst (pa_cons pe_int (pa_cons pe_int (pa_cons pe_int pa_nil)))) (nomark _)) (pe_one (pe_or (pe_cmpR op_lt (pe_ix ix_lstH (pv 3) pe_int (fun _ _ => rfl)) pe_int (nomark _)) (pe_one (pe_and (pe_cmpR op_eq (pe_ix ix_lstH (pv 3) pe_int (fun _ _ => rfl)) pe_int (nomark _)) (pe_one (pv 4)))))))))))))), ?_⟩
    have hR0 := hR
    obtain ⟨vs, hvl, ha, hrow⟩ := hR
    refine ⟨fun σ' H1 => σ' = [some (.ref D), some (.ref a), none, none, none, none, none, none] ∧ Same H H1, ?_, ?_⟩
    · simp -dsimp [tSeq, tAsg, tRet, tIfS, tIf, tTest, tVar, tCons, tNil, tC, tOp, tUn, rI, rI0, rU, tCB, tLst_A, tTup_A, gName, L2.start, CMul, CPow, CDiv, tDrop, tBM, tBM0, tNext, tPar, gSub, rSetL, rIxL, rIxT, tChain, tB, tNot, tNotV, tAnd, tOr, tAndV, tOrV, tFld, tCall, rIxLH, rIxTH, atI, ixN, upd_same, cxK, ex2, ex3, ex3b, rIs1, rIs2, rNe2, tyN, kb1, kb2, kb3, kb4, kb5, kb6, rEq, rNe, scal, tMake_S, tMakeK_S, tMakeN_S]
      exact ⟨"list", by rw [hD], .inr ⟨kb11, _, hD, _, ha, .inl ⟨by rw [vl_len, hvl], Same.refl _⟩⟩⟩
    rintro σ' H1 ⟨rfl, s1⟩
    refine ⟨fun σ' H1 => σ' = [some (.ref D), some (.ref a), none, none, none, none, none, none] ∧ Same H H1, ?_, ?_⟩
    · simp -dsimp [tSeq, tAsg, tRet, tIfS, tIf, tTest, tVar, tCons, tNil, tC, tOp, tUn, rI, rI0, rU, tCB, tLst_A, tTup_A, gName, L2.start, CMul, CPow, CDiv, tDrop, tBM, tBM0, tNext, tPar, gSub, rSetL, rIxL, rIxT, tChain, tB, tNot, tNotV, tAnd, tOr, tAndV, tOrV, tFld, tCall, rIxLH, rIxTH, atI, ixN, upd_same, cxK, ex2, ex3, ex3b, rIs1, rIs2, rNe2, tyN, kb1, kb2, kb3, kb4, kb5, kb6, rEq, rNe, scal, tMake_S, tMakeK_S, tMakeN_S]
      refine lc_vlF (K := K) D _ (fun _ => .bl true) (by rw [vl_len]; omega) (fun _ => rfl) (s1 _ _ hD) (fun R h => ⟨_, rfl, h⟩) (fun j y H2 R hj s2 k2 => ?_) (fun j y H2 R hj s2 k2 => ?_) (fun L H2 nL s2 h2 => ?_)
      · obtain ⟨hk, hj⟩ := vl_at hj
        subst hj
        simp -dsimp [tSeq, tAsg, tRet, tIfS, tIf, tTest, tVar, tCons, tNil, tC, tOp, tUn, rI, rI0, rU, tCB, tLst_A, tTup_A, gName, L2.start, CMul, CPow, CDiv, tDrop, tBM, tBM0, tNext, tPar, gSub, rSetL, rIxL, rIxT, tChain, tB, tNot, tNotV, tAnd, tOr, tAndV, tOrV, tFld, tCall, rIxLH, rIxTH, atI, ixN, upd_same, cxK, ex2, ex3, ex3b, rIs1, rIs2, rNe2, tyN, kb1, kb2, kb3, kb4, kb5, kb6, rEq, rNe, scal, tMake_S, tMakeK_S, tMakeN_S, wipe]
        exact k2
      · obtain ⟨hk, hj⟩ := vl_at hj
        subst hj
        simp -dsimp [tSeq, tAsg, tRet, tIfS, tIf, tTest, tVar, tCons, tNil, tC, tOp, tUn, rI, rI0, rU, tCB, tLst_A, tTup_A, gName, L2.start, CMul, CPow, CDiv, tDrop, tBM, tBM0, tNext, tPar, gSub, rSetL, rIxL, rIxT, tChain, tB, tNot, tNotV, tAnd, tOr, tAndV, tOrV, tFld, tCall, rIxLH, rIxTH, atI, ixN, upd_same, cxK, ex2, ex3, ex3b, rIs1, rIs2, rNe2, tyN, kb1, kb2, kb3, kb4, kb5, kb6, rEq, rNe, scal, tMake_S, tMakeK_S, tMakeN_S, wipe]
        have w0 := hS.1 j hk
        rw [if_neg (by omega)]
        exact ⟨_, rfl, fun H3 s3 => k2 H3 s3⟩
      · rw [vl_len] at h2
        have e : vl m (fun _ => V.bl true) = ((List.range m).map fun _ => true).map V.bl := by
          rw [List.map_map]
          rfl
        rw [e] at h2
        exact ⟨L, _, rfl, SqL.of h2, .inr ⟨by rw [show ((List.range m).map fun _ => true).all id = true from List.all_eq_true.mpr fun x hx => by obtain ⟨_, _, rfl⟩ := List.mem_map.mp hx; rfl], s1.trans s2⟩⟩
    rintro σ' H1 ⟨rfl, s1⟩
    refine ⟨fun σ' H1 => σ' = [some (.ref D), some (.ref a), none, none, none, none, none, none] ∧ Same H H1, ?_, ?_⟩
    · simp -dsimp [tSeq, tAsg, tRet, tIfS, tIf, tTest, tVar, tCons, tNil, tC, tOp, tUn, rI, rI0, rU, tCB, tLst_A, tTup_A, gName, L2.start, CMul, CPow, CDiv, tDrop, tBM, tBM0, tNext, tPar, gSub, rSetL, rIxL, rIxT, tChain, tB, tNot, tNotV, tAnd, tOr, tAndV, tOrV, tFld, tCall, rIxLH, rIxTH, atI, ixN, upd_same, cxK, ex2, ex3, ex3b, rIs1, rIs2, rNe2, tyN, kb1, kb2, kb3, kb4, kb5, kb6, rEq, rNe, scal, tMake_S, tMakeK_S, tMakeN_S]
      refine lc_vl (K := K) D _ (fun _ => .bl true) (by rw [vl_len]; omega) (fun _ => rfl) (s1 _ _ hD) (fun R h => ⟨_, rfl, h⟩) (fun j y H2 R hj s2 k2 => ?_) (fun L H2 nL s2 h2 => ?_)
      · obtain ⟨hk, hj⟩ := vl_at hj
        subst hj
        simp -dsimp [tSeq, tAsg, tRet, tIfS, tIf, tTest, tVar, tCons, tNil, tC, tOp, tUn, rI, rI0, rU, tCB, tLst_A, tTup_A, gName, L2.start, CMul, CPow, CDiv, tDrop, tBM, tBM0, tNext, tPar, gSub, rSetL, rIxL, rIxT, tChain, tB, tNot, tNotV, tAnd, tOr, tAndV, tOrV, tFld, tCall, rIxLH, rIxTH, atI, ixN, upd_same, cxK, ex2, ex3, ex3b, rIs1, rIs2, rNe2, tyN, kb1, kb2, kb3, kb4, kb5, kb6, rEq, rNe, scal, tMake_S, tMakeK_S, tMakeN_S, wipe]
        exact k2 _ (Same.refl _)
      · rw [vl_len] at h2
        have e : vl m (fun _ => V.bl true) = ((List.range m).map fun _ => true).map V.bl := by
          rw [List.map_map]
          rfl
        rw [e] at h2
        exact ⟨L, _, rfl, SqL.of h2, .inr ⟨by rw [show ((List.range m).map fun _ => true).all id = true from List.all_eq_true.mpr fun x hx => by obtain ⟨_, _, rfl⟩ := List.mem_map.mp hx; rfl], s1.trans s2⟩⟩
    rintro σ' H1 ⟨rfl, s1⟩
    refine ⟨fun σ' H2 => ∃ S, σ' = [some (.ref D), some (.ref a), none, some (.ref S), some (.bl false), none, none, none] ∧ Same H H2 ∧ H2 S = some (.lst (ro 4 fun _ => 0)), ?_, ?_⟩
    · simp -dsimp [tSeq, tAsg, tRet, tIfS, tIf, tTest, tVar, tCons, tNil, tC, tOp, tUn, rI, rI0, rU, tCB, tLst_A, tTup_A, gName, L2.start, CMul, CPow, CDiv, tDrop, tBM, tBM0, tNext, tPar, gSub, rSetL, rIxL, rIxT, tChain, tB, tNot, tNotV, tAnd, tOr, tAndV, tOrV, tFld, tCall, rIxLH, rIxTH, atI, ixN, upd_same, cxK, ex2, ex3, ex3b, rIs1, rIs2, rNe2, tyN, kb1, kb2, kb3, kb4, kb5, kb6, rEq, rNe, scal, tMake_S, tMakeK_S, tMakeN_S]
      exact ⟨by decide, Alloc.of fun S H2 n2 e2 s2 => ⟨S, rfl, s1.trans s2, e2⟩⟩
    rintro σ' H2 ⟨S, rfl, s2, hS2⟩
    refine ⟨fun σ' H3 => ∃ S w2 w5, σ' = [some (.ref D), some (.ref a), w2, some (.ref S), some (.bl (anyS st w m)), w5, none, none] ∧ Same H H3 ∧ H3 S = some (.lst (ro 4 fun b => TB.sm m fun k => w k * prG A k b)), ?_, ?_⟩
    · simp -dsimp [tSeq, tAsg, tRet, tIfS, tIf, tTest, tVar, tCons, tNil, tC, tOp, tUn, rI, rI0, rU, tCB, tLst_A, tTup_A, gName, L2.start, CMul, CPow, CDiv, tDrop, tBM, tBM0, tNext, tPar, gSub, rSetL, rIxL, rIxT, tChain, tB, tNot, tNotV, tAnd, tOr, tAndV, tOrV, tFld, tCall, rIxLH, rIxTH, atI, ixN, upd_same, cxK, ex2, ex3, ex3b, rIs1, rIs2, rNe2, tyN, kb1, kb2, kb3, kb4, kb5, kb6, rEq, rNe, scal, tMake_S, tMakeK_S, tMakeN_S, tFor_iZ]
      refine ⟨⟨_, SqL.of (s2 _ _ hD)⟩, ⟨_, SqL.of (s2 _ _ ha)⟩, ?_⟩
      unfold ForZ
      refine for_it (walk_zip (K := K) (a := D) (b := a) (xs := ro m w) (ys := vs) (n := m) (by rw [vl_len, hvl, Nat.min_self])) (fun i σ' G => ∃ S w2 w5, σ' = [some (.ref D), some (.ref a), w2, some (.ref S), some (.bl (anyS st w i)), w5, none, none] ∧ Same H G ∧ G S = some (.lst (ro 4 fun b => TB.sm i fun k => w k * prG A k b))) ⟨S, _, _, rfl, s2, hS2⟩ (fun i σ' G _ h => ?_) ?_ ?_
      · obtain ⟨_, _, _, _, s, _⟩ := h
        exact ⟨SqL.of (s _ _ hD), SqL.of (s _ _ ha)⟩
      · rintro i x σ' G G' hi ⟨S, w2, w5, rfl, sG, hG⟩ ⟨T, u, y, rfl, nT, rfl, eu, ey⟩
        obtain ⟨_, eu⟩ := vl_at (show (ro m w)[i]? = some u from eu)
        subst eu
        obtain ⟨p, qq, e3, e4, e5⟩ := hrow i hi
        have ey : vs[i]? = some y := ey
        rw [e3] at ey
        cases ey
        refine tup2n upd_same ?_
        have sT : Same G (upd G T (HO.tup [V.int (w i), V.ref p])) := same_upd nT
        have sa := sG.trans sT
        simp -dsimp [tSeq, tAsg, tRet, tIfS, tIf, tTest, tVar, tCons, tNil, tC, tOp, tUn, rI, rI0, rU, tCB, tLst_A, tTup_A, gName, L2.start, CMul, CPow, CDiv, tDrop, tBM, tBM0, tNext, tPar, gSub, rSetL, rIxL, rIxT, tChain, tB, tNot, tNotV, tAnd, tOr, tAndV, tOrV, tFld, tCall, rIxLH, rIxTH, atI, ixN, upd_same, cxK, ex2, ex3, ex3b, rIs1, rIs2, rNe2, tyN, kb1, kb2, kb3, kb4, kb5, kb6, rEq, rNe, scal, tMake_S, tMakeK_S, tMakeN_S]
        rw [tLc_frontZ]
        simp -dsimp [tSeq, tAsg, tRet, tIfS, tIf, tTest, tVar, tCons, tNil, tC, tOp, tUn, rI, rI0, rU, tCB, tLst_A, tTup_A, gName, L2.start, CMul, CPow, CDiv, tDrop, tBM, tBM0, tNext, tPar, gSub, rSetL, rIxL, rIxT, tChain, tB, tNot, tNotV, tAnd, tOr, tAndV, tOrV, tFld, tCall, rIxLH, rIxTH, atI, ixN, upd_same, cxK, ex2, ex3, ex3b, rIs1, rIs2, rNe2, tyN, kb1, kb2, kb3, kb4, kb5, kb6, rEq, rNe, scal, tMake_S, tMakeK_S, tMakeN_S, sa _ _ e4]
        have b60 : ∀ b, b < 4 → (A i b).natAbs < 10 ^ 60 := fun b hb => Nat.lt_trans (hA i b hi hb) (by decide)
        refine ⟨qq, A i 0, A i 1, A i 2, A i 3, rfl, sa _ _ e5, b60 0 (by decide), b60 1 (by decide), b60 2 (by decide), b60 3 (by decide), fun q' H5 h5 s5 => ?_⟩
        have h5 : H5 q' = some (.lst (ro 4 (prG A i))) := h5
        have big : ∀ {y : Nat}, y < 10 ^ 38 → y < bigM := fun h => h_lt_M (h_of (Nat.lt_trans h (by decide)))
        refine lc_vlZ (K := K) S q' _ _ (fun b => .int (TB.sm (i + 1) fun k => w k * prG A k b)) (by rw [vl_len, vl_len]) (by rw [vl_len]; decide) (fun _ _ => rfl) ((sT.trans s5) _ _ hG) h5 (fun R h => h) (fun b x y H6 R hx hy s6 k6 => ?_) (fun L H6 nL s6 h6 => ?_)
        · obtain ⟨hb, hx⟩ := vl_at hx
          obtain ⟨_, hy⟩ := vl_at hy
          subst hx hy
          simp -dsimp [tSeq, tAsg, tRet, tIfS, tIf, tTest, tVar, tCons, tNil, tC, tOp, tUn, rI, rI0, rU, tCB, tLst_A, tTup_A, gName, L2.start, CMul, CPow, CDiv, tDrop, tBM, tBM0, tNext, tPar, gSub, rSetL, rIxL, rIxT, tChain, tB, tNot, tNotV, tAnd, tOr, tAndV, tOrV, tFld, tCall, rIxLH, rIxTH, atI, ixN, upd_same, cxK, ex2, ex3, ex3b, rIs1, rIs2, rNe2, tyN, kb1, kb2, kb3, kb4, kb5, kb6, rEq, rNe, scal, tMake_S, tMakeK_S, tMakeN_S, wipe]
          exact ⟨⟨big (hw i hi), big (Nat.lt_of_le_of_lt (prG_le (Nat.le_of_lt (hA i b hi hb))) (by decide))⟩, k6 _ (Same.refl _)⟩
        · rw [vl_len] at h6
          have s06 := (sa.trans s5).trans s6
          have an : anyS st w (i + 1) = (anyS st w i || (decide (0 < w i) && st i)) := rfl
          cases ha' : anyS st w i with
          | true =>
            refine .inr ⟨rfl, L, ⟨rfl, by rw [an, ha']; rfl⟩, s06, h6⟩
          | false =>
            refine .inl ⟨rfl, ?_⟩
            split
            · rename_i h0
              refine ⟨_, s06 _ _ e4, .bl (st i), rfl, L, ⟨rfl, ?_⟩, s06, h6⟩
              rw [an, ha', decide_eq_true h0]
              rfl
            · rename_i h0
              refine ⟨L, ⟨rfl, ?_⟩, s06, h6⟩
              rw [an, ha', decide_eq_false h0]
              rfl
      · rintro σ' G ⟨S, w2, w5, rfl, sG, hG⟩
        exact ⟨S, ⟨_, _, rfl⟩, sG, hG⟩
    rintro σ' H3 ⟨S, w2, w5, rfl, s3, hS3⟩
    simp -dsimp [tSeq, tAsg, tRet, tIfS, tIf, tTest, tVar, tCons, tNil, tC, tOp, tUn, rI, rI0, rU, tCB, tLst_A, tTup_A, gName, L2.start, CMul, CPow, CDiv, tDrop, tBM, tBM0, tNext, tPar, gSub, rSetL, rIxL, rIxT, tChain, tB, tNot, tNotV, tAnd, tOr, tAndV, tOrV, tFld, tCall, rIxLH, rIxTH, atI, ixN, upd_same, cxK, ex2, ex3, ex3b, rIs1, rIs2, rNe2, tyN, kb1, kb2, kb3, kb4, kb5, kb6, rEq, rNe, scal, tMake_S, tMakeK_S, tMakeN_S]
    refine ⟨_, rfl, 1, rfl, S, _, rfl, SqL.of hS3, fun S' nS' => ?_⟩
    rw [cut_one _ (by rw [vl_len]; decide), ro_drop 3]
    have sS := same_upd (o := HO.lst (ro 3 fun b => TB.sm m fun k => w k * prG A k (b + 1))) nS'
    refine ⟨by decide, Alloc.of fun Z H4 n4 e4 s4 => ⟨S', Z, 3, _, fun _ => 0, rfl, rfl, s4 _ _ upd_same, e4, ?_⟩⟩
    have s04 := (s3.trans sS).trans s4
    obtain ⟨_, hz, hn⟩ := hS
    have e : ((List.range 3).all fun b => decide ((TB.sm m fun k => w k * prG A k (b + 1)) = 0)) = true := List.all_eq_true.mpr fun b hb => by
      have := List.mem_range.mp hb
      exact decide_eq_true (hz (b + 1) (by omega) (by omega))
    refine .inr ⟨by rw [e], _, (sS.trans s4) _ _ hS3, _, ixK (vl_get (n := 4) (g := fun b => V.int (TB.sm m fun k => w k * prG A k b)) (show 0 < 4 by decide)), _, rfl, ?_⟩
    rcases hn with l | ⟨e0, k, hk, hs, hw0⟩
    · rw [if_pos l]
      exact q H4 s04
    · rw [if_neg (by omega)]
      refine ⟨_, (sS.trans s4) _ _ hS3, _, ixK (vl_get (n := 4) (g := fun b => V.int (TB.sm m fun k => w k * prG A k b)) (show 0 < 4 by decide)), rfl, ?_⟩
      rw [e0, if_pos rfl, anyS_true m hk hs hw0]
      exact q H4 s04

end
theorem z38 : TB.fac 5 * (10 ^ 7) ^ 5 + 1 ≤ 10 ^ 38 := by decide +kernel
theorem z38b : TB.fac 5 * (10 ^ 7) ^ 5 < bigH := h_of (by decide +kernel)
section
variable {P : Program} {w : World} {K : PySem.W.Frag} {mg : Str → Option Value} {base : Heap} {fd : FuncData}
def spEither (K : PySem.W.Frag) : Sp := fun vs H Q _ => ∃ (D a : Addr) (m : Nat) (A : Nat → Nat → Int) (st : Nat → Bool), vs = [.ref D, .ref a] ∧ Rws K H D m (prG A) st ∧ RowsL H a m A st ∧ m < 800 ∧ (∀ k b, k < m → b < 4 → (A k b).natAbs ≤ 10 ^ 7) ∧
  (∀ x H', Same H H' → Holds (prG A) st m x → Q (.str "point") H') ∧ ∀ w H', Same H H' → Shows (prG A) st m w → Q (.str "weights") H'
theorem scEither : FnScope ["_law_told_rows", "_law_rows", "_law_kept", "_law_point", "_law_weights"] ["_law_told_rows", "_law_rows"] d_either.scope := ⟨rfl, rfl, rfl, by decide +kernel, rfl, by decide +kernel, by decide +kernel⟩
theorem ok_either (W : Wd K mg) : ∃ fd, FnOk P w K mg base CX0 8 (He.ga K "_law_either") fd ["_law_told_rows", "_law_rows"] (spEither K) ∧ Binds K fd ["_law_told_rows", "_law_rows"] [] := by
  obtain ⟨fd_weights_of, G_weights_of, b_weights_of⟩ := ok_weights_of (P := P) (w := w) (base := base) W
  have k_weights_of : PySem.W.keepIn K (.ref (He.ga K "weights_of")) = true := by obtain ⟨fd, F⟩ := W.F_weights_of; exact F.kp
  obtain ⟨fd_point_of, G_point_of, b_point_of⟩ := ok_point_of (P := P) (w := w) (base := base) W
  have k_point_of : PySem.W.keepIn K (.ref (He.ga K "point_of")) = true := by obtain ⟨fd, F⟩ := W.F_point_of; exact F.kp
  obtain ⟨fd_keeps, G_keeps, b_keeps⟩ := ok_keeps (P := P) (w := w) (base := base) W
  have k_keeps : PySem.W.keepIn K (.ref (He.ga K "_law_keeps")) = true := by obtain ⟨fd, F⟩ := W.F_keeps; exact F.kp
  obtain ⟨fd_shows, G_shows, b_shows⟩ := ok_shows (P := P) (w := w) (base := base) W
  have k_shows : PySem.W.keepIn K (.ref (He.ga K "_law_shows")) = true := by obtain ⟨fd, F⟩ := W.F_shows; exact F.kp
  obtain ⟨fd, F⟩ := W.F_either
  refine ⟨fd, F.ok scEither (fun vs H Q E h => ?_) (fun cdv A outer s H vs Q E hr h => ?_), FunD.bindsN F fun _ _ _ _ _ _ us hl => match us, hl with | [_, _], _ => rfl⟩
  · obtain ⟨D, a, _, _, _, rfl, _⟩ := h
    rfl
  · obtain ⟨D, a, m, A, st, rfl, hW, hR, hm, hA, qP, qW⟩ := h
    have r1 : Room 1 _ := hr.mono (by decide)
    have r2 : Room 2 _ := hr.mono (by decide)
    have r3 : Room 3 _ := hr.mono (by decide)
    have r4 : Room 4 _ := hr.mono (by decide)
    have r5 : Room 5 _ := hr.mono (by decide)
    have r6 : Room 6 _ := hr.mono (by decide)
    have r7 : Room 7 _ := hr.mono (by decide)
    refine ⟨_, PSs.nox (C8.pss_cut (ps_set (i := 2) scEither.nd rfl (Or.inl rfl) (pe_callTy call_list_of (by rfl) W.f_list (by decide +kernel) (pa_cons (pv 0) pa_nil)))
    (C8.pss_cut (ps_par (i := 3) (j := 4) rfl scEither.nd rfl rfl (by decide) rfl rfl (pa_cons (pe_call G_point_of r7 rfl W.g_point_of k_point_of b_point_of .nil pass0 (pa_cons (pv 0) pa_nil)) (pa_cons (pe_call G_weights_of r7 rfl W.g_weights_of k_weights_of b_weights_of .nil pass0 (pa_cons (pv 0) pa_nil)) pa_nil)) rfl)
    (C8.pss_cut (ps_if (pt_cmpR ((op_neS hr.units)) (pv 2) (pv 0) (nomark _)) (pss_one (ps_ret pe_str)) pss_nil)
    (pss_cons (ps_if (PW.pt (pw_and (pt_cmpR op_isN (pv 4) pe_non (nomark _)) (pw_and1 (pt_val (pe_call G_keeps r3 rfl W.g_law_keeps k_keeps b_keeps .nil pass0 (pa_cons (pv 3) (pa_cons (pv 1) pa_nil))))))) (pss_one (ps_ret pe_str)) pss_nil)
    (pss_one (ps_ret (pe_ifExp (PW.pt (pw_and (pt_cmpR op_isN (pv 3) pe_non (nomark _)) (pw_and1 (pt_val (pe_call G_shows r2 rfl W.g_law_shows k_shows b_shows .nil pass0 (pa_cons (pv 4) (pa_cons (pv 1) pa_nil))))))) pe_str pe_str))))))), ?_⟩
    have hA8 : ∀ k b, k < m → b < 4 → (A k b).natAbs < 10 ^ 8 := fun k b hk hb => Nat.lt_of_le_of_lt (hA k b hk hb) (by decide)
    have hG : ∀ k b, k < m → b < 4 → (prG A k b).natAbs ≤ 10 ^ 7 := fun k b hk hb => prG_le (hA k b hk hb)
    have hW0 := hW
    obtain ⟨vs, hvl, hD, hrow⟩ := hW
    refine ⟨fun σ' H1 => ∃ Kp, σ' = [some (.ref D), some (.ref a), some (.ref Kp), none, none] ∧ Same H H1 ∧ H1 Kp = some (.lst vs), ?_, ?_⟩
    · simp -dsimp [tSeq, tAsg, tRet, tIfS, tIf, tTest, tVar, tCons, tNil, tC, tOp, tUn, rI, rI0, rU, tCB, tLst_A, tTup_A, gName, L2.start, CMul, CPow, CDiv, tDrop, tBM, tBM0, tNext, tPar, gSub, rSetL, rIxL, rIxT, tChain, tB, tNot, tNotV, tAnd, tOr, tAndV, tOrV, tFld, tCall, rIxLH, rIxTH, atI, ixN, upd_same, cxK, ex2, ex3, ex3b, rIs1, rIs2, rNe2, tyN, kb1, kb2, kb3, kb4, kb5, kb6, rEq, rNe, scal, tMake_S, tMakeK_S, tMakeN_S]
      exact ⟨vs, .inl (SqL.of hD), fun l nl => ⟨same_upd nl, rfl⟩⟩
    rintro σ' H1 ⟨Kp, rfl, s1, hK⟩
    refine ⟨fun σ' H2 => ∃ u v, σ' = [some (.ref D), some (.ref a), some (.ref Kp), some u, some v] ∧ Same H1 H2 ∧ ((v = .non ∧ ∃ t z0 z1 z2 x, u = .ref t ∧ H2 t = some (.tup [.ref z0, .ref z1, .ref z2]) ∧ IsS K H2 z0 (lo (x 1) (x 0)) ∧ IsS K H2 z1 (lo (x 2) (x 0)) ∧ IsS K H2 z2 (lo (x 3) (x 0)) ∧ (∀ k, k < 4 → (x k).natAbs < 10 ^ 38) ∧ Holds (prG A) st m x) ∨ (u = .non ∧ ∃ L w, v = .ref L ∧ H2 L = some (.lst (ro m w)) ∧ (∀ k, k < m → (w k).natAbs < 10 ^ 38) ∧ Shows (prG A) st m w)), ?_, ?_⟩
    · simp -dsimp [tSeq, tAsg, tRet, tIfS, tIf, tTest, tVar, tCons, tNil, tC, tOp, tUn, rI, rI0, rU, tCB, tLst_A, tTup_A, gName, L2.start, CMul, CPow, CDiv, tDrop, tBM, tBM0, tNext, tPar, gSub, rSetL, rIxL, rIxT, tChain, tB, tNot, tNotV, tAnd, tOr, tAndV, tOrV, tFld, tCall, rIxLH, rIxTH, atI, ixN, upd_same, cxK, ex2, ex3, ex3b, rIs1, rIs2, rNe2, tyN, kb1, kb2, kb3, kb4, kb5, kb6, rEq, rNe, scal, tMake_S, tMakeK_S, tMakeN_S]
      have b38 : ∀ {y : Nat}, y < TB.fac 5 * (10 ^ 7) ^ 5 + 1 → y < 10 ^ 38 := fun h => Nat.lt_of_lt_of_le h z38
      have one : 1 ≤ 10 ^ 7 := by decide
      refine ⟨D, m, 10 ^ 7, prG A, st, rfl, hW0.same s1, hm, hG, one, z38b, fun t z0 z1 z2 x H2 s2 ht i0 i1 i2 hx hH => ?_, fun w' H2 s2 hS => ?_⟩
      · refine ⟨D, m, 10 ^ 7, prG A, st, rfl, hW0.same (s1.trans s2), hm, hG, one, z38b, fun x' H3 s3 _ => ?_, fun L w' H3 s3 _ _ _ hS => (not_both hH hS).elim⟩
        exact ⟨s2.trans s3, .inl ⟨rfl, t, rfl, z0, z1, z2, s3 _ _ ht, x, IsSh.same i0 s3, IsSh.same i1 s3, IsSh.same i2 s3, fun k hk => b38 (hx k hk), hH⟩⟩
      · refine ⟨D, m, 10 ^ 7, prG A, st, rfl, hW0.same (s1.trans s2), hm, hG, one, z38b, fun x' H3 s3 hH => (not_both hH hS).elim, fun L w'' H3 s3 _ hL hw hS => ?_⟩
        exact ⟨s2.trans s3, .inr ⟨rfl, L, rfl, w'', hL, fun k hk => b38 (hw k hk), hS⟩⟩
    rintro σ' H2 ⟨u, v, rfl, s2, h⟩
    refine ⟨fun σ' H3 => σ' = [some (.ref D), some (.ref a), some (.ref Kp), some u, some v] ∧ H3 = H2, ?_, ?_⟩
    · simp -dsimp [tSeq, tAsg, tRet, tIfS, tIf, tTest, tVar, tCons, tNil, tC, tOp, tUn, rI, rI0, rU, tCB, tLst_A, tTup_A, gName, L2.start, CMul, CPow, CDiv, tDrop, tBM, tBM0, tNext, tPar, gSub, rSetL, rIxL, rIxT, tChain, tB, tNot, tNotV, tAnd, tOr, tAndV, tOrV, tFld, tCall, rIxLH, rIxTH, atI, ixN, upd_same, cxK, ex2, ex3, ex3b, rIs1, rIs2, rNe2, tyN, kb1, kb2, kb3, kb4, kb5, kb6, rEq, rNe, scal, tMake_S, tMakeK_S, tMakeN_S]
      refine ⟨Kp, D, vs, rfl, rfl, s2 _ _ hK, (s1.trans s2) _ _ hD, fun y hy => ?_, .inl ⟨rfl, rfl⟩⟩
      obtain ⟨k, hk⟩ := List.mem_iff_getElem?.mp hy
      obtain ⟨z, e, _⟩ := hrow k (by have := (List.getElem?_eq_some_iff.mp hk).1; omega)
      rw [e] at hk
      cases hk
      exact .inr ⟨z, rfl⟩
    rintro σ' H3 ⟨rfl, rfl⟩
    have s13 := s1.trans s2
    rcases h with ⟨rfl, t, z0, z1, z2, x, rfl, ht, i0, i1, i2, hx, hH⟩ | ⟨rfl, L, w', rfl, hL, hw, hS⟩
    · simp -dsimp [tSeq, tAsg, tRet, tIfS, tIf, tTest, tVar, tCons, tNil, tC, tOp, tUn, rI, rI0, rU, tCB, tLst_A, tTup_A, gName, L2.start, CMul, CPow, CDiv, tDrop, tBM, tBM0, tNext, tPar, gSub, rSetL, rIxL, rIxT, tChain, tB, tNot, tNotV, tAnd, tOr, tAndV, tOrV, tFld, tCall, rIxLH, rIxTH, atI, ixN, upd_same, cxK, ex2, ex3, ex3b, rIs1, rIs2, rNe2, tyN, kb1, kb2, kb3, kb4, kb5, kb6, rEq, rNe, scal, tMake_S, tMakeK_S, tMakeN_S]
      exact ⟨t, a, z0, z1, z2, m, A, st, x, rfl, ht, i0, i1, i2, hx, hR.same s13, hm, hA8, hH, fun H4 s4 => .inr ⟨rfl, qP x H4 (s13.trans s4) hH⟩⟩
    · simp -dsimp [tSeq, tAsg, tRet, tIfS, tIf, tTest, tVar, tCons, tNil, tC, tOp, tUn, rI, rI0, rU, tCB, tLst_A, tTup_A, gName, L2.start, CMul, CPow, CDiv, tDrop, tBM, tBM0, tNext, tPar, gSub, rSetL, rIxL, rIxT, tChain, tB, tNot, tNotV, tAnd, tOr, tAndV, tOrV, tFld, tCall, rIxLH, rIxTH, atI, ixN, upd_same, cxK, ex2, ex3, ex3b, rIs1, rIs2, rNe2, tyN, kb1, kb2, kb3, kb4, kb5, kb6, rEq, rNe, scal, tMake_S, tMakeK_S, tMakeN_S]
      exact ⟨L, a, m, A, st, w', rfl, hL, hw, hR.same s13, hm, hA8, hS, fun H4 s4 => .inr ⟨rfl, qW w' H4 (s13.trans s4) hS⟩⟩

end
theorem Holds.cong {G G' : Nat → Nat → Int} {st st' : Nat → Bool} {m m' : Nat} {x : Nat → Int} (h : Holds G st m x) (e : ∀ k, k < m' → ∃ j, j < m ∧ G' k = G j ∧ st' k = st j) : Holds G' st' m' x := ⟨h.1, fun k hk => by
  obtain ⟨j, hj, e1, e2⟩ := e k hk
  rw [e1, e2]
  exact h.2 j hj⟩
def upd1 {α : Type} (f : Nat → α) (m : Nat) (x : α) (k : Nat) : α := if k = m then x else f k
theorem RowsL.neR {H : Hp} {a : Addr} {m : Nat} {A : Nat → Nat → Int} {st : Nat → Bool} {vs : List V} {f : Nat → Int} {q : Addr} (h : RowsL H a m A st) (ha : H a = some (.lst vs)) (hq : H q = some (.lst (ro 4 f))) : q ≠ a := fun e => by
  obtain ⟨vs', hm, ha', h⟩ := h
  rw [e, ha'] at hq
  have hq : vs' = ro 4 f := by injection hq with hq; injection hq
  have l4 : vs'.length = 4 := by rw [hq, vl_len]
  obtain ⟨p, q', e1, _⟩ := h 0 (by omega)
  rw [hq, vl_get (by decide)] at e1
  cases e1
theorem RowsL.push {H : Hp} {a t q : Addr} {m : Nat} {A : Nat → Nat → Int} {st : Nat → Bool} {B : Nat → Int} {s : Bool} {vs : List V} (h : RowsL H a m A st) (ha : H a = some (.lst vs)) (ht : H t = some (.tup [.ref q, .bl s])) (hq : H q = some (.lst (ro 4 B))) :
    vs.length = m ∧ RowsL (upd H a (.lst (vs ++ [.ref t]))) a (m + 1) (upd1 A m B) (upd1 st m s) := by
  have nq := h.neR ha hq
  have nt : t ≠ a := fun e => by rw [e, ha] at ht; cases ht
  have h0 := h
  obtain ⟨vs', hm, ha', h⟩ := h
  rw [ha] at ha'
  have ha' : vs = vs' := by injection ha' with ha'; injection ha'
  subst ha'
  refine ⟨hm, _, by rw [List.length_append, hm]; rfl, upd_same, fun k hk => ?_⟩
  by_cases e : k = m
  · subst e
    refine ⟨t, q, by rw [List.getElem?_append_right (by omega), hm, Nat.sub_self]; rfl, ?_, ?_⟩
    · rw [upd_ne nt, show upd1 st k s k = s from if_pos rfl]
      exact ht
    · rw [upd_ne nq, show upd1 A k B k = B from if_pos rfl]
      exact hq
  · obtain ⟨p, q', e1, e2, e3⟩ := h k (by omega)
    refine ⟨p, q', by rw [List.getElem?_append_left (by omega)]; exact e1, ?_, ?_⟩
    · rw [upd_ne (fun x => by rw [x, ha] at e2; cases e2), show upd1 st m s k = st k from if_neg e]
      exact e2
    · rw [upd_ne (h0.neR ha e3), show upd1 A m B k = A k from if_neg e]
      exact e3
theorem RowsL.cat {H : Hp} {a t q c : Addr} {m : Nat} {A : Nat → Nat → Int} {st : Nat → Bool} {B : Nat → Int} {s : Bool} {vs : List V} (h : RowsL H a m A st) (ha : H a = some (.lst vs)) (ht : H t = some (.tup [.ref q, .bl s])) (hq : H q = some (.lst (ro 4 B))) (hc : H c = some (.lst (vs ++ [.ref t]))) :
    RowsL H c (m + 1) (upd1 A m B) (upd1 st m s) := by
  obtain ⟨vs', hm, ha', h⟩ := h
  rw [ha] at ha'
  have ha' : vs = vs' := by injection ha' with ha'; injection ha'
  subst ha'
  refine ⟨_, by rw [List.length_append, hm]; rfl, hc, fun k hk => ?_⟩
  by_cases e : k = m
  · subst e
    refine ⟨t, q, by rw [List.getElem?_append_right (by omega), hm, Nat.sub_self]; rfl, ?_, ?_⟩
    · rw [show upd1 st k s k = s from if_pos rfl]
      exact ht
    · rw [show upd1 A k B k = B from if_pos rfl]
      exact hq
  · obtain ⟨p, q', e1, e2, e3⟩ := h k (by omega)
    refine ⟨p, q', by rw [List.getElem?_append_left (by omega)]; exact e1, ?_, ?_⟩
    · rw [show upd1 st m s k = st k from if_neg e]
      exact e2
    · rw [show upd1 A m B k = A k from if_neg e]
      exact e3
theorem prG_upd {A : Nat → Nat → Int} {B : Nat → Int} {m k : Nat} : prG (upd1 A m B) k = if k = m then prG (fun _ => B) k else prG A k := by
  funext b
  unfold prG upd1
  split <;> rfl
theorem Rws.cat {K : PySem.W.Frag} {H : Hp} {a z c : Addr} {m : Nat} {A : Nat → Nat → Int} {st : Nat → Bool} {B : Nat → Int} {s : Bool} {vs : List V} (h : Rws K H a m (prG A) st) (ha : H a = some (.lst vs)) (hz : IsP K H z s (B 0) (B 1) (B 2) (B 3)) (hc : H c = some (.lst (vs ++ [.ref z]))) :
    Rws K H c (m + 1) (prG (upd1 A m B)) (upd1 st m s) := by
  obtain ⟨vs', hm, ha', h⟩ := h
  rw [ha] at ha'
  have ha' : vs = vs' := by injection ha' with ha'; injection ha'
  subst ha'
  refine ⟨_, by rw [List.length_append, hm]; rfl, hc, fun k hk => ?_⟩
  by_cases e : k = m
  · subst e
    refine ⟨z, by rw [List.getElem?_append_right (by omega), hm, Nat.sub_self]; rfl, ?_⟩
    rw [show upd1 st k s k = s from if_pos rfl, prG_upd, if_pos rfl]
    exact hz
  · obtain ⟨z', e1, e2⟩ := h k (by omega)
    refine ⟨z', by rw [List.getElem?_append_left (by omega)]; exact e1, ?_⟩
    rw [show upd1 st m s k = st k from if_neg e, prG_upd, if_neg e]
    exact e2
theorem RowsL.drop {H : Hp} {a c : Addr} {m : Nat} {A : Nat → Nat → Int} {st : Nat → Bool} {vs : List V} (h : RowsL H a (m + 1) A st) (ha : H a = some (.lst vs)) (hc : H c = some (.lst (vs.drop 1))) : RowsL H c m (fun k => A (k + 1)) fun k => st (k + 1) := by
  obtain ⟨vs', hm, ha', h⟩ := h
  rw [ha] at ha'
  have ha' : vs = vs' := by injection ha' with ha'; injection ha'
  subst ha'
  refine ⟨_, by rw [List.length_drop, hm]; rfl, hc, fun k hk => ?_⟩
  obtain ⟨p, q, e1, e2, e3⟩ := h (k + 1) (by omega)
  exact ⟨p, q, by rw [List.getElem?_drop, Nat.add_comm]; exact e1, e2, e3⟩
theorem Rws.drop {K : PySem.W.Frag} {H : Hp} {a c : Addr} {m : Nat} {A : Nat → Nat → Int} {st : Nat → Bool} {vs : List V} (h : Rws K H a (m + 1) (prG A) st) (ha : H a = some (.lst vs)) (hc : H c = some (.lst (vs.drop 1))) : Rws K H c m (prG fun k => A (k + 1)) fun k => st (k + 1) := by
  obtain ⟨vs', hm, ha', h⟩ := h
  rw [ha] at ha'
  have ha' : vs = vs' := by injection ha' with ha'; injection ha'
  subst ha'
  refine ⟨_, by rw [List.length_drop, hm]; rfl, hc, fun k hk => ?_⟩
  obtain ⟨z, e1, e2⟩ := h (k + 1) (by omega)
  exact ⟨z, by rw [List.getElem?_drop, Nat.add_comm]; exact e1, e2⟩
/-- a loop over a range, kept shut -/
def ForR (n : Int) (g : TG) (tb : TS) (D : Ends) (σ : List (Option V)) (H : Hp) (_ : Lk (g, tb, D) := ⟨⟩) : Prop :=
  ∃ W : Nat → Nat → List (Option V) → Hp → Prop, (∃ m, W 0 m σ H) ∧ ∀ i m σ H, W i m σ H → ((Itr 0 n.toNat).stop i H ∧ D.nx σ H) ∨ ((Itr 0 n.toNat).go i H ∧ ∃ N : List (Option V) → Hp → Prop, (∀ σ' H', N σ' H' → ∃ m', m' < m ∧ W (i + 1) m' σ' H') ∧ ∀ x H', (Itr 0 n.toNat).yld i H x H' → g x σ H' fun σ2 H2 => tb { D with nx := N, ct := N, bk := D.nx } σ2 H2)
theorem tFor_iR {ta : TA} {g : TG} {tb : TS} {D : Ends} {σ : List (Option V)} {H : Hp} : tFor (iRng1 ta) g tb D σ H = ta σ H fun vs H1 => ∃ n : Int, vs = [.int n] ∧ -(2 ^ 62) ≤ n ∧ n < 2 ^ 62 ∧ ForR n g tb D σ H1 := rfl
/-- what was there is there, and draws -/
def Cl2 (H : Hp) (l : Addr) (G : Hp) : Prop := Same H G ∧ ∃ e0 e1 e2, G l = some (draws e0 e1 e2)
theorem Cl2.same {H G G' : Hp} {l : Addr} (c : Cl2 H l G) (s : Same G G') : Cl2 H l G' := by
  obtain ⟨h, e0, e1, e2, L⟩ := c
  exact ⟨h.trans s, e0, e1, e2, s _ _ L⟩
theorem Cl2.dr {H G G' : Hp} {l : Addr} (c : Cl2 H l G) (n : H l = none) (d : Dr l G G') : Cl2 H l G' := ⟨fun b o e => d.1 b o (ne_of_none e n) (c.1 b o e), d.2⟩
theorem Cl2.upd {H G : Hp} {l R : Addr} {o : HO} (c : Cl2 H l G) (n : H R = none) (ne : R ≠ l) : Cl2 H l (upd G R o) := by
  obtain ⟨h, e0, e1, e2, L⟩ := c
  exact ⟨Same.updF h n, e0, e1, e2, by rw [upd_ne ne.symm]; exact L⟩
def Told (A : Nat → Nat → Int) (st : Nat → Bool) (m : Nat) (tv : V) : Prop := (tv = .str "point" ∧ ∃ x, Holds (prG A) st m x) ∨ (tv = .str "weights" ∧ ∃ w, Shows (prG A) st m w)
theorem sne {a b : Str} (h : a ≠ b) : (V.str a = V.str b) = False := eq_false fun e => h (by injection e)
theorem npw : ¬ ("point" : Str) = "weights" := by decide +kernel
theorem nwp : ¬ ("weights" : Str) = "point" := by decide +kernel
theorem npx : ¬ ("point" : Str) = "wrong" := by decide +kernel
theorem nwx : ¬ ("weights" : Str) = "wrong" := by decide +kernel
/-- a number and multiples at a point -/
def amF (f g : Nat → Int) : Int := f 0 + TB.sm 3 fun b => f (b + 1) * g b
/-- drawn ints -/
theorem lc_drI {l : Addr} {i0 n : Nat} {ta : TA} {te : TE} {σ : List (Option V)} {H : Hp} {Q : V → Hp → Prop} {d0 d1 d2 : Int} (B : Nat) (hn : n < 1000) (hl : H l = some (draws d0 d1 d2)) (hw : ∀ x : V, wipe ((wipe σ [i0]).set i0 (some x)) [i0] = wipe σ [i0])
    (he : ∀ (j : Nat) (H' : Hp) (R : V → Hp → Prop) (e0 e1 e2 : Int), j < n → H' l = some (draws e0 e1 e2) → (∀ (y f0 f1 f2 : Int), y.natAbs ≤ B → R (.int y) (upd H' l (draws f0 f1 f2))) → te ((wipe σ [i0]).set i0 (some (.int (j : Int)))) H' R)
    (hq : ∀ (D : Addr) (H' : Hp) (f : Nat → Int), H D = none → Dr l H H' → H' D = some (.lst (ro n f)) → (∀ b, b < n → (f b).natAbs ≤ B) → Q (.ref D) H') (hta : ∀ R : List V → Hp → Prop, R [.int (n : Int)] H → ta σ H R) : tLc (iRng1 ta) (gName i0) tYes te [i0] σ H Q := by
  refine lc_dr (n := n) (l := l) (fun j v _ => ∃ x : Int, v = .int x ∧ x.natAbs ≤ B) hn (fun j D xs v H H' _ _ h => h) hl hw (fun j H' R e0 e1 e2 hj N L r => ?_) (fun D H2 vs e0 e1 e2 nDl nD N2 L2' hD hvl hvs => ?_) hta
  · exact he j H' R e0 e1 e2 hj L fun y f0 f1 f2 hy => r _ _ f0 f1 f2 .upd upd_same ⟨y, rfl, hy⟩
  · have e : vs = ro n fun k => (match vs[k]? with | some (.int x) => x | _ => 0) := vl_of hvl fun k hk => by
      have ek : vs[k]? = some (vs[k]'(by omega)) := List.getElem?_eq_getElem _
      obtain ⟨x, ex, _⟩ := hvs k _ ek
      rw [ex] at ek
      show _ = some (V.int (match vs[k]? with | some (.int x) => x | _ => 0))
      rw [ek]
    refine hq D H2 _ nD ⟨N2, e0, e1, e2, L2'⟩ (by rw [hD]; exact congrArg (fun l => some (HO.lst l)) e) fun b hb => ?_
    have ek : vs[b]? = some (vs[b]'(by omega)) := List.getElem?_eq_getElem _
    obtain ⟨x, ex, hx⟩ := hvs b _ ek
    rw [ex] at ek
    show (match vs[b]? with | some (.int x) => x | _ => 0 : Int).natAbs ≤ _
    rw [ek]
    exact hx
theorem ro_cons (n : Nat) (a : Int) (f : Nat → Int) : [V.int a] ++ ro n f = ro (n + 1) fun b => if b = 0 then a else f (b - 1) := vl_of (by rw [List.length_append, vl_len]; exact Nat.add_comm _ _) fun k hk => by
  cases k with
  | zero => rfl
  | succ k =>
    show (V.int a :: vl n _)[k + 1]? = _
    rw [List.getElem?_cons_succ, vl_get (by omega)]
    show _ = some (V.int (if k + 1 = 0 then a else f (k + 1 - 1)))
    rw [if_neg (by omega)]
    rfl
section
variable {P : Program} {w : World} {K : PySem.W.Frag} {mg : Str → Option Value} {base : Heap} {fd : FuncData}
def spAmt (K : PySem.W.Frag) : Sp := fun vs H Q _ => ∃ (p q : Addr) (f g : Nat → Int), vs = [.ref p, .ref q] ∧ H p = some (.lst (ro 4 f)) ∧ H q = some (.lst (ro 3 g)) ∧ (∀ b, b < 4 → (f b).natAbs < bigM) ∧ (∀ b, b < 3 → (g b).natAbs < bigM) ∧ ∀ H', Same H H' → Q (.int (amF f g)) H'
theorem scAmountAt : FnScope ["_law_numbers", "_law_point", "_law_found", "_law_number", "_law_here"] ["_law_numbers", "_law_point"] d_amount_at.scope := ⟨rfl, rfl, rfl, by decide +kernel, rfl, by decide +kernel, by decide +kernel⟩
theorem ok_amount_at (W : Wd K mg) : ∃ fd, FnOk P w K mg base CX0 1 (He.ga K "_law_amount_at") fd ["_law_numbers", "_law_point"] (spAmt K) ∧ Binds K fd ["_law_numbers", "_law_point"] [] := by
  obtain ⟨fd, F⟩ := W.F_amount_at
  refine ⟨fd, F.ok scAmountAt (fun vs H Q E h => ?_) (fun cdv A outer s H vs Q E hr h => ?_), FunD.bindsN F fun _ _ _ _ _ _ us hl => match us, hl with | [_, _], _ => rfl⟩
  · obtain ⟨p, q, _, _, rfl, _⟩ := h
    rfl
  · obtain ⟨p, q, f, g, rfl, hp, hq, bf, bg, k⟩ := h

    refine ⟨_, PSs.nox (C8.pss_cut (ps_set (i := 2) scAmountAt.nd rfl (Or.inl rfl) (pe_ix ix_lstH (pv 0) pe_int (fun _ _ => rfl)))
    (C8.pss_cut (ps_for PassesOwn.never rfl (pi_zip (by rfl) W.f_zip (pa_cons (pe_slice sl_list (pv 0) (po_some pe_int) po_none) (pa_cons (pv 1) pa_nil))) (pg_tup rfl (pgs_cons (pg_name (i := 3) scAmountAt.nd rfl (Or.inl rfl)) (pgs_cons (pg_name (i := 4) scAmountAt.nd rfl (Or.inl rfl)) pgs_nil))) (pss_one (ps_set (i := 2) scAmountAt.nd rfl (Or.inl rfl) (pe_op op_add (pv 2) (pe_op op_mulX9 (pv 3) (pv 4))))))
    (pss_one (ps_ret (pv 2))))), ?_⟩
    refine ⟨fun σ' H1 => σ' = [some (.ref p), some (.ref q), some (.int (f 0)), none, none] ∧ H1 = H, ?_, ?_⟩
    · have e0 := ixK (vl_get (n := 4) (g := fun b => V.int (f b)) (show 0 < 4 by decide))
      simp -dsimp [tSeq, tAsg, tRet, tIfS, tIf, tTest, tVar, tCons, tNil, tC, tOp, tUn, rI, rI0, rU, tCB, tLst_A, tTup_A, gName, L2.start, CMul, CPow, CDiv, tDrop, tBM, tBM0, tNext, tPar, gSub, rSetL, rIxL, rIxT, tChain, tB, tNot, tNotV, tAnd, tOr, tAndV, tOrV, tFld, tCall, rIxLH, rIxTH, atI, ixN, upd_same, cxK, ex2, ex3, ex3b, rIs1, rIs2, rNe2, tyN, kb1, kb2, kb3, kb4, kb5, kb6, rEq, rNe, scal, tMake_S, tMakeK_S, tMakeN_S, hp, e0]
    rintro σ' H1 ⟨rfl, rfl⟩
    refine ⟨fun σ' H2 => ∃ w3 w4, σ' = [some (.ref p), some (.ref q), some (.int (amF f g)), w3, w4] ∧ Same H1 H2, ?_, ?_⟩
    · simp -dsimp [tSeq, tAsg, tRet, tIfS, tIf, tTest, tVar, tCons, tNil, tC, tOp, tUn, rI, rI0, rU, tCB, tLst_A, tTup_A, gName, L2.start, CMul, CPow, CDiv, tDrop, tBM, tBM0, tNext, tPar, gSub, rSetL, rIxL, rIxT, tChain, tB, tNot, tNotV, tAnd, tOr, tAndV, tOrV, tFld, tCall, rIxLH, rIxTH, atI, ixN, upd_same, cxK, ex2, ex3, ex3b, rIs1, rIs2, rNe2, tyN, kb1, kb2, kb3, kb4, kb5, kb6, rEq, rNe, scal, tMake_S, tMakeK_S, tMakeN_S, tFor_iZ]
      refine ⟨_, rfl, 1, rfl, p, _, rfl, SqL.of hp, fun S nS => ?_⟩
      rw [cut_one _ (by rw [vl_len]; decide), ro_drop 3]
      have sS := same_upd (o := HO.lst (ro 3 fun k => f (k + 1))) nS
      refine ⟨S, q, ⟨rfl, rfl⟩, ⟨_, SqL.of upd_same⟩, ⟨_, SqL.of (sS _ _ hq)⟩, ?_⟩
      unfold ForZ
      refine for_it (walk_zip (K := K) (a := S) (b := q) (xs := ro 3 fun k => f (k + 1)) (ys := ro 3 g) (n := 3) (by rw [vl_len, vl_len]; rfl)) (fun j σ' G => ∃ (w3 w4 : Option V), σ' = [some (.ref p), some (.ref q), some (.int (f 0 + TB.sm j fun b => f (b + 1) * g b)), w3, w4] ∧ Same (upd H1 S (HO.lst (ro 3 fun k => f (k + 1)))) G) ⟨_, _, by rw [show TB.sm 0 (fun b => f (b + 1) * g b) = 0 from rfl, Int.add_zero], Same.refl _⟩ (fun j σ' G _ h => ?_) ?_ ?_
      · obtain ⟨_, _, _, s⟩ := h
        exact ⟨SqL.of (s _ _ upd_same), SqL.of (s _ _ (sS _ _ hq))⟩
      · rintro j x σ' G G' hj ⟨w3, w4, rfl, sG⟩ ⟨T, u, v, rfl, nT, rfl, eu, ev⟩
        obtain ⟨_, eu⟩ := vl_at (show (ro 3 fun k => f (k + 1))[j]? = some u from eu)
        obtain ⟨_, ev⟩ := vl_at (show (ro 3 g)[j]? = some v from ev)
        subst eu ev
        refine tup2n upd_same ?_
        have sT : Same G (upd G T (HO.tup [V.int (f (j + 1)), V.int (g j)])) := same_upd nT
        simp -dsimp [tSeq, tAsg, tRet, tIfS, tIf, tTest, tVar, tCons, tNil, tC, tOp, tUn, rI, rI0, rU, tCB, tLst_A, tTup_A, gName, L2.start, CMul, CPow, CDiv, tDrop, tBM, tBM0, tNext, tPar, gSub, rSetL, rIxL, rIxT, tChain, tB, tNot, tNotV, tAnd, tOr, tAndV, tOrV, tFld, tCall, rIxLH, rIxTH, atI, ixN, upd_same, cxK, ex2, ex3, ex3b, rIs1, rIs2, rNe2, tyN, kb1, kb2, kb3, kb4, kb5, kb6, rEq, rNe, scal, tMake_S, tMakeK_S, tMakeN_S]
        refine ⟨⟨bf _ (by omega), bg _ hj⟩, ?_, sG.trans sT⟩
        show f 0 + TB.sm j _ + f (j + 1) * g j = f 0 + (TB.sm j _ + f (j + 1) * g j)
        omega
      · rintro σ' G ⟨w3, w4, rfl, sG⟩
        exact ⟨⟨w3, w4, rfl⟩, sS.trans sG⟩
    rintro σ' H2 ⟨w3, w4, rfl, s2⟩
    simp -dsimp [tSeq, tAsg, tRet, tIfS, tIf, tTest, tVar, tCons, tNil, tC, tOp, tUn, rI, rI0, rU, tCB, tLst_A, tTup_A, gName, L2.start, CMul, CPow, CDiv, tDrop, tBM, tBM0, tNext, tPar, gSub, rSetL, rIxL, rIxT, tChain, tB, tNot, tNotV, tAnd, tOr, tAndV, tOrV, tFld, tCall, rIxLH, rIxTH, atI, ixN, upd_same, cxK, ex2, ex3, ex3b, rIs1, rIs2, rNe2, tyN, kb1, kb2, kb3, kb4, kb5, kb6, rEq, rNe, scal, tMake_S, tMakeK_S, tMakeN_S]
    exact k H2 s2

def spThr (K : PySem.W.Frag) : Sp := fun vs H Q _ => ∃ (l p : Addr) (d0 d1 d2 : Int) (mo : Nat) (g : Nat → Int), vs = [.ref l, .ref p, .int mo] ∧ H l = some (draws d0 d1 d2) ∧ p ≠ l ∧ H p = some (.lst (ro 3 g)) ∧ 1 ≤ mo ∧ mo ≤ 1000 ∧ (∀ b, b < 3 → (g b).natAbs < 10 ^ 6) ∧
  ∀ (D : Addr) (B : Nat → Int) (H' : Hp), H D = none → Dr l H H' → H' D = some (.lst (ro 4 B)) → amF B g = 0 → (∀ b, b < 3 → (B (b + 1)).natAbs ≤ mo) → Q (.ref D) H'
theorem scThrough : FnScope ["_law_draws", "_law_point", "_law_most", "_law_times", "_law_k"] ["_law_draws", "_law_point", "_law_most"] d_through.scope := ⟨rfl, rfl, rfl, by decide +kernel, rfl, by decide +kernel, by decide +kernel⟩
theorem ok_through (W : Wd K mg) : ∃ fd, FnOk P w K mg base CX0 2 (He.ga K "_law_through") fd ["_law_draws", "_law_point", "_law_most"] (spThr K) ∧ Binds K fd ["_law_draws", "_law_point", "_law_most"] [] := by
  obtain ⟨fd_draw, G_draw, b_draw⟩ := ok_draw (P := P) (w := w) (base := base) W
  have k_draw : PySem.W.keepIn K (.ref (He.ga K "_law_draw")) = true := by obtain ⟨fd, F⟩ := W.F_draw; exact F.kp
  obtain ⟨fd_amount_at, G_amount_at, b_amount_at⟩ := ok_amount_at (P := P) (w := w) (base := base) W
  have k_amount_at : PySem.W.keepIn K (.ref (He.ga K "_law_amount_at")) = true := by obtain ⟨fd, F⟩ := W.F_amount_at; exact F.kp
  obtain ⟨fd, F⟩ := W.F_through
  refine ⟨fd, F.ok scThrough (fun vs H Q E h => ?_) (fun cdv A outer s H vs Q E hr h => ?_), FunD.bindsN F fun _ _ _ _ _ _ us hl => match us, hl with | [_, _, _], _ => rfl⟩
  · obtain ⟨l, p, _, _, _, mo, _, rfl, _⟩ := h
    rfl
  · obtain ⟨l, p, d0, d1, d2, mo, g, rfl, hl, pl, hp, m1, m9, hg, k⟩ := h
    have r1 : Room 1 _ := hr.mono (by decide)
    refine ⟨_, PSs.nox (C8.pss_cut (ps_setLc (i := 3) (own := [("_law_k", 4)]) (g := gName 4) (tt := tYes) (by rfl) scThrough.nd rfl rfl (sw_true rfl rfl rfl (by decide +kernel)) (pi_range1 rfl W.f_range (pa_cons pe_int pa_nil)) (blkOk_by (N := ["_law_draws", "_law_point", "_law_most", "_law_times", "_law_k"]) (sc := defScope s_through) (by decide +kernel))
            (fun _ _ _ _ _ => (pg_name (i := 4) scThrough.nd rfl (Or.inl rfl))) (fun _ _ _ _ _ => pts_nil)
            (fun _ _ _ _ _ => (pe_op op_sub (pe_call G_draw r1 rfl W.g_law_draw k_draw b_draw .nil pass0 (pa_cons (pv 0) (pa_cons (pe_op op_add (pe_op op_mulX9 pe_int (pv 2)) pe_int) pa_nil))) (pv 2))))
    (C8.pss_cut (ps_if (pt_cmpR ((op_eqRo hr.units)) (pv 3) (pe_lst (pa_cons pe_int (pa_cons pe_int (pa_cons pe_int pa_nil)))) (nomark _)) (pss_one (ps_asg pe_int (pg_sub (pv 3) (pe_call G_draw r1 rfl W.g_law_draw k_draw b_draw .nil pass0 (pa_cons (pv 0) (pa_cons pe_int pa_nil))) set_list))) pss_nil)
    (pss_one (ps_ret (pe_op op_cat (pe_lst (pa_cons (pe_op op_sub pe_int (pe_call G_amount_at r1 rfl W.g_law_amount_at k_amount_at b_amount_at .nil pass0 (pa_cons (pe_op op_cat (pe_lst (pa_cons pe_int pa_nil)) (pv 3)) (pa_cons (pv 1) pa_nil)))) pa_nil)) (pv 3)))))), ?_⟩
    refine ⟨fun σ' H1 => ∃ T f, σ' = [some (.ref l), some (.ref p), some (.int mo), some (.ref T), none] ∧ H T = none ∧ Dr l H H1 ∧ H1 T = some (.lst (ro 3 f)) ∧ ∀ b, b < 3 → (f b).natAbs ≤ mo, ?_, ?_⟩
    · simp -dsimp [tSeq, tAsg, tRet, tIfS, tIf, tTest, tVar, tCons, tNil, tC, tOp, tUn, rI, rI0, rU, tCB, tLst_A, tTup_A, gName, L2.start, CMul, CPow, CDiv, tDrop, tBM, tBM0, tNext, tPar, gSub, rSetL, rIxL, rIxT, tChain, tB, tNot, tNotV, tAnd, tOr, tAndV, tOrV, tFld, tCall, rIxLH, rIxTH, atI, ixN, upd_same, cxK, ex2, ex3, ex3b, rIs1, rIs2, rNe2, tyN, kb1, kb2, kb3, kb4, kb5, kb6, rEq, rNe, scal, tMake_S, tMakeK_S, tMakeN_S]
      have b1000 : ∀ {x : Nat}, x ≤ 5000 → x < bigM := fun h => h_lt_M (h_of (Nat.lt_of_le_of_lt h (by decide)))
      refine lc_drI (n := 3) mo (by decide) hl (fun x => rfl) (fun j H' R e0 e1 e2 hj L r => ?_) (fun D H2 f nD D2 hD hf => ⟨D, rfl, nD, D2, f, hD, hf⟩) (fun R h => h)
      simp -dsimp [tSeq, tAsg, tRet, tIfS, tIf, tTest, tVar, tCons, tNil, tC, tOp, tUn, rI, rI0, rU, tCB, tLst_A, tTup_A, gName, L2.start, CMul, CPow, CDiv, tDrop, tBM, tBM0, tNext, tPar, gSub, rSetL, rIxL, rIxT, tChain, tB, tNot, tNotV, tAnd, tOr, tAndV, tOrV, tFld, tCall, rIxLH, rIxTH, atI, ixN, upd_same, cxK, ex2, ex3, ex3b, rIs1, rIs2, rNe2, tyN, kb1, kb2, kb3, kb4, kb5, kb6, rEq, rNe, scal, tMake_S, tMakeK_S, tMakeN_S, wipe]
      exact ⟨⟨b1000 (by decide), b1000 (by omega)⟩, l, e0, e1, e2, _, rfl, L, by omega, by omega, fun r' f0 f1 f2 r0 r1 => ⟨r', rfl, r _ f0 f1 f2 (by omega)⟩⟩
    rintro σ' H1 ⟨T, f, rfl, nT, D1, hT, hf⟩
    refine ⟨fun σ' H1 => ∃ f, σ' = [some (.ref l), some (.ref p), some (.int mo), some (.ref T), none] ∧ Dr l H H1 ∧ H1 T = some (.lst (ro 3 f)) ∧ ∀ b, b < 3 → (f b).natAbs ≤ mo, ?_, ?_⟩
    · simp -dsimp [tSeq, tAsg, tRet, tIfS, tIf, tTest, tVar, tCons, tNil, tC, tOp, tUn, rI, rI0, rU, tCB, tLst_A, tTup_A, gName, L2.start, CMul, CPow, CDiv, tDrop, tBM, tBM0, tNext, tPar, gSub, rSetL, rIxL, rIxT, tChain, tB, tNot, tNotV, tAnd, tOr, tAndV, tOrV, tFld, tCall, rIxLH, rIxTH, atI, ixN, upd_same, cxK, ex2, ex3, ex3b, rIs1, rIs2, rNe2, tyN, kb1, kb2, kb3, kb4, kb5, kb6, rEq, rNe, scal, tMake_S, tMakeK_S, tMakeN_S]
      refine ⟨by decide, Alloc.of fun Z H2 n2 e2 s2 => ⟨T, Z, 3, f, fun _ => 0, rfl, rfl, s2 _ _ hT, e2, ?_⟩⟩
      have tl : T ≠ l := fun e => by rw [e, hl] at nT; cases nT
      cases hz : (List.range 3).all fun k => decide (f k = 0) with
      | false => exact .inl ⟨rfl, D1.same s2, f, s2 _ _ hT, hf⟩
      | true =>
        obtain ⟨_, e0, e1, e2', L⟩ := D1.same s2
        refine .inr ⟨rfl, l, e0, e1, e2', 3, rfl, L, by decide, by decide, fun r g0 g1 g2 r0 r1 => ⟨_, r, rfl, by rw [upd_ne tl]; exact s2 _ _ hT, r.toNat, ?_, ?_, TB.upm f r.toNat 1, ro_set (by omega), fun b hb => ?_⟩⟩
        · rw [if_pos r0, if_pos (by rw [vl_len]; omega)]
        · have D3 := (D1.same s2).upd (e0 := g0) (e1 := g1) (e2 := g2)
          obtain ⟨h1, k0, k1, k2, h2⟩ := D3
          exact ⟨fun b o nb e => by rw [upd_ne (ne_of_none e nT)]; exact h1 b o nb e, k0, k1, k2, by rw [upd_ne tl.symm]; exact h2⟩
        · unfold TB.upm
          split
          · exact m1
          · exact hf b hb
    rintro σ' H2 ⟨f, rfl, D2, hT, hf⟩
    simp -dsimp [tSeq, tAsg, tRet, tIfS, tIf, tTest, tVar, tCons, tNil, tC, tOp, tUn, rI, rI0, rU, tCB, tLst_A, tTup_A, gName, L2.start, CMul, CPow, CDiv, tDrop, tBM, tBM0, tNext, tPar, gSub, rSetL, rIxL, rIxT, tChain, tB, tNot, tNotV, tAnd, tOr, tAndV, tOrV, tFld, tCall, rIxLH, rIxTH, atI, ixN, upd_same, cxK, ex2, ex3, ex3b, rIs1, rIs2, rNe2, tyN, kb1, kb2, kb3, kb4, kb5, kb6, rEq, rNe, scal, tMake_S, tMakeK_S, tMakeN_S]
    refine ⟨by decide, Alloc.of fun Z H3 n3 e3 s3 => ⟨Z, T, _, _, rfl, rfl, e3, s3 _ _ hT, by rw [vl_len]; decide, fun U nU => ?_⟩⟩
    rw [ro_cons 3 0 f]
    have sU := same_upd (o := HO.lst (ro (3 + 1) fun b => if b = 0 then 0 else f (b - 1))) nU
    have s3U := s3.trans sU
    have D3 := D2.same s3U
    have hp3 := D3.1 _ _ pl hp
    refine ⟨U, p, _, g, rfl, upd_same, hp3, fun b hb => ?_, fun b hb => ?_, fun H4 s4 => ⟨_, rfl, by decide, Alloc.of fun Y H5 n5 e5 s5 => ⟨Y, T, _, _, rfl, rfl, e5, ((s3U.trans s4).trans s5) _ _ hT, (by rw [vl_len]; show 4 ≤ sizeLine; decide), fun D nD => ?_⟩⟩⟩
    · split
      · exact h_lt_M (h_of (by decide))
      · exact h_lt_M (h_of (Nat.lt_of_le_of_lt (hf _ (by omega)) (Nat.lt_of_le_of_lt m9 (by decide))))
    · exact h_lt_M (h_of (Nat.lt_trans (hg b hb) (by decide)))
    · rw [ro_cons 3 _ f]
      have sD := same_upd (o := HO.lst (ro (3 + 1) fun b => if b = 0 then -amF (fun b => if b = 0 then 0 else f (b - 1)) g else f (b - 1))) nD
      have D6 := D3.same ((s4.trans s5).trans sD)
      refine k D _ _ ?_ D6 upd_same ?_ fun b hb => ?_
      · cases e : H D with
        | none => rfl
        | some o =>
          by_cases dl' : D = l
          · obtain ⟨_, h0, h1, h2, L⟩ := D3.same (s4.trans s5)
            rw [dl', L] at nD
            cases nD
          · rw [(D3.same (s4.trans s5)).1 _ _ dl' e] at nD
            cases nD
      · show (-(0 + TB.sm 3 fun b => (if b + 1 = 0 then (0 : Int) else f (b + 1 - 1)) * g b)) + TB.sm 3 (fun b => (if b + 1 = 0 then _ else f (b + 1 - 1)) * g b) = 0
        have e : ∀ a : Int, TB.sm 3 (fun b => (if b + 1 = 0 then a else f (b + 1 - 1)) * g b) = TB.sm 3 fun b => f b * g b := fun a => TB.sm_congr 3 fun b _ => by
          rw [if_neg (by omega)]
          rfl
        rw [e, e]
        omega
      · show (if b + 1 = 0 then _ else f (b + 1 - 1)).natAbs ≤ mo
        rw [if_neg (by omega)]
        exact hf b hb

end
/-- rows of ints, the last one a list of its own -/
def ClX (H : Hp) (a Lq : Addr) (m : Nat) (A : Nat → Nat → Int) : Prop := ∃ vs : List V, vs.length = m ∧ H a = some (.lst (vs ++ [.ref Lq])) ∧ H Lq = some (.lst (ro 4 (A m))) ∧ ∀ k, k < m → ∃ q, vs[k]? = some (.ref q) ∧ q ≠ Lq ∧ H q = some (.lst (ro 4 (A k)))
/-- weights under which rows through a point add up to nought -/
structure Bal (m : Nat) (A : Nat → Nat → Int) (w g : Nat → Int) : Prop where
  m1 : 1 ≤ m
  m3 : m ≤ 3
  pos : ∀ k, k < m → 1 ≤ w k ∧ w k ≤ 4
  one : w m = 1
  thr : ∀ k, k ≤ m → amF (A k) g = 0
  sum : ∀ b, b < 4 → TB.sm (m + 1) (fun k => w k * A k b) = 0
  le : ∀ k b, k < m → b < 4 → (A k b).natAbs ≤ 120
  leL : ∀ b, b < 4 → (A m b).natAbs ≤ 2000
theorem amF_eq (f g : Nat → Int) : amF f g = f 0 + (f 1 * g 0 + f 2 * g 1 + f 3 * g 2) := by
  show f 0 + (0 + f 1 * g 0 + f 2 * g 1 + f 3 * g 2) = _
  omega
theorem amF_lin {A : Nat → Nat → Int} {w g : Nat → Int} : ∀ m, amF (fun b => -(TB.sm m fun k => w k * A k b)) g = -(TB.sm m fun k => w k * amF (A k) g)
  | 0 => by
    rw [amF_eq]
    show -(0 : Int) + (-(0 : Int) * g 0 + -(0 : Int) * g 1 + -(0 : Int) * g 2) = -(0 : Int)
    grind
  | m + 1 => by
    have ih := amF_lin (A := A) (w := w) (g := g) m
    rw [amF_eq] at ih ⊢
    have e := amF_eq (A m) g
    show -(TB.sm m (fun k => w k * A k 0) + w m * A m 0) + (-(TB.sm m (fun k => w k * A k 1) + w m * A m 1) * g 0 + -(TB.sm m (fun k => w k * A k 2) + w m * A m 2) * g 1 + -(TB.sm m (fun k => w k * A k 3) + w m * A m 3) * g 2) = -(TB.sm m (fun k => w k * amF (A k) g) + w m * amF (A m) g)
    rw [e]
    grind
theorem sm_abs {f : Nat → Int} {C : Nat} (m : Nat) (h : ∀ k, k < m → (f k).natAbs ≤ C) : (TB.sm m f).natAbs ≤ m * C := TB.sm_le m h
def BalI (l : Addr) (H G : Hp) (RW WT LT : Addr) (j : Nat) (A : Nat → Nat → Int) (w g : Nat → Int) : Prop := Dr l H G ∧ ∃ vs : List V, vs.length = j ∧ G RW = some (.lst vs) ∧ G WT = some (.lst (ro j w)) ∧ H LT = none ∧ G LT = some (.lst (ro 4 fun b => -(TB.sm j fun k => w k * A k b))) ∧ (∀ k, k < j → ∃ q, vs[k]? = some (.ref q) ∧ q ≠ RW ∧ q ≠ WT ∧ q ≠ LT ∧ G q = some (.lst (ro 4 (A k)))) ∧ ∀ k, k < j → (1 ≤ w k ∧ w k ≤ 4) ∧ amF (A k) g = 0 ∧ ∀ b, b < 4 → (A k b).natAbs ≤ 120
theorem ro_snoc (n : Nat) (f : Nat → Int) (x : Int) : ro n f ++ [V.int x] = ro (n + 1) (upd1 f n x) := by
  rw [show ro (n + 1) (upd1 f n x) = ro n (upd1 f n x) ++ [V.int (upd1 f n x n)] from vl_succ n _, show upd1 f n x n = x from if_pos rfl]
  refine congrArg (· ++ [V.int x]) (ro_congr fun k hk => ?_)
  exact (if_neg (by omega)).symm
theorem upd1_lt {α : Type} {f : Nat → α} {m k : Nat} {x : α} (h : k < m) : upd1 f m x k = f k := if_neg (by omega)
theorem upd1_at {α : Type} {f : Nat → α} {m : Nat} {x : α} : upd1 f m x m = x := if_pos rfl
section
variable {P : Program} {w : World} {K : PySem.W.Frag} {mg : Str → Option Value} {base : Heap} {fd : FuncData}
def spBal (K : PySem.W.Frag) : Sp := fun vs H Q _ => ∃ (l p : Addr) (d0 d1 d2 : Int) (g : Nat → Int), vs = [.ref l, .ref p] ∧ H l = some (draws d0 d1 d2) ∧ p ≠ l ∧ H p = some (.lst (ro 3 g)) ∧ (∀ b, b < 3 → (g b).natAbs ≤ 10) ∧
  ∀ (t a c Lq : Addr) (m : Nat) (A : Nat → Nat → Int) (w : Nat → Int) (H' : Hp), Dr l H H' → H' t = some (.tup [.ref a, .ref c]) → H a = none → H Lq = none → ClX H' a Lq m A → Bal m A w g → Q (.ref t) H'
theorem scBalanced : FnScope ["_law_draws", "_law_point", "_law_rows", "_law_weights", "_law_last", "_law_k", "_law_numbers", "_law_weight", "_law_a", "_law_b"] ["_law_draws", "_law_point"] d_balanced.scope := ⟨rfl, rfl, rfl, by decide +kernel, rfl, by decide +kernel, by decide +kernel⟩
theorem ok_balanced (W : Wd K mg) : ∃ fd, FnOk P w K mg base CX0 3 (He.ga K "_law_balanced") fd ["_law_draws", "_law_point"] (spBal K) ∧ Binds K fd ["_law_draws", "_law_point"] [] := by
  obtain ⟨fd_draw, G_draw, b_draw⟩ := ok_draw (P := P) (w := w) (base := base) W
  have k_draw : PySem.W.keepIn K (.ref (He.ga K "_law_draw")) = true := by obtain ⟨fd, F⟩ := W.F_draw; exact F.kp
  obtain ⟨fd_through, G_through, b_through⟩ := ok_through (P := P) (w := w) (base := base) W
  have k_through : PySem.W.keepIn K (.ref (He.ga K "_law_through")) = true := by obtain ⟨fd, F⟩ := W.F_through; exact F.kp
  obtain ⟨fd, F⟩ := W.F_balanced
  refine ⟨fd, F.ok scBalanced (fun vs H Q E h => ?_) (fun cdv A outer s H vs Q E hr h => ?_), FunD.bindsN F fun _ _ _ _ _ _ us hl => match us, hl with | [_, _], _ => rfl⟩
  · obtain ⟨l, p, _, _, _, _, rfl, _⟩ := h
    rfl
  · obtain ⟨l, p, d0, d1, d2, g, rfl, hl, pl, hp, hg, k⟩ := h
    have r1 : Room 1 _ := hr.mono (by decide)
    have r2 : Room 2 _ := hr.mono (by decide)
    refine ⟨_, PSs.nox (C8.pss_cut (ps_par3 (i := 2) (j := 3) (l := 4) rfl scBalanced.nd rfl rfl rfl (by decide) (by decide) (by decide) rfl rfl rfl (pa_cons (pe_lst pa_nil) (pa_cons (pe_lst pa_nil) (pa_cons (pe_lst (pa_cons pe_int (pa_cons pe_int (pa_cons pe_int (pa_cons pe_int pa_nil))))) pa_nil))) rfl)
    (C8.pss_cut (ps_for PassesOwn.never rfl (pi_range1 rfl W.f_range (pa_cons (pe_op op_add pe_int (pe_call G_draw r1 rfl W.g_law_draw k_draw b_draw .nil pass0 (pa_cons (pv 0) (pa_cons pe_int pa_nil)))) pa_nil)) (pg_name (i := 5) scBalanced.nd rfl (Or.inl rfl)) (C8.pss_cut (ps_asg (pe_tup (pa_cons (pe_call G_through r2 rfl W.g_law_through k_through b_through .nil pass0 (pa_cons (pv 0) (pa_cons (pv 1) (pa_cons pe_int pa_nil)))) (pa_cons (pe_op op_add pe_int (pe_call G_draw r1 rfl W.g_law_draw k_draw b_draw .nil pass0 (pa_cons (pv 0) (pa_cons pe_int pa_nil)))) pa_nil))) (pg_tup rfl (pgs_cons (pg_name (i := 6) scBalanced.nd rfl (Or.inl rfl)) (pgs_cons (pg_name (i := 7) scBalanced.nd rfl (Or.inr rfl)) pgs_nil))))
    (pss_cons (ps_expr (pe_bm PySem.F.plainAttrs_list PySem.F.slot_list_append PySem.F.type_list_append mt_append (pv 2) (pa_cons (pv 6) pa_nil)))
    (pss_cons (ps_expr (pe_bm PySem.F.plainAttrs_list PySem.F.slot_list_append PySem.F.type_list_append mt_append (pv 3) (pa_cons (pv 7) pa_nil)))
    (pss_one (ps_setLc (i := 4) (own := [("_law_a", 8), ("_law_b", 9)]) (g := gTup K 2 (gCons (gName 8) (gCons (gName 9) gNil))) (tt := tYes) (by rfl) scBalanced.nd rfl rfl (sw_true rfl rfl rfl (by decide +kernel)) (RZ.pi_zipA (by rfl) W.f_zip (pa_cons (pv 4) (pa_cons (pv 6) pa_nil))) (blkOk_by (N := ["_law_draws", "_law_point", "_law_rows", "_law_weights", "_law_last", "_law_k", "_law_numbers", "_law_weight", "_law_a", "_law_b"]) (sc := defScope s_balanced) (by decide +kernel))
            (fun _ _ _ _ _ => (pg_tup rfl (pgs_cons (pg_name (i := 8) scBalanced.nd rfl (Or.inl rfl)) (pgs_cons (pg_name (i := 9) scBalanced.nd rfl (Or.inl rfl)) pgs_nil)))) (fun _ _ _ _ _ => pts_nil)
            (fun _ _ _ _ _ => (pe_op op_sub (pv 8) (pe_op op_mulX9 (pv 7) (pv 9))))))))))
    (pss_one (ps_ret (pe_tup (pa_cons (pe_op op_cat (pv 2) (pe_lst (pa_cons (pv 4) pa_nil))) (pa_cons (pe_op op_cat (pv 3) (pe_lst (pa_cons pe_int pa_nil))) pa_nil))))))), ?_⟩
    refine ⟨fun σ' H1 => ∃ RW WT LT, σ' = [some (.ref l), some (.ref p), some (.ref RW), some (.ref WT), some (.ref LT), none, none, none, none, none] ∧ (H RW = none ∧ H WT = none ∧ RW ≠ WT ∧ LT ≠ RW ∧ LT ≠ WT) ∧ BalI l H H1 RW WT LT 0 (fun _ _ => 0) (fun _ => 0) g, ?_, ?_⟩
    · simp -dsimp [tSeq, tAsg, tRet, tIfS, tIf, tTest, tVar, tCons, tNil, tC, tOp, tUn, rI, rI0, rU, tCB, tLst_A, tTup_A, gName, L2.start, CMul, CPow, CDiv, tDrop, tBM, tBM0, tNext, tPar, gSub, rSetL, rIxL, rIxT, tChain, tB, tNot, tNotV, tAnd, tOr, tAndV, tOrV, tFld, tCall, rIxLH, rIxTH, atI, ixN, upd_same, cxK, ex2, ex3, ex3b, rIs1, rIs2, rNe2, tyN, kb1, kb2, kb3, kb4, kb5, kb6, rEq, rNe, scal, tMake_S, tMakeK_S, tMakeN_S, tPar3]
      refine Alloc.of fun RW H1 n1 e1 s1 => Alloc.of fun WT H2 n2 e2 s2 => ⟨by decide, Alloc.of fun LT H3 n3 e3 s3 => ⟨RW, WT, LT, ⟨rfl, rfl, rfl⟩, ⟨n1, none_same s1 n2, (ne_of_none e1 n2), (ne_of_none (s2 _ _ e1) n3).symm, (ne_of_none e2 n3).symm⟩, (Dr.start hl).same ((s1.trans s2).trans s3), [], rfl, (s2.trans s3) _ _ e1, s3 _ _ e2, none_same (s1.trans s2) n3, e3, fun k hk => absurd hk (by omega), fun k hk => absurd hk (by omega)⟩⟩
    rintro σ' H1 ⟨RW, WT, LT, rfl, ⟨nR, nW, RWn, LR, LW⟩, bi⟩
    refine ⟨fun σ' H2 => ∃ LT m A w w5 w6 w7, σ' = [some (.ref l), some (.ref p), some (.ref RW), some (.ref WT), some (.ref LT), w5, w6, w7, none, none] ∧ 1 ≤ m ∧ m ≤ 3 ∧ BalI l H H2 RW WT LT m A w g, ?_, ?_⟩
    · simp -dsimp [tSeq, tAsg, tRet, tIfS, tIf, tTest, tVar, tCons, tNil, tC, tOp, tUn, rI, rI0, rU, tCB, tLst_A, tTup_A, gName, L2.start, CMul, CPow, CDiv, tDrop, tBM, tBM0, tNext, tPar, gSub, rSetL, rIxL, rIxT, tChain, tB, tNot, tNotV, tAnd, tOr, tAndV, tOrV, tFld, tCall, rIxLH, rIxTH, atI, ixN, upd_same, cxK, ex2, ex3, ex3b, rIs1, rIs2, rNe2, tyN, kb1, kb2, kb3, kb4, kb5, kb6, rEq, rNe, scal, tMake_S, tMakeK_S, tMakeN_S, tFor_iR]
      obtain ⟨_, e0, e1, e2, L⟩ := id bi.1
      refine ⟨l, e0, e1, e2, 3, rfl, L, by decide, by decide, fun n f0 f1 f2 n0 n1 => ⟨n, rfl, by omega, by omega, ?_⟩⟩
      have Rl : RW ≠ l := fun e => by rw [e, hl] at nR; cases nR
      have Wl : WT ≠ l := fun e => by rw [e, hl] at nW; cases nW
      unfold ForR
      refine for_range (lo := 0) (n := (1 + n).toNat) (fun j σ' G => ∃ LT A w w5 w6 w7, σ' = [some (.ref l), some (.ref p), some (.ref RW), some (.ref WT), some (.ref LT), w5, w6, w7, none, none] ∧ (LT ≠ RW ∧ LT ≠ WT) ∧ BalI l H G RW WT LT j A w g) ⟨LT, fun _ _ => 0, fun _ => 0, _, _, _, rfl, ⟨LR, LW⟩, ?_⟩ ?_ ?_
      · obtain ⟨d, vs, v1, v2, v3, v4, v5, v6, v7⟩ := bi
        have ll : LT ≠ l := fun e => by rw [e, hl] at v4; cases v4
        refine ⟨d.upd, vs, v1, by rw [upd_ne Rl]; exact v2, by rw [upd_ne Wl]; exact v3, v4, by rw [upd_ne ll]; exact v5, fun k hk => absurd hk (by omega), fun k hk => absurd hk (by omega)⟩
      · rintro j σ' G hj ⟨LT, A, w, w5, w6, w7, rfl, ⟨LR, LW⟩, d, vs, v1, v2, v3, v4, v5, v6, v7⟩
        have hj3 : j < 3 := by omega
        have ll : LT ≠ l := fun e => by rw [e, hl] at v4; cases v4
        obtain ⟨_, g0, g1, g2, L4⟩ := id d
        simp -dsimp [tSeq, tAsg, tRet, tIfS, tIf, tTest, tVar, tCons, tNil, tC, tOp, tUn, rI, rI0, rU, tCB, tLst_A, tTup_A, gName, L2.start, CMul, CPow, CDiv, tDrop, tBM, tBM0, tNext, tPar, gSub, rSetL, rIxL, rIxT, tChain, tB, tNot, tNotV, tAnd, tOr, tAndV, tOrV, tFld, tCall, rIxLH, rIxTH, atI, ixN, upd_same, cxK, ex2, ex3, ex3b, rIs1, rIs2, rNe2, tyN, kb1, kb2, kb3, kb4, kb5, kb6, rEq, rNe, scal, tMake_S, tMakeK_S, tMakeN_S, gName]
        refine ⟨fun σ' G2 => ∃ D B wt, σ' = [some (.ref l), some (.ref p), some (.ref RW), some (.ref WT), some (.ref LT), some (.int (j : Int)), some (.ref D), some (.int wt), none, none] ∧ (1 ≤ wt ∧ wt ≤ 4) ∧ G D = none ∧ Dr l G G2 ∧ G2 D = some (.lst (ro 4 B)) ∧ amF B g = 0 ∧ ∀ b, b < 3 → (B (b + 1)).natAbs ≤ 4, ?_, ?_⟩
        · simp -dsimp [tSeq, tAsg, tRet, tIfS, tIf, tTest, tVar, tCons, tNil, tC, tOp, tUn, rI, rI0, rU, tCB, tLst_A, tTup_A, gName, L2.start, CMul, CPow, CDiv, tDrop, tBM, tBM0, tNext, tPar, gSub, rSetL, rIxL, rIxT, tChain, tB, tNot, tNotV, tAnd, tOr, tAndV, tOrV, tFld, tCall, rIxLH, rIxTH, atI, ixN, upd_same, cxK, ex2, ex3, ex3b, rIs1, rIs2, rNe2, tyN, kb1, kb2, kb3, kb4, kb5, kb6, rEq, rNe, scal, tMake_S, tMakeK_S, tMakeN_S]
          refine ⟨l, p, g0, g1, g2, 4, g, rfl, L4, pl, d.1 _ _ pl hp, by decide, by decide, fun b hb => Nat.lt_of_le_of_lt (hg b hb) (by decide), fun D B G2 nD d2 hD am hB => ?_⟩
          obtain ⟨_, k0, k1, k2, L5⟩ := id d2
          refine ⟨l, k0, k1, k2, 4, rfl, L5, by decide, by decide, fun x y0 y1 y2 x0 x1 => ⟨x, rfl, by decide, Alloc.of fun t G4 n4 e4 s4 => ?_⟩⟩
          have Dl : D ≠ l := fun e => by rw [e, L4] at nD; cases nD
          refine tup2n e4 ⟨D, B, 1 + x, rfl, ⟨by omega, by omega⟩, nD, (d2.upd).same s4, s4 _ _ ?_, am, hB⟩
          rw [upd_ne Dl]
          exact hD
        rintro σ' G2 ⟨D, B, wt, rfl, hwt, nD, d2, hD, am, hB⟩
        have keep : ∀ {q : Addr} {o : HO}, q ≠ l → G q = some o → G2 q = some o := fun n e => d2.1 _ _ n e
        have DR : D ≠ RW := (ne_of_none v2 nD).symm
        have DW : D ≠ WT := (ne_of_none v3 nD).symm
        have DL : D ≠ LT := (ne_of_none v5 nD).symm
        simp -dsimp [tSeq, tAsg, tRet, tIfS, tIf, tTest, tVar, tCons, tNil, tC, tOp, tUn, rI, rI0, rU, tCB, tLst_A, tTup_A, gName, L2.start, CMul, CPow, CDiv, tDrop, tBM, tBM0, tNext, tPar, gSub, rSetL, rIxL, rIxT, tChain, tB, tNot, tNotV, tAnd, tOr, tAndV, tOrV, tFld, tCall, rIxLH, rIxTH, atI, ixN, upd_same, cxK, ex2, ex3, ex3b, rIs1, rIs2, rNe2, tyN, kb1, kb2, kb3, kb4, kb5, kb6, rEq, rNe, scal, tMake_S, tMakeK_S, tMakeN_S]
        have Dl : D ≠ l := fun e => by rw [e, L4] at nD; cases nD
        have hR2 := keep Rl v2
        have hW2 := keep Wl v3
        refine ⟨.inl ⟨rfl, _, SqL.of hR2⟩, RW, vs, _, rfl, rfl, hR2, small1000 (by omega), ?_⟩
        have uR : ∀ {q : Addr} {o : HO}, q ≠ RW → G2 q = some o → upd G2 RW (.lst (vs ++ [V.ref D])) q = some o := fun n e => by
          rw [upd_ne n]
          exact e
        have hW3 := uR RWn.symm hW2
        refine ⟨.inl ⟨rfl, _, SqL.of hW3⟩, WT, ro j w, _, rfl, rfl, hW3, by rw [vl_len]; exact small1000 (by omega), ?_⟩
        rw [ro_snoc]
        have uW : ∀ {q : Addr} {o : HO}, q ≠ RW → q ≠ WT → G2 q = some o → upd (upd G2 RW (.lst (vs ++ [V.ref D]))) WT (.lst (ro (j + 1) (upd1 w j wt))) q = some o := fun n m e => by
          rw [upd_ne m, upd_ne n]
          exact e
        have hL4 := uW LR LW (keep ll v5)
        have hD4 := uW DR DW hD
        have hR4 : upd (upd G2 RW (.lst (vs ++ [V.ref D]))) WT (.lst (ro (j + 1) (upd1 w j wt))) RW = some (.lst (vs ++ [V.ref D])) := by
          rw [upd_ne RWn, upd_same]
        have hW4 : upd (upd G2 RW (.lst (vs ++ [V.ref D]))) WT (.lst (ro (j + 1) (upd1 w j wt))) WT = some (.lst (ro (j + 1) (upd1 w j wt))) := upd_same
        have d4 : Dr l H (upd (upd G2 RW (.lst (vs ++ [V.ref D]))) WT (.lst (ro (j + 1) (upd1 w j wt)))) := by
          obtain ⟨h1, h0, h2, h3, h4⟩ := d.trans d2
          refine ⟨fun b o n e => ?_, h0, h2, h3, ?_⟩
          · rw [upd_ne (ne_of_none e nW), upd_ne (ne_of_none e nR)]
            exact h1 b o n e
          · rw [upd_ne Wl.symm, upd_ne Rl.symm]
            exact h4
        have kq : ∀ k, k < j → ∃ q, vs[k]? = some (.ref q) ∧ q ≠ RW ∧ q ≠ WT ∧ upd (upd G2 RW (.lst (vs ++ [V.ref D]))) WT (.lst (ro (j + 1) (upd1 w j wt))) q = some (.lst (ro 4 (A k))) := fun k hk => by
          obtain ⟨q, q1, q2, q3, q4, q5⟩ := v6 k hk
          have ql : q ≠ l := fun e => by rw [e, L4] at q5; exact ro4_ne (Option.some.inj q5).symm
          exact ⟨q, q1, q2, q3, uW q2 q3 (keep ql q5)⟩
        generalize upd (upd G2 RW (.lst (vs ++ [V.ref D]))) WT (.lst (ro (j + 1) (upd1 w j wt))) = G4 at hL4 hD4 hR4 hW4 d4 kq
        have b4 : ∀ b, b < 4 → (B b).natAbs ≤ 120 := fun b hb => by
          cases b with
          | succ b => exact Nat.le_trans (hB b (by omega)) (by decide)
          | zero =>
            rw [amF_eq] at am
            have h0 := hB 0 (by decide)
            have h1 := hB 1 (by decide)
            have h2 := hB 2 (by decide)
            have g0 := hg 0 (by decide)
            have g1 := hg 1 (by decide)
            have g2 := hg 2 (by decide)
            have m0 : (B 1 * g 0).natAbs ≤ 4 * 10 := by rw [Int.natAbs_mul]; exact Nat.mul_le_mul h0 g0
            have m1 : (B 2 * g 1).natAbs ≤ 4 * 10 := by rw [Int.natAbs_mul]; exact Nat.mul_le_mul h1 g1
            have m2 : (B 3 * g 2).natAbs ≤ 4 * 10 := by rw [Int.natAbs_mul]; exact Nat.mul_le_mul h2 g2
            omega
        have big : ∀ {y : Nat}, y ≤ 5000 → y < bigM := fun h => h_lt_M (h_of (Nat.lt_of_le_of_lt h (by decide)))
        refine lc_vlZ (K := K) LT D _ _ (fun b => .int (-(TB.sm (j + 1) fun k => upd1 w j wt k * upd1 A j B k b))) (by rw [vl_len, vl_len]) (by rw [vl_len]; decide) (fun _ _ => rfl) hL4 hD4 (fun R h => ⟨_, rfl, _, rfl, h⟩) (fun b x y G5 R hx hy s5 k5 => ?_) (fun L' G5 nL s5 h5 => ?_)
        · obtain ⟨hb, hx⟩ := vl_at hx
          obtain ⟨_, hy⟩ := vl_at hy
          subst hx hy
          simp -dsimp [tSeq, tAsg, tRet, tIfS, tIf, tTest, tVar, tCons, tNil, tC, tOp, tUn, rI, rI0, rU, tCB, tLst_A, tTup_A, gName, L2.start, CMul, CPow, CDiv, tDrop, tBM, tBM0, tNext, tPar, gSub, rSetL, rIxL, rIxT, tChain, tB, tNot, tNotV, tAnd, tOr, tAndV, tOrV, tFld, tCall, rIxLH, rIxTH, atI, ixN, upd_same, cxK, ex2, ex3, ex3b, rIs1, rIs2, rNe2, tyN, kb1, kb2, kb3, kb4, kb5, kb6, rEq, rNe, scal, tMake_S, tMakeK_S, tMakeN_S, wipe]
          refine ⟨⟨big (by omega), big (Nat.le_trans (b4 b hb) (by decide))⟩, ?_⟩
          have e : -(TB.sm j fun k => w k * A k b) - wt * B b = -(TB.sm (j + 1) fun k => upd1 w j wt k * upd1 A j B k b) := by
            show _ = -(TB.sm j (fun k => upd1 w j wt k * upd1 A j B k b) + upd1 w j wt j * upd1 A j B j b)
            rw [upd1_at, upd1_at, TB.sm_congr (f := fun k => upd1 w j wt k * upd1 A j B k b) (g := fun k => w k * A k b) j fun k hk => by rw [upd1_lt hk, upd1_lt hk]]
            omega
          have k6 := k5 _ (Same.refl _)
          rw [← e] at k6
          exact k6
        · rw [vl_len] at h5
          have nLH : H L' = none := by
            cases e : H L' with
            | none => rfl
            | some o =>
              by_cases x : L' = l
              · obtain ⟨_, h0, h2, h3, h4⟩ := d4
                rw [x, h4] at nL
                cases nL
              · rw [d4.1 _ _ x e] at nL
                cases nL
          refine ⟨L', rfl, ⟨(fun e => by rw [e, hR4] at nL; cases nL), (fun e => by rw [e, hW4] at nL; cases nL)⟩, upd1 A j B, upd1 w j wt, d4.same s5, vs ++ [V.ref D], by rw [List.length_append, v1]; rfl, s5 _ _ hR4, s5 _ _ hW4, nLH, h5, fun k hk => ?_, fun k hk => ?_⟩
          · by_cases e : k = j
            · subst e
              refine ⟨D, by rw [List.getElem?_append_right (by omega), v1, Nat.sub_self]; rfl, DR, DW, (ne_of_none hD4 nL), by rw [upd1_at]; exact s5 _ _ hD4⟩
            · obtain ⟨q, q1, q2, q3, q5⟩ := kq k (by omega)
              refine ⟨q, by rw [List.getElem?_append_left (by omega)]; exact q1, q2, q3, (ne_of_none q5 nL), by rw [upd1_lt (by omega)]; exact s5 _ _ q5⟩
          · by_cases e : k = j
            · subst e
              rw [upd1_at, upd1_at]
              exact ⟨hwt, am, b4⟩
            · rw [upd1_lt (by omega), upd1_lt (by omega)]
              exact v7 k (by omega)
      · rintro σ' G ⟨LT, A, w, w5, w6, w7, rfl, _, bi⟩
        exact ⟨LT, ⟨_, _, _, rfl⟩, _, by omega, by omega, A, w, bi⟩
    rintro σ' H2 ⟨LT, m, A, w, w5, w6, w7, rfl, m1, m3, bi⟩
    simp -dsimp [tSeq, tAsg, tRet, tIfS, tIf, tTest, tVar, tCons, tNil, tC, tOp, tUn, rI, rI0, rU, tCB, tLst_A, tTup_A, gName, L2.start, CMul, CPow, CDiv, tDrop, tBM, tBM0, tNext, tPar, gSub, rSetL, rIxL, rIxT, tChain, tB, tNot, tNotV, tAnd, tOr, tAndV, tOrV, tFld, tCall, rIxLH, rIxTH, atI, ixN, upd_same, cxK, ex2, ex3, ex3b, rIs1, rIs2, rNe2, tyN, kb1, kb2, kb3, kb4, kb5, kb6, rEq, rNe, scal, tMake_S, tMakeK_S, tMakeN_S]
    obtain ⟨d, vs, v1, v2, v3, v4, v5, v6, v7⟩ := bi
    refine ⟨by decide, Alloc.of fun l1 I1 n1 e1 s1 => ⟨RW, l1, vs, _, rfl, rfl, s1 _ _ v2, e1, by show vs.length + 1 ≤ sizeLine; exact Nat.le_of_lt (small1000 (by omega)), fun a na => ⟨by decide, Alloc.of fun l2 I3 n3 e3 s3 => ?_⟩⟩⟩
    have ta := same_upd (o := HO.lst (vs ++ [V.ref LT])) na
    have s13 := (s1.trans ta).trans s3
    refine ⟨WT, l2, ro m w, _, rfl, rfl, s13 _ _ v3, e3, by rw [vl_len]; show m + 1 ≤ sizeLine; exact Nat.le_of_lt (small1000 (by omega)), fun c nc => ⟨by decide, Alloc.of fun t I5 n5 e5 s5 => ?_⟩⟩
    rw [ro_snoc] at *
    have tc := same_upd (o := HO.lst (ro (m + 1) (upd1 w m 1))) nc
    have s15 := (s13.trans tc).trans s5
    have sa := (s3.trans tc).trans s5
    have naH : H a = none := by
      cases e : H a with
      | none => rfl
      | some o =>
        have d1 := d.same s1
        by_cases x : a = l
        · obtain ⟨_, h0, h2, h3, h4⟩ := d1
          rw [x, h4] at na
          cases na
        · rw [d1.1 _ _ x e] at na
          cases na
    refine k t a c LT m (upd1 A m fun b => -(TB.sm m fun k => w k * A k b)) (upd1 w m 1) I5 (d.same s15) e5 naH v4 ⟨vs, v1, sa _ _ upd_same, by rw [upd1_at]; exact s15 _ _ v5, fun k hk => ?_⟩ ⟨m1, m3, fun k hk => by rw [upd1_lt hk]; exact (v7 k hk).1, upd1_at, fun k hk => ?_, fun b hb => ?_, fun k b hk hb => by rw [upd1_lt hk]; exact (v7 k hk).2.2 b hb, fun b hb => ?_⟩
    · obtain ⟨q, q1, q2, q3, q4, q5⟩ := v6 k hk
      exact ⟨q, q1, q4, by rw [upd1_lt hk]; exact s15 _ _ q5⟩
    · by_cases e : k = m
      · subst e
        rw [upd1_at, amF_lin, TB.sm_congr (g := fun _ => 0) k fun i hi => by rw [(v7 i hi).2.1, Int.mul_zero], sm_zero]
        rfl
      · rw [upd1_lt (by omega)]
        exact (v7 k (by omega)).2.1
    · show TB.sm m (fun k => upd1 w m 1 k * upd1 A m (fun b => -(TB.sm m fun k => w k * A k b)) k b) + upd1 w m 1 m * upd1 A m (fun b => -(TB.sm m fun k => w k * A k b)) m b = 0
      rw [upd1_at, upd1_at, TB.sm_congr (f := fun k => upd1 w m 1 k * upd1 A m (fun b => -(TB.sm m fun k => w k * A k b)) k b) (g := fun k => w k * A k b) m fun k hk => by rw [upd1_lt hk, upd1_lt hk]]
      omega
    · rw [upd1_at, Int.natAbs_neg]
      have h := sm_abs (f := fun k => w k * A k b) (C := 4 * 120) m fun k hk => by
        obtain ⟨⟨h1, h2⟩, _, h3⟩ := v7 k hk
        show (w k * A k b).natAbs ≤ 4 * 120
        rw [Int.natAbs_mul]
        exact Nat.mul_le_mul (by omega) (h3 b hb)
      have : m * (4 * 120) ≤ 3 * (4 * 120) := Nat.mul_le_mul_right _ m3
      omega

def spZer (K : PySem.W.Frag) : Sp := fun vs H Q _ => ∃ (t a z0 z1 z2 : Addr) (m : Nat) (A : Nat → Nat → Int) (x : Nat → Int), vs = [.ref t, .ref a] ∧ H t = some (.tup [.ref z0, .ref z1, .ref z2]) ∧ IsS K H z0 (lo (x 1) (x 0)) ∧ IsS K H z1 (lo (x 2) (x 0)) ∧ IsS K H z2 (lo (x 3) (x 0)) ∧ (∀ k, k < 4 → (x k).natAbs < 10 ^ 38) ∧ 0 < x 0 ∧ Cl H a m 4 A ∧ m < 800 ∧ (∀ k b, k < m → b < 4 → (A k b).natAbs < 10 ^ 8) ∧ (∀ k, k < m → TB.dotV 4 (A k) x = 0) ∧
  ∀ H', Same H H' → Q (.bl true) H'
theorem scZeros : FnScope ["_law_point", "_law_rows", "_law_numbers", "_law_amount", "_law_number", "_law_here"] ["_law_point", "_law_rows"] d_zeros.scope := ⟨rfl, rfl, rfl, by decide +kernel, rfl, by decide +kernel, by decide +kernel⟩
theorem ok_zeros (W : Wd K mg) : ∃ fd, FnOk P w K mg base CX0 3 (He.ga K "_law_zeros") fd ["_law_point", "_law_rows"] (spZer K) ∧ Binds K fd ["_law_point", "_law_rows"] [] := by
  obtain ⟨fd_sum, G_sum, b_sum⟩ := ok_sum (P := P) (w := w) (base := base) W
  have k_sum : PySem.W.keepIn K (.ref (He.ga K "_law_sum")) = true := by obtain ⟨fd, F⟩ := W.F_sum; exact F.kp
  obtain ⟨fd, F⟩ := W.F_zeros
  refine ⟨fd, F.ok scZeros (fun vs H Q E h => ?_) (fun cdv A outer s H vs Q E hr h => ?_), FunD.bindsN F fun _ _ _ _ _ _ us hl => match us, hl with | [_, _], _ => rfl⟩
  · obtain ⟨t, a, _, _, _, _, _, _, rfl, _⟩ := h
    rfl
  · obtain ⟨t, a, z0, z1, z2, m, A, x, rfl, ht, i0, i1, i2, hx, x0, hR, hm, hA, hH, q⟩ := h
    have r1 : Room 1 _ := hr.mono (by decide)
    have r2 : Room 2 _ := hr.mono (by decide)
    refine ⟨_, PSs.nox (C8.pss_cut (ps_for PassesOwn.never rfl (pi_list (pv 1)) (pg_name (i := 2) scZeros.nd rfl (Or.inl rfl)) (pss_cons (ps_set (i := 3) scZeros.nd rfl (Or.inl rfl) (pe_tup (pa_cons (pe_ix ix_lstH (pv 2) pe_int (fun _ _ => rfl)) (pa_cons pe_int pa_nil))))
    (C8.pss_cut (ps_for PassesOwn.never rfl (ZlY.pi_zipM (by rfl) W.f_zip (pa_cons (pe_slice sl_list (pv 2) (po_some pe_int) po_none) (pa_cons (pv 0) pa_nil))) (pg_tup rfl (pgs_cons (pg_name (i := 4) scZeros.nd rfl (Or.inl rfl)) (pgs_cons (pg_name (i := 5) scZeros.nd rfl (Or.inl rfl)) pgs_nil))) (pss_one (ps_set (i := 3) scZeros.nd rfl (Or.inl rfl) (pe_call G_sum r2 rfl W.g_law_sum k_sum b_sum .nil pass0 (pa_cons (pv 3) (pa_cons (pe_tup (pa_cons (pe_op op_mulX9 (pv 4) (pe_fld (pv 5) rfl)) (pa_cons (pe_fld (pv 5) rfl) pa_nil))) pa_nil))))))
    (pss_one (ps_if (pt_cmpR op_ne (pe_ix ix_tupH (pv 3) pe_int (fun _ _ => rfl)) pe_int (nomark _)) (pss_one (ps_ret pe_bl)) pss_nil)))))
    (pss_one (ps_ret pe_bl))), ?_⟩
    refine ⟨fun σ' H2 => ∃ w2 w3 w4 w5, σ' = [some (.ref t), some (.ref a), w2, w3, w4, w5] ∧ Same H H2, ?_, ?_⟩
    · obtain ⟨vs, hvl, ha, hrow⟩ := id hR
      simp -dsimp [tSeq, tAsg, tRet, tIfS, tIf, tTest, tVar, tCons, tNil, tC, tOp, tUn, rI, rI0, rU, tCB, tLst_A, tTup_A, gName, L2.start, CMul, CPow, CDiv, tDrop, tBM, tBM0, tNext, tPar, gSub, rSetL, rIxL, rIxT, tChain, tB, tNot, tNotV, tAnd, tOr, tAndV, tOrV, tFld, tCall, rIxLH, rIxTH, atI, ixN, upd_same, cxK, ex2, ex3, ex3b, rIs1, rIs2, rNe2, tyN, kb1, kb2, kb3, kb4, kb5, kb6, rEq, rNe, scal, tMake_S, tMakeK_S, tMakeN_S, tFor_iL]
      refine ⟨⟨_, SqL.of ha⟩, ?_⟩
      unfold ForW
      refine for_list (K := K) (a := a) (xs := vs) (fun i σ' G => ∃ w2 w3 w4 w5, σ' = [some (.ref t), some (.ref a), w2, w3, w4, w5] ∧ Same H G) ⟨_, _, _, _, rfl, Same.refl _⟩ (fun i σ' G _ h => ?_) ?_ ?_
      · obtain ⟨_, _, _, _, _, s⟩ := h
        exact SqL.of (s _ _ ha)
      · rintro i y σ' G hx' ⟨w2, w3, w4, w5, rfl, sG⟩
        have hi : i < m := by have := (List.getElem?_eq_some_iff.mp hx').1; omega
        obtain ⟨qq, e3, e5⟩ := hrow i hi
        rw [e3] at hx'
        cases hx'
        have en := ixK (vl_get (n := 4) (g := fun b => V.int (A i b)) (show 0 < 4 by decide))
        simp -dsimp [tSeq, tAsg, tRet, tIfS, tIf, tTest, tVar, tCons, tNil, tC, tOp, tUn, rI, rI0, rU, tCB, tLst_A, tTup_A, gName, L2.start, CMul, CPow, CDiv, tDrop, tBM, tBM0, tNext, tPar, gSub, rSetL, rIxL, rIxT, tChain, tB, tNot, tNotV, tAnd, tOr, tAndV, tOrV, tFld, tCall, rIxLH, rIxTH, atI, ixN, upd_same, cxK, ex2, ex3, ex3b, rIs1, rIs2, rNe2, tyN, kb1, kb2, kb3, kb4, kb5, kb6, rEq, rNe, scal, tMake_S, tMakeK_S, tMakeN_S, gName, sG _ _ e5, en]
        refine ⟨by decide, Alloc.of fun am H2 n2 e2 s2 => ?_⟩
        have s02 := sG.trans s2
        refine ⟨fun σ' H3 => ∃ (am : Addr) (w4 w5 : Option V), σ' = [some (.ref t), some (.ref a), some (.ref qq), some (.ref am), w4, w5] ∧ Same H H3 ∧ AmOk H3 am (x 0) (TB.dotV 4 (A i) x) 375, ?_, ?_⟩
        · simp -dsimp [tSeq, tAsg, tRet, tIfS, tIf, tTest, tVar, tCons, tNil, tC, tOp, tUn, rI, rI0, rU, tCB, tLst_A, tTup_A, gName, L2.start, CMul, CPow, CDiv, tDrop, tBM, tBM0, tNext, tPar, gSub, rSetL, rIxL, rIxT, tChain, tB, tNot, tNotV, tAnd, tOr, tAndV, tOrV, tFld, tCall, rIxLH, rIxTH, atI, ixN, upd_same, cxK, ex2, ex3, ex3b, rIs1, rIs2, rNe2, tyN, kb1, kb2, kb3, kb4, kb5, kb6, rEq, rNe, scal, tMake_S, tMakeK_S, tMakeN_S, tFor_iY]
          refine ⟨_, rfl, 1, rfl, qq, _, rfl, SqL.of (s02 _ _ e5), fun S nS => ?_⟩
          rw [cut_one _ (by rw [vl_len]; decide), ro_drop 3 (A i)]
          have sS := same_upd (o := HO.lst (ro 3 fun k => A i (k + 1))) nS
          have s03 := s02.trans sS
          refine ⟨S, t, ⟨rfl, rfl⟩, ⟨_, SqL.of upd_same⟩, ⟨_, SqT.of (s03 _ _ ht)⟩, ?_⟩
          unfold ForY
          refine for_it (ZlY.walkM (K := K) (a := S) (b := t) (xs := ro 3 fun k => A i (k + 1)) (ys := [.ref z0, .ref z1, .ref z2])) (fun j σ' G => ∃ (am : Addr) (w4 w5 : Option V), σ' = [some (.ref t), some (.ref a), some (.ref qq), some (.ref am), w4, w5] ∧ Same (upd H2 S (HO.lst (ro 3 fun k => A i (k + 1)))) G ∧ AmOk G am (x 0) (TB.dotV (j + 1) (A i) x) (nd j)) ⟨am, _, _, rfl, Same.refl _, (A i 0, 1), sS _ _ e2, (by decide : (0 : Int) < 1), by show A i 0 * x 0 = (0 + A i 0 * x 0) * 1; omega, Nat.lt_of_lt_of_le (hA i 0 hi (by decide)) (by decide), (by decide : 1 < 10 ^ 46)⟩ (fun j σ' G _ h => ?_) ?_ ?_
          · obtain ⟨_, _, _, _, s, _⟩ := h
            exact ⟨SqL.of (s _ _ upd_same), SqT.of (s _ _ (s03 _ _ ht))⟩
          · rintro j y σ' G2 G3 hj ⟨am, w4, w5, rfl, sG2, f, ham, f2, fe, b1, b2⟩ ⟨T, u, v, rfl, nT, rfl, eu, ev⟩
            obtain ⟨hj3, eu⟩ := vl_at (show (ro 3 fun k => A i (k + 1))[j]? = some u from eu)
            subst eu
            have hz : ∃ (zz : Addr), v = .ref zz ∧ IsS K H zz (lo (x (j + 1)) (x 0)) := by
              match j, hj3, ev with
              | 0, _, ev => cases ev; exact ⟨_, rfl, i0⟩
              | 1, _, ev => cases ev; exact ⟨_, rfl, i1⟩
              | 2, _, ev => cases ev; exact ⟨_, rfl, i2⟩
            obtain ⟨zz, rfl, dz, hzz⟩ := hz
            refine tup2n upd_same ?_
            have sT : Same G2 (upd G2 T (HO.tup [V.int (A i (j + 1)), V.ref zz])) := same_upd nT
            have sa := (s03.trans sG2).trans sT
            simp -dsimp [tSeq, tAsg, tRet, tIfS, tIf, tTest, tVar, tCons, tNil, tC, tOp, tUn, rI, rI0, rU, tCB, tLst_A, tTup_A, gName, L2.start, CMul, CPow, CDiv, tDrop, tBM, tBM0, tNext, tPar, gSub, rSetL, rIxL, rIxT, tChain, tB, tNot, tNotV, tAnd, tOr, tAndV, tOrV, tFld, tCall, rIxLH, rIxTH, atI, ixN, upd_same, cxK, ex2, ex3, ex3b, rIs1, rIs2, rNe2, tyN, kb1, kb2, kb3, kb4, kb5, kb6, rEq, rNe, scal, tMake_S, tMakeK_S, tMakeN_S, sa _ _ hzz, shareO, W.cls_Share, W.n_Share_top, W.n_Share_bottom, look_top, look_bot]
            have hx0 := hx 0 (by decide)
            have hxj := hx (j + 1) (by omega)
            have c2 : 0 < (lo (x (j + 1)) (x 0)).2 := (low_lo (x := x (j + 1)) (show x 0 ≠ 0 by omega)).1
            have gl := lo_gd (n := 38) (x := x (j + 1)) (y := x 0) (by omega) hxj hx0
            have gA := hA i (j + 1) hi (by omega)
            have nj : 46 ≤ nd j ∧ nd j ≤ 187 := by
              match j, hj3 with
              | 0, _ => decide
              | 1, _ => decide
              | 2, _ => decide
            have p46 : 10 ^ 46 ≤ 10 ^ nd j := Nat.pow_le_pow_right (by decide) nj.1
            have m46 : (A i (j + 1) * (lo (x (j + 1)) (x 0)).1).natAbs < 10 ^ nd j := by
              rw [Int.natAbs_mul]
              exact Nat.lt_of_lt_of_le (Nat.mul_lt_mul'' gA gl.n1) p46
            have m38 : (lo (x (j + 1)) (x 0)).2.natAbs < 10 ^ nd j := Nat.lt_of_lt_of_le (Nat.lt_trans gl.n2 (by decide : 10 ^ 38 < 10 ^ 46)) p46
            have big : ∀ {y : Nat}, y < 10 ^ 38 → y < bigM := fun h => h_lt_M (h_of (Nat.lt_trans h (by decide)))
            refine ⟨⟨big (Nat.lt_trans gA (by decide)), big gl.n1⟩, by decide, Alloc.of fun tq H5 n5 e5' s5 => ?_⟩
            refine ⟨am, tq, f, (A i (j + 1) * (lo (x (j + 1)) (x 0)).1, (lo (x (j + 1)) (x 0)).2), rfl, (sT.trans s5) _ _ ham, e5', by omega, by show (lo (x (j + 1)) (x 0)).2 ≠ 0; omega, ⟨nd j, by omega, b1, b2, m46, m38⟩, fun r' H6 s6 hr => ?_⟩
            obtain ⟨g1, g2⟩ := pAdd_sum (a := A i (j + 1)) (x1 := x (j + 1)) f2 fe x0
            have g3 := pAdd_abs (q := (A i (j + 1) * (lo (x (j + 1)) (x 0)).1, (lo (x (j + 1)) (x 0)).2)) (Int.mul_ne_zero (by omega) (by show (lo (x (j + 1)) (x 0)).2 ≠ 0; omega)) b1 b2 m46 m38
            exact ⟨r', rfl, ((sG2.trans sT).trans s5).trans s6, _, hr, g1, g2, g3⟩
          · rintro σ' G2 ⟨am, w4, w5, rfl, sG2, ok⟩
            exact ⟨am, ⟨_, _, rfl⟩, s03.trans sG2, ok⟩
        rintro σ' H3 ⟨am, w4, w5, rfl, s3, f, ham, f2, fe, _⟩
        simp -dsimp [tSeq, tAsg, tRet, tIfS, tIf, tTest, tVar, tCons, tNil, tC, tOp, tUn, rI, rI0, rU, tCB, tLst_A, tTup_A, gName, L2.start, CMul, CPow, CDiv, tDrop, tBM, tBM0, tNext, tPar, gSub, rSetL, rIxL, rIxT, tChain, tB, tNot, tNotV, tAnd, tOr, tAndV, tOrV, tFld, tCall, rIxLH, rIxTH, atI, ixN, upd_same, cxK, ex2, ex3, ex3b, rIs1, rIs2, rNe2, tyN, kb1, kb2, kb3, kb4, kb5, kb6, rEq, rNe, scal, tMake_S, tMakeK_S, tMakeN_S, ham]
        have f1 : f.1 = 0 := by
          rw [hH i hi, Int.zero_mul] at fe
          rcases Int.mul_eq_zero.mp fe with e | e
          · exact e
          · omega
        exact .inl ⟨f1, s3⟩
      · rintro σ' G ⟨w2, w3, w4, w5, rfl, sG⟩
        exact ⟨⟨_, _, _, _, rfl⟩, sG⟩
    rintro σ' H2 ⟨w2, w3, w4, w5, rfl, s2⟩
    simp -dsimp [tSeq, tAsg, tRet, tIfS, tIf, tTest, tVar, tCons, tNil, tC, tOp, tUn, rI, rI0, rU, tCB, tLst_A, tTup_A, gName, L2.start, CMul, CPow, CDiv, tDrop, tBM, tBM0, tNext, tPar, gSub, rSetL, rIxL, rIxT, tChain, tB, tNot, tNotV, tAnd, tOr, tAndV, tOrV, tFld, tCall, rIxLH, rIxTH, atI, ixN, upd_same, cxK, ex2, ex3, ex3b, rIs1, rIs2, rNe2, tyN, kb1, kb2, kb3, kb4, kb5, kb6, rEq, rNe, scal, tMake_S, tMakeK_S, tMakeN_S]
    exact q H2 s2

end
theorem hold_pr {A : Nat → Nat → Int} {st : Nat → Bool} {m : Nat} {x : Nat → Int} : Holds (prG A) st m x ↔ Holds A st m x := by
  constructor
  · rintro ⟨h0, h⟩
    refine ⟨h0, fun k hk => ?_⟩
    obtain ⟨g, g0, e⟩ := dot_pr (A := A) (k := k) (x := x)
    obtain ⟨h1, h2⟩ := h k hk
    rw [e]
    exact ⟨Int.mul_nonneg (Int.le_of_lt g0) h1, fun s => Int.mul_pos g0 (h2 s)⟩
  · rintro ⟨h0, h⟩
    refine ⟨h0, fun k hk => ?_⟩
    obtain ⟨g, g0, e⟩ := dot_pr (A := A) (k := k) (x := x)
    obtain ⟨h1, h2⟩ := h k hk
    rw [e] at h1 h2
    refine ⟨Int.not_lt.mp fun l => ?_, fun s => Int.not_le.mp fun l => ?_⟩
    · have := Int.mul_neg_of_pos_of_neg g0 l
      omega
    · have := Int.mul_nonpos_of_nonneg_of_nonpos (Int.le_of_lt g0) l
      have := h2 s
      omega
/-- the last row moved by d -/
def Adj (m : Nat) (A A' : Nat → Nat → Int) (d : Int) : Prop := (∀ k, k < m → A' k = A k) ∧ (∀ b, 0 < b → A' m b = A m b) ∧ A' m 0 = A m 0 + d
theorem adj_dot {m : Nat} {A A' : Nat → Nat → Int} {d : Int} (h : Adj m A A' d) (x : Nat → Int) : TB.dotV 4 (A' m) x = TB.dotV 4 (A m) x + d * x 0 := by
  rw [dot4, dot4, h.2.1 1 (by decide), h.2.1 2 (by decide), h.2.1 3 (by decide), h.2.2]
  grind
theorem bal_dot {m : Nat} {A : Nat → Nat → Int} {w g : Nat → Int} (B : Bal m A w g) (x : Nat → Int) : TB.sm (m + 1) (fun k => w k * TB.dotV 4 (A k) x) = 0 := by
  have e1 : ∀ k, w k * TB.dotV 4 (A k) x = w k * A k 0 * x 0 + (w k * A k 1 * x 1 + (w k * A k 2 * x 2 + w k * A k 3 * x 3)) := fun k => by
    rw [dot4]
    grind
  rw [TB.sm_congr (m + 1) fun k _ => e1 k, sm_add, sm_add, sm_add]
  have mul : ∀ b, TB.sm (m + 1) (fun k => w k * A k b * x b) = TB.sm (m + 1) (fun k => w k * A k b) * x b := fun b => by
    rw [Int.mul_comm, ← TB.sm_mul]
    exact TB.sm_congr (m + 1) fun k _ => Int.mul_comm _ _
  rw [mul, mul, mul, mul, B.sum 0 (by decide), B.sum 1 (by decide), B.sum 2 (by decide), B.sum 3 (by decide)]
  omega
theorem adj_sum {m : Nat} {A A' : Nat → Nat → Int} {w g : Nat → Int} {d : Int} (B : Bal m A w g) (h : Adj m A A' d) (x : Nat → Int) : TB.sm (m + 1) (fun k => w k * TB.dotV 4 (A' k) x) = d * x 0 := by
  have e := bal_dot B x
  have e : TB.sm m (fun k => w k * TB.dotV 4 (A k) x) + w m * TB.dotV 4 (A m) x = 0 := e
  show TB.sm m (fun k => w k * TB.dotV 4 (A' k) x) + w m * TB.dotV 4 (A' m) x = d * x 0
  rw [adj_dot h, TB.sm_congr (f := fun k => w k * TB.dotV 4 (A' k) x) (g := fun k => w k * TB.dotV 4 (A k) x) m fun k hk => by rw [h.1 k hk], B.one] at *
  omega
theorem Bal.w0 {m : Nat} {A : Nat → Nat → Int} {w g : Nat → Int} (B : Bal m A w g) {k : Nat} (hk : k < m + 1) : 0 < w k := by
  by_cases e : k = m
  · rw [e, B.one]
    decide
  · have := (B.pos k (by omega)).1
    omega
theorem no_point {m : Nat} {A A' : Nat → Nat → Int} {w g : Nat → Int} {d : Int} {st : Nat → Bool} {x : Nat → Int} (B : Bal m A w g) (h : Adj m A A' d) (H : Holds A' st (m + 1) x) : 0 ≤ d ∧ (d = 0 → ∀ k, k < m + 1 → st k = false ∧ TB.dotV 4 (A' k) x = 0) := by
  have e := adj_sum B h x
  have nn : ∀ k, k < m + 1 → 0 ≤ w k * TB.dotV 4 (A' k) x := fun k hk => Int.mul_nonneg (Int.le_of_lt (B.w0 hk)) (H.2 k hk).1
  have x0 := H.1
  refine ⟨Int.not_lt.mp fun l => ?_, fun d0 k hk => ?_⟩
  · have := sm_le (m + 1) nn
    have := Int.mul_neg_of_neg_of_pos l x0
    omega
  · have z : TB.dotV 4 (A' k) x = 0 := by
      rcases Int.lt_or_le 0 (TB.dotV 4 (A' k) x) with l | l
      · have := sm_pos (m + 1) hk nn (Int.mul_pos (B.w0 hk) l)
        rw [e, d0, Int.zero_mul] at this
        omega
      · have := (H.2 k hk).1
        omega
    refine ⟨?_, z⟩
    cases hs : st k with
    | false => rfl
    | true =>
      have := (H.2 k hk).2 hs
      omega
theorem point_ok {m : Nat} {A A' : Nat → Nat → Int} {w g : Nat → Int} {d : Int} {st : Nat → Bool} (B : Bal m A w g) (h : Adj m A A' d) (d0 : 0 ≤ d) (hs : ∀ k, k < m + 1 → st k = false) : Holds A' st (m + 1) (fun b => if b = 0 then 1 else g (b - 1)) := by
  refine ⟨(by decide : (0 : Int) < 1), fun k hk => ⟨?_, fun s => by rw [hs k hk] at s; cases s⟩⟩
  have e : ∀ k, TB.dotV 4 (A k) (fun b => if b = 0 then 1 else g (b - 1)) = amF (A k) g := fun k => by
    rw [dot4, amF_eq]
    show 0 + A k 0 * 1 + A k 1 * g 0 + A k 2 * g 1 + A k 3 * g 2 = _
    omega
  by_cases ek : k = m
  · subst ek
    rw [adj_dot h, e, B.thr k (Nat.le_refl _)]
    show 0 ≤ 0 + d * 1
    omega
  · rw [h.1 k (by omega), e, B.thr k (by omega)]
    exact Int.le_refl _
theorem ClX.cl {H : Hp} {a Lq : Addr} {m : Nat} {A : Nat → Nat → Int} (h : ClX H a Lq m A) : Cl H a (m + 1) 4 A := by
  obtain ⟨vs, hl, ha, hL, hv⟩ := h
  refine ⟨_, by rw [List.length_append, hl]; rfl, ha, fun k hk => ?_⟩
  by_cases e : k = m
  · subst e
    exact ⟨Lq, by rw [List.getElem?_append_right (by omega), hl, Nat.sub_self]; rfl, hL⟩
  · obtain ⟨q, e1, _, e2⟩ := hv k (by omega)
    exact ⟨q, by rw [List.getElem?_append_left (by omega)]; exact e1, e2⟩
/-- changes elsewhere -/
theorem ClX.keep {H H' : Hp} {a Lq x : Addr} {m : Nat} {A : Nat → Nat → Int} {xs : List V} (h : ClX H a Lq m A) (hx : H x = some (.lst xs)) (n : ∀ q, xs[0]? ≠ some (.ref q)) (n4 : ∀ f, xs ≠ ro 4 f) (n0 : xs ≠ []) (s : SameN x H H') : ClX H' a Lq m A := by
  obtain ⟨vs, hl, ha, hL, hv⟩ := h
  have ax : a ≠ x := fun e => by
    rw [e, hx] at ha
    have ha : xs = vs ++ [.ref Lq] := by injection ha with ha; injection ha
    cases vs with
    | nil => exact n Lq (by rw [ha]; rfl)
    | cons v vs =>
      obtain ⟨q, e1, _⟩ := hv 0 (by rw [← hl]; exact Nat.succ_pos _)
      have e1 : some v = some (.ref q) := e1
      exact n q (by rw [ha]; exact e1)
  have rx : ∀ {q : Addr} {f : Nat → Int}, H q = some (.lst (ro 4 f)) → q ≠ x := fun {q f} e e' => by
    rw [e', hx] at e
    exact n4 f (by injection e with e; injection e)
  exact ⟨vs, hl, s _ _ ax ha, s _ _ (rx hL) hL, fun k hk => by
    obtain ⟨q, e1, e2, e3⟩ := hv k hk
    exact ⟨q, e1, e2, s _ _ (rx e3) e3⟩⟩
theorem ClX.same {H H' : Hp} {a Lq : Addr} {m : Nat} {A : Nat → Nat → Int} (h : ClX H a Lq m A) (s : Same H H') : ClX H' a Lq m A := by
  obtain ⟨vs, hl, ha, hL, hv⟩ := h
  exact ⟨vs, hl, s _ _ ha, s _ _ hL, fun k hk => by
    obtain ⟨q, e1, e2, e3⟩ := hv k hk
    exact ⟨q, e1, e2, s _ _ e3⟩⟩
theorem ClX.dr {H H' : Hp} {a Lq l : Addr} {m : Nat} {A : Nat → Nat → Int} {e0 e1 e2 : Int} (h : ClX H a Lq m A) (hl : H l = some (draws e0 e1 e2)) (s : SameN l H H') : ClX H' a Lq m A := h.keep hl (fun q e => by cases e) (fun f e => ro4_ne (e0 := e0) (e1 := e1) (e2 := e2) (congrArg HO.lst e).symm) (fun e => by cases e) s
theorem st_ne {H : Hp} {ST l : Addr} {m : Nat} {st : Nat → Bool} {e0 e1 e2 : Int} (h : H ST = some (.lst (vl (m + 1) fun k => .bl (st k)))) (L : H l = some (draws e0 e1 e2)) : ST ≠ l := fun e => by
  rw [e, L] at h
  have h : [V.int e0, V.int e1, V.int e2] = vl (m + 1) fun k => .bl (st k) := by injection h with h; injection h
  have := congrArg (fun l => l[0]?) h
  rw [vl_get (by omega)] at this
  cases this
/-- rows turned round -/
theorem RowsL.rot {H : Hp} {a c : Addr} {m t : Nat} {A : Nat → Nat → Int} {st : Nat → Bool} {vs : List V} (h : RowsL H a m A st) (ha : H a = some (.lst vs)) (ht : t ≤ m) (hc : H c = some (.lst (vs.drop t ++ vs.take t))) :
    RowsL H c m (fun k => A (if k < m - t then k + t else k - (m - t))) fun k => st (if k < m - t then k + t else k - (m - t)) := by
  obtain ⟨vs', hm, ha', h⟩ := h
  rw [ha] at ha'
  have ha' : vs = vs' := by injection ha' with ha'; injection ha'
  subst ha'
  refine ⟨_, by rw [List.length_append, List.length_drop, List.length_take]; omega, hc, fun k hk => ?_⟩
  obtain ⟨p, q, e1, e2, e3⟩ := h (if k < m - t then k + t else k - (m - t)) (by split <;> omega)
  refine ⟨p, q, ?_, e2, e3⟩
  rw [← e1]
  by_cases c : k < m - t
  · rw [if_pos c, List.getElem?_append_left (by rw [List.length_drop]; omega), List.getElem?_drop, Nat.add_comm]
  · rw [if_neg c, List.getElem?_append_right (by rw [List.length_drop]; omega), List.length_drop, hm, List.getElem?_take, if_pos (by omega)]
theorem cut_from (xs : List V) (t : Nat) (h : t ≤ xs.length) : cutV xs (some (t : Int)) none = xs.drop t := by
  unfold cutV
  rw [HT.sIx_nat, HT.sIx_none, Nat.min_eq_left h, List.take_of_length_le (by rw [List.length_drop]; exact Nat.le_refl _)]
theorem cut_to (xs : List V) (t : Nat) : cutV xs none (some (t : Int)) = xs.take t := by
  unfold cutV
  rw [HT.sIx_nat, HT.sIx_none, List.drop_zero, Nat.sub_zero]
  by_cases h : t ≤ xs.length
  · rw [Nat.min_eq_left h]
  · rw [Nat.min_eq_right (by omega), List.take_length, List.take_of_length_le (by omega)]
theorem lc_zipL {K : PySem.W.Frag} {i0 i1 : Nat} {ta : TA} {te : TE} {σ : List (Option V)} {H : Hp} {Q : V → Hp → Prop} (a b : Addr) (xs ys : List V) (P : Nat → V → Hp → Prop) (hl : xs.length = ys.length) (hn : xs.length < 1000) (mono : ∀ j, Mono (P j))
    (hw : ∀ x y : V, wipe (((wipe σ [i0, i1]).set i0 (some x)).set i1 (some y)) [i0, i1] = wipe σ [i0, i1]) (ha : H a = some (.lst xs)) (hb : H b = some (.lst ys)) (hta : ∀ R : List V → Hp → Prop, R [.ref a, .ref b] H → ta σ H R)
    (he : ∀ (j : Nat) (x y : V) (H' : Hp) (R : V → Hp → Prop), xs[j]? = some x → ys[j]? = some y → Same H H' → (∀ v H4, Same H' H4 → P j v H4 → R v H4) → te (((wipe σ [i0, i1]).set i0 (some x)).set i1 (some y)) H' R)
    (hq : ∀ (D : Addr) (H' : Hp) (vs : List V), Same H H' → vs.length = xs.length → H' D = some (.lst vs) → (∀ (j : Nat) (v : V), vs[j]? = some v → P j v H') → Q (.ref D) H') : tLc (RZ.iZipA K ta) (gTup K 2 (gCons (gName i0) (gCons (gName i1) gNil))) tYes te [i0, i1] σ H Q := by
  refine hta _ ⟨a, b, xs, ys, rfl, .inl ⟨SqL.of ha, SqL.of hb, fun D hD => ?_⟩⟩
  refine lc_it (walk_zip (K := K) (a := a) (b := b) (xs := xs) (ys := ys) (n := xs.length) (by omega)) (fun i H' => Same H H' ∧ ∃ vs : List V, vs.length = i ∧ H' D = some (.lst vs) ∧ ∀ (j : Nat) (v : V), vs[j]? = some v → P j v H') ⟨same_upd hD, [], rfl, upd_same, fun j a e => by simp at e⟩ (fun _ _ _ h => ⟨SqL.of (h.1 _ _ ha), SqL.of (h.1 _ _ hb)⟩) ?_ ?_
  · rintro i x H' H'' hi ⟨sm, vs, hl, dD, hs⟩ ⟨T, x', y', rfl, hT, rfl, fx, fy⟩
    refine ⟨T, _, rfl, SqT.of upd_same, rfl, _, _, rfl, _, _, rfl, rfl, hw _ _, ?_⟩
    simp only [tYes, if_true]
    have sT : Same H' (upd H' T (HO.tup [x', y'])) := same_upd hT
    exact he i x' y' _ _ fx fy (sm.trans sT) fun v H4 s4 p => lc_step mono sm hD hl (by omega) dD hs (fun _ h => h) v H4 (sT.trans s4) p
  · rintro H' ⟨sm, vs, hl, dD, hs⟩
    exact hq D H' vs sm hl dD hs
section
variable {P : Program} {w : World} {K : PySem.W.Frag} {mg : Str → Option Value} {base : Heap} {fd : FuncData}
/-- which rows are strict -/
def StOk (wy : Int) (m : Nat) (st : Nat → Bool) : Prop := (wy ≠ 1 ∧ ∀ k, k < m + 1 → st k = false) ∨ (wy = 1 ∧ ∃ k, k < m + 1 ∧ st k = true)
/-- how far the last row is moved -/
def DOk (wy d : Int) : Prop := d.natAbs ≤ 3 ∧ (wy = 2 → d ≤ -1) ∧ (wy = 3 → 0 ≤ d) ∧ (wy ≠ 2 → wy ≠ 3 → d = 0)
def Perm2 (m : Nat) (A : Nat → Nat → Int) (st : Nat → Bool) (A2 : Nat → Nat → Int) (st2 : Nat → Bool) : Prop := (∀ k, k < m → ∃ j, j < m ∧ A2 k = A j ∧ st2 k = st j) ∧ ∀ k, k < m → ∃ j, j < m ∧ A k = A2 j ∧ st k = st2 j
theorem adj_le {m : Nat} {A A' : Nat → Nat → Int} {w g : Nat → Int} {d wy : Int} (B : Bal m A w g) (h : Adj m A A' d) (hd : DOk wy d) (k b : Nat) (hk : k < m + 1) (hb : b < 4) : (A' k b).natAbs ≤ 10 ^ 4 := by
  by_cases e : k = m
  · subst e
    have := B.leL b hb
    have := hd.1
    cases b with
    | zero =>
      rw [h.2.2]
      omega
    | succ b =>
      rw [h.2.1 (b + 1) (by omega)]
      omega
  · rw [h.1 k (by omega)]
    exact Nat.le_trans (B.le k b (by omega) hb) (by decide)
theorem moved {H G : Hp} {l rw Lq ST : Addr} {m : Nat} {A : Nat → Nat → Int} {st : Nat → Bool} {wy d : Int} (C : Cl2 H l G) (n : H Lq = none) (cx : ClX G rw Lq m A) (hS : G ST = some (.lst (vl (m + 1) fun k => .bl (st k)))) (hd : DOk wy d) :
    Cl2 H l (upd G Lq (HO.lst ((ro 4 (A m)).set 0 (V.int (A m 0 + d))))) ∧ ∃ A', ClX (upd G Lq (HO.lst ((ro 4 (A m)).set 0 (V.int (A m 0 + d))))) rw Lq m A' ∧ upd G Lq (HO.lst ((ro 4 (A m)).set 0 (V.int (A m 0 + d)))) ST = some (HO.lst (vl (m + 1) fun k => V.bl (st k))) ∧ ∃ d, Adj m A A' d ∧ DOk wy d := by
  obtain ⟨vs, hl, ha, hL, hv⟩ := cx
  obtain ⟨e0, e1, e2, L⟩ := id C.2
  have Ll : Lq ≠ l := fun e => by rw [e, L] at hL; exact ro4_ne (Option.some.inj hL).symm
  have SL : ST ≠ Lq := fun e => by
    rw [e, hL] at hS
    have hS : ro 4 (A m) = vl (m + 1) fun k => .bl (st k) := by injection hS with hS; injection hS
    have := congrArg (fun l => l[0]?) hS
    rw [vl_get (by decide), vl_get (by omega)] at this
    cases this
  have RL : rw ≠ Lq := fun e => by
    rw [e, hL] at ha
    have ha : ro 4 (A m) = vs ++ [.ref Lq] := by injection ha with ha; injection ha
    have h0 := congrArg (fun l => l[m]?) ha
    have len := congrArg List.length ha
    rw [vl_len, List.length_append, hl] at len
    have len : 4 = m + 1 := len
    rw [vl_get (by omega), List.getElem?_append_right (by omega), hl, Nat.sub_self] at h0
    cases h0
  rw [ro_set (by decide)]
  refine ⟨C.upd n Ll, upd1 A m (TB.upm (A m) 0 (A m 0 + d)), ⟨vs, hl, by rw [upd_ne RL]; exact ha, by rw [upd_same, upd1_at], fun k hk => ?_⟩, by rw [upd_ne SL]; exact hS, d, ⟨fun k hk => upd1_lt hk, fun b hb => by rw [upd1_at]; exact if_neg (by omega), by rw [upd1_at]; exact if_pos rfl⟩, hd⟩
  obtain ⟨q, q1, q2, q3⟩ := hv k hk
  exact ⟨q, q1, q2, by rw [upd_ne q2, upd1_lt hk]; exact q3⟩
theorem told_no {m : Nat} {A A' A2 : Nat → Nat → Int} {w g x : Nat → Int} {d wy : Int} {st st2 : Nat → Bool} (B : Bal m A w g) (h : Adj m A A' d) (hd : DOk wy d) (hs : StOk wy m st) (pm : Perm2 (m + 1) A' st A2 st2) (H : Holds (prG A2) st2 (m + 1) x) (e : wy = 1 ∨ wy = 2) : False := by
  have H1 : Holds A' st (m + 1) x := (hold_pr.mp H).cong pm.2
  obtain ⟨d0, z⟩ := no_point B h H1
  rcases hs with ⟨n1, _⟩ | ⟨e1, k, hk, hst⟩
  · have := hd.2.1 (by omega)
    omega
  · have := hd.2.2.2 (by omega) (by omega)
    have := (z this k hk).1
    rw [hst] at this
    cases this
theorem told_yes {m : Nat} {A A' A2 : Nat → Nat → Int} {w g w2 : Nat → Int} {d wy : Int} {st st2 : Nat → Bool} (B : Bal m A w g) (h : Adj m A A' d) (hd : DOk wy d) (hs : StOk wy m st) (pm : Perm2 (m + 1) A' st A2 st2) (S : Shows (prG A2) st2 (m + 1) w2) (e : ¬ (wy = 1 ∨ wy = 2)) : False := by
  have d0 : 0 ≤ d := by
    by_cases e3 : wy = 3
    · exact hd.2.2.1 e3
    · have := hd.2.2.2 (by omega) e3
      omega
  rcases hs with ⟨_, hst⟩ | ⟨e1, _⟩
  · exact not_both (hold_pr.mpr ((point_ok B h d0 hst).cong pm.1)) S
  · omega
theorem told_zero {m : Nat} {A A' A2 : Nat → Nat → Int} {w g x : Nat → Int} {d wy : Int} {st st2 : Nat → Bool} (B : Bal m A w g) (h : Adj m A A' d) (hd : DOk wy d) (pm : Perm2 (m + 1) A' st A2 st2) (H : Holds (prG A2) st2 (m + 1) x) (e : wy = 0) (k : Nat) (hk : k < m + 1) : TB.dotV 4 (A' k) x = 0 := by
  have H1 : Holds A' st (m + 1) x := (hold_pr.mp H).cong pm.2
  exact ((no_point B h H1).2 (hd.2.2.2 (by omega) (by omega)) k hk).2
abbrev CXL (_ : Program) (_ : World) : CXT := CX0
def lawK : Nat := 12
def spLaw (K : PySem.W.Frag) : Sp := fun vs H Q _ => ∃ (a : Addr) (ns : List Int), vs = [.ref a] ∧ SqL K H a (ns.map V.int) ∧ ns.length ≤ 63 ∧ ∀ H', Q (.bl true) H'
theorem hCX {P : Program} {w : World} : ∀ (H : Hp) (s : Shared) (e : Value) (s' : Shared), CXL P w [] H s (fun _ _ _ => False) e s' → False := fun _ _ _ _ z => z
theorem scLaw : FnScope ["_law_script", "_law_turn", "_law_draws", "_law_point", "_law_rows", "_law_weights", "_law_stricts", "_law_way", "_law_step", "_law_mixed", "_law_at", "_law_found", "_law_told", "_law_k", "_law_numbers", "_law_strict", "_law_row"] ["_law_script"] d_law.scope := ⟨rfl, rfl, rfl, by decide +kernel, rfl, by decide +kernel, by decide +kernel⟩
theorem ok_law (W : Wd K mg) (hP : SupX.PrgOk P) {fd : FuncData} (F : FunD K d_law.name d_law.qual d_law.params d_law.body d_law.scope (d_law.dvs K) (d_law.kws K) (He.fAd K d_law.at_) fd) : FnOk P w K mg base (CXL P w) lawK (He.ga K "law") fd ["_law_script"] (spLaw K) := by
  obtain ⟨fd_source, G_source, b_source⟩ := ok_source (P := P) (w := w) (base := base) W
  have k_source : PySem.W.keepIn K (.ref (He.ga K "_law_source")) = true := by obtain ⟨fd, F⟩ := W.F_source; exact F.kp
  obtain ⟨fd_draw, G_draw, b_draw⟩ := ok_draw (P := P) (w := w) (base := base) W
  have k_draw : PySem.W.keepIn K (.ref (He.ga K "_law_draw")) = true := by obtain ⟨fd, F⟩ := W.F_draw; exact F.kp
  obtain ⟨fd_balanced, G_balanced, b_balanced⟩ := ok_balanced (P := P) (w := w) (base := base) W
  have k_balanced : PySem.W.keepIn K (.ref (He.ga K "_law_balanced")) = true := by obtain ⟨fd, F⟩ := W.F_balanced; exact F.kp
  obtain ⟨fd_rows_of, G_rows_of, b_rows_of⟩ := ok_rows_of (P := P) (w := w) (base := base) W
  have k_rows_of : PySem.W.keepIn K (.ref (He.ga K "_law_rows_of")) = true := by obtain ⟨fd, F⟩ := W.F_rows_of; exact F.kp
  obtain ⟨fd_either, G_either, b_either⟩ := ok_either (P := P) (w := w) (base := base) W
  have k_either : PySem.W.keepIn K (.ref (He.ga K "_law_either")) = true := by obtain ⟨fd, F⟩ := W.F_either; exact F.kp
  obtain ⟨fd_zeros, G_zeros, b_zeros⟩ := ok_zeros (P := P) (w := w) (base := base) W
  have k_zeros : PySem.W.keepIn K (.ref (He.ga K "_law_zeros")) = true := by obtain ⟨fd, F⟩ := W.F_zeros; exact F.kp
  obtain ⟨fd_point_of, G_point_of, b_point_of⟩ := ok_point_of (P := P) (w := w) (base := base) W
  have k_point_of : PySem.W.keepIn K (.ref (He.ga K "point_of")) = true := by obtain ⟨fd, F⟩ := W.F_point_of; exact F.kp
  refine F.ok scLaw (fun vs H Q E h => ?_) (fun cdv A outer s H vs Q E hr h => ?_)
  · obtain ⟨a, ns, rfl, _⟩ := h
    rfl
  · obtain ⟨a, ns, rfl, hS, hlen, q⟩ := h
    have r1 : Room 1 _ := hr.mono (by decide)
    have r2 : Room 2 _ := hr.mono (by decide)
    have r3 : Room 3 _ := hr.mono (by decide)
    have r4 : Room 4 _ := hr.mono (by decide)
    have r5 : Room 5 _ := hr.mono (by decide)
    have r6 : Room 6 _ := hr.mono (by decide)
    have r7 : Room 7 _ := hr.mono (by decide)
    have r8 : Room 8 _ := hr.mono (by decide)
    have r9 : Room 9 _ := hr.mono (by decide)
    have r10 : Room 10 _ := hr.mono (by decide)
    have r11 : Room 11 _ := hr.mono (by decide)
    refine ⟨_, PSs.nox (pss_cons (ps_for PassesOwn.never rfl (pi_range1 rfl W.f_range (pa_cons pe_int pa_nil)) (pg_name (i := 1) scLaw.nd rfl (Or.inl rfl)) (pss_cons (ps_set (i := 2) scLaw.nd rfl (Or.inr rfl) (pe_call G_source r1 rfl W.g_law_source k_source b_source .nil pass0 (pa_cons (pv 0) (pa_cons (pv 1) pa_nil))))
    (C8.pss_cut (ps_setLc (i := 3) (own := [("_law_k", 13)]) (g := gName 13) (tt := tYes) (by rfl) scLaw.nd rfl rfl (sw_true rfl rfl rfl (by decide +kernel)) (pi_range1 rfl W.f_range (pa_cons pe_int pa_nil)) (blkOk_by (N := ["_law_script", "_law_turn", "_law_draws", "_law_point", "_law_rows", "_law_weights", "_law_stricts", "_law_way", "_law_step", "_law_mixed", "_law_at", "_law_found", "_law_told", "_law_k", "_law_numbers", "_law_strict", "_law_row"]) (sc := defScope s_law) (by decide +kernel))
            (fun _ _ _ _ _ => (pg_name (i := 13) scLaw.nd rfl (Or.inl rfl))) (fun _ _ _ _ _ => pts_nil)
            (fun _ _ _ _ _ => (pe_op op_sub (pe_call G_draw r1 rfl W.g_law_draw k_draw b_draw .nil pass0 (pa_cons (pv 2) (pa_cons pe_int pa_nil))) pe_int)))
    (C8.pss_cut (ps_asg (pe_call G_balanced r3 rfl W.g_law_balanced k_balanced b_balanced .nil pass0 (pa_cons (pv 2) (pa_cons (pv 3) pa_nil))) (pg_tup rfl (pgs_cons (pg_name (i := 4) scLaw.nd rfl (Or.inl rfl)) (pgs_cons (pg_name (i := 5) scLaw.nd rfl (Or.inl rfl)) pgs_nil))))
    (C8.pss_cut (ps_par (i := 6) (j := 7) rfl scLaw.nd rfl rfl (by decide) rfl rfl (pa_cons (pe_lc (own := [("_law_row", 16)]) (g := gName 16) (tt := tYes) rfl scLaw.nd (pi_list (pv 4)) (blkOk_by (N := ["_law_script", "_law_turn", "_law_draws", "_law_point", "_law_rows", "_law_weights", "_law_stricts", "_law_way", "_law_step", "_law_mixed", "_law_at", "_law_found", "_law_told", "_law_k", "_law_numbers", "_law_strict", "_law_row"]) (sc := defScope s_law) (by decide +kernel))
            (fun _ _ _ _ _ => (pg_name (i := 16) scLaw.nd rfl (Or.inl rfl))) (fun _ _ _ _ _ => pts_nil)
            (fun _ _ _ _ _ => pe_bl)) (pa_cons (pe_call G_draw r1 rfl W.g_law_draw k_draw b_draw .nil pass0 (pa_cons (pv 2) (pa_cons pe_int pa_nil))) pa_nil)) rfl)
    (C8.pss_cut (ps_if (pt_cmpR op_eq (pv 7) pe_int (nomark _)) (pss_one (ps_asg pe_bl (pg_sub (pv 6) (pe_call G_draw r1 rfl W.g_law_draw k_draw b_draw .nil pass0 (pa_cons (pv 2) (pa_cons (pe_callB len_lstH (by rfl) W.f_len boot_len (pa_cons (pv 4) pa_nil)) pa_nil))) set_list))) pss_nil)
    (C8.pss_cut (ps_if (PW.pt (pw_or (pt_cmpR op_eq (pv 7) pe_int (nomark _)) (pw_or1 (PW.pt (pw_and (pt_cmpR op_eq (pv 7) pe_int (nomark _)) (pw_and1 (pt_cmpR ((op_neRo hr.units)) (pe_slice sl_list (pe_ix ix_lstH (pv 4) (pe_un un_neg pe_int) (fun _ _ => rfl)) (po_some pe_int) po_none) (pe_lst (pa_cons pe_int (pa_cons pe_int (pa_cons pe_int pa_nil)))) (nomark _)))))))) (C8.pss_cut (ps_set (i := 8) scLaw.nd rfl (Or.inl rfl) (pe_op op_add pe_int (pe_call G_draw r1 rfl W.g_law_draw k_draw b_draw .nil pass0 (pa_cons (pv 2) (pa_cons pe_int pa_nil)))))
    (pss_one (ps_augS (pe_ix ix_lstH (pv 4) (pe_un un_neg pe_int) (fun _ _ => rfl)) pe_int get_lstH (pe_ifExp (pt_cmpR op_eq (pv 7) pe_int (nomark _)) (pv 8) (pe_un un_neg (pv 8))) ip_add set_list))) pss_nil)
    (C8.pss_cut (ps_setLc (i := 9) (own := [("_law_numbers", 14), ("_law_strict", 15)]) (g := gTup K 2 (gCons (gName 14) (gCons (gName 15) gNil))) (tt := tYes) (by rfl) scLaw.nd rfl rfl (sw_true rfl rfl rfl (by decide +kernel)) (RZ.pi_zipA (by rfl) W.f_zip (pa_cons (pv 4) (pa_cons (pv 6) pa_nil))) (blkOk_by (N := ["_law_script", "_law_turn", "_law_draws", "_law_point", "_law_rows", "_law_weights", "_law_stricts", "_law_way", "_law_step", "_law_mixed", "_law_at", "_law_found", "_law_told", "_law_k", "_law_numbers", "_law_strict", "_law_row"]) (sc := defScope s_law) (by decide +kernel))
            (fun _ _ _ _ _ => (pg_tup rfl (pgs_cons (pg_name (i := 14) scLaw.nd rfl (Or.inl rfl)) (pgs_cons (pg_name (i := 15) scLaw.nd rfl (Or.inl rfl)) pgs_nil)))) (fun _ _ _ _ _ => pts_nil)
            (fun _ _ _ _ _ => (pe_tup (pa_cons (pv 14) (pa_cons (pv 15) pa_nil)))))
    (C8.pss_cut (ps_set (i := 10) scLaw.nd rfl (Or.inl rfl) (pe_call G_draw r1 rfl W.g_law_draw k_draw b_draw .nil pass0 (pa_cons (pv 2) (pa_cons (pe_callB len_lstH (by rfl) W.f_len boot_len (pa_cons (pv 9) pa_nil)) pa_nil))))
    (C8.pss_cut (ps_set (i := 9) scLaw.nd rfl (Or.inl rfl) (pe_op op_cat (pe_slice sl_list (pv 9) (po_some (pv 10)) po_none) (pe_slice sl_list (pv 9) po_none (po_some (pv 10)))))
    (C8.pss_cut (ps_set (i := 11) scLaw.nd rfl (Or.inl rfl) (pe_call G_rows_of r10 rfl W.g_law_rows_of k_rows_of b_rows_of .nil pass0 (pa_cons (pv 2) (pa_cons (pv 9) pa_nil))))
    (C8.pss_cut (ps_set (i := 12) scLaw.nd rfl (Or.inl rfl) (pe_call G_either r8 rfl W.g_law_either k_either b_either .nil pass0 (pa_cons (pv 11) (pa_cons (pv 9) pa_nil))))
    (C8.pss_cut (ps_if (pt_cmpR op_ne (pv 12) (pe_ifExp (pt_cmpR op_in_seq (pv 7) (pe_lst (pa_cons pe_int (pa_cons pe_int pa_nil))) rfl) pe_str pe_str) (nomark _)) (pss_one (ps_ret pe_bl)) pss_nil)
    (pss_one (ps_if (PW.pt (pw_and (pt_cmpR op_eq (pv 7) pe_int (nomark _)) (pw_and1 (pt_not (pt_val (pe_call G_zeros r3 rfl W.g_law_zeros k_zeros b_zeros .nil pass0 (pa_cons (pe_call G_point_of r7 rfl W.g_point_of k_point_of b_point_of .nil pass0 (pa_cons (pv 11) pa_nil)) (pa_cons (pv 4) pa_nil)))))))) (pss_one (ps_ret pe_bl)) pss_nil)))))))))))))))
    (pss_one (ps_ret pe_bl))), ?_⟩
    simp -dsimp [tSeq, tAsg, tRet, tIfS, tIf, tTest, tVar, tCons, tNil, tC, tOp, tUn, rI, rI0, rU, tCB, tLst_A, tTup_A, gName, L2.start, CMul, CPow, CDiv, tDrop, tBM, tBM0, tNext, tPar, gSub, rSetL, rIxL, rIxT, tChain, tB, tNot, tNotV, tAnd, tOr, tAndV, tOrV, tFld, tCall, rIxLH, rIxTH, atI, ixN, upd_same, cxK, ex2, ex3, ex3b, rIs1, rIs2, rNe2, tyN, kb1, kb2, kb3, kb4, kb5, kb6, rEq, rNe, scal, tMake_S, tMakeK_S, tMakeN_S]
    refine ⟨6, rfl, by decide, by decide, for_range (n := 6) (fun i σ' G => ∃ (v1 v2 v3 v4 v5 v6 v7 v8 v9 v10 v11 v12 v13 v14 v15 v16 : Option V), σ' = [some (.ref a), v1, v2, v3, v4, v5, v6, v7, v8, v9, v10, v11, v12, v13, v14, v15, v16] ∧ Same H G) ⟨_, _, _, _, _, _, _, _, _, _, _, _, _, _, _, _, rfl, Same.refl _⟩ ?_ ?_⟩
    · rintro i σ' G hi ⟨v1, v2, v3, v4, v5, v6, v7, v8, v9, v10, v11, v12, v13, v14, v15, v16, rfl, sG⟩
      simp -dsimp [tSeq, tAsg, tRet, tIfS, tIf, tTest, tVar, tCons, tNil, tC, tOp, tUn, rI, rI0, rU, tCB, tLst_A, tTup_A, gName, L2.start, CMul, CPow, CDiv, tDrop, tBM, tBM0, tNext, tPar, gSub, rSetL, rIxL, rIxT, tChain, tB, tNot, tNotV, tAnd, tOr, tAndV, tOrV, tFld, tCall, rIxLH, rIxTH, atI, ixN, upd_same, cxK, ex2, ex3, ex3b, rIs1, rIs2, rNe2, tyN, kb1, kb2, kb3, kb4, kb5, kb6, rEq, rNe, scal, tMake_S, tMakeK_S, tMakeN_S]
      refine ⟨a, ns, i, rfl, sG.seq hS, by omega, fun d0 d1 l nl => ?_⟩
      have nH : H l = none := none_same sG nl
      have C0 : Cl2 H l (upd G l (draws d0 d1 0)) := ⟨sG.trans (same_upd nl), d0, d1, 0, upd_same⟩
      generalize upd G l (draws d0 d1 0) = G1 at C0
      refine ⟨fun σ' G' => ∃ p g, σ' = [some (.ref a), some (.int (i : Nat)), some (.ref l), some (.ref p), v4, v5, v6, v7, v8, v9, v10, v11, v12, v13, v14, v15, v16] ∧ Cl2 H l G' ∧ p ≠ l ∧ G' p = some (.lst (ro 3 g)) ∧ ∀ b, b < 3 → (g b).natAbs ≤ 10, ?_, ?_⟩
      · simp -dsimp [tSeq, tAsg, tRet, tIfS, tIf, tTest, tVar, tCons, tNil, tC, tOp, tUn, rI, rI0, rU, tCB, tLst_A, tTup_A, gName, L2.start, CMul, CPow, CDiv, tDrop, tBM, tBM0, tNext, tPar, gSub, rSetL, rIxL, rIxT, tChain, tB, tNot, tNotV, tAnd, tOr, tAndV, tOrV, tFld, tCall, rIxLH, rIxTH, atI, ixN, upd_same, cxK, ex2, ex3, ex3b, rIs1, rIs2, rNe2, tyN, kb1, kb2, kb3, kb4, kb5, kb6, rEq, rNe, scal, tMake_S, tMakeK_S, tMakeN_S]
        obtain ⟨_, e0, e1, e2, L⟩ := id C0
        refine lc_drI (n := 3) 10 (by decide) L (fun x => rfl) (fun j H' R e0 e1 e2 hj L rr => ?_) (fun D G2 g nD d hD hg => ⟨D, rfl, C0.dr nH d, (fun e => by rw [e, L] at nD; cases nD), g, hD, hg⟩) (fun R h => h)
        simp -dsimp [tSeq, tAsg, tRet, tIfS, tIf, tTest, tVar, tCons, tNil, tC, tOp, tUn, rI, rI0, rU, tCB, tLst_A, tTup_A, gName, L2.start, CMul, CPow, CDiv, tDrop, tBM, tBM0, tNext, tPar, gSub, rSetL, rIxL, rIxT, tChain, tB, tNot, tNotV, tAnd, tOr, tAndV, tOrV, tFld, tCall, rIxLH, rIxTH, atI, ixN, upd_same, cxK, ex2, ex3, ex3b, rIs1, rIs2, rNe2, tyN, kb1, kb2, kb3, kb4, kb5, kb6, rEq, rNe, scal, tMake_S, tMakeK_S, tMakeN_S, wipe]
        exact ⟨l, e0, e1, e2, 21, rfl, L, by decide, by decide, fun r f0 f1 f2 r0 r1 => ⟨r, rfl, rr _ f0 f1 f2 (by omega)⟩⟩
      rintro σ' G2 ⟨p, g, rfl, C2, pl, hp, hg⟩
      refine ⟨fun σ' G' => ∃ rw wt Lq m A w, σ' = [some (.ref a), some (.int (i : Nat)), some (.ref l), some (.ref p), some (.ref rw), some (.ref wt), v6, v7, v8, v9, v10, v11, v12, v13, v14, v15, v16] ∧ Cl2 H l G' ∧ H rw = none ∧ H Lq = none ∧ ClX G' rw Lq m A ∧ Bal m A w g, ?_, ?_⟩
      · simp -dsimp [tSeq, tAsg, tRet, tIfS, tIf, tTest, tVar, tCons, tNil, tC, tOp, tUn, rI, rI0, rU, tCB, tLst_A, tTup_A, gName, L2.start, CMul, CPow, CDiv, tDrop, tBM, tBM0, tNext, tPar, gSub, rSetL, rIxL, rIxT, tChain, tB, tNot, tNotV, tAnd, tOr, tAndV, tOrV, tFld, tCall, rIxLH, rIxTH, atI, ixN, upd_same, cxK, ex2, ex3, ex3b, rIs1, rIs2, rNe2, tyN, kb1, kb2, kb3, kb4, kb5, kb6, rEq, rNe, scal, tMake_S, tMakeK_S, tMakeN_S]
        obtain ⟨_, e0, e1, e2, L⟩ := id C2
        refine ⟨l, p, e0, e1, e2, g, rfl, L, pl, hp, hg, fun t a' c' Lq m A w' G3 d ht na nq cx bal => ?_⟩
        exact tup2n ht ⟨a', ⟨c', rfl⟩, C2.dr nH d, none_same C2.1 na, Lq, none_same C2.1 nq, m, A, cx, w', bal⟩
      rintro σ' G3 ⟨rw, wt, Lq, m, A, w', rfl, C3, nrw, nLq, cx, bal⟩
      have m3 := bal.m3
      refine ⟨fun σ' G' => ∃ ST wy, σ' = [some (.ref a), some (.int (i : Nat)), some (.ref l), some (.ref p), some (.ref rw), some (.ref wt), some (.ref ST), some (.int wy), v8, v9, v10, v11, v12, v13, v14, v15, v16] ∧ Cl2 H l G' ∧ ClX G' rw Lq m A ∧ H ST = none ∧ G' ST = some (.lst (vl (m + 1) fun _ => .bl false)) ∧ 0 ≤ wy ∧ wy < 4, ?_, ?_⟩
      · simp -dsimp [tSeq, tAsg, tRet, tIfS, tIf, tTest, tVar, tCons, tNil, tC, tOp, tUn, rI, rI0, rU, tCB, tLst_A, tTup_A, gName, L2.start, CMul, CPow, CDiv, tDrop, tBM, tBM0, tNext, tPar, gSub, rSetL, rIxL, rIxT, tChain, tB, tNot, tNotV, tAnd, tOr, tAndV, tOrV, tFld, tCall, rIxLH, rIxTH, atI, ixN, upd_same, cxK, ex2, ex3, ex3b, rIs1, rIs2, rNe2, tyN, kb1, kb2, kb3, kb4, kb5, kb6, rEq, rNe, scal, tMake_S, tMakeK_S, tMakeN_S]
        obtain ⟨vs, hvl, hrw, hrow⟩ := cx.cl
        refine lc_vl (K := K) rw vs (fun _ => .bl false) (by omega) (fun _ => rfl) hrw (fun R h => ⟨_, rfl, h⟩) (fun k x G4 R hx s4 k4 => k4 _ (Same.refl _)) (fun D G4 nD s4 h4 => ?_)
        obtain ⟨_, e0, e1, e2, L⟩ := C3.same s4
        rw [hvl] at h4
        have Dl : D ≠ l := fun e => by
          obtain ⟨_, f0, f1, f2, L3⟩ := C3
          rw [e, L3] at nD
          cases nD
        exact ⟨l, e0, e1, e2, 4, rfl, L, by decide, by decide, fun r f0 f1 f2 r0 r1 => ⟨D, r, ⟨rfl, rfl⟩, (C3.same s4).dr nH (Dr.start L).upd, (cx.same s4).dr L .upd, none_same C3.1 nD, by rw [upd_ne Dl]; exact h4, r0, r1⟩⟩
      rintro σ' G4 ⟨ST, wy, rfl, C4, cx, nST, hST, y0, y4⟩
      refine ⟨fun σ' G' => ∃ st, σ' = [some (.ref a), some (.int (i : Nat)), some (.ref l), some (.ref p), some (.ref rw), some (.ref wt), some (.ref ST), some (.int wy), v8, v9, v10, v11, v12, v13, v14, v15, v16] ∧ Cl2 H l G' ∧ ClX G' rw Lq m A ∧ G' ST = some (.lst (vl (m + 1) fun k => .bl (st k))) ∧ StOk wy m st, ?_, ?_⟩
      · simp -dsimp [tSeq, tAsg, tRet, tIfS, tIf, tTest, tVar, tCons, tNil, tC, tOp, tUn, rI, rI0, rU, tCB, tLst_A, tTup_A, gName, L2.start, CMul, CPow, CDiv, tDrop, tBM, tBM0, tNext, tPar, gSub, rSetL, rIxL, rIxT, tChain, tB, tNot, tNotV, tAnd, tOr, tAndV, tOrV, tFld, tCall, rIxLH, rIxTH, atI, ixN, upd_same, cxK, ex2, ex3, ex3b, rIs1, rIs2, rNe2, tyN, kb1, kb2, kb3, kb4, kb5, kb6, rEq, rNe, scal, tMake_S, tMakeK_S, tMakeN_S]
        split
        · rename_i h1
          obtain ⟨vs, hvl, hrw, hrow⟩ := cx.cl
          obtain ⟨_, e0, e1, e2, L⟩ := id C4
          have Sl : ST ≠ l := fun e => by
            rw [e, L] at hST
            have hST : [V.int e0, V.int e1, V.int e2] = vl (m + 1) fun _ => .bl false := by injection hST with hST; injection hST
            have := congrArg (fun l => l[0]?) hST
            rw [vl_get (by omega)] at this
            cases this
          refine ⟨vs, hrw, l, e0, e1, e2, _, rfl, L, by omega, by omega, fun r f0 f1 f2 r0 r1 => ⟨_, r, rfl, by rw [upd_ne Sl]; exact hST, r.toNat, ?_, ?_, ?_, fun k => decide (k = r.toNat), ?_, .inr ⟨h1, r.toNat, by omega, decide_eq_true rfl⟩⟩⟩
          · rw [if_pos r0, if_pos (by rw [vl_len]; omega)]
          · exact (C4.dr nH ((Dr.start L).upd)).upd nST Sl
          · refine (cx.dr L .upd).keep (x := ST) (by rw [upd_ne Sl]; exact hST) (fun q e => ?_) (fun f e => ?_) (fun e => ?_) .upd
            · rw [vl_get (by omega)] at e
              cases e
            · have := congrArg (fun l => l[0]?) e
              rw [vl_get (by omega), vl_get (by decide)] at this
              cases this
            · have := congrArg List.length e
              rw [vl_len] at this
              cases this
          · refine vl_of (by rw [List.length_set, vl_len]) fun k hk => ?_
            rw [List.getElem?_set]
            by_cases e : r.toNat = k
            · rw [if_pos e, vl_len, if_pos (by omega)]
              show _ = some (V.bl (decide (k = r.toNat)))
              rw [decide_eq_true e.symm]
            · rw [if_neg e, vl_get hk]
              show _ = some (V.bl (decide (k = r.toNat)))
              rw [decide_eq_false (fun x => e (Eq.symm x))]
        · rename_i h1
          exact ⟨C4, cx, fun _ => false, hST, .inl ⟨h1, fun _ _ => rfl⟩⟩
      rintro σ' G5 ⟨st, rfl, C5, cx, hST, hst⟩
      refine ⟨fun σ' G' => ∃ A' d w8, σ' = [some (.ref a), some (.int (i : Nat)), some (.ref l), some (.ref p), some (.ref rw), some (.ref wt), some (.ref ST), some (.int wy), w8, v9, v10, v11, v12, v13, v14, v15, v16] ∧ Cl2 H l G' ∧ ClX G' rw Lq m A' ∧ G' ST = some (.lst (vl (m + 1) fun k => .bl (st k))) ∧ Adj m A A' d ∧ DOk wy d, ?_, ?_⟩
      · simp -dsimp [tSeq, tAsg, tRet, tIfS, tIf, tTest, tVar, tCons, tNil, tC, tOp, tUn, rI, rI0, rU, tCB, tLst_A, tTup_A, gName, L2.start, CMul, CPow, CDiv, tDrop, tBM, tBM0, tNext, tPar, gSub, rSetL, rIxL, rIxT, tChain, tB, tNot, tNotV, tAnd, tOr, tAndV, tOrV, tFld, tCall, rIxLH, rIxTH, atI, ixN, upd_same, cxK, ex2, ex3, ex3b, rIs1, rIs2, rNe2, tyN, kb1, kb2, kb3, kb4, kb5, kb6, rEq, rNe, scal, tMake_S, tMakeK_S, tMakeN_S]
        split
        · rename_i w2
          refine ⟨fun σ' G' => ∃ sp, σ' = [some (.ref a), some (.int (i : Nat)), some (.ref l), some (.ref p), some (.ref rw), some (.ref wt), some (.ref ST), some (.int wy), some (.int sp), v9, v10, v11, v12, v13, v14, v15, v16] ∧ 1 ≤ sp ∧ sp ≤ 3 ∧ Dr l G5 G', ?_, ?_⟩
          · obtain ⟨_, e0, e1, e2, L⟩ := id C5
            simp -dsimp [tSeq, tAsg, tRet, tIfS, tIf, tTest, tVar, tCons, tNil, tC, tOp, tUn, rI, rI0, rU, tCB, tLst_A, tTup_A, gName, L2.start, CMul, CPow, CDiv, tDrop, tBM, tBM0, tNext, tPar, gSub, rSetL, rIxL, rIxT, tChain, tB, tNot, tNotV, tAnd, tOr, tAndV, tOrV, tFld, tCall, rIxLH, rIxTH, atI, ixN, upd_same, cxK, ex2, ex3, ex3b, rIs1, rIs2, rNe2, tyN, kb1, kb2, kb3, kb4, kb5, kb6, rEq, rNe, scal, tMake_S, tMakeK_S, tMakeN_S]
            exact ⟨l, e0, e1, e2, 3, rfl, L, by decide, by decide, fun r f0 f1 f2 r0 r1 => ⟨r, rfl, by omega, by omega, (Dr.start L).upd⟩⟩
          rintro σ' G6 ⟨sp, rfl, p1, p3, d6⟩
          have C6 := (C5).dr nH d6
          obtain ⟨g0, g1, g2, LX⟩ := id C5.2
          have cx6 := (cx).dr LX d6.1
          have hS6 := d6.1 _ _ (st_ne (hST) LX) (hST)
          obtain ⟨vs, hvl, hrw, hL, hv⟩ := id cx6
          have elast : (vs ++ [V.ref Lq])[m]? = some (V.ref Lq) := by rw [List.getElem?_append_right (by omega), hvl, Nat.sub_self]; rfl
          simp -dsimp [tSeq, tAsg, tRet, tIfS, tIf, tTest, tVar, tCons, tNil, tC, tOp, tUn, rI, rI0, rU, tCB, tLst_A, tTup_A, gName, L2.start, CMul, CPow, CDiv, tDrop, tBM, tBM0, tNext, tPar, gSub, rSetL, rIxL, rIxT, tChain, tB, tNot, tNotV, tAnd, tOr, tAndV, tOrV, tFld, tCall, rIxLH, rIxTH, atI, ixN, upd_same, cxK, ex2, ex3, ex3b, rIs1, rIs2, rNe2, tyN, kb1, kb2, kb3, kb4, kb5, kb6, rEq, rNe, scal, tMake_S, tMakeK_S, tMakeN_S, tAugS, ipI, hrw, hvl]
          have e0 := ixK (vl_get (n := 4) (g := fun b => V.int (A m b)) (show 0 < 4 by decide))
          refine ⟨.ref Lq, ?_, Lq, rfl, _, hL, _, e0, ?_⟩
          · rw [if_pos (by omega), show (-1 + ((m : Int) + 1)).toNat = m by omega]
            exact elast
          · split
            · rename_i w3
              exact ⟨_, rfl, Lq, rfl, _, hL, 0, ⟨by rw [vl_len]; decide, rfl⟩, moved C6 nLq cx6 hS6 ⟨by omega, fun e => by omega, fun _ => by omega, fun e e' => absurd w3 e'⟩⟩
            · rename_i w3
              exact ⟨_, rfl, Lq, rfl, _, hL, 0, ⟨by rw [vl_len]; decide, rfl⟩, moved C6 nLq cx6 hS6 ⟨by omega, fun _ => by omega, fun e => absurd e w3, fun e => by omega⟩⟩
        · rename_i w2
          split
          · rename_i w3
            obtain ⟨vs0, hvl0, hrw0, hL0, hv0⟩ := id cx
            have elast0 : (vs0 ++ [V.ref Lq])[m]? = some (V.ref Lq) := by rw [List.getElem?_append_right (by omega), hvl0, Nat.sub_self]; rfl
            refine ⟨.ref rw, rfl, 1, rfl, rw, _, _, .ref Lq, rfl, rfl, hrw0, ?_, 1, rfl, Lq, _, rfl, SqL.of hL0, fun S nS => ?_⟩
            · have l1 : ((vs0 ++ [V.ref Lq]).length : Int) = (m : Int) + 1 := by rw [List.length_append, hvl0]; rfl
              unfold atI ixN
              rw [if_neg (by decide), if_pos (by omega), show (-1 + ((vs0 ++ [V.ref Lq]).length : Int)).toNat = m by omega]
              exact elast0
            rw [cut_one _ (by rw [vl_len]; decide), ro_drop 3]
            have sS := same_upd (o := HO.lst (ro 3 fun b => A m (b + 1))) nS
            refine ⟨by decide, Alloc.of fun Z GX nZ eZ sZ => ⟨S, Z, 3, _, fun _ => 0, rfl, rfl, sZ _ _ upd_same, eZ, ?_⟩⟩
            have sX := sS.trans sZ
            have CX5 := C5.same sX
            have cxX := cx.same sX
            have hSX := sX _ _ hST
            cases hz : (List.range 3).all fun b => decide (A m (b + 1) = 0) with
            | true => exact .inl ⟨rfl, CX5, A, cxX, hSX, 0, ⟨fun _ _ => rfl, fun _ _ => rfl, (Int.add_zero _).symm⟩, by decide, fun e => absurd e w2, fun _ => by decide, fun _ _ => rfl⟩
            | false =>
              refine .inr ⟨rfl, ?_⟩
              refine ⟨fun σ' G' => ∃ sp, σ' = [some (.ref a), some (.int (i : Nat)), some (.ref l), some (.ref p), some (.ref rw), some (.ref wt), some (.ref ST), some (.int wy), some (.int sp), v9, v10, v11, v12, v13, v14, v15, v16] ∧ 1 ≤ sp ∧ sp ≤ 3 ∧ Dr l GX G', ?_, ?_⟩
              · obtain ⟨_, e0, e1, e2, L⟩ := id CX5
                simp -dsimp [tSeq, tAsg, tRet, tIfS, tIf, tTest, tVar, tCons, tNil, tC, tOp, tUn, rI, rI0, rU, tCB, tLst_A, tTup_A, gName, L2.start, CMul, CPow, CDiv, tDrop, tBM, tBM0, tNext, tPar, gSub, rSetL, rIxL, rIxT, tChain, tB, tNot, tNotV, tAnd, tOr, tAndV, tOrV, tFld, tCall, rIxLH, rIxTH, atI, ixN, upd_same, cxK, ex2, ex3, ex3b, rIs1, rIs2, rNe2, tyN, kb1, kb2, kb3, kb4, kb5, kb6, rEq, rNe, scal, tMake_S, tMakeK_S, tMakeN_S]
                exact ⟨l, e0, e1, e2, 3, rfl, L, by decide, by decide, fun r f0 f1 f2 r0 r1 => ⟨r, rfl, by omega, by omega, (Dr.start L).upd⟩⟩
              rintro σ' G6 ⟨sp, rfl, p1, p3, d6⟩
              have C6 := (CX5).dr nH d6
              obtain ⟨g0, g1, g2, LX⟩ := id CX5.2
              have cx6 := (cxX).dr LX d6.1
              have hS6 := d6.1 _ _ (st_ne (hSX) LX) (hSX)
              obtain ⟨vs, hvl, hrw, hL, hv⟩ := id cx6
              have elast : (vs ++ [V.ref Lq])[m]? = some (V.ref Lq) := by rw [List.getElem?_append_right (by omega), hvl, Nat.sub_self]; rfl
              simp -dsimp [tSeq, tAsg, tRet, tIfS, tIf, tTest, tVar, tCons, tNil, tC, tOp, tUn, rI, rI0, rU, tCB, tLst_A, tTup_A, gName, L2.start, CMul, CPow, CDiv, tDrop, tBM, tBM0, tNext, tPar, gSub, rSetL, rIxL, rIxT, tChain, tB, tNot, tNotV, tAnd, tOr, tAndV, tOrV, tFld, tCall, rIxLH, rIxTH, atI, ixN, upd_same, cxK, ex2, ex3, ex3b, rIs1, rIs2, rNe2, tyN, kb1, kb2, kb3, kb4, kb5, kb6, rEq, rNe, scal, tMake_S, tMakeK_S, tMakeN_S, tAugS, ipI, hrw, hvl]
              have e0 := ixK (vl_get (n := 4) (g := fun b => V.int (A m b)) (show 0 < 4 by decide))
              refine ⟨.ref Lq, ?_, Lq, rfl, _, hL, _, e0, ?_⟩
              · rw [if_pos (by omega), show (-1 + ((m : Int) + 1)).toNat = m by omega]
                exact elast
              · split
                · rename_i w3
                  exact ⟨_, rfl, Lq, rfl, _, hL, 0, ⟨by rw [vl_len]; decide, rfl⟩, moved C6 nLq cx6 hS6 ⟨by omega, fun e => by omega, fun _ => by omega, fun e e' => absurd w3 e'⟩⟩
                · rename_i w3
                  exact ⟨_, rfl, Lq, rfl, _, hL, 0, ⟨by rw [vl_len]; decide, rfl⟩, moved C6 nLq cx6 hS6 ⟨by omega, fun _ => by omega, fun e => absurd e w3, fun e => by omega⟩⟩
          · rename_i w3
            exact ⟨C5, A, cx, hST, 0, ⟨fun _ _ => rfl, fun _ _ => rfl, (Int.add_zero _).symm⟩, by decide, fun e => absurd e w2, fun e => absurd e w3, fun _ _ => rfl⟩
      rintro σ' G6 ⟨A', d, w8, rfl, C6, cx, hST, adj, dok⟩
      refine ⟨fun σ' G' => ∃ MX, σ' = [some (.ref a), some (.int (i : Nat)), some (.ref l), some (.ref p), some (.ref rw), some (.ref wt), some (.ref ST), some (.int wy), w8, some (.ref MX), v10, v11, v12, v13, v14, v15, v16] ∧ Cl2 H l G' ∧ ClX G' rw Lq m A' ∧ RowsL G' MX (m + 1) A' st, ?_, ?_⟩
      · simp -dsimp [tSeq, tAsg, tRet, tIfS, tIf, tTest, tVar, tCons, tNil, tC, tOp, tUn, rI, rI0, rU, tCB, tLst_A, tTup_A, gName, L2.start, CMul, CPow, CDiv, tDrop, tBM, tBM0, tNext, tPar, gSub, rSetL, rIxL, rIxT, tChain, tB, tNot, tNotV, tAnd, tOr, tAndV, tOrV, tFld, tCall, rIxLH, rIxTH, atI, ixN, upd_same, cxK, ex2, ex3, ex3b, rIs1, rIs2, rNe2, tyN, kb1, kb2, kb3, kb4, kb5, kb6, rEq, rNe, scal, tMake_S, tMakeK_S, tMakeN_S]
        obtain ⟨vs, hvl, hrw, hrow⟩ := cx.cl
        refine lc_zipL (K := K) rw ST vs _ (fun j v G' => ∃ t q, v = .ref t ∧ G' t = some (.tup [.ref q, .bl (st j)]) ∧ vs[j]? = some (.ref q)) (by rw [vl_len, hvl]) (by omega) (fun j D xs v G' G'' hD s ⟨t, q, e1, e2, e3⟩ => ⟨t, q, e1, s _ _ (fun e => by rw [e, hD] at e2; cases e2) e2, e3⟩) (fun _ _ => rfl) hrw hST (fun R h => ⟨_, rfl, _, rfl, h⟩) (fun j x y G7 R hx hy s7 k7 => ?_) (fun D G7 ws s7 hwl hD hw => ?_)
        · obtain ⟨hj, hy⟩ := vl_at hy
          subst hy
          obtain ⟨q, e1, e2⟩ := hrow j hj
          have hx' := hx
          rw [e1] at hx'
          cases hx'
          simp -dsimp [tSeq, tAsg, tRet, tIfS, tIf, tTest, tVar, tCons, tNil, tC, tOp, tUn, rI, rI0, rU, tCB, tLst_A, tTup_A, gName, L2.start, CMul, CPow, CDiv, tDrop, tBM, tBM0, tNext, tPar, gSub, rSetL, rIxL, rIxT, tChain, tB, tNot, tNotV, tAnd, tOr, tAndV, tOrV, tFld, tCall, rIxLH, rIxTH, atI, ixN, upd_same, cxK, ex2, ex3, ex3b, rIs1, rIs2, rNe2, tyN, kb1, kb2, kb3, kb4, kb5, kb6, rEq, rNe, scal, tMake_S, tMakeK_S, tMakeN_S, wipe]
          exact ⟨by decide, Alloc.of fun t G8 n8 e8 s8 => k7 _ G8 s8 ⟨t, q, rfl, e8, e1⟩⟩
        · refine ⟨D, rfl, C6.same s7, cx.same s7, ws, by rw [hwl, hvl], hD, fun k hk => ?_⟩
          obtain ⟨t, q, e1, e2, e3⟩ := hw k _ (List.getElem?_eq_getElem (by rw [hwl]; omega))
          obtain ⟨q', e4, e5⟩ := hrow k hk
          rw [e3] at e4
          cases e4
          exact ⟨t, q, by rw [← e1]; exact List.getElem?_eq_getElem _, e2, s7 _ _ e5⟩
      rintro σ' G7 ⟨MX, rfl, C7, cx, rows⟩
      refine ⟨fun σ' G' => ∃ t : Nat, σ' = [some (.ref a), some (.int (i : Nat)), some (.ref l), some (.ref p), some (.ref rw), some (.ref wt), some (.ref ST), some (.int wy), w8, some (.ref MX), some (.int t), v11, v12, v13, v14, v15, v16] ∧ t ≤ m + 1 ∧ Cl2 H l G' ∧ ClX G' rw Lq m A' ∧ RowsL G' MX (m + 1) A' st, ?_, ?_⟩
      · obtain ⟨vm, vml, hMX, _⟩ := id rows
        simp -dsimp [tSeq, tAsg, tRet, tIfS, tIf, tTest, tVar, tCons, tNil, tC, tOp, tUn, rI, rI0, rU, tCB, tLst_A, tTup_A, gName, L2.start, CMul, CPow, CDiv, tDrop, tBM, tBM0, tNext, tPar, gSub, rSetL, rIxL, rIxT, tChain, tB, tNot, tNotV, tAnd, tOr, tAndV, tOrV, tFld, tCall, rIxLH, rIxTH, atI, ixN, upd_same, cxK, ex2, ex3, ex3b, rIs1, rIs2, rNe2, tyN, kb1, kb2, kb3, kb4, kb5, kb6, rEq, rNe, scal, tMake_S, tMakeK_S, tMakeN_S, hMX]
        obtain ⟨_, e0, e1, e2, L⟩ := id C7
        refine ⟨l, e0, e1, e2, _, rfl, L, by omega, by omega, fun r f0 f1 f2 r0 r1 => ⟨r.toNat, by rw [Int.toNat_of_nonneg r0], by omega, C7.dr nH ((Dr.start L).upd), cx.dr L .upd, rows.sameN L .upd⟩⟩
      rintro σ' G8 ⟨t, rfl, ht, C8', cx, rows⟩
      refine ⟨fun σ' G' => ∃ MX A2 st2, σ' = [some (.ref a), some (.int (i : Nat)), some (.ref l), some (.ref p), some (.ref rw), some (.ref wt), some (.ref ST), some (.int wy), w8, some (.ref MX), some (.int t), v11, v12, v13, v14, v15, v16] ∧ Cl2 H l G' ∧ ClX G' rw Lq m A' ∧ RowsL G' MX (m + 1) A2 st2 ∧ Perm2 (m + 1) A' st A2 st2, ?_, ?_⟩
      · simp -dsimp [tSeq, tAsg, tRet, tIfS, tIf, tTest, tVar, tCons, tNil, tC, tOp, tUn, rI, rI0, rU, tCB, tLst_A, tTup_A, gName, L2.start, CMul, CPow, CDiv, tDrop, tBM, tBM0, tNext, tPar, gSub, rSetL, rIxL, rIxT, tChain, tB, tNot, tNotV, tAnd, tOr, tAndV, tOrV, tFld, tCall, rIxLH, rIxTH, atI, ixN, upd_same, cxK, ex2, ex3, ex3b, rIs1, rIs2, rNe2, tyN, kb1, kb2, kb3, kb4, kb5, kb6, rEq, rNe, scal, tMake_S, tMakeK_S, tMakeN_S]
        obtain ⟨vm, vml, hMX, _⟩ := id rows
        refine ⟨_, rfl, .int t, rfl, t, rfl, MX, vm, rfl, SqL.of hMX, fun c1 nc1 => ⟨_, rfl, .int t, rfl, t, rfl, MX, vm, rfl, SqL.of ((same_upd nc1) _ _ hMX), fun c2 nc2 => ?_⟩⟩
        rw [cut_from _ _ (by omega), cut_to] at *
        have t1 := same_upd (o := HO.lst (vm.drop t)) nc1
        have t2 := same_upd (o := HO.lst (vm.take t)) nc2
        refine ⟨c1, c2, _, _, rfl, rfl, t2 _ _ upd_same, upd_same, by rw [List.length_drop, List.length_take]; exact Nat.le_of_lt (small1000 (by omega)), fun c3 nc3 => ?_⟩
        have t3 := same_upd (o := HO.lst (vm.drop t ++ vm.take t)) nc3
        have tt := (t1.trans t2).trans t3
        refine ⟨c3, rfl, C8'.same tt, cx.same tt, _, _, (rows.same tt).rot (tt _ _ hMX) ht upd_same, fun k hk => ⟨_, ?_, rfl, rfl⟩, fun k hk => ⟨if t ≤ k then k - t else k + (m + 1 - t), ?_, ?_, ?_⟩⟩
        · split <;> omega
        · split <;> omega
        · refine congrArg A' ?_
          split <;> split <;> omega
        · refine congrArg st ?_
          split <;> split <;> omega
      rintro σ' G9 ⟨MX, A2, st2, rfl, C9, cx, rows, pm⟩
      have hA2 : ∀ k b, k < m + 1 → b < 4 → (A2 k b).natAbs ≤ 10 ^ 4 := fun k b hk hb => by
        obtain ⟨j, hj, e, _⟩ := pm.1 k hk
        rw [e]
        exact adj_le bal adj dok j b hj hb
      refine ⟨fun σ' G' => ∃ FD, σ' = [some (.ref a), some (.int (i : Nat)), some (.ref l), some (.ref p), some (.ref rw), some (.ref wt), some (.ref ST), some (.int wy), w8, some (.ref MX), some (.int t), some (.ref FD), v12, v13, v14, v15, v16] ∧ Cl2 H l G' ∧ ClX G' rw Lq m A' ∧ RowsL G' MX (m + 1) A2 st2 ∧ Rws K G' FD (m + 1) (prG A2) st2, ?_, ?_⟩
      · simp -dsimp [tSeq, tAsg, tRet, tIfS, tIf, tTest, tVar, tCons, tNil, tC, tOp, tUn, rI, rI0, rU, tCB, tLst_A, tTup_A, gName, L2.start, CMul, CPow, CDiv, tDrop, tBM, tBM0, tNext, tPar, gSub, rSetL, rIxL, rIxT, tChain, tB, tNot, tNotV, tAnd, tOr, tAndV, tOrV, tFld, tCall, rIxLH, rIxTH, atI, ixN, upd_same, cxK, ex2, ex3, ex3b, rIs1, rIs2, rNe2, tyN, kb1, kb2, kb3, kb4, kb5, kb6, rEq, rNe, scal, tMake_S, tMakeK_S, tMakeN_S]
        obtain ⟨_, e0, e1, e2, L⟩ := id C9
        refine ⟨l, MX, e0, e1, e2, m + 1, A2, st2, rfl, L, rows, by omega, fun k b hk hb => Nat.lt_of_le_of_lt (hA2 k b hk hb) (by decide), fun D G10 d nD hW => ?_⟩
        exact ⟨D, rfl, C9.dr nH d, cx.dr L d.1, rows.sameN L d.1, hW⟩
      rintro σ' G10 ⟨FD, rfl, C10, cx, rows, rws⟩
      refine ⟨fun σ' G' => ∃ tv, σ' = [some (.ref a), some (.int (i : Nat)), some (.ref l), some (.ref p), some (.ref rw), some (.ref wt), some (.ref ST), some (.int wy), w8, some (.ref MX), some (.int t), some (.ref FD), some tv, v13, v14, v15, v16] ∧ Same G10 G' ∧ Told A2 st2 (m + 1) tv, ?_, ?_⟩
      · simp -dsimp [tSeq, tAsg, tRet, tIfS, tIf, tTest, tVar, tCons, tNil, tC, tOp, tUn, rI, rI0, rU, tCB, tLst_A, tTup_A, gName, L2.start, CMul, CPow, CDiv, tDrop, tBM, tBM0, tNext, tPar, gSub, rSetL, rIxL, rIxT, tChain, tB, tNot, tNotV, tAnd, tOr, tAndV, tOrV, tFld, tCall, rIxLH, rIxTH, atI, ixN, upd_same, cxK, ex2, ex3, ex3b, rIs1, rIs2, rNe2, tyN, kb1, kb2, kb3, kb4, kb5, kb6, rEq, rNe, scal, tMake_S, tMakeK_S, tMakeN_S]
        exact ⟨FD, MX, m + 1, A2, st2, rfl, rws, rows, by omega, fun k b hk hb => Nat.le_trans (hA2 k b hk hb) (by decide), fun x G11 s11 hH => ⟨s11, .inl ⟨rfl, x, hH⟩⟩, fun w'' G11 s11 hS' => ⟨s11, .inr ⟨rfl, w'', hS'⟩⟩⟩
      rintro σ' G11 ⟨tv, rfl, s11, told⟩
      refine ⟨fun σ' G' => σ' = [some (.ref a), some (.int (i : Nat)), some (.ref l), some (.ref p), some (.ref rw), some (.ref wt), some (.ref ST), some (.int wy), w8, some (.ref MX), some (.int t), some (.ref FD), some tv, v13, v14, v15, v16] ∧ Same G10 G', ?_, ?_⟩
      · simp -dsimp [tSeq, tAsg, tRet, tIfS, tIf, tTest, tVar, tCons, tNil, tC, tOp, tUn, rI, rI0, rU, tCB, tLst_A, tTup_A, gName, L2.start, CMul, CPow, CDiv, tDrop, tBM, tBM0, tNext, tPar, gSub, rSetL, rIxL, rIxT, tChain, tB, tNot, tNotV, tAnd, tOr, tAndV, tOrV, tFld, tCall, rIxLH, rIxTH, atI, ixN, upd_same, cxK, ex2, ex3, ex3b, rIs1, rIs2, rNe2, tyN, kb1, kb2, kb3, kb4, kb5, kb6, rEq, rNe, scal, tMake_S, tMakeK_S, tMakeN_S]
        refine ⟨by decide, Alloc.of fun Z G12 n12 e12 s12 => ⟨Z, _, rfl, .inl (SqL.of e12), rfl, rfl, ?_⟩⟩
        have iv : inV (.int wy) [V.int 1, V.int 2] = decide (wy = 1 ∨ wy = 2) := by
          show (eqV (.int 1) (.int wy) || (eqV (.int 2) (.int wy) || false)) = _
          rw [eqV_int, eqV_int, Bool.or_false]
          by_cases h1 : wy = 1
          · rw [decide_eq_true (show 1 = wy from h1.symm), decide_eq_true (show wy = 1 ∨ wy = 2 from .inl h1), Bool.true_or]
          · by_cases h2 : wy = 2
            · rw [decide_eq_true (show 2 = wy from h2.symm), decide_eq_true (show wy = 1 ∨ wy = 2 from .inr h2), Bool.or_true]
            · rw [decide_eq_false (fun e : 1 = wy => h1 e.symm), decide_eq_false (fun e : 2 = wy => h2 e.symm), decide_eq_false (fun e : wy = 1 ∨ wy = 2 => e.elim h1 h2)]
              rfl
        rw [if_neg (by decide), iv]
        rcases told with ⟨rfl, x, hH⟩ | ⟨rfl, w'', hS'⟩
        · have no : ¬ (wy = 1 ∨ wy = 2) := fun e => told_no bal adj dok hst pm hH e
          rw [decide_eq_false no]
          exact .inl ⟨rfl, rfl, .inl ⟨rfl, s11.trans s12⟩⟩
        · have yes : wy = 1 ∨ wy = 2 := Decidable.byContradiction fun e => told_yes bal adj dok hst pm hS' e
          rw [decide_eq_true yes]
          exact .inr ⟨rfl, rfl, .inl ⟨rfl, s11.trans s12⟩⟩
      rintro σ' G12 ⟨rfl, s12⟩
      simp -dsimp [tSeq, tAsg, tRet, tIfS, tIf, tTest, tVar, tCons, tNil, tC, tOp, tUn, rI, rI0, rU, tCB, tLst_A, tTup_A, gName, L2.start, CMul, CPow, CDiv, tDrop, tBM, tBM0, tNext, tPar, gSub, rSetL, rIxL, rIxT, tChain, tB, tNot, tNotV, tAnd, tOr, tAndV, tOrV, tFld, tCall, rIxLH, rIxTH, atI, ixN, upd_same, cxK, ex2, ex3, ex3b, rIs1, rIs2, rNe2, tyN, kb1, kb2, kb3, kb4, kb5, kb6, rEq, rNe, scal, tMake_S, tMakeK_S, tMakeN_S]
      split
      · rename_i w0
        have one : 1 ≤ 10 ^ 7 := by decide
        have b38 : ∀ {y : Nat}, y < TB.fac 5 * (10 ^ 7) ^ 5 + 1 → y < 10 ^ 38 := fun h => Nat.lt_of_lt_of_le h z38
        refine ⟨FD, m + 1, 10 ^ 7, prG A2, st2, rfl, rws.same s12, by omega, fun k b hk hb => prG_le (Nat.le_trans (hA2 k b hk hb) (by decide)), one, z38b, fun t' z0 z1 z2 x G13 s13 ht i0 i1 i2 hx hH => ?_, fun w'' G13 s13 hS' => (told_yes bal adj dok hst pm hS' (by omega)).elim⟩
        have hA0 := told_zero bal adj dok pm hH w0
        exact ⟨t', rw, z0, z1, z2, m + 1, A', x, rfl, ht, i0, i1, i2, fun k hk => b38 (hx k hk), hH.1, (cx.same s12).cl.same s13, by omega, fun k b hk hb => Nat.lt_of_le_of_lt (adj_le bal adj dok k b hk hb) (by decide), hA0, fun G14 s14 => .inr ⟨rfl, C10.1.trans ((s12.trans s13).trans s14)⟩⟩
      · exact C10.1.trans s12
    · rintro σ' G ⟨v1, v2, v3, v4, v5, v6, v7, v8, v9, v10, v11, v12, v13, v14, v15, v16, rfl, sG⟩
      simp -dsimp [tSeq, tAsg, tRet, tIfS, tIf, tTest, tVar, tCons, tNil, tC, tOp, tUn, rI, rI0, rU, tCB, tLst_A, tTup_A, gName, L2.start, CMul, CPow, CDiv, tDrop, tBM, tBM0, tNext, tPar, gSub, rSetL, rIxL, rIxT, tChain, tB, tNot, tNotV, tAnd, tOr, tAndV, tOrV, tFld, tCall, rIxLH, rIxTH, atI, ixN, upd_same, cxK, ex2, ex3, ex3b, rIs1, rIs2, rNe2, tyN, kb1, kb2, kb3, kb4, kb5, kb6, rEq, rNe, scal, tMake_S, tMakeK_S, tMakeN_S]
      exact q _
end
theorem facts {P : Program} {w : World} {K : PySem.W.Frag} {h : Heap} {mg : Str → Option Value} {f : Addr} (X : K.In h) (G : h.Ns mainGlobals mg) (hfa : mg ("law" : Str) = some (.ref f)) (c : SaysX fa fn sups extra stats K) (hP : SupX.PrgOk P) :
    ∃ fd : FuncData, (∀ (s : Shared) (v : Value), BindsTo s fd ⟨[v], []⟩ [("_law_script", v)]) ∧ ∀ base : Heap, K.In base → base.Ns mainGlobals mg → FnOk P w K mg base (CXL P w) lawK f fd ["_law_script"] (spLaw K) := by
  have Wq : Wd K mg := ⟨c, h, X, G⟩
  have e := hfa.symm.trans (Wq.g_law)
  cases e
  obtain ⟨fd, F⟩ := Wq.F_law
  have b := FunD.bindsA (ps := ["_law_script"]) F fun _ _ _ _ _ _ us hl => match us, hl with | [_], _ => rfl
  exact ⟨fd, fun s v => b s [v] rfl, fun base _ _ => ok_law Wq hP F⟩
theorem walk {l : PySem.W.OpenLaw} {q : Program} {loose : List Str} {XP : (Str → Option Value) → Heap → Prop} {YP : World → Heap → Prop} {d : DefRec} {K : Params → PySem.W.Frag} (hn : l.most = some 63) (hdf : d.params.defaults = []) (hdn : d.name = "law")
    (hY : ∀ (w : World) (h : Heap), YP w h → (K w.params).In h) (hS : ∀ w : World, SaysX fa fn sups extra stats (K w.params)) (hP : SupX.PrgOk l.prog) :
    PySem.W.WalkO q loose XP YP l.row.toRowW d [] (fun f vs => PySem.call f vs) :=
  L2.walk_of (n := 63) (k := lawK) (x := "_law_script") (CX := fun w => CXL l.prog w) (sp := fun w => spLaw (K w.params)) hn (by decide) hdf ⟨rfl, by decide, by decide⟩ hY
    (fun w mg fa h KX G hmg => facts KX G (by rw [hdn] at hmg; exact hmg) (hS w) hP) (fun _ _ a ns hl _ hS => ⟨a, ns, rfl, hS, hl, fun _ => rfl⟩) fun _ H s e s' z => hCX H s e s' z
end LW
open PySem PySem.W PyProof.Rows
set_option maxRecDepth 100000 in
set_option maxHeartbeats 0 in
theorem PySem.Challenge.cw_lessways_k41_sharp_borders_holds : PySem.Challenge.rw_lessways_k41_sharp_borders.Holds := by
  w_on; o_law; k_head; (case hw => w_witness2)
  k_fill
  exact LW.walk (l := PySem.Challenge.rw_lessways_k41_sharp_borders) rfl rfl rfl (fun w h Y => PySem.W.kIn_of Y) (fun w => by unfold LW.SaysX; kernel_rfl) ⟨by kernel_rfl, by kernel_rfl⟩
#print axioms PySem.Challenge.cw_lessways_k41_sharp_borders_holds
