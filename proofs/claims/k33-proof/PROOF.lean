import PyProof.Rows.All
import Wide.All
import OpenK.AllK
import Wide.FinOn
import KE.KStateDown
import Lean
import HandS.ForMost
import HandS.ForExc
import HandS.Defaults
import HandS.IsInst
import HandS.Wide
import HandS.Zip
import HandS.Walk
import HandS.Codes
import HandS.FStr
import HandS.StrMore
import HandS.Style
import HandS.MakeKw
import HandS.MakeKwOnly
import HandS.CallSlots
import HandS.ExcInit
import HandS.ExcField
import HandS.SlotsOwn
import KE.KExcSuper
import HandS.HeadHook1
import HandS.HeadHook2
import KE.KCallOwn
import HandS.NestedK
import KE.KOpsOwn
import HandS.ClsMeth
import HandS.HeadNt
import KE.KEqDict
import PySem.Challenge.RW_lessways_k33_shares_compared
set_option Elab.async false
set_option linter.all false
set_option maxRecDepth 100000
set_option maxHeartbeats 4000000
namespace LW
open PySem PySem.Spec PyProof.Rows L2
/-! ### super().__init__(text); self.f = p : an own exception's __init__ -/
namespace SupX
open PySem.W
/-- what the written part says of the class at C whose __init__ stands at f -/
structure SupC (P : Program) (K : PySem.W.Frag) (C f cc cda : Addr) (name qual : Str) (st : Stmt) : Prop where
  oex : OexC K C
  lk : ∃ (oc : Value) (od : Option Addr) (doc pm : Value) (an : Option Addr) (ct : Value) (osl : Array (Option Value)), K.lookup f = some ⟨oc, od, .func (PySem.W.ksFn name qual (defArgs st) (defBody st) (defScope st) .none .none doc pm an (.ref cda) ct cc), osl⟩
  code : PySem.W.codeIn K (.ref cda) qual = true
  file : ∃ (ccl : Value) (cdd : Option Addr) (vs : Array Value) (ccs : Array (Option Value)) (file : Str) (tf : Tok), K.lookup cda = some ⟨ccl, cdd, .fields vs, ccs⟩ ∧ vs[2]? = some (.str file tf) ∧ ((P.main.file : Str) == file) = true
  cell : ∃ (cl : Value) (cld : Option Addr) (csl : Array (Option Value)), K.lookup cc = some ⟨cl, cld, .cell (some (.ref C)), csl⟩
  isc : ∃ cd, PySem.W.clsIn K C = some cd
  sub : PySem.W.mroIn K C (.ref C) = some true
  sup : PySem.W.nsIn K mainGlobals "super" = some none
  opq : PySem.W.nsIn K PySem.cStatics "thirdparty.any" = some none
  ini : PySem.W.ks_superIn K C C "__init__" = some (some (.builtin "ValueError.__init__"))
  veb : PySem.W.subIn K (.ref C) (.type "ValueError") = some true
  top : (P.main.scope.names.lookup ("super" : Str)).isSome = false
section
variable {X : Cx} {C f cc cda a : Addr} {name qual : Str} {st : Stmt} {body : List Stmt} {scope : Scope} {H : Hp} {s : Shared} {v : V} {par : Str} {p0 p1 p2 p3 p4 p5 : Pos} {msg : Str} {j : Nat}
theorem super_stmt (T : SupC X.prog X.K C f cc cda name qual st) (henv : X.env = PySem.W.ksEnv qual scope X.env.locals f (.ref cda) cc) (hN0 : X.N[0]? = some ("self" : Str))
    (hks : scope.names.lookup ("super" : Str) = some .globalImplicit) (hkc : scope.names.lookup ("__class__" : Str) = some .free) (hka : scope.names.lookup ("self" : Str) = some .local) (hk : scope.kind = .function)
    (hp : ((defArgs st).posonlyargs ++ (defArgs st).args).head?.map (·.arg) = some ("self" : Str)) {pl : Sem Bool}
    (he : eval (.Call (.Attribute (.Call (.Name "super" p0) [] [] p1) "__init__" p2) [.Constant (.str msg) j p3] [] p4) X.env = (do
      let ov ← attributeBase (.Call (.Name "super" p0) [] [] p1) "__init__" X.env (eval (.Call (.Name "super" p0) [] [] p1) X.env)
      standAt p2.atName
      let (f, first) ← holding [ov] (getMethod ov "__init__" pl)
      callWith p4 f first (backTo p4 (starEach [.Constant (.str msg) j p3] X.env)) []))
    (hsw : swapsWith (.Call (.Attribute (.Call (.Name "super" p0) [] [] p1) "__init__" p2) [.Constant (.str msg) j p3] [] p4) none p5.line X.env = pure false) (hi : interactive X.env = false)
    {σ : List (Option V)} (hσ : σ[0]? = some (some (.ref a))) (I : Inv X [] σ H s) (ha : H a = some (exo a C none)) {Q : Flow → Shared → Prop} (h : ∀ s', Inv X [] σ H s' → Q .next s') :
    _root_.PySem.wpAt (model X.prog X.w) X.A (.func body X.env) (exec (.Expr (.Call (.Attribute (.Call (.Name "super" p0) [] [] p1) "__init__" p2) [.Constant (.str msg) j p3] [] p4) p5) X.env) Q X.xe s := by
  obtain ⟨oc, od, doc, pm, an, ct, osl, lk⟩ := T.lk
  obtain ⟨ccl, cdd, vs, ccs, file, tf, lcd, hvs, hfile⟩ := T.file
  obtain ⟨cl, cld, csl, lcc⟩ := T.cell
  obtain ⟨cd, hcd⟩ := T.isc
  obtain ⟨ar, har, hara⟩ : ∃ ar, ((defArgs st).posonlyargs ++ (defArgs st).args).head? = some ar ∧ ar.arg = "self" := by
    cases e : ((defArgs st).posonlyargs ++ (defArgs st).args).head? with
    | none =>
      rw [e] at hp
      cases hp
    | some ar =>
      rw [e] at hp
      exact ⟨ar, rfl, Option.some.inj hp⟩
  have kX : X.K.In s.heap := I.kIn
  have k4 : X.env.scope.kind = .function := I.ok.kind
  obtain ⟨mb, hb1, hb2⟩ := I.mod.blt
  obtain ⟨m, hns, hl⟩ := I.loc
  have hself : m ("self" : Str) = some (.ref a) := by
    obtain ⟨u, r, l⟩ := hl 0 "self" (.ref a) hN0 hσ (.inl (by rw [henv]; exact hka))
    obtain rfl : u = Value.ref a := r
    rcases l with ⟨_, e⟩ | ⟨e, _⟩
    · exact e
    · rw [henv] at e
      have e2 : scope.names.lookup ("self" : Str) = some .cell ∨ scope.names.lookup ("self" : Str) = some .free := e
      rw [hka] at e2
      rcases e2 with e2 | e2 <;> cases e2
  generalize hL : X.env.locals = L at *
  rw [henv] at he hsw hi ⊢
  obtain ⟨t1, ho⟩ := exo_at I.hok ha
  obtain ⟨oD, hD1, hD2⟩ : ∃ oD, s.heap.get? C = some oD ∧ oD.data = .cls cd := by
    unfold PySem.W.clsIn at hcd
    split at hcd
    · rename_i c d cd' sl hoo
      cases hcd
      exact ⟨_, kX _ _ hoo, rfl⟩
    · cases hcd
  have J0 : PySem.W.InstAt s.heap a { cls := .ref C, dict := none, data := .fields #[.ref t1, .none, .none, .none, .bool false, .none] } C none := ⟨ho, rfl, rfl, trivial⟩
  refine PySem.ks_wpAt_Expr_any (PySem.ks_wpAt_MethodCall (PySem.ks_wpAt_super_base hks hkc rfl rfl (kX _ _ lk) rfl har rfl (kX _ _ lcd) rfl hvs hfile T.top ?_) he) hi hsw
  refine PySem.W.ks_loadName_global hk hks (Calls.loadGlobal_builtin (I.mod.glob.keeps I.bk) (PySem.W.mg_none_of I.mod.kin I.mod.glob T.sup) (hb1.keeps I.bk) ((hb2 _ (by decide)).trans (by decide +kernel : bootBuiltins "super" = some (.type "super"))) ⟨rfl, ?_⟩)
  refine wpAny_loadName_free hk hkc rfl ⟨_, kX _ _ lcc, rfl⟩ ?_
  refine wpAny_loadName_local hk (by rw [hara]; exact hka) hns (by rw [hara]; exact hself) ?_
  refine PySem.ks_wpAny_isType_cls hD1 hD2 ⟨rfl, ?_⟩
  obtain ⟨hh, g, dr, tk, os⟩ := s
  refine PySem.ks_wpAny_call_super hD1 hD2 ho rfl (fun c e => by cases e) (PySem.W.looks_mroIn kX T.sub) (fun h1 e1 kk1 => ?_)
  have I1 : Inv X [] σ H ⟨h1, g, dr, tk, os⟩ := I.kept (t' := tk) kk1
  have ho1 := kk1 _ _ ho
  have kX1 : X.K.In h1 := I1.kIn
  have hI1 : PySem.W.Looks (model X.prog X.w) h1 (isInstance (.ref a) (.type "ValueError")) true := (PySem.W.InstAt.type (M := model X.prog X.w) (show PySem.W.InstAt h1 a { cls := .ref C, dict := none, data := .fields #[.ref t1, .none, .none, .none, .bool false, .none] } C none from ⟨ho1, rfl, rfl, trivial⟩)).andThen (PySem.W.looks_subIn kX1 T.veb)
  have hini := T.ini
  unfold PySem.W.ks_superIn at hini
  rw [hcd] at hini
  refine PySem.W.kxs_getMethod PySem.W.kxs_ValueError e1 (PySem.W.looks_opaque kX1 T.opq) (l₀ := cd.mro) (fun A Q E s k q => wpAny_bind ((PySem.W.looks_clsIn kX1 hcd) A _ E s k (wpAny_pure q))) rfl kX1 hini hI1 (PySem.W.ks_ne kX J0 hcd) rfl ?_
  have kk2 : ∀ b o, h1.get? b = some o → (h1.push (PySem.W.kxs_mw "ValueError.__init__" a)).get? b = some o := fun b o e => Heap.get?_push_of_some _ e
  have hu : (h1.push (PySem.W.kxs_mw "ValueError.__init__" a)).get? h1.objs.size = some (PySem.W.kxs_mw "ValueError.__init__" a) := Heap.get?_push_at rfl rfl
  have I2 : Inv X [] σ H ⟨h1.push (PySem.W.kxs_mw "ValueError.__init__" a), g, dr, tk + 1, os⟩ := I1.kept (t' := tk + 1) kk2
  have hu0 : H h1.objs.size = none := I1.hok.fresh (Nat.le_refl _)
  have I3 : Inv X [(h1.objs.size, PySem.W.kxs_mw "ValueError.__init__" a)] σ H ⟨h1.push (PySem.W.kxs_mw "ValueError.__init__" a), g, dr, tk + 1, os⟩ := ⟨I2.ok, I2.os, I2.bare, I2.base, I2.loc, I2.cell, I2.free, I2.freeC, fun p hp => by
    rcases List.mem_append.mp hp with hp | hp
    · exact I2.pin p (List.mem_append_left _ hp)
    · cases List.mem_singleton.mp hp
      exact ⟨hu, hu0, Nat.ne_of_gt I1.lt, I1.nofs (Nat.le_refl _), fun v e => by cases e⟩, I2.hok, I2.len⟩
  refine PySem.W.kxs_callWith (i := "ValueError.__init__") (x := a) rfl ?_
  rw [show ([.Constant (.str msg) j p3] : List Expr) = .Constant (.str msg) j p3 :: [] from rfl]
  refine Calls.evalArgs_plain ?_
  rw [← henv]
  refine thn ((pa_cons (X := X) (pe_str (x := msg) (j := j) (pos := p3)) pa_nil).run p4 _ _ σ H (fun vs H' => vs = [.str msg] ∧ H' = H) I3 ⟨rfl, rfl⟩) fun us s1 ⟨vs, H', I4, r4, ev, eH⟩ => ?_
  subst ev eH
  have hu4 := (I4.pin (h1.objs.size, PySem.W.kxs_mw "ValueError.__init__" a) (List.mem_append_right _ (List.mem_singleton.mpr rfl))).1
  refine ⟨hu4, ?_⟩
  have I5 : Inv X [] σ H' s1 := Inv.unpinned (pl := [(h1.objs.size, PySem.W.kxs_mw "ValueError.__init__" a)]) I4
  obtain ⟨nm, qn, Nn, bs, bm, sn, sub, ab, col, dd, k0, k1, k2, k3, k5, hC, hbm⟩ := T.oex.cls
  have hC4 := I5.kIn _ _ hC
  obtain ⟨t4, ho4⟩ := exo_at I5.hok ha
  have hlen : us.length ≤ sizeLine := by
    rw [← r4.length]
    show 1 ≤ sizeLine
    decide
  obtain ⟨hh4, g4, d4, tk4, os4⟩ := s1
  refine wpAny_call (codeAny_of_tree ?_)
  show wpAny _ X.A.in1 (callAny (.ref h1.objs.size) ⟨[] ++ us, []⟩) _ _ _
  rw [List.nil_append]
  simp only [callAny]
  refine wpAny_bind (wpAny_load hu4 ?_)
  simp only [PySem.W.kxs_mw, show (Value.type "method-wrapper" == Value.type "method" || Value.type "method-wrapper" == Value.type "builtin_function_or_method" || Value.type "method-wrapper" == Value.type "method-wrapper") = true by decide, if_true]
  refine PySem.W.KFB.if_so (by decide) ?_
  refine wpAny_bind (PySem.W.check_bound_init F.excBase_ValueError.toExcCallFacts hC4 ho4 rfl ?_)
  refine wpAny_bind (wpAny_pure (wpAny_pure ?_))
  refine ⟨plainId_quiet F.excBase_ValueError.init.plain _, codeAny_builtin F.excBase_ValueError.initEntry ?_⟩
  refine PySem.W.exc_init_tree (cls := .ref C) (t0 := t4) (dv := none) (c2 := .none) (c3 := .none) (b4 := .bool false) ho4 hlen fun h' k hx _ => ?_
  have J := I5.write (t' := tk4) (x := a) (e := a) (o := exo a C none) (by rw [ha]; exact True.intro) (.inl rfl) k ⟨_, hx⟩ (exo_ok hx)
  have eu : upd H' a (exo a C none) = H' := by
    funext b
    by_cases hb : b = a
    · rw [hb, upd_same, ha]
    · rw [upd_ne hb]
  rw [eu] at J
  exact h _ J
end
section
variable {P : Program} {w : World} {K : PySem.W.Frag} {mg : Str → Option Value} {base : Heap} {CX : CXT} {k : Nat} {C f cc cda : Addr} {name qual : Str} {st : Stmt} {par fld : Str}
/-- the promise of such an __init__ of one parameter -/
def spExc (C : Addr) (fld : Str) : Sp := fun vs H Q _ => ∃ (a : Addr) (v : V), vs = [.ref a, v] ∧ H a = some (exo a C none) ∧ ∀ dx, H dx = none → dx ≠ a → Q .non (upd (upd H dx (exd dx [(fld, v)])) a (exo a C (some dx)))
abbrev nfOf (name qual : Str) (st : Stmt) (cc cda : Addr) : NdefX.NF := ⟨name, qual, defArgs st, defBody st, defScope st, [("__class__", cc)], cda⟩
theorem exc_init (T : SupC P K C f cc cda name qual st) (S : NdefX.NScope ["self", par, "__class__"] ["self", par] ["__class__"] (defScope st)) (hno : PySem.W.findIn K (.ref C) fld = some none)
    (hks : (defScope st).names.lookup ("super" : Str) = some .globalImplicit)
    (hb : ∀ (doc pm ct : Value) (an : Option Addr) (us : List Value), us.length = 2 → bindArgs (PySem.W.ksFn name qual (defArgs st) (defBody st) (defScope st) .none .none doc pm an (.ref cda) ct cc) ⟨us, []⟩ = pure ((["self", par] : List Str).zip us))
    (hp : ((defArgs st).posonlyargs ++ (defArgs st).args).head?.map (·.arg) = some ("self" : Str))
    {p0 p1 p2 p3 p4 p5 p6 p7 p8 p9 : Pos} {msg : Str} {j : Nat}
    (hbody : defBody st = [.Expr (.Call (.Attribute (.Call (.Name "super" p0) [] [] p1) "__init__" p2) [.Constant (.str msg) j p3] [] p4) p5, .Assign [.Attribute (.Name "self" p6) fld p7] (.Name par p8) p9])
    {pl : Env → Sem Bool}
    (he : ∀ env : Env, env.scope = defScope st → eval (.Call (.Attribute (.Call (.Name "super" p0) [] [] p1) "__init__" p2) [.Constant (.str msg) j p3] [] p4) env = (do
      let ov ← attributeBase (.Call (.Name "super" p0) [] [] p1) "__init__" env (eval (.Call (.Name "super" p0) [] [] p1) env)
      standAt p2.atName
      let (f, first) ← holding [ov] (getMethod ov "__init__" (pl env))
      callWith p4 f first (backTo p4 (starEach [.Constant (.str msg) j p3] env)) []))
    (hsw : ∀ env : Env, env.scope = defScope st → swapsWith (.Call (.Attribute (.Call (.Name "super" p0) [] [] p1) "__init__" p2) [.Constant (.str msg) j p3] [] p4) none p5.line env = pure false) (hi : ∀ env : Env, env.scope = defScope st → interactive env = false)
    (hsw2 : ∀ env : Env, env.scope = defScope st → swapsWith (.Name par p8) (some (.Attribute (.Name "self" p6) fld p7)) p9.line env = pure false) (hd1 : (par == ("__debug__" : Str)) = false) (hd2 : (par == ("__classdict__" : Str)) = false) :
    ∃ fd, FnOk P w K mg base CX (k + 1) f fd ["self", par] (spExc C fld) ∧ Binds K fd ["self", par] [] := by
  obtain ⟨oc, od, doc, pm, an, ct, osl, lk⟩ := id T.lk
  obtain ⟨cl, cld, csl, lcc⟩ := id T.cell
  refine ⟨_, ⟨fun vs H Q E h => ?_, fun A outer s H args us vs Q E hr e0 hbd r hsp => ?_⟩, .all (hb doc pm ct an)⟩
  · obtain ⟨a, v, rfl, _⟩ := h
    rfl
  · have KX : K.In s.heap := e0.mod.kin.keeps fun b o e => (e0.bs b o e).1
    have lim : s.heap.NoLimit := e0.mod.nolimit.keeps fun b o e => (e0.bs b o e).1
    obtain ⟨a, v, rfl, ha, q⟩ := hsp
    refine PySem.ks_codeAny_call_defAt (fd := PySem.W.ksFn name qual (defArgs st) (defBody st) (defScope st) .none .none doc pm an (.ref cda) ct cc) (body := defBody st) (binds := (["self", par] : List Str).zip us) hr.depth (KX _ _ lk) rfl lim (PySem.W.codeRec_of KX T.code) rfl hbd S.nocell (fun ⟨n, _⟩ hy => S.par n (List.of_mem_zip hy).1) (fun h₁ hns hk₁ => ?_) S.co S.gen S.kind
    have hl : us.length = 2 := r.length.symm
    have CA : NdefX.CellsAt [("__class__", cc)] ["__class__"] [none] s.heap H := by
      have one : ∀ (y : Str) (c : Addr), ([(("__class__" : Str), cc)] : List (Str × Addr)).lookup y = some c → y = "__class__" ∧ c = cc := fun y c e => by
        by_cases hy : y = "__class__"
        · subst hy
          exact ⟨rfl, (Option.some.inj (show some cc = some c from e)).symm⟩
        · have hy2 : (y == ("__class__" : Str)) = false := by simpa using hy
          rw [List.lookup_cons, hy2] at e
          cases e
      refine ⟨rfl, fun y c e => ?_, fun x y c e1 e2 => (one x c e1).1.trans (one y c e2).1.symm, fun i y hi => ?_⟩
      · obtain ⟨_, rfl⟩ := one y c e
        exact ⟨(e0.bs c _ (e0.mod.kin _ _ lcc)).2, _, _, KX _ _ lcc, rfl⟩
      · match i, hi with
        | 0, hi =>
          cases hi
          exact ⟨cc, rfl, fun v e => by cases e⟩
    have I := NdefX.inv_startN (CX := CX) (mg := mg) (E := E) (F := nfOf name qual st cc cda) (f := f) (tk := s.toks + ((["self", par] : List Str).zip us).length) S hr.hd e0 rfl r CA hns hk₁
    have hself : (defScope st).names.lookup ("self" : Str) = some .local := S.par _ (List.mem_cons_self ..)
    have hpar : (defScope st).names.lookup par = some .local := S.par _ (List.mem_cons_of_mem _ (List.mem_cons_self ..))
    have hcls : (defScope st).names.lookup ("__class__" : Str) = some .free := S.frk _ (List.mem_cons_self ..)
    have hstep : _root_.PySem.wpAt (model P w) (NdefX.ncx CX P w K mg base ["self", par, "__class__"] (nfOf name qual st cc cda) f A outer s H E).A (.func (defBody st) (NdefX.envF (nfOf name qual st cc cda) f s.heap.objs.size)) (execs (defBody st) (NdefX.envF (nfOf name qual st cc cda) f s.heap.objs.size))
        (fun fl s' => CR CX outer P w H s Q E (.ok (.ret (match fl with | .ret v => v | _ => .none))) s') (NdefX.ncx CX P w K mg base ["self", par, "__class__"] (nfOf name qual st cc cda) f A outer s H E).xe
        { s with heap := h₁, toks := s.toks + ((["self", par] : List Str).zip us).length } := by
      have eb : execs (defBody st) (NdefX.envF (nfOf name qual st cc cda) f s.heap.objs.size) = execs [.Expr (.Call (.Attribute (.Call (.Name "super" p0) [] [] p1) "__init__" p2) [.Constant (.str msg) j p3] [] p4) p5, .Assign [.Attribute (.Name "self" p6) fld p7] (.Name par p8) p9] (NdefX.envF (nfOf name qual st cc cda) f s.heap.objs.size) := by rw [hbody]
      rw [eb]
      refine PySem.ks_wpAt_execs_cons (super_stmt (X := NdefX.ncx CX P w K mg base ["self", par, "__class__"] (nfOf name qual st cc cda) f A outer s H E) T rfl rfl hks hcls hself S.kind hp (he _ rfl) (hsw _ rfl) (hi _ rfl) (σ := NdefX.startF ["self", par, "__class__"] [.ref a, v] [none]) rfl I ha (fun s' I' => ?_))
      have d2 : PSs (NdefX.ncx CX P w K mg base ["self", par, "__class__"] (nfOf name qual st cc cda) f A outer s H E) [.Assign [.Attribute (.Name "self" p6) fld p7] (.Name par p8) p9] _ := pss_one (ps_ost (pe_var (i := 0) rfl (.inl hself)) (pe_var (i := 1) rfl (.inl hpar) hd1 hd2) (hsw2 _ rfl))
      refine wpAt_of_wpAny (wpAny_mono (d2.run [] s' _ H { nx := fun _ H' => Q .non H', rt := Q } I' ⟨v, rfl, .ref a, rfl, a, C, rfl, T.oex, hno, .inl ⟨ha, fun dx n ne => q dx n ne⟩⟩) (fun fl s'' hs => ?_) fun e s'' hs => hs)
      cases fl with
      | ret u =>
        obtain ⟨v', σ', H', J, rv, q'⟩ := hs
        exact ⟨v', H', J.os, J.bare, J.base, J.hok, rv, q'⟩
      | next =>
        obtain ⟨σ', H', J, q'⟩ := hs
        exact ⟨.non, H', J.os, J.bare, J.base, J.hok, rfl, q'⟩
      | brk =>
        obtain ⟨_, _, _, q'⟩ := hs
        exact False.elim q'
      | cont =>
        obtain ⟨_, _, _, q'⟩ := hs
        exact False.elim q'
    exact hstep
end
end SupX
/-! ### the facts of such a class as Bools -/
namespace SupX
open PySem.W
def oexB (K : PySem.W.Frag) (C : Addr) : Bool := (match K.lookup C with
  | some ⟨.type "type", _, .cls cd, sl⟩ => (match cd.mro, sl.toList with
    | .ref C' :: bm, [_, _, _, _, some (.builtin n), _] => C' == C && (n == "ValueError.__new__" && (!cd.hasDel && (cd.hasDict && PySem.HandSPX.refsVE bm)))
    | _, _ => false)
  | _ => false) && (He.eqO (PySem.W.findIn K (.ref C) "__setattr__") (some (some (.builtin "object.__setattr__"))) && (decide (PySem.W.subIn K (.ref C) (.type "BaseException") = some true) && (decide (PySem.W.typeIn K (.ref C) = some (.type "type")) && PySem.W.keepIn K (.ref C))))
theorem oexB_ok {K : PySem.W.Frag} {C : Addr} (h : oexB K C = true) : OexC K C := by
  obtain ⟨h1, h⟩ := He.ba h
  obtain ⟨h2, h⟩ := He.ba h
  obtain ⟨h3, h⟩ := He.ba h
  obtain ⟨h4, h5⟩ := He.ba h
  refine ⟨?_, He.eqO_ok h2, of_decide_eq_true h3, of_decide_eq_true h4, h5⟩
  split at h1
  · rename_i dd cd sl ho
    split at h1
    · rename_i C' bm k0 k1 k2 k3 n k5 hm hs
      obtain ⟨g1, h1⟩ := He.ba h1
      obtain ⟨g2, h1⟩ := He.ba h1
      obtain ⟨g3, h1⟩ := He.ba h1
      obtain ⟨g4, g5⟩ := He.ba h1
      have e1 : C' = C := beq_iff_eq.mp g1
      have e2 : n = "ValueError.__new__" := beq_iff_eq.mp g2
      have e3 : cd.hasDel = false := by simpa using g3
      subst e1 e2
      obtain ⟨nm, bs, mro, ns, qn, hd, sn, sub, ab, col, del⟩ := cd
      dsimp only at hm e3 g4
      subst hm e3 g4
      have hsl : sl = #[k0, k1, k2, k3, some (.builtin "ValueError.__new__"), k5] := by
        obtain ⟨l⟩ := sl
        simp only at hs
        rw [hs]
      subst hsl
      exact ⟨nm, qn, ns, bs, bm, sn, sub, ab, col, dd, k0, k1, k2, k3, k5, ho, g5⟩
    · cases h1
  · cases h1
abbrev SpW : Type := Option (Str × Str × Arguments × FuncBody × Scope × Addr × List Str × Addr)
def supW (K : PySem.W.Frag) (f : Addr) : SpW := match K.lookup f with
  | some ⟨_, _, .func fd, _⟩ => some (fd.name, fd.qualname, fd.params, fd.body, fd.scope, fd.globals, fd.closure.map (·.1), fd.builtins)
  | _ => none
def supV (name qual : Str) (st : Stmt) : SpW := some (name, qual, defArgs st, .stmts (defBody st), defScope st, mainGlobals, ["__class__"], builtinsNs)
def supB (K : PySem.W.Frag) (C f : Addr) (qual : Str) : Bool := (match K.lookup f with
  | some ⟨_, _, .func fd, _⟩ => (match fd.code, fd.defaults, fd.kwdefaults, fd.closure with
    | .ref cda, .none, .none, [(_, cc)] => PySem.W.codeIn K (.ref cda) qual && ((match K.lookup cda with
      | some ⟨_, _, .fields vs, _⟩ => (match (vs[2]? : Option Value) with
        | some (Value.str file _) => decide (file = "/claim/cut.py")
        | _ => false)
      | _ => false) && (match K.lookup cc with
      | some ⟨_, _, .cell (some (.ref D)), _⟩ => decide (D = C)
      | _ => false))
    | _, _, _, _ => false)
  | _ => false) && ((PySem.W.clsIn K C).isSome && (decide (PySem.W.mroIn K C (.ref C) = some true) && (He.eqO (PySem.W.nsIn K mainGlobals "super") (some none) && (He.eqO (PySem.W.nsIn K PySem.cStatics "thirdparty.any") (some none) && (He.eqO (PySem.W.ks_superIn K C C "__init__") (some (some (.builtin "ValueError.__init__"))) &&
    decide (PySem.W.subIn K (.ref C) (.type "ValueError") = some true))))))
structure PrgOk (P : Program) : Prop where
  file : P.main.file = "/claim/cut.py"
  top : (P.main.scope.names.lookup ("super" : Str)).isSome = false
theorem supC_of {P : Program} {K : PySem.W.Frag} {C f : Addr} {name qual : Str} {st : Stmt} (hP : PrgOk P) (e : supW K f = supV name qual st) (o : oexB K C = true) (c : supB K C f qual = true) : ∃ cc cda, SupC P K C f cc cda name qual st := by
  obtain ⟨c1, c⟩ := He.ba c
  obtain ⟨c2, c⟩ := He.ba c
  obtain ⟨c3, c⟩ := He.ba c
  obtain ⟨c4, c⟩ := He.ba c
  obtain ⟨c5, c⟩ := He.ba c
  obtain ⟨c6, c7⟩ := He.ba c
  unfold supW at e
  split at c1
  · rename_i oc od fd osl ho
    rw [ho] at e
    split at c1
    · rename_i cda x cc q1 q2 q3 q4
      obtain ⟨d1, c1⟩ := He.ba c1
      obtain ⟨d2, d3⟩ := He.ba c1
      obtain ⟨n1, n2, n3, n4, n5, n6, n7, n8, n9, n10, n11, n12, n13, n14, n15⟩ := fd
      dsimp only at q1 q2 q3 q4
      subst q1 q2 q3 q4
      have e2 : (some (n1, n2, n3, n4, n5, n6, [x], n15) : SpW) = supV name qual st := e
      unfold supV at e2
      simp only [Option.some.injEq, Prod.mk.injEq, List.cons.injEq, and_true] at e2
      obtain ⟨e1, e2, e3, e4, e5, e6, e7, e8⟩ := e2
      subst e1 e2 e3 e4 e5 e6 e7 e8
      refine ⟨cc, cda, ⟨oexB_ok o, ⟨oc, od, _, _, _, _, osl, ho⟩, d1, ?_, ?_, Option.isSome_iff_exists.mp c2, of_decide_eq_true c3, He.eqO_ok c4, He.eqO_ok c5, He.eqO_ok c6, of_decide_eq_true c7, hP.top⟩⟩
      · split at d2
        · rename_i ccl cdd vs ccs h1
          split at d2
          · rename_i file tf h2
            refine ⟨ccl, cdd, vs, ccs, file, tf, h1, h2, ?_⟩
            rw [hP.file, of_decide_eq_true d2]
            exact beq_self_eq_true _
          · cases d2
        · cases d2
      · split at d3
        · rename_i a1 a2 D a3 h1
          have eD : D = C := of_decide_eq_true d3
          subst eD
          exact ⟨a1, a2, a3, h1⟩
        · cases d3
    · cases c1
  · cases c1
end SupX
/-! ### comparisons by own methods -/
namespace CmX
open PySem.W (InstAt findIn isFn mroIn typeIn subIn looks_subIn looks_mroIn looks_findIn instObj ifBound_K Looks)
section
variable {prog : Program} {w : World} {A : Around} {E : Value → Shared → Prop} {s : Shared} {K : PySem.W.Frag} {x C f : Addr} {ox : Obj} {od : Option Obj} {a b ta tb : Value} {op : CmpOp}
/-- the left one's rule answers -/
theorem rc_fst {Q : Value → Shared → Prop} (hu : A.units < cLine) (ho : oneThing? op a b = none) (la : Looks (model prog w) s.heap (typeOf a) ta) (lb : Looks (model prog w) s.heap (typeOf b) tb)
    (hn : (ta != tb) = true → Looks (model prog w) s.heap (isSubtype tb ta) false)
    (one : wpAny (model prog w) A (tryCompare a (cmpInfo op).2.1 b) (fun r s' => ∃ v, r = some v ∧ Q v s') E s) : wpAny (model prog w) A (richCompare op a b) Q E s := by
  unfold richCompare
  simp only [ho]
  refine wpAny_holding (wpAny_bind (wpAny_cRoomFor hu ?_))
  refine wpAny_bind (la.here (wpAny_bind (lb.here ?_)))
  split
  · rename_i q
    refine wpAny_bind ((hn q).here ?_)
    simp only [Bool.false_eq_true, if_false]
    refine wpAny_bind (wpAny_mono one (fun r s' z => ?_) fun _ _ e => e)
    obtain ⟨v, rfl, hq⟩ := z
    exact wpAny_pure hq
  · refine wpAny_bind (wpAny_pure ?_)
    simp only [Bool.false_eq_true, if_false]
    refine wpAny_bind (wpAny_mono one (fun r s' z => ?_) fun _ _ e => e)
    obtain ⟨v, rfl, hq⟩ := z
    exact wpAny_pure hq
/-- the left one's rule declines, the right one's answers -/
theorem rc_snd {Q : Value → Shared → Prop} (hu : A.units < cLine) (ho : oneThing? op a b = none) (la : Looks (model prog w) s.heap (typeOf a) ta) (lb : Looks (model prog w) s.heap (typeOf b) tb)
    (hn : Looks (model prog w) s.heap (isSubtype tb ta) false)
    (one : wpAny (model prog w) A (tryCompare a (cmpInfo op).2.1 b) (fun r s' => r = none ∧ s' = s) E s)
    (two : wpAny (model prog w) A (tryCompare b (cmpInfo op).2.2 a) (fun r s' => ∃ v, r = some v ∧ Q v s') E s) : wpAny (model prog w) A (richCompare op a b) Q E s := by
  unfold richCompare
  simp only [ho]
  refine wpAny_holding (wpAny_bind (wpAny_cRoomFor hu ?_))
  refine wpAny_bind (la.here (wpAny_bind (lb.here ?_)))
  split
  · refine wpAny_bind (hn.here ?_)
    simp only [Bool.false_eq_true, if_false, Bool.not_false, if_true]
    refine wpAny_bind (wpAny_mono one (fun r s' z => ?_) fun _ _ e => e)
    obtain ⟨rfl, rfl⟩ := z
    refine wpAny_bind (wpAny_mono two (fun r s' z => ?_) fun _ _ e => e)
    obtain ⟨v, rfl, hq⟩ := z
    exact wpAny_pure hq
  · refine wpAny_bind (wpAny_pure ?_)
    simp only [Bool.false_eq_true, if_false, Bool.not_false, if_true]
    refine wpAny_bind (wpAny_mono one (fun r s' z => ?_) fun _ _ e => e)
    obtain ⟨rfl, rfl⟩ := z
    refine wpAny_bind (wpAny_mono two (fun r s' z => ?_) fun _ _ e => e)
    obtain ⟨v, rfl, hq⟩ := z
    exact wpAny_pure hq
theorem try_own {name : Str} {Q : Value → Shared → Prop} (X : K.In s.heap) (I : InstAt s.heap x ox C od) (hs : findIn K (.ref C) name = some (some (.ref f))) (hf : isFn K (.ref f) = true)
    (h : wpAny (model prog w) A (call (.ref f) [.ref x, b]) (PySem.W.CmpBack Q) E s) : wpAny (model prog w) A (tryCompare (.ref x) name b) (fun r s' => ∃ v, r = some v ∧ Q v s') E s := by
  unfold tryCompare
  refine wpAny_bind (ifBound_K X I hs hf (wpAny_mono h (fun v s' hv => ?_) fun _ _ e => e))
  cases v <;> first | exact hv.elim | exact wpAny_pure ⟨_, rfl, hv⟩
theorem ifBound_ne {args : List Value} {Q : Option Value → Shared → Prop} (X : K.In s.heap) (I : InstAt s.heap x ox C od) (hs : findIn K (.ref C) "__ne__" = some (some (.builtin "object.__ne__")))
    (h : wpAny (model prog w) A (call (.builtin "object.__ne__") (.ref x :: args)) (fun v => Q (some v)) E s) : wpAny (model prog w) A (callSpecialIfBound? (.ref x) "__ne__" args) Q E s := by
  simp only [callSpecialIfBound?, bindSpecialIfBound?]
  refine wpAny_holding (wpAny_bind (wpAny_bind (wpAny_bind (I.type.here ((looks_findIn X hs).here ?_)))))
  refine wpAny_bind (wpAny_askSetting (wpAny_ite ?_))
  have fin : wpAny (model prog w) A (call (.builtin "object.__ne__") ([.ref x] ++ args) >>= fun v => pure (some v)) Q E s := wpAny_bind (wpAny_mono h (fun v s' h' => wpAny_pure h') fun _ _ h' => h')
  split
  · exact wpAny_bind (wpAny_of_eq (F.cmp_object.ne.bind _) (wpAny_pure (by exact fin)))
  · exact wpAny_tryCatch (wpAny_bind (wpAny_of_eq (F.cmp_object.ne.bind _) (wpAny_pure (by exact fin))))
/-- != by an own __eq__ -/
theorem try_ne {Q : Value → Shared → Prop} (hu : A.in1.units < cLine) (X : K.In s.heap) (I : InstAt s.heap x ox C od) (hm : mroIn K C (.type "object") = some true) (hs : findIn K (.ref C) "__ne__" = some (some (.builtin "object.__ne__")))
    (he : findIn K (.ref C) "__eq__" = some (some (.ref f))) (hf : isFn K (.ref f) = true)
    (h : wpAny (model prog w) A.in1 (call (.ref f) [.ref x, b]) (fun v s' => ∃ k, v = .bool k ∧ Q (.bool !k) s') E s) : wpAny (model prog w) A (tryCompare (.ref x) "__ne__" b) (fun r s' => ∃ v, r = some v ∧ Q v s') E s := by
  unfold tryCompare
  refine wpAny_bind (ifBound_ne X I hs ?_)
  refine wpAny_call (codeAny_call_builtin F.cmp_object.ne.plain F.cmpEntry_ne (PySem.W.check_slot F.cmpKind_ne F.cmpSplit_ne (I.type.andThen (looks_mroIn X hm)) (F.cmpArgs_ne _ _) ?_))
  unfold Builtin.«object.__ne__»
  refine wpAny_bind (m := slotArgs "__ne__" 1 _) (wpAny_pure ?_)
  refine wpAny_bind (m := cRoomFor _ _) (wpAny_cRoomFor hu ?_)
  refine wpAny_bind (ifBound_K X I he hf (wpAny_mono h (fun v s' hv => ?_) fun _ _ e => e))
  obtain ⟨k, rfl, hq⟩ := hv
  refine wpAny_bind (wpAny_truthy_bool (wpAny_pure ?_))
  exact wpAny_pure ⟨_, rfl, hq⟩
end
end CmX
/-! ### what the built-in types say to an instance -/
namespace CmX
open PySem.AutoSeq1 (wpAny_loadPart')
open PySem.W (InstAt findIn isFn mroIn typeIn subIn looks_subIn looks_mroIn looks_findIn instObj ifBound_K Looks)
section
variable {x C dx : Addr}
theorem int_eq_ins (b : Int) (u : Tok) : Meets (Builtin.«int.__eq__» ⟨[.int b u, .ref x], []⟩) (fun _ R s => s.heap.get? x = some (instObj C dx) ∧ R (.ok (.ret .notImplemented)) s) :=
  .of_wp fun prog w A R s h => by obtain ⟨hp, g, d, tk, os⟩ := s; obtain ⟨hl, h⟩ := h; wp_walk using wpAny_load hl; exact ⟨_, rfl, h⟩
theorem int_ne_ins (b : Int) (u : Tok) : Meets (Builtin.«int.__ne__» ⟨[.int b u, .ref x], []⟩) (fun _ R s => s.heap.get? x = some (instObj C dx) ∧ R (.ok (.ret .notImplemented)) s) :=
  .of_wp fun prog w A R s h => by obtain ⟨hp, g, d, tk, os⟩ := s; obtain ⟨hl, h⟩ := h; wp_walk using wpAny_load hl; exact ⟨_, rfl, h⟩
theorem int_lt_ins (b : Int) (u : Tok) : Meets (Builtin.«int.__lt__» ⟨[.int b u, .ref x], []⟩) (fun _ R s => s.heap.get? x = some (instObj C dx) ∧ R (.ok (.ret .notImplemented)) s) :=
  .of_wp fun prog w A R s h => by obtain ⟨hp, g, d, tk, os⟩ := s; obtain ⟨hl, h⟩ := h; wp_walk using wpAny_load hl; exact ⟨_, rfl, h⟩
theorem int_le_ins (b : Int) (u : Tok) : Meets (Builtin.«int.__le__» ⟨[.int b u, .ref x], []⟩) (fun _ R s => s.heap.get? x = some (instObj C dx) ∧ R (.ok (.ret .notImplemented)) s) :=
  .of_wp fun prog w A R s h => by obtain ⟨hp, g, d, tk, os⟩ := s; obtain ⟨hl, h⟩ := h; wp_walk using wpAny_load hl; exact ⟨_, rfl, h⟩
theorem int_gt_ins (b : Int) (u : Tok) : Meets (Builtin.«int.__gt__» ⟨[.int b u, .ref x], []⟩) (fun _ R s => s.heap.get? x = some (instObj C dx) ∧ R (.ok (.ret .notImplemented)) s) :=
  .of_wp fun prog w A R s h => by obtain ⟨hp, g, d, tk, os⟩ := s; obtain ⟨hl, h⟩ := h; wp_walk using wpAny_load hl; exact ⟨_, rfl, h⟩
theorem int_ge_ins (b : Int) (u : Tok) : Meets (Builtin.«int.__ge__» ⟨[.int b u, .ref x], []⟩) (fun _ R s => s.heap.get? x = some (instObj C dx) ∧ R (.ok (.ret .notImplemented)) s) :=
  .of_wp fun prog w A R s h => by obtain ⟨hp, g, d, tk, os⟩ := s; obtain ⟨hl, h⟩ := h; wp_walk using wpAny_load hl; exact ⟨_, rfl, h⟩
theorem bool_eq_ins (b : Bool) : Meets (Builtin.«int.__eq__» ⟨[.bool b, .ref x], []⟩) (fun _ R s => s.heap.get? x = some (instObj C dx) ∧ R (.ok (.ret .notImplemented)) s) :=
  .of_wp fun prog w A R s h => by obtain ⟨hp, g, d, tk, os⟩ := s; obtain ⟨hl, h⟩ := h; wp_walk using wpAny_load hl; exact ⟨_, rfl, h⟩
theorem str_eq_ins (b : Str) (u : Tok) : Meets (Builtin.«str.__eq__» ⟨[.str b u, .ref x], []⟩) (fun _ R s => s.heap.get? x = some (instObj C dx) ∧ R (.ok (.ret .notImplemented)) s) :=
  .of_wp fun prog w A R s h => by obtain ⟨hp, g, d, tk, os⟩ := s; obtain ⟨hl, h⟩ := h; wp_walk using wpAny_load hl; exact ⟨_, rfl, h⟩
end
section
variable {prog : Program} {w : World} {A : Around} {E : Value → Shared → Prop} {s : Shared} {K : PySem.W.Frag} {x C dx l : Addr} {ox ol : Obj} {od : Option Obj} {Q : Fin → Shared → Prop}
theorem isi_ins {T : String} {r : Bool} (X : K.In s.heap) (I : InstAt s.heap x ox C od) (hm : mroIn K C (.type T) = some r) : Looks (model prog w) s.heap (isInstance (.ref x) (.type T)) r := I.type.andThen (looks_mroIn X hm)
theorem list_eq_ins {a : Value} (X : K.In s.heap) (I : InstAt s.heap x ox C od) (hm : mroIn K C (.type "list") = some false) (h : Q (.done (.ret .notImplemented)) s) : wpAny (model prog w) A (Builtin.«list.__eq__» ⟨[a, .ref x], []⟩) Q E s := by
  unfold Builtin.«list.__eq__»
  refine wpAny_bind (m := slotArgs "__eq__" 1 _) (wpAny_pure ?_)
  refine wpAny_bind ((isi_ins X I hm).here ?_)
  simp only [Bool.not_false, if_true]
  exact wpAny_pure h
theorem tup_eq_ins {a : Value} (X : K.In s.heap) (I : InstAt s.heap x ox C od) (hm : mroIn K C (.type "tuple") = some false) (h : Q (.done (.ret .notImplemented)) s) : wpAny (model prog w) A (Builtin.«tuple.__eq__» ⟨[a, .ref x], []⟩) Q E s := by
  unfold Builtin.«tuple.__eq__»
  refine wpAny_bind (m := slotArgs "__eq__" 1 _) (wpAny_pure ?_)
  refine wpAny_bind ((isi_ins X I hm).here ?_)
  simp only [Bool.not_false, if_true]
  exact wpAny_pure h
theorem dict_eq_ins (hl : s.heap.get? l = some ol) (hc : ol.cls = .type "dict") (X : K.In s.heap) (I : InstAt s.heap x ox C od) (hm : mroIn K C (.type "dict") = some false) (h : Q (.done (.ret .notImplemented)) s) : wpAny (model prog w) A (Builtin.«dict.__eq__» ⟨[.ref l, .ref x], []⟩) Q E s := by
  unfold Builtin.«dict.__eq__»
  show wpAny _ _ (Builtin.Dict.dictSlotArgs "__eq__" ⟨[.ref l, .ref x], []⟩ >>= _) _ _ s
  refine wpAny_bind ?_
  unfold Builtin.Dict.dictSlotArgs
  refine wpAny_bind (wpAny_notOrdered_dict (show s.TypeIs (.ref l) "dict" from ⟨_, hl, hc⟩) ?_)
  show wpAny _ _ (pure (Value.ref l, Value.ref x)) _ _ s
  refine wpAny_pure ?_
  refine wpAny_bind ((isi_ins X I hm).here ?_)
  simp only [Bool.not_false, if_true]
  exact wpAny_bind (wpAny_rule (wpAny_pure h))
end
end CmX
/-! ### comparisons: readings -/
namespace CmX
open PySem.W (InstAt findIn isFn mroIn typeIn subIn looks_subIn looks_mroIn looks_findIn instObj ifBound_K Looks)
/-- C's own comparisons are asked: what the written part says -/
def names7 : List String := ["NoneType", "bool", "int", "str", "list", "tuple", "dict"]
def cmpB (K : PySem.W.Frag) (C : Addr) : Bool := decide (mroIn K C (.type "object") = some true) && (He.eqO (findIn K (.ref C) "__ne__") (some (some (.builtin "object.__ne__"))) && names7.all fun T => decide (subIn K (.type T) (.ref C) = some false) && decide (mroIn K C (.type T) = some false))
structure CmpC (K : PySem.W.Frag) (C : Addr) : Prop where
  top : mroIn K C (.type "object") = some true
  ne : findIn K (.ref C) "__ne__" = some (some (.builtin "object.__ne__"))
  no : ∀ T ∈ names7, subIn K (.type T) (.ref C) = some false ∧ mroIn K C (.type T) = some false
theorem cmpB_ok {K : PySem.W.Frag} {C : Addr} (h : cmpB K C = true) : CmpC K C := by
  obtain ⟨h1, h⟩ := He.ba h
  obtain ⟨h2, h3⟩ := He.ba h
  refine ⟨of_decide_eq_true h1, He.eqO_ok h2, fun T hT => ?_⟩
  obtain ⟨h4, h5⟩ := He.ba (List.all_eq_true.mp h3 T hT)
  exact ⟨of_decide_eq_true h4, of_decide_eq_true h5⟩
/-- the type of y is C itself, or not below C -/
def Beside (K : PySem.W.Frag) (C : Addr) (t : Value) : Prop := t = .ref C ∨ subIn K t (.ref C) = some false
theorem looks_ty {X : Cx} {pins : List (Addr × Obj)} {σ : L2.St} {H : Hp} {s : Shared} {y : V} {u t : Value} (I : Inv X pins σ H s) (ry : RelV y u) (ty : TyOf X.K H y t) : Looks (model X.prog X.w) s.heap (typeOf u) t := by
  obtain ⟨P, Z, p, _⟩ := kit_of I ry (.base ty)
  exact Z.ty _ _ I.kIn p
/-- x op y by x's own def -/
def rCmpL (K : PySem.W.Frag) (C : Addr) (sp : Sp) (E : XK) : R2 := fun x y H Q => ∃ (a dx : Addr) (fs : List (Str × V)) (t : Value), x = .ref a ∧ H a = some (.ins C dx fs) ∧ TyOf K H y t ∧ Beside K C t ∧ sp [x, y] H Q E
/-- x != y by x's own __eq__ -/
def rNeL (K : PySem.W.Frag) (C : Addr) (sp : Sp) (E : XK) : R2 := fun x y H Q => ∃ (a dx : Addr) (fs : List (Str × V)) (t : Value), x = .ref a ∧ H a = some (.ins C dx fs) ∧ TyOf K H y t ∧ Beside K C t ∧ sp [x, y] H (fun z H' => ∃ k, z = .bl k ∧ Q (.bl !k) H') E
/-- i op y by y's own def -/
def rCmpI (C : Addr) (sp : Sp) (E : XK) : R2 := fun x y H Q => ∃ (i : Int) (b dy : Addr) (gs : List (Str × V)), x = .int i ∧ y = .ref b ∧ H b = some (.ins C dy gs) ∧ sp [y, x] H Q E
def rNeI (C : Addr) (sp : Sp) (E : XK) : R2 := fun x y H Q => ∃ (i : Int) (b dy : Addr) (gs : List (Str × V)), x = .int i ∧ y = .ref b ∧ H b = some (.ins C dy gs) ∧ sp [y, x] H (fun z H' => ∃ k, z = .bl k ∧ Q (.bl !k) H') E
/-- x == y by y's own __eq__, x of a built-in type -/
inductive Bi (H : Hp) : V → Prop where
  | non : Bi H .non
  | bl (x : Bool) : Bi H (.bl x)
  | int (i : Int) : Bi H (.int i)
  | str (x : Str) : Bi H (.str x)
  | lst {a : Addr} {xs : List V} (e : H a = some (.lst xs)) : Bi H (.ref a)
  | tup {a : Addr} {xs : List V} (e : H a = some (.tup xs)) : Bi H (.ref a)
  | dK {a : Addr} {kvs : List (Key × V)} (e : H a = some (.dK kvs)) : Bi H (.ref a)
def rEqB (C : Addr) (sp : Sp) (E : XK) : R2 := fun x y H Q => ∃ (b dy : Addr) (gs : List (Str × V)), Bi H x ∧ y = .ref b ∧ H b = some (.ins C dy gs) ∧ sp [y, x] H Q E
section
variable {X : Cx} {CX : CXT} {n : Nat} {sp : Sp} {E : XK} {C f : Addr} {op : CmpOp}
theorem beside_looks {K : PySem.W.Frag} {M : Model} {h : Heap} {t : Value} (X : K.In h) (b : Beside K C t) : (Value.ref C != t) = true → Looks M h (isSubtype t (.ref C)) false := fun q => by
  rcases b with e | e
  · rw [e] at q
    simp at q
  · exact looks_subIn X e
theorem op_cmpL (hc : ∀ a b, compareOp op a b = richCompare op a b) (hs : findIn X.K (.ref C) (cmpInfo op).2.1 = some (some (.ref f))) (hf : isFn X.K (.ref f) = true)
    (F : FnR X.prog X.w X.K X.mg X.base CX n f sp) (hr : Room n X.A) (hu : X.A.units < cLine) (hx : Passes CX X E) : OpR X (compareOp op) (rCmpL X.K C sp E) := by
  intro pins s σ H x y v u Q I rx ry h
  obtain ⟨a, dx, fs, t, rfl, ha, ty, bs, q⟩ := h
  cases (show v = Value.ref a from rx)
  obtain ⟨mA, O, _⟩ := ins_get I.hok ha
  obtain ⟨od, J, _⟩ := O.look
  rw [hc]
  refine rc_fst hu rfl J.type (looks_ty I ry ty) (beside_looks I.kIn bs) (try_own I.kIn J hs hf ?_)
  exact wpAny_mono (wpAny_call (run_fnR (us := [.ref a, u]) (vs := [.ref a, y]) F hr hx I (.cons rfl (.cons ry .nil)) q)) (fun w s' z => by
    obtain ⟨z', H', I', rz, qz⟩ := z
    exact SlX.cmpback rz ⟨z', H', I', rz, qz⟩) fun _ _ x => x
theorem op_neL (K0 : CmpC X.K C) (hs : findIn X.K (.ref C) "__eq__" = some (some (.ref f))) (hf : isFn X.K (.ref f) = true)
    (F : FnR X.prog X.w X.K X.mg X.base CX n f sp) (hr : Room (n + 1) X.A) (hu : X.A.units + 1 < cLine) (hx : Passes CX X E) : OpR X (compareOp .NotEq) (rNeL X.K C sp E) := by
  intro pins s σ H x y v u Q I rx ry h
  obtain ⟨a, dx, fs, t, rfl, ha, ty, bs, q⟩ := h
  cases (show v = Value.ref a from rx)
  obtain ⟨mA, O, _⟩ := ins_get I.hok ha
  obtain ⟨od, J, _⟩ := O.look
  show wpAny _ _ (richCompare .NotEq (.ref a) u) _ _ s
  refine rc_fst (by omega) rfl J.type (looks_ty I ry ty) (beside_looks I.kIn bs) (try_ne (show X.A.units + 1 < cLine from hu) I.kIn J K0.top K0.ne hs hf ?_)
  exact wpAny_mono (wpAny_call (SlX.run_at (us := [.ref a, u]) (ws := [.ref a, y]) F hr.in1 I.env0.in1 hx I (.cons rfl (.cons ry .nil)) q)) (fun w s' z => by
    obtain ⟨z', H', I', rz, k, rfl, qz⟩ := z
    cases (show w = Value.bool k from rz)
    exact ⟨k, rfl, .bl !k, H', I', rfl, qz⟩) fun _ _ x => x
/-- what int says -/
def DcI (op : CmpOp) : Prop := ∀ (prog : Program) (w : World) (A : Around) (E : Value → Shared → Prop) (s : Shared) (x C dx : Addr) (i : Int) (t : Tok), s.heap.get? x = some (instObj C dx) →
  wpAny (model prog w) A (tryCompare (.int i t) (cmpInfo op).2.1 (.ref x)) (fun r s' => r = none ∧ s' = s) E s
theorem dcI {op : CmpOp} {nm : Str} {id : String} {B : Builtin} (hn : (cmpInfo op).2.1 = nm) (slot : Slot "int" nm id) (entry : entryFor table id = some B) (args : ∀ a b : Value, argsOk id ⟨[a, b], []⟩)
    (hB : ∀ (x C dx : Addr) (i : Int) (t : Tok), Meets (B ⟨[.int i t, .ref x], []⟩) (fun _ R s => s.heap.get? x = some (instObj C dx) ∧ R (.ok (.ret .notImplemented)) s)) : DcI op := fun prog w A E s x C dx i t hx => by
  rw [hn]
  exact wpAny_tryCompare_declines (Q := fun r s' => r = none ∧ s' = s) (typeIs_int s i t) slot (call_meets slot (typeIs_int s i t) entry (args _ _) (hB x C dx i t) ⟨hx, rfl, rfl, rfl⟩)
theorem hb_eq : ∀ (x C dx : Addr) (i : Int) (t : Tok), Meets (Builtin.«int.__eq__» ⟨[.int i t, .ref x], []⟩) (fun _ R s => s.heap.get? x = some (instObj C dx) ∧ R (.ok (.ret .notImplemented)) s) := fun _ _ _ _ _ => int_eq_ins _ _
theorem dc_eq : DcI .Eq := dcI (nm := (cmpInfo .Eq).2.1) rfl F.slot_int_eq F.entry_int_eq F.args_int_eq_2 hb_eq
theorem hb_ne : ∀ (x C dx : Addr) (i : Int) (t : Tok), Meets (Builtin.«int.__ne__» ⟨[.int i t, .ref x], []⟩) (fun _ R s => s.heap.get? x = some (instObj C dx) ∧ R (.ok (.ret .notImplemented)) s) := fun _ _ _ _ _ => int_ne_ins _ _
theorem dc_ne : DcI .NotEq := dcI (nm := (cmpInfo .NotEq).2.1) rfl F.slot_int_ne F.entry_int_ne F.args_int_ne_2 hb_ne
theorem hb_lt : ∀ (x C dx : Addr) (i : Int) (t : Tok), Meets (Builtin.«int.__lt__» ⟨[.int i t, .ref x], []⟩) (fun _ R s => s.heap.get? x = some (instObj C dx) ∧ R (.ok (.ret .notImplemented)) s) := fun _ _ _ _ _ => int_lt_ins _ _
theorem dc_lt : DcI .Lt := dcI (nm := (cmpInfo .Lt).2.1) rfl F.slot_int_lt F.entry_int_lt F.args_int_lt_2 hb_lt
theorem hb_le : ∀ (x C dx : Addr) (i : Int) (t : Tok), Meets (Builtin.«int.__le__» ⟨[.int i t, .ref x], []⟩) (fun _ R s => s.heap.get? x = some (instObj C dx) ∧ R (.ok (.ret .notImplemented)) s) := fun _ _ _ _ _ => int_le_ins _ _
theorem dc_le : DcI .LtE := dcI (nm := (cmpInfo .LtE).2.1) rfl F.slot_int_le F.entry_int_le F.args_int_le_2 hb_le
theorem hb_gt : ∀ (x C dx : Addr) (i : Int) (t : Tok), Meets (Builtin.«int.__gt__» ⟨[.int i t, .ref x], []⟩) (fun _ R s => s.heap.get? x = some (instObj C dx) ∧ R (.ok (.ret .notImplemented)) s) := fun _ _ _ _ _ => int_gt_ins _ _
theorem dc_gt : DcI .Gt := dcI (nm := (cmpInfo .Gt).2.1) rfl F.slot_int_gt F.entry_int_gt F.args_int_gt_2 hb_gt
theorem hb_ge : ∀ (x C dx : Addr) (i : Int) (t : Tok), Meets (Builtin.«int.__ge__» ⟨[.int i t, .ref x], []⟩) (fun _ R s => s.heap.get? x = some (instObj C dx) ∧ R (.ok (.ret .notImplemented)) s) := fun _ _ _ _ _ => int_ge_ins _ _
theorem dc_ge : DcI .GtE := dcI (nm := (cmpInfo .GtE).2.1) rfl F.slot_int_ge F.entry_int_ge F.args_int_ge_2 hb_ge
theorem op_cmpI (hc : ∀ a b, compareOp op a b = richCompare op a b) (K0 : CmpC X.K C) (dc : DcI op) (hs : findIn X.K (.ref C) (cmpInfo op).2.2 = some (some (.ref f))) (hf : isFn X.K (.ref f) = true)
    (F : FnR X.prog X.w X.K X.mg X.base CX n f sp) (hr : Room n X.A) (hu : X.A.units < cLine) (hx : Passes CX X E) : OpR X (compareOp op) (rCmpI C sp E) := by
  intro pins s σ H x y v u Q I rx ry h
  obtain ⟨i, b, dy, gs, rfl, rfl, hb, q⟩ := h
  obtain ⟨t, e⟩ := (show ∃ t, v = Value.int i t from rx)
  cases e
  cases (show u = Value.ref b from ry)
  obtain ⟨mB, O, _⟩ := ins_get I.hok hb
  obtain ⟨od, J, _⟩ := O.look
  rw [hc]
  refine rc_snd hu rfl (Looks.of_pure rfl) J.type (looks_mroIn I.kIn (K0.no "int" (by decide)).2) (dc _ _ _ _ _ _ _ _ _ _ J.at_) (try_own I.kIn J hs hf ?_)
  exact wpAny_mono (wpAny_call (run_fnR (us := [.ref b, .int i t]) (vs := [.ref b, .int i]) F hr hx I (.cons rfl (.cons ⟨t, rfl⟩ .nil)) q)) (fun w s' z => by
    obtain ⟨z', H', I', rz, qz⟩ := z
    exact SlX.cmpback rz ⟨z', H', I', rz, qz⟩) fun _ _ x => x
theorem op_neI (K0 : CmpC X.K C) (hs : findIn X.K (.ref C) "__eq__" = some (some (.ref f))) (hf : isFn X.K (.ref f) = true)
    (F : FnR X.prog X.w X.K X.mg X.base CX n f sp) (hr : Room (n + 1) X.A) (hu : X.A.units + 1 < cLine) (hx : Passes CX X E) : OpR X (compareOp .NotEq) (rNeI C sp E) := by
  intro pins s σ H x y v u Q I rx ry h
  obtain ⟨i, b, dy, gs, rfl, rfl, hb, q⟩ := h
  obtain ⟨t, e⟩ := (show ∃ t, v = Value.int i t from rx)
  cases e
  cases (show u = Value.ref b from ry)
  obtain ⟨mB, O, _⟩ := ins_get I.hok hb
  obtain ⟨od, J, _⟩ := O.look
  show wpAny _ _ (richCompare .NotEq _ _) _ _ s
  refine rc_snd (by omega) rfl (Looks.of_pure rfl) J.type (looks_mroIn I.kIn (K0.no "int" (by decide)).2) (dc_ne _ _ _ _ _ _ _ _ _ _ J.at_) (try_ne (show X.A.units + 1 < cLine from hu) I.kIn J K0.top K0.ne hs hf ?_)
  exact wpAny_mono (wpAny_call (SlX.run_at (us := [.ref b, .int i t]) (ws := [.ref b, .int i]) F hr.in1 I.env0.in1 hx I (.cons rfl (.cons ⟨t, rfl⟩ .nil)) q)) (fun w s' z => by
    obtain ⟨z', H', I', rz, k, rfl, qz⟩ := z
    cases (show w = Value.bool k from rz)
    exact ⟨k, rfl, .bl !k, H', I', rfl, qz⟩) fun _ _ x => x
theorem op_eqB (K0 : CmpC X.K C) (hs : findIn X.K (.ref C) "__eq__" = some (some (.ref f))) (hf : isFn X.K (.ref f) = true)
    (G : FnR X.prog X.w X.K X.mg X.base CX n f sp) (hr : Room n X.A) (hu : X.A.units < cLine) (hx : Passes CX X E) : OpR X (compareOp .Eq) (rEqB C sp E) := by
  intro pins s σ H x y v u Q I rx ry h
  obtain ⟨b, dy, gs, bi, rfl, hb, q⟩ := h
  cases (show u = Value.ref b from ry)
  obtain ⟨mB, O, _⟩ := ins_get I.hok hb
  obtain ⟨od, J, _⟩ := O.look
  have two : wpAny (model X.prog X.w) X.A (tryCompare (.ref b) (cmpInfo .Eq).2.2 v) (fun r s' => ∃ z, r = some z ∧ EP X pins σ Q z s') X.xe s := by
    refine try_own I.kIn J hs hf ?_
    exact wpAny_mono (wpAny_call (run_fnR (us := [.ref b, v]) (vs := [.ref b, x]) G hr hx I (.cons rfl (.cons rx .nil)) q)) (fun w s' z => by
      obtain ⟨z', H', I', rz, qz⟩ := z
      exact SlX.cmpback rz ⟨z', H', I', rz, qz⟩) fun _ _ x => x
  show wpAny _ _ (richCompare .Eq _ _) _ _ s
  cases bi with
  | non =>
    cases (show v = Value.none from rx)
    exact rc_snd hu rfl (Looks.of_pure rfl) J.type (looks_mroIn I.kIn (K0.no "NoneType" (by decide)).2) (wpAny_tryCompare_declines (show s.TypeIs .none "NoneType" from rfl) F.slot_NoneType_eq (call_gives F.slot_NoneType_eq rfl F.entry_NoneType_eq (F.args_NoneType_eq_2 _ _) (SeqAt.NoneType___eq___none_ref_0 b) ⟨rfl, rfl, rfl⟩)) two
  | bl k =>
    cases (show v = Value.bool k from rx)
    exact rc_snd hu rfl (Looks.of_pure rfl) J.type (looks_mroIn I.kIn (K0.no "bool" (by decide)).2) (wpAny_tryCompare_declines (show s.TypeIs (.bool k) "bool" from rfl) F.slot_bool_eq (call_meets F.slot_bool_eq rfl F.entry_int_eq (F.args_int_eq_2 _ _) (bool_eq_ins k) ⟨J.at_, rfl, rfl, rfl⟩)) two
  | int i =>
    obtain ⟨t, e⟩ := (show ∃ t, v = Value.int i t from rx)
    cases e
    exact rc_snd hu rfl (Looks.of_pure rfl) J.type (looks_mroIn I.kIn (K0.no "int" (by decide)).2) (dc_eq _ _ _ _ _ _ _ _ _ _ J.at_) two
  | str z =>
    obtain ⟨t, e⟩ := (show ∃ t, v = Value.str z t from rx)
    cases e
    exact rc_snd hu rfl (Looks.of_pure rfl) J.type (looks_mroIn I.kIn (K0.no "str" (by decide)).2) (wpAny_tryCompare_declines (typeIs_str s z t) F.slot_str_eq (call_meets F.slot_str_eq (typeIs_str s z t) F.entry_str_eq (F.args_str_eq_2 _ _) (str_eq_ins z t) ⟨J.at_, rfl, rfl, rfl⟩)) two
  | @lst a xs e =>
    cases (show v = Value.ref a from rx)
    obtain ⟨_, _, n, _, h1⟩ := (show ObjOk X.prog X.w H s.heap a (.lst xs) from I.hok a _ e)
    have ht : s.TypeIs (.ref a) "list" := ⟨_, h1, rfl⟩
    exact rc_snd hu rfl (looks_ty I rx (.lst e)) J.type (looks_mroIn I.kIn (K0.no "list" (by decide)).2) (wpAny_tryCompare_declines ht F.slot_list_eq (wpAny_call (codeAny_call_builtin F.slot_list_eq.plain F.entry_list_eq (F.slot_list_eq.check _ _ _ _ _ _ _ _ ht (F.args_list_eq_2 _ _) (list_eq_ins I.kIn J (K0.no "list" (by decide)).2 ⟨rfl, rfl, rfl⟩))))) two
  | @tup a xs e =>
    cases (show v = Value.ref a from rx)
    obtain ⟨_, _, _, o, h1, h2, _⟩ := (show ObjOk X.prog X.w H s.heap a (.tup xs) from I.hok a _ e)
    have ht : s.TypeIs (.ref a) "tuple" := ⟨o, h1, h2⟩
    exact rc_snd hu rfl (looks_ty I rx (.tup e)) J.type (looks_mroIn I.kIn (K0.no "tuple" (by decide)).2) (wpAny_tryCompare_declines ht F.slot_tuple_eq (wpAny_call (codeAny_call_builtin F.slot_tuple_eq.plain F.entry_tuple_eq (F.slot_tuple_eq.check _ _ _ _ _ _ _ _ ht (F.args_tuple_eq_2 _ _) (tup_eq_ins I.kIn J (K0.no "tuple" (by decide)).2 ⟨rfl, rfl, rfl⟩))))) two
  | @dK a kvs e =>
    cases (show v = Value.ref a from rx)
    obtain ⟨_, _, vs, _, o, es, ep, h1, h2, _⟩ := (show ObjOk X.prog X.w H s.heap a (.dK kvs) from I.hok a _ e)
    have ht : s.TypeIs (.ref a) "dict" := ⟨o, h1, h2.1⟩
    exact rc_snd hu rfl (looks_ty I rx (.dK e)) J.type (looks_mroIn I.kIn (K0.no "dict" (by decide)).2) (wpAny_tryCompare_declines ht F.slot_dict_eq (wpAny_call (codeAny_call_builtin F.slot_dict_eq.plain F.entry_dict_eq (F.slot_dict_eq.check _ _ _ _ _ _ _ _ ht (F.args_dict_eq_2 _ _) (dict_eq_ins h1 h2.1 I.kIn J (K0.no "dict" (by decide)).2 ⟨rfl, rfl, rfl⟩))))) two
end
end CmX
/-! ### a staticmethod called off its class -/
namespace StX
/-- C.m is a staticmethod around the def at g -/
structure SMet (K : PySem.W.Frag) (C : Addr) (m : Str) (p g : Addr) : Prop where
  rd : ClX.CRead K C (.type "type")
  at_ : PySem.W.findCls K (.ref C) (.type "type") m = some (.get (.builtin "staticmethod.__get__") (.ref p) .none (.ref C))
  rc : ∃ rest, PySem.W.recIn K p "staticmethod" = some (.ref g :: rest)
  kp : PySem.W.keepIn K (.ref g) = true
def smB (K : PySem.W.Frag) (C : Addr) (m : Str) : Bool := PySem.W.readsIn K C (.type "type") && (He.eqO (PySem.W.specialIn K (.ref C) "__getattribute__") (some (some (.builtin "type.__getattribute__"))) && (He5.wrapB K C "staticmethod" "staticmethod.__get__" m && PySem.W.keepIn K (.ref (He5.wf K C "staticmethod" m))))
theorem smB_ok {K : PySem.W.Frag} {C : Addr} {m : Str} (h : smB K C m = true) : SMet K C m (He.ma K C m) (He5.wf K C "staticmethod" m) := by
  obtain ⟨h1, h⟩ := He.ba h
  obtain ⟨h2, h⟩ := He.ba h
  obtain ⟨h3, h4⟩ := He.ba h
  obtain ⟨k1, k2⟩ := He5.wrapB_ok h3
  exact ⟨⟨h1, He.eqO_ok h2⟩, k1, k2, h4⟩
/-- C.m(..) -/
def tSMeth (C : Addr) (sp : Sp) (dvs : List V) (E : XK) (ta : TE) (t : TA) : TE := fun σ H Q => ta σ H fun x H1 => x = .ref C ∧ t σ H1 fun vs H2 => sp (vs ++ dvs) H2 Q E
section
variable {X : Cx} {CX : CXT} {k : Nat} {C p g : Addr} {fd : FuncData} {ps : List Str} {dvs : List V} {ds : List Value} {sp : Sp} {E : XK} {o e : Expr} {es : List Expr} {m : Str} {pos apos : Pos} {ta : TE} {t : TA} {pl : Sem Bool}
theorem pe_smeth (he : PE X o ta) (c : SMet X.K C m p g) (F : FnOk X.prog X.w X.K X.mg X.base CX k g fd ps sp) (hr : Room k X.A) (hb : Binds X.K fd ps ds) (hd : Vals dvs ds) (hx : Passes CX X E) (ha : PA X (e :: es) t)
    (hst : starEach (e :: es) X.env = (false, eval e X.env) :: starEach es X.env := by rfl) (hpl : (backTo pos (starEach es X.env)).any (·.1) = false := by rfl)
    (ht : eval (.Call (.Attribute o m apos) (e :: es) [] pos) X.env = (do
      let ov ← eval o X.env
      standAt apos.atName
      let (f, first) ← holding [ov] (getMethod ov m pl)
      callWith pos f first (backTo pos (starEach (e :: es) X.env)) (backToKw pos (keywordEach [] X.env))) := by rfl) :
    PE X (.Call (.Attribute o m apos) (e :: es) [] pos) (tSMeth C sp dvs E ta t) := by
  refine ⟨fun pins s σ H Q I h => ?_⟩
  refine PySem.W.methodCall_KW (pl := pl) (thn (he.run pins s σ H _ I h) fun u s1 ⟨x, H1, I1, rx, ex, q⟩ => ?_) ht
  subst ex
  obtain rfl : u = Value.ref C := rx
  obtain ⟨rest, hp⟩ := c.rc
  refine PySem.W.method_cls I1.kIn c.rd.ga (PySem.W.cls_bind I1.kIn c.rd.rd c.at_ ?_)
  refine wpAny_call (PySem.W.sm_get (s := { s1 with toks := s1.toks + 1 }) I1.kIn hp (PySem.W.handed_on rfl ?_))
  have I2 := I1.tok (s1.toks + 1 + 1)
  refine PySem.W.callWith_K (first := []) (h₀ := X.base) I.ok.mod.kin c.kp (thn (ha.run pos pins _ σ H1 _ (I1.tok _) q) fun us s2 ⟨vs, H2, I2, r, q2⟩ => ⟨I2.kIn, ?_⟩) hst hpl
  exact run_fn F hr hb hd hx I2 r q2
end
end StX
/-! ### what is a number, by kinds -/
namespace NuX
/-- is_integer, is_number of a thing of type t -/
def KI (K : PySem.W.Frag) (t : Value) (b : Bool) : Prop := ∃ bi bb, PySem.W.kitOne K t (.type "int") = some bi ∧ PySem.W.kitOne K t (.type "bool") = some bb ∧ b = (bi && !bb)
def KN (K : PySem.W.Frag) (t : Value) (b : Bool) : Prop := ∃ bs, PySem.W.kitOne K t (.ref (He.ga K "Share")) = some bs ∧ ((bs = true ∧ b = true) ∨ (bs = false ∧ KI K t b))
def knB (K : PySem.W.Frag) (t : Value) (b : Bool) : Bool := match PySem.W.kitOne K t (.ref (He.ga K "Share")), PySem.W.kitOne K t (.type "int"), PySem.W.kitOne K t (.type "bool") with
  | some true, _, _ => b
  | some false, some bi, some bb => b == (bi && !bb)
  | _, _, _ => false
theorem knB_ok {K : PySem.W.Frag} {t : Value} {b : Bool} (h : knB K t b = true) : KN K t b := by
  unfold knB at h
  split at h
  · rename_i e
    exact ⟨true, e, .inl ⟨rfl, h⟩⟩
  · rename_i bi bb e1 e2 e3
    exact ⟨false, e1, .inr ⟨rfl, bi, bb, e2, e3, eq_of_beq h⟩⟩
  · cases h
end NuX
/-! ### the text by places -/
def top (i : Nat) : Stmt := PySem.Challenge.pw_lessways_k33_shares_compared.main.body.getD i (.Pass ⟨0, 0, 0, 0⟩)
abbrev s_divisor : Stmt := top 11
abbrev s_is_integer : Stmt := top 7
abbrev s_is_number : Stmt := top 8
abbrev s_share_of : Stmt := top 9
abbrev s_fraction : Stmt := top 10
abbrev s_excess : Stmt := top 12
abbrev s_digits : Stmt := top 13
abbrev s_source : Stmt := top 23
abbrev s_draw : Stmt := top 24
abbrev s_same : Stmt := top 25
abbrev s_lowest : Stmt := top 26
abbrev s_ratio : Stmt := top 27
abbrev s_integer : Stmt := top 28
abbrev s_six : Stmt := top 29
abbrev s_due : Stmt := top 30
abbrev s_other : Stmt := top 31
abbrev s_strange : Stmt := top 32
abbrev s_law : Stmt := top 33
abbrev s_Share_init : Stmt := inClass (top 14) 0
abbrev s_Share_eq : Stmt := inClass (top 14) 10
abbrev s_Share_lt : Stmt := inClass (top 14) 11
abbrev s_Share_le : Stmt := inClass (top 14) 12
abbrev s_Share_gt : Stmt := inClass (top 14) 13
abbrev s_Share_ge : Stmt := inClass (top 14) 14
abbrev s_Share_str : Stmt := inClass (top 14) 15
abbrev s_Term_init : Stmt := inClass (top 21) 0
abbrev s_Term_eq : Stmt := inClass (top 21) 12
def sups : List (Str × Str × Str × Stmt) := []
abbrev s_Term_constant : Stmt := inClass (top 21) 2
def d_Term_constant : He5.DefA := ⟨fun K => He5.wf K (He.ga K "Term") "staticmethod" "constant", "constant", "Term.constant", defArgs s_Term_constant, defBody s_Term_constant, defScope s_Term_constant, [], []⟩
def stats : List He5.DefA := [d_Term_constant]
/-! ### the facts by names -/
def d_divisor : He.DefD := ⟨("divisor", none), "divisor", "divisor", defArgs s_divisor, defBody s_divisor, defScope s_divisor, [], []⟩
def d_is_integer : He.DefD := ⟨("is_integer", none), "is_integer", "is_integer", defArgs s_is_integer, defBody s_is_integer, defScope s_is_integer, [], []⟩
def d_is_number : He.DefD := ⟨("is_number", none), "is_number", "is_number", defArgs s_is_number, defBody s_is_number, defScope s_is_number, [], []⟩
def d_share_of : He.DefD := ⟨("share_of", none), "share_of", "share_of", defArgs s_share_of, defBody s_share_of, defScope s_share_of, [], []⟩
def d_fraction : He.DefD := ⟨("fraction", none), "fraction", "fraction", defArgs s_fraction, defBody s_fraction, defScope s_fraction, [], []⟩
def d_excess : He.DefD := ⟨("excess", none), "excess", "excess", defArgs s_excess, defBody s_excess, defScope s_excess, [], []⟩
def d_digits : He.DefD := ⟨("digits", none), "digits", "digits", defArgs s_digits, defBody s_digits, defScope s_digits, [], []⟩
def d_source : He.DefD := ⟨("_law_source", none), "_law_source", "_law_source", defArgs s_source, defBody s_source, defScope s_source, [], []⟩
def d_draw : He.DefD := ⟨("_law_draw", none), "_law_draw", "_law_draw", defArgs s_draw, defBody s_draw, defScope s_draw, [], []⟩
def d_same : He.DefD := ⟨("_law_same", none), "_law_same", "_law_same", defArgs s_same, defBody s_same, defScope s_same, [], []⟩
def d_lowest : He.DefD := ⟨("_law_lowest", none), "_law_lowest", "_law_lowest", defArgs s_lowest, defBody s_lowest, defScope s_lowest, [], []⟩
def d_ratio : He.DefD := ⟨("_law_ratio", none), "_law_ratio", "_law_ratio", defArgs s_ratio, defBody s_ratio, defScope s_ratio, [], []⟩
def d_integer : He.DefD := ⟨("_law_integer", none), "_law_integer", "_law_integer", defArgs s_integer, defBody s_integer, defScope s_integer, [], []⟩
def d_six : He.DefD := ⟨("_law_six", none), "_law_six", "_law_six", defArgs s_six, defBody s_six, defScope s_six, [], []⟩
def d_due : He.DefD := ⟨("_law_due", none), "_law_due", "_law_due", defArgs s_due, defBody s_due, defScope s_due, [], []⟩
def d_other : He.DefD := ⟨("_law_other", none), "_law_other", "_law_other", defArgs s_other, defBody s_other, defScope s_other, [], []⟩
def d_strange : He.DefD := ⟨("_law_strange", none), "_law_strange", "_law_strange", defArgs s_strange, defBody s_strange, defScope s_strange, [], []⟩
def d_law : He.DefD := ⟨("law", none), "law", "law", defArgs s_law, defBody s_law, defScope s_law, [], []⟩
def d_Share_init : He.DefD := ⟨("Share", some "__init__"), "__init__", "Share.__init__", defArgs s_Share_init, defBody s_Share_init, defScope s_Share_init, [.int 1], []⟩
def d_Share_eq : He.DefD := ⟨("Share", some "__eq__"), "__eq__", "Share.__eq__", defArgs s_Share_eq, defBody s_Share_eq, defScope s_Share_eq, [], []⟩
def d_Share_lt : He.DefD := ⟨("Share", some "__lt__"), "__lt__", "Share.__lt__", defArgs s_Share_lt, defBody s_Share_lt, defScope s_Share_lt, [], []⟩
def d_Share_le : He.DefD := ⟨("Share", some "__le__"), "__le__", "Share.__le__", defArgs s_Share_le, defBody s_Share_le, defScope s_Share_le, [], []⟩
def d_Share_gt : He.DefD := ⟨("Share", some "__gt__"), "__gt__", "Share.__gt__", defArgs s_Share_gt, defBody s_Share_gt, defScope s_Share_gt, [], []⟩
def d_Share_ge : He.DefD := ⟨("Share", some "__ge__"), "__ge__", "Share.__ge__", defArgs s_Share_ge, defBody s_Share_ge, defScope s_Share_ge, [], []⟩
def d_Share_str : He.DefD := ⟨("Share", some "__str__"), "__str__", "Share.__str__", defArgs s_Share_str, defBody s_Share_str, defScope s_Share_str, [], []⟩
def d_Term_init : He.DefD := ⟨("Term", some "__init__"), "__init__", "Term.__init__", defArgs s_Term_init, defBody s_Term_init, defScope s_Term_init, [], []⟩
def d_Term_eq : He.DefD := ⟨("Term", some "__eq__"), "__eq__", "Term.__eq__", defArgs s_Term_eq, defBody s_Term_eq, defScope s_Term_eq, [], []⟩
def fn : List He.DefD := [d_divisor, d_is_integer, d_is_number, d_share_of, d_fraction, d_excess, d_digits, d_source, d_draw, d_same, d_lowest, d_ratio, d_integer, d_six, d_due, d_other, d_strange, d_law, d_Share_init, d_Share_eq, d_Share_lt, d_Share_le, d_Share_gt, d_Share_ge, d_Share_str, d_Term_init, d_Term_eq]
def fa : List He.Fa := [.glo "divisor", .glo "is_integer", .glo "is_number", .glo "share_of", .glo "fraction", .glo "excess", .glo "digits", .glo "_law_source", .glo "_law_draw", .glo "_law_same", .glo "_law_lowest", .glo "_law_ratio", .glo "_law_integer", .glo "_law_six", .glo "_law_due", .glo "_law_other", .glo "_law_strange", .glo "law", .glo "Share", .glo "Term", .free "isinstance", .free "int", .free "bool", .free "abs", .free "len", .free "range", .free "str", .free "list", .free "tuple", .free "all", .free "zip", .free "NotImplemented", .free "divmod", .cls "Share", .mkr "Share", .cls "Term", .mkr "Term", .noat "Share" "top", .noat "Share" "bottom", .noat "Term" "number", .noat "Term" "times", .meth "Share" "__eq__", .meth "Share" "__lt__", .meth "Share" "__le__", .meth "Share" "__gt__", .meth "Share" "__ge__", .meth "Share" "__str__", .meth "Term" "__eq__"]
/-- further facts, as Bools of the written part -/
def extra : List (PySem.W.Frag → Bool) := [fun K => He.eqO (PySem.W.findIn K (.ref (He.ga K "Share")) "__class__") (some (some (.builtin "object.__class__"))),
  fun K => He.eqO (PySem.W.specialIn K (.builtin "object.__class__") "__get__") (some (some (.builtin "getset_descriptor.__get__"))),
  fun K => decide (PySem.W.takesIn K (.builtin "object.__class__") = some true),
  fun K => decide (PySem.W.mroIn K (He.ga K "Share") (.type "object") = some true),
  fun K => decide (PySem.W.kitOne K (.ref (He.ga K "Share")) (.ref (He.ga K "Share")) = some true),
  fun K => He.eqO (PySem.W.findIn K (.ref (He.ga K "Term")) "__class__") (some (some (.builtin "object.__class__"))),
  fun K => decide (PySem.W.mroIn K (He.ga K "Term") (.type "object") = some true),
  fun K => CmX.cmpB K (He.ga K "Share"),
  fun K => NuX.knB K (.ref (He.ga K "Share")) true,
  fun K => NuX.knB K (.ref (He.ga K "Term")) false,
  fun K => NuX.knB K (.type "int") true,
  fun K => NuX.knB K (.type "NoneType") false,
  fun K => NuX.knB K (.type "bool") false,
  fun K => NuX.knB K (.type "str") false,
  fun K => NuX.knB K (.type "list") false,
  fun K => NuX.knB K (.type "tuple") false,
  fun K => NuX.knB K (.type "dict") false,
  fun K => StX.smB K (He.ga K "Term") "constant",
  fun K => decide (PySem.W.kitOne K (.ref (He.ga K "Share")) (.ref (He.ga K "Term")) = some false),
  fun K => decide (PySem.W.subIn K (.ref (He.ga K "Term")) (.ref (He.ga K "Share")) = some false),
  fun K => decide (PySem.W.subIn K (.ref (He.ga K "Share")) (.ref (He.ga K "Term")) = some false),
  fun K => decide (PySem.W.kitOne K (.type "int") (.ref (He.ga K "Share")) = some false)]
abbrev AlX : Type := Bool × He.AlD × List SupX.SpW × List He5.FnW
def obsX (fa : List He.Fa) (fn : List He.DefD) (sp : List (Str × Str × Str × Stmt)) (ex : List (PySem.W.Frag → Bool)) (st : List He5.DefA) (K : PySem.W.Frag) : AlX := ((ex.all fun f => f K) && st.all fun d => d.ok K, He.obsD fa fn K, sp.map fun d => SupX.supW K (He.fAd K (d.1, some d.2.1)), st.map fun d => He5.fnA K (d.at_ K))
def valX (fn : List He.DefD) (sp : List (Str × Str × Str × Stmt)) (st : List He5.DefA) : AlX := (true, He.valD fn, sp.map fun d => SupX.supV d.2.1 d.2.2.1 d.2.2.2, st.map He5.DefA.val)
def SaysX (fa : List He.Fa) (fn : List He.DefD) (sp : List (Str × Str × Str × Stmt)) (ex : List (PySem.W.Frag → Bool)) (st : List He5.DefA) (K : PySem.W.Frag) : Prop := obsX fa fn sp ex st K = valX fn sp st
/-- what every def leans on: the facts, and where the module's names are read -/
structure Wd (K : PySem.W.Frag) (mg : Str → Option Value) : Prop where
  s : SaysX fa fn sups extra stats K
  X : ∃ h : Heap, K.In h ∧ h.Ns mainGlobals mg
section
variable {K : PySem.W.Frag} {mg : Str → Option Value}
theorem Wd.c (W : Wd K mg) : He.SaysD fa fn K := congrArg (fun z : AlX => z.2.1) W.s
theorem Wd.ex (W : Wd K mg) (i : Nat) {f : PySem.W.Frag → Bool} (h : extra[i]? = some f) : f K = true :=
  List.all_eq_true.mp (He.ba (show ((extra.all fun f => f K) && stats.all fun d => d.ok K) = true from congrArg (fun z : AlX => z.1) W.s)).1 f (List.mem_of_getElem? h)
theorem Wd.stat (W : Wd K mg) (i : Nat) {d : He5.DefA} (h : stats[i]? = some d) : ∃ fd, FunD K d.name d.qual d.params d.body d.scope (d.dvs K) (d.kws K) (d.at_ K) fd := by
  have c := (He.ba (show ((extra.all fun f => f K) && stats.all fun d => d.ok K) = true from congrArg (fun z : AlX => z.1) W.s)).2
  have e : stats.map (fun d => He5.fnA K (d.at_ K)) = stats.map He5.DefA.val := congrArg (fun z : AlX => z.2.2.2) W.s
  have e2 : (stats.map fun d => He5.fnA K (d.at_ K))[i]? = (stats.map He5.DefA.val)[i]? := by rw [e]
  rw [List.getElem?_map, List.getElem?_map, h] at e2
  exact He5.DefA.funD (Option.some.inj e2) (List.all_eq_true.mp c d (List.mem_of_getElem? h))
theorem Wd.glo (W : Wd K mg) (i : Nat) {x : Str} (h : fa[i]? = some (.glo x)) : mg x = some (.ref (He.ga K x)) := by
  obtain ⟨h0, X, G⟩ := W.X
  exact He.glo_ok X G (W.c.fact i h)
theorem Wd.free (W : Wd K mg) (i : Nat) {x : Str} (h : fa[i]? = some (.free x)) : mg x = none := by
  obtain ⟨h0, X, G⟩ := W.X
  exact He.free_ok X G (W.c.fact i h)
theorem Wd.sup (W : Wd K mg) (i : Nat) {d : Str × Str × Str × Stmt} (h : sups[i]? = some d) : SupX.supW K (He.fAd K (d.1, some d.2.1)) = SupX.supV d.2.1 d.2.2.1 d.2.2.2 := by
  have e : sups.map (fun d => SupX.supW K (He.fAd K (d.1, some d.2.1))) = sups.map fun d => SupX.supV d.2.1 d.2.2.1 d.2.2.2 := congrArg (fun z : AlX => z.2.2.1) W.s
  have e2 : (sups.map (fun d => SupX.supW K (He.fAd K (d.1, some d.2.1))))[i]? = (sups.map fun d => SupX.supV d.2.1 d.2.2.1 d.2.2.2)[i]? := by rw [e]
  rw [List.getElem?_map, List.getElem?_map, h] at e2
  exact Option.some.inj e2
end

theorem Wd.g_divisor {K : PySem.W.Frag} {mg : Str → Option Value} (W : Wd K mg) : mg "divisor" = some (.ref (He.ga K "divisor")) := W.glo 0 rfl
theorem Wd.g_is_integer {K : PySem.W.Frag} {mg : Str → Option Value} (W : Wd K mg) : mg "is_integer" = some (.ref (He.ga K "is_integer")) := W.glo 1 rfl
theorem Wd.g_is_number {K : PySem.W.Frag} {mg : Str → Option Value} (W : Wd K mg) : mg "is_number" = some (.ref (He.ga K "is_number")) := W.glo 2 rfl
theorem Wd.g_share_of {K : PySem.W.Frag} {mg : Str → Option Value} (W : Wd K mg) : mg "share_of" = some (.ref (He.ga K "share_of")) := W.glo 3 rfl
theorem Wd.g_fraction {K : PySem.W.Frag} {mg : Str → Option Value} (W : Wd K mg) : mg "fraction" = some (.ref (He.ga K "fraction")) := W.glo 4 rfl
theorem Wd.g_excess {K : PySem.W.Frag} {mg : Str → Option Value} (W : Wd K mg) : mg "excess" = some (.ref (He.ga K "excess")) := W.glo 5 rfl
theorem Wd.g_digits {K : PySem.W.Frag} {mg : Str → Option Value} (W : Wd K mg) : mg "digits" = some (.ref (He.ga K "digits")) := W.glo 6 rfl
theorem Wd.g_law_source {K : PySem.W.Frag} {mg : Str → Option Value} (W : Wd K mg) : mg "_law_source" = some (.ref (He.ga K "_law_source")) := W.glo 7 rfl
theorem Wd.g_law_draw {K : PySem.W.Frag} {mg : Str → Option Value} (W : Wd K mg) : mg "_law_draw" = some (.ref (He.ga K "_law_draw")) := W.glo 8 rfl
theorem Wd.g_law_same {K : PySem.W.Frag} {mg : Str → Option Value} (W : Wd K mg) : mg "_law_same" = some (.ref (He.ga K "_law_same")) := W.glo 9 rfl
theorem Wd.g_law_lowest {K : PySem.W.Frag} {mg : Str → Option Value} (W : Wd K mg) : mg "_law_lowest" = some (.ref (He.ga K "_law_lowest")) := W.glo 10 rfl
theorem Wd.g_law_ratio {K : PySem.W.Frag} {mg : Str → Option Value} (W : Wd K mg) : mg "_law_ratio" = some (.ref (He.ga K "_law_ratio")) := W.glo 11 rfl
theorem Wd.g_law_integer {K : PySem.W.Frag} {mg : Str → Option Value} (W : Wd K mg) : mg "_law_integer" = some (.ref (He.ga K "_law_integer")) := W.glo 12 rfl
theorem Wd.g_law_six {K : PySem.W.Frag} {mg : Str → Option Value} (W : Wd K mg) : mg "_law_six" = some (.ref (He.ga K "_law_six")) := W.glo 13 rfl
theorem Wd.g_law_due {K : PySem.W.Frag} {mg : Str → Option Value} (W : Wd K mg) : mg "_law_due" = some (.ref (He.ga K "_law_due")) := W.glo 14 rfl
theorem Wd.g_law_other {K : PySem.W.Frag} {mg : Str → Option Value} (W : Wd K mg) : mg "_law_other" = some (.ref (He.ga K "_law_other")) := W.glo 15 rfl
theorem Wd.g_law_strange {K : PySem.W.Frag} {mg : Str → Option Value} (W : Wd K mg) : mg "_law_strange" = some (.ref (He.ga K "_law_strange")) := W.glo 16 rfl
theorem Wd.g_law {K : PySem.W.Frag} {mg : Str → Option Value} (W : Wd K mg) : mg "law" = some (.ref (He.ga K "law")) := W.glo 17 rfl
theorem Wd.g_Share {K : PySem.W.Frag} {mg : Str → Option Value} (W : Wd K mg) : mg "Share" = some (.ref (He.ga K "Share")) := W.glo 18 rfl
theorem Wd.g_Term {K : PySem.W.Frag} {mg : Str → Option Value} (W : Wd K mg) : mg "Term" = some (.ref (He.ga K "Term")) := W.glo 19 rfl
theorem Wd.f_isinstance {K : PySem.W.Frag} {mg : Str → Option Value} (W : Wd K mg) : mg "isinstance" = none := W.free 20 rfl
theorem Wd.f_int {K : PySem.W.Frag} {mg : Str → Option Value} (W : Wd K mg) : mg "int" = none := W.free 21 rfl
theorem Wd.f_bool {K : PySem.W.Frag} {mg : Str → Option Value} (W : Wd K mg) : mg "bool" = none := W.free 22 rfl
theorem Wd.f_abs {K : PySem.W.Frag} {mg : Str → Option Value} (W : Wd K mg) : mg "abs" = none := W.free 23 rfl
theorem Wd.f_len {K : PySem.W.Frag} {mg : Str → Option Value} (W : Wd K mg) : mg "len" = none := W.free 24 rfl
theorem Wd.f_range {K : PySem.W.Frag} {mg : Str → Option Value} (W : Wd K mg) : mg "range" = none := W.free 25 rfl
theorem Wd.f_str {K : PySem.W.Frag} {mg : Str → Option Value} (W : Wd K mg) : mg "str" = none := W.free 26 rfl
theorem Wd.f_list {K : PySem.W.Frag} {mg : Str → Option Value} (W : Wd K mg) : mg "list" = none := W.free 27 rfl
theorem Wd.f_tuple {K : PySem.W.Frag} {mg : Str → Option Value} (W : Wd K mg) : mg "tuple" = none := W.free 28 rfl
theorem Wd.f_all {K : PySem.W.Frag} {mg : Str → Option Value} (W : Wd K mg) : mg "all" = none := W.free 29 rfl
theorem Wd.f_zip {K : PySem.W.Frag} {mg : Str → Option Value} (W : Wd K mg) : mg "zip" = none := W.free 30 rfl
theorem Wd.f_NotImplemented {K : PySem.W.Frag} {mg : Str → Option Value} (W : Wd K mg) : mg "NotImplemented" = none := W.free 31 rfl
theorem Wd.f_divmod {K : PySem.W.Frag} {mg : Str → Option Value} (W : Wd K mg) : mg "divmod" = none := W.free 32 rfl
theorem Wd.cls_Share {K : PySem.W.Frag} {mg : Str → Option Value} (W : Wd K mg) : Cls K (He.ga K "Share") := He.cls_ok (W.c.fact 33 rfl)
theorem Wd.mkr_Share {K : PySem.W.Frag} {mg : Str → Option Value} (W : Wd K mg) : Mk K (He.ga K "Share") (He.ma K (He.ga K "Share") "__init__") := He.mkr_ok (W.c.fact 34 rfl)
theorem Wd.cls_Term {K : PySem.W.Frag} {mg : Str → Option Value} (W : Wd K mg) : Cls K (He.ga K "Term") := He.cls_ok (W.c.fact 35 rfl)
theorem Wd.mkr_Term {K : PySem.W.Frag} {mg : Str → Option Value} (W : Wd K mg) : Mk K (He.ga K "Term") (He.ma K (He.ga K "Term") "__init__") := He.mkr_ok (W.c.fact 36 rfl)
theorem Wd.n_Share_top {K : PySem.W.Frag} {mg : Str → Option Value} (W : Wd K mg) : NoAttr K (He.ga K "Share") "top" := He.noat_ok (W.c.fact 37 rfl)
theorem Wd.n_Share_bottom {K : PySem.W.Frag} {mg : Str → Option Value} (W : Wd K mg) : NoAttr K (He.ga K "Share") "bottom" := He.noat_ok (W.c.fact 38 rfl)
theorem Wd.n_Term_number {K : PySem.W.Frag} {mg : Str → Option Value} (W : Wd K mg) : NoAttr K (He.ga K "Term") "number" := He.noat_ok (W.c.fact 39 rfl)
theorem Wd.n_Term_times {K : PySem.W.Frag} {mg : Str → Option Value} (W : Wd K mg) : NoAttr K (He.ga K "Term") "times" := He.noat_ok (W.c.fact 40 rfl)
theorem Wd.m_Share_eq {K : PySem.W.Frag} {mg : Str → Option Value} (W : Wd K mg) : Meth K (He.ga K "Share") "__eq__" (He.ma K (He.ga K "Share") "__eq__") := He.meth_ok (W.c.fact 41 rfl)
theorem Wd.m_Share_lt {K : PySem.W.Frag} {mg : Str → Option Value} (W : Wd K mg) : Meth K (He.ga K "Share") "__lt__" (He.ma K (He.ga K "Share") "__lt__") := He.meth_ok (W.c.fact 42 rfl)
theorem Wd.m_Share_le {K : PySem.W.Frag} {mg : Str → Option Value} (W : Wd K mg) : Meth K (He.ga K "Share") "__le__" (He.ma K (He.ga K "Share") "__le__") := He.meth_ok (W.c.fact 43 rfl)
theorem Wd.m_Share_gt {K : PySem.W.Frag} {mg : Str → Option Value} (W : Wd K mg) : Meth K (He.ga K "Share") "__gt__" (He.ma K (He.ga K "Share") "__gt__") := He.meth_ok (W.c.fact 44 rfl)
theorem Wd.m_Share_ge {K : PySem.W.Frag} {mg : Str → Option Value} (W : Wd K mg) : Meth K (He.ga K "Share") "__ge__" (He.ma K (He.ga K "Share") "__ge__") := He.meth_ok (W.c.fact 45 rfl)
theorem Wd.m_Share_str {K : PySem.W.Frag} {mg : Str → Option Value} (W : Wd K mg) : Meth K (He.ga K "Share") "__str__" (He.ma K (He.ga K "Share") "__str__") := He.meth_ok (W.c.fact 46 rfl)
theorem Wd.m_Term_eq {K : PySem.W.Frag} {mg : Str → Option Value} (W : Wd K mg) : Meth K (He.ga K "Term") "__eq__" (He.ma K (He.ga K "Term") "__eq__") := He.meth_ok (W.c.fact 47 rfl)
theorem Wd.F_divisor {K : PySem.W.Frag} {mg : Str → Option Value} (W : Wd K mg) : ∃ fd, FunD K d_divisor.name d_divisor.qual d_divisor.params d_divisor.body d_divisor.scope (d_divisor.dvs K) (d_divisor.kws K) (He.fAd K d_divisor.at_) fd := W.c.def_ 0 rfl
theorem Wd.F_is_integer {K : PySem.W.Frag} {mg : Str → Option Value} (W : Wd K mg) : ∃ fd, FunD K d_is_integer.name d_is_integer.qual d_is_integer.params d_is_integer.body d_is_integer.scope (d_is_integer.dvs K) (d_is_integer.kws K) (He.fAd K d_is_integer.at_) fd := W.c.def_ 1 rfl
theorem Wd.F_is_number {K : PySem.W.Frag} {mg : Str → Option Value} (W : Wd K mg) : ∃ fd, FunD K d_is_number.name d_is_number.qual d_is_number.params d_is_number.body d_is_number.scope (d_is_number.dvs K) (d_is_number.kws K) (He.fAd K d_is_number.at_) fd := W.c.def_ 2 rfl
theorem Wd.F_share_of {K : PySem.W.Frag} {mg : Str → Option Value} (W : Wd K mg) : ∃ fd, FunD K d_share_of.name d_share_of.qual d_share_of.params d_share_of.body d_share_of.scope (d_share_of.dvs K) (d_share_of.kws K) (He.fAd K d_share_of.at_) fd := W.c.def_ 3 rfl
theorem Wd.F_fraction {K : PySem.W.Frag} {mg : Str → Option Value} (W : Wd K mg) : ∃ fd, FunD K d_fraction.name d_fraction.qual d_fraction.params d_fraction.body d_fraction.scope (d_fraction.dvs K) (d_fraction.kws K) (He.fAd K d_fraction.at_) fd := W.c.def_ 4 rfl
theorem Wd.F_excess {K : PySem.W.Frag} {mg : Str → Option Value} (W : Wd K mg) : ∃ fd, FunD K d_excess.name d_excess.qual d_excess.params d_excess.body d_excess.scope (d_excess.dvs K) (d_excess.kws K) (He.fAd K d_excess.at_) fd := W.c.def_ 5 rfl
theorem Wd.F_digits {K : PySem.W.Frag} {mg : Str → Option Value} (W : Wd K mg) : ∃ fd, FunD K d_digits.name d_digits.qual d_digits.params d_digits.body d_digits.scope (d_digits.dvs K) (d_digits.kws K) (He.fAd K d_digits.at_) fd := W.c.def_ 6 rfl
theorem Wd.F_source {K : PySem.W.Frag} {mg : Str → Option Value} (W : Wd K mg) : ∃ fd, FunD K d_source.name d_source.qual d_source.params d_source.body d_source.scope (d_source.dvs K) (d_source.kws K) (He.fAd K d_source.at_) fd := W.c.def_ 7 rfl
theorem Wd.F_draw {K : PySem.W.Frag} {mg : Str → Option Value} (W : Wd K mg) : ∃ fd, FunD K d_draw.name d_draw.qual d_draw.params d_draw.body d_draw.scope (d_draw.dvs K) (d_draw.kws K) (He.fAd K d_draw.at_) fd := W.c.def_ 8 rfl
theorem Wd.F_same {K : PySem.W.Frag} {mg : Str → Option Value} (W : Wd K mg) : ∃ fd, FunD K d_same.name d_same.qual d_same.params d_same.body d_same.scope (d_same.dvs K) (d_same.kws K) (He.fAd K d_same.at_) fd := W.c.def_ 9 rfl
theorem Wd.F_lowest {K : PySem.W.Frag} {mg : Str → Option Value} (W : Wd K mg) : ∃ fd, FunD K d_lowest.name d_lowest.qual d_lowest.params d_lowest.body d_lowest.scope (d_lowest.dvs K) (d_lowest.kws K) (He.fAd K d_lowest.at_) fd := W.c.def_ 10 rfl
theorem Wd.F_ratio {K : PySem.W.Frag} {mg : Str → Option Value} (W : Wd K mg) : ∃ fd, FunD K d_ratio.name d_ratio.qual d_ratio.params d_ratio.body d_ratio.scope (d_ratio.dvs K) (d_ratio.kws K) (He.fAd K d_ratio.at_) fd := W.c.def_ 11 rfl
theorem Wd.F_integer {K : PySem.W.Frag} {mg : Str → Option Value} (W : Wd K mg) : ∃ fd, FunD K d_integer.name d_integer.qual d_integer.params d_integer.body d_integer.scope (d_integer.dvs K) (d_integer.kws K) (He.fAd K d_integer.at_) fd := W.c.def_ 12 rfl
theorem Wd.F_six {K : PySem.W.Frag} {mg : Str → Option Value} (W : Wd K mg) : ∃ fd, FunD K d_six.name d_six.qual d_six.params d_six.body d_six.scope (d_six.dvs K) (d_six.kws K) (He.fAd K d_six.at_) fd := W.c.def_ 13 rfl
theorem Wd.F_due {K : PySem.W.Frag} {mg : Str → Option Value} (W : Wd K mg) : ∃ fd, FunD K d_due.name d_due.qual d_due.params d_due.body d_due.scope (d_due.dvs K) (d_due.kws K) (He.fAd K d_due.at_) fd := W.c.def_ 14 rfl
theorem Wd.F_other {K : PySem.W.Frag} {mg : Str → Option Value} (W : Wd K mg) : ∃ fd, FunD K d_other.name d_other.qual d_other.params d_other.body d_other.scope (d_other.dvs K) (d_other.kws K) (He.fAd K d_other.at_) fd := W.c.def_ 15 rfl
theorem Wd.F_strange {K : PySem.W.Frag} {mg : Str → Option Value} (W : Wd K mg) : ∃ fd, FunD K d_strange.name d_strange.qual d_strange.params d_strange.body d_strange.scope (d_strange.dvs K) (d_strange.kws K) (He.fAd K d_strange.at_) fd := W.c.def_ 16 rfl
theorem Wd.F_law {K : PySem.W.Frag} {mg : Str → Option Value} (W : Wd K mg) : ∃ fd, FunD K d_law.name d_law.qual d_law.params d_law.body d_law.scope (d_law.dvs K) (d_law.kws K) (He.fAd K d_law.at_) fd := W.c.def_ 17 rfl
theorem Wd.F_Share_init {K : PySem.W.Frag} {mg : Str → Option Value} (W : Wd K mg) : ∃ fd, FunD K d_Share_init.name d_Share_init.qual d_Share_init.params d_Share_init.body d_Share_init.scope (d_Share_init.dvs K) (d_Share_init.kws K) (He.fAd K d_Share_init.at_) fd := W.c.def_ 18 rfl
theorem Wd.F_Share_eq {K : PySem.W.Frag} {mg : Str → Option Value} (W : Wd K mg) : ∃ fd, FunD K d_Share_eq.name d_Share_eq.qual d_Share_eq.params d_Share_eq.body d_Share_eq.scope (d_Share_eq.dvs K) (d_Share_eq.kws K) (He.fAd K d_Share_eq.at_) fd := W.c.def_ 19 rfl
theorem Wd.F_Share_lt {K : PySem.W.Frag} {mg : Str → Option Value} (W : Wd K mg) : ∃ fd, FunD K d_Share_lt.name d_Share_lt.qual d_Share_lt.params d_Share_lt.body d_Share_lt.scope (d_Share_lt.dvs K) (d_Share_lt.kws K) (He.fAd K d_Share_lt.at_) fd := W.c.def_ 20 rfl
theorem Wd.F_Share_le {K : PySem.W.Frag} {mg : Str → Option Value} (W : Wd K mg) : ∃ fd, FunD K d_Share_le.name d_Share_le.qual d_Share_le.params d_Share_le.body d_Share_le.scope (d_Share_le.dvs K) (d_Share_le.kws K) (He.fAd K d_Share_le.at_) fd := W.c.def_ 21 rfl
theorem Wd.F_Share_gt {K : PySem.W.Frag} {mg : Str → Option Value} (W : Wd K mg) : ∃ fd, FunD K d_Share_gt.name d_Share_gt.qual d_Share_gt.params d_Share_gt.body d_Share_gt.scope (d_Share_gt.dvs K) (d_Share_gt.kws K) (He.fAd K d_Share_gt.at_) fd := W.c.def_ 22 rfl
theorem Wd.F_Share_ge {K : PySem.W.Frag} {mg : Str → Option Value} (W : Wd K mg) : ∃ fd, FunD K d_Share_ge.name d_Share_ge.qual d_Share_ge.params d_Share_ge.body d_Share_ge.scope (d_Share_ge.dvs K) (d_Share_ge.kws K) (He.fAd K d_Share_ge.at_) fd := W.c.def_ 23 rfl
theorem Wd.F_Share_str {K : PySem.W.Frag} {mg : Str → Option Value} (W : Wd K mg) : ∃ fd, FunD K d_Share_str.name d_Share_str.qual d_Share_str.params d_Share_str.body d_Share_str.scope (d_Share_str.dvs K) (d_Share_str.kws K) (He.fAd K d_Share_str.at_) fd := W.c.def_ 24 rfl
theorem Wd.F_Term_init {K : PySem.W.Frag} {mg : Str → Option Value} (W : Wd K mg) : ∃ fd, FunD K d_Term_init.name d_Term_init.qual d_Term_init.params d_Term_init.body d_Term_init.scope (d_Term_init.dvs K) (d_Term_init.kws K) (He.fAd K d_Term_init.at_) fd := W.c.def_ 25 rfl
theorem Wd.F_Term_eq {K : PySem.W.Frag} {mg : Str → Option Value} (W : Wd K mg) : ∃ fd, FunD K d_Term_eq.name d_Term_eq.qual d_Term_eq.params d_Term_eq.body d_Term_eq.scope (d_Term_eq.dvs K) (d_Term_eq.kws K) (He.fAd K d_Term_eq.at_) fd := W.c.def_ 26 rfl
theorem Wd.F_Term_constant {K : PySem.W.Frag} {mg : Str → Option Value} (W : Wd K mg) : ∃ fd, FunD K d_Term_constant.name d_Term_constant.qual d_Term_constant.params d_Term_constant.body d_Term_constant.scope (d_Term_constant.dvs K) (d_Term_constant.kws K) (d_Term_constant.at_ K) fd := W.stat 0 rfl
def loose1 : List PySem.Str := ["LessError", "NoShare", "NoUnknown", "NotStraight", "Row", "Share", "Term", "UNKNOWNS", "_law_draw", "_law_due", "_law_integer", "_law_lowest", "_law_other", "_law_ratio"]
def loose2 : List PySem.Str := ["_law_same", "_law_six", "_law_source", "_law_strange", "_wall", "digits", "divisor", "excess", "fraction", "is_integer", "is_number", "scale", "share_of", "term_of"]
abbrev R : PySem.W.OpenRow := PySem.W.OpenLaw.row PySem.Challenge.rw_lessways_k33_shares_compared
def lawAt : Nat := 33
def big9 : Nat := 2 ^ 8999
def bigM : Nat := 2 ^ 400000
section
variable {X : Cx}
/-- // by a divisor that is not 0, below 2 ^ 9000 either way -/
theorem op_fdivX : OpR X (binaryOp .FloorDiv) (rI (fun _ j => j ≠ 0 ∧ j.natAbs < big9) fun i j => .int (i.fdiv j)) := opI fun i j _ _ _ _ _ hc q => by
  exact floordiv_int hc.1 q (.inl (PyProof.noPylong_of_log2 (Nat.lt_of_lt_of_le (PySem.Flt.log2_lt_of (by decide) hc.2) (by decide))))
theorem call_intI : CallR X (.type "int") (fun xs H Q => ∃ i, xs = [.int i] ∧ Q (.int i) H) := fun pins s σ H xs us Q I r h => by
  obtain ⟨i, e, q⟩ := h
  exact call_int1 pins s σ H xs us Q I r (.inl ⟨i, e, q⟩)
theorem op_mulX9 : OpR X (binaryOp .Mult) (rI (fun i j => i.natAbs < bigM ∧ j.natAbs < bigM) fun i j => .int (i * j)) := opI fun i j _ _ _ _ _ hc q => by
  refine mul_int q (CMulW.ok (wide_mul hc.1 hc.2 (by omega) (by omega) (by omega)))
end
def rIxLH : R2 := fun x y H Q => ∃ (p : Addr) (xs : List V) (i : Int) (v : V), x = .ref p ∧ y = .int i ∧ H p = some (.lst xs) ∧ atI xs i = some v ∧ Q v H
def rIxTH : R2 := fun x y H Q => ∃ (p : Addr) (xs : List V) (i : Int) (v : V), x = .ref p ∧ y = .int i ∧ H p = some (.tup xs) ∧ atI xs i = some v ∧ Q v H
section
variable {X : Cx}
theorem ix_lstH : IxR X rIxLH := by
  intro value slice pins s σ H x y v u Q I rx ry h hs
  obtain ⟨p, xs, i, z, e1, e2, hp, a, q⟩ := h
  exact ix_list value slice pins s σ H x y v u Q I rx ry ⟨p, xs, i, z, e1, e2, SqL.of hp, a, q⟩ hs
theorem ix_tupH : IxR X rIxTH := by
  intro value slice pins s σ H x y v u Q I rx ry h hs
  obtain ⟨p, xs, i, z, e1, e2, hp, a, q⟩ := h
  exact ix_tup value slice pins s σ H x y v u Q I rx ry ⟨p, xs, i, z, e1, e2, SqT.of hp, a, q⟩ hs
end
theorem cxK {CX : CXT} {P : Program} {w : World} {K : PySem.W.Frag} {mg : Str → Option Value} {base : Heap} {N : List Str} {qual : Str} {scope : Scope} {f : Addr} {cd : Value} {A : Around} {outer : List Env} {s : Shared} {H : Hp} {E : XK} :
    (cxOf CX P w K mg base N qual scope f cd A outer s H E).K = K := rfl
/-- the size of the int in slot i -/
def intAt (i : Nat) (σ : List (Option V)) : Nat := match σ[i]? with
  | some (some (V.int x)) => x.natAbs
  | _ => 0
theorem ex2 {α β : Type} {a : α} {b : β} {P : α → β → Prop} : (∃ x y, (a = x ∧ b = y) ∧ P x y) ↔ P a b := ⟨fun ⟨_, _, ⟨e1, e2⟩, h⟩ => by subst e1 e2; exact h, fun h => ⟨_, _, ⟨rfl, rfl⟩, h⟩⟩
theorem ex3 {α β γ : Type} {a : α} {b : β} {c : γ} {P : α → β → γ → Prop} : (∃ x y z, (a = x ∧ b = y ∧ c = z) ∧ P x y z) ↔ P a b c := ⟨fun ⟨_, _, _, ⟨e1, e2, e3⟩, h⟩ => by subst e1 e2 e3; exact h, fun h => ⟨_, _, _, ⟨rfl, rfl, rfl⟩, h⟩⟩
theorem ex3b {α β γ : Type} {a : α} {b : β} {c : γ} {P : α → β → γ → Prop} : (∃ x y z, (a = x ∧ b = y ∧ z = c) ∧ P x y z) ↔ P a b c := ⟨fun ⟨_, _, _, ⟨e1, e2, e3⟩, h⟩ => by subst e1 e2 e3; exact h, fun h => ⟨_, _, _, ⟨rfl, rfl, rfl⟩, h⟩⟩
universe u
/-- what a is locked with: behind it simp leaves a be -/
structure Lk {α : Sort u} (a : α) : Type
/-- a new object: what follows holds of it and of the heap with it -/
def Alloc (H : Hp) (o : HO) (Q : V → Hp → Prop) (_ : Lk Q := ⟨⟩) : Prop := ∀ p, H p = none → Q (.ref p) (upd H p o)
theorem same_upd {H : Hp} {p : Addr} {o : HO} (h : H p = none) : Same H (upd H p o) := fun b u e => by
  rw [upd_ne (ne_of_none e h)]
  exact e
theorem Alloc.of {H : Hp} {o : HO} {Q : V → Hp → Prop} (h : ∀ p H', H p = none → H' p = some o → Same H H' → Q (.ref p) H') : Alloc H o Q := fun p hp => h p _ hp upd_same (same_upd hp)
theorem tLst_A {t : TA} {σ : List (Option V)} {H : Hp} {Q : V → Hp → Prop} : tLst t σ H Q = t σ H fun xs H1 => xs.length ≤ sizeLine ∧ Alloc H1 (.lst xs) Q := rfl
theorem tTup_A {t : TA} {σ : List (Option V)} {H : Hp} {Q : V → Hp → Prop} : tTup t σ H Q = t σ H fun xs H1 => xs.length ≤ sizeLine ∧ Alloc H1 (.tup xs) Q := rfl
/-! ### the draws -/
section
variable {P : Program} {w : World} {K : PySem.W.Frag} {mg : Str → Option Value} {base : Heap}
def draws (d0 d1 d2 : Int) : HO := .lst [.int d0, .int d1, .int d2]
theorem scSource : FnScope ["_law_script", "_law_at", "_law_cell"] ["_law_script", "_law_at"] d_source.scope := ⟨rfl, rfl, rfl, by decide +kernel, rfl, by decide +kernel, by decide +kernel⟩
def spSource (K : PySem.W.Frag) : Sp := fun vs H Q _ => ∃ (a : Addr) (ns : List Int) (k : Nat), vs = [.ref a, .int k] ∧ SqL K H a (ns.map V.int) ∧ k < 100 ∧ ∀ (d0 d1 : Int) (p : Addr), H p = none → Q (.ref p) (upd H p (draws d0 d1 0))
theorem le3 : 3 ≤ sizeLine := by decide
theorem ok_source (W : Wd K mg) : ∃ fd, FnOk P w K mg base CX0 1 (He.ga K "_law_source") fd ["_law_script", "_law_at"] (spSource K) ∧ Binds K fd ["_law_script", "_law_at"] [] := by
  obtain ⟨fd, F⟩ := W.F_source
  refine ⟨fd, F.ok scSource (fun vs H Q E h => ?_) (fun cdv A outer s H vs Q E hr h => ?_), FunD.bindsN F fun _ _ _ _ _ _ us hl => match us, hl with | [_, _], _ => rfl⟩
  · obtain ⟨a, ns, k, rfl, _⟩ := h
    rfl
  · obtain ⟨a, ns, k, rfl, hS, hk, q⟩ := h
    refine ⟨_, PSs.nox (pss_cons (ps_set (i := 2) scSource.nd rfl (Or.inl rfl) (pe_ifExp (pt_cmpR op_lt (pv 1) (pe_callB call_len_seq (by rfl) W.f_len boot_len (pa_cons (pv 0) pa_nil)) (nomark _)) (pe_ix ix_list (pv 0) (pv 1) (fun _ _ => rfl)) (pe_op op_add (pe_op op_mul pe_int (pv 1)) pe_int)))
      (pss_one (ps_ret (pe_lst (pa_cons (pe_ifExp (pt_cmpR op_ge (pv 2) (pe_op op_pow pe_int pe_int) (nomark _)) (pv 2) pe_int) (pa_cons (pe_op op_mod (pe_callTy call_intI (by rfl) W.f_int (by decide +kernel) (pa_cons (pv 2) pa_nil)) pe_int) (pa_cons pe_int pa_nil))))))), ?_⟩
    simp -dsimp [tSeq, tAsg, tRet, tIfS, tIf, tTest, tVar, tCons, tNil, tC, tOp, tUn, rI, rI0, rU, tCB, tLst_A, tTup_A, gName, L2.start, CMul, CPow, CDiv, tDrop, tBM, tBM0, tNext, tPar, gSub, rSetL, rIxL, rIxT, tChain, tB, tNot, tNotV, tAnd, tOr, tAndV, tOrV, tFld, tCall, rIxLH, rIxTH, ixN, upd_same, cxK, ex2, ex3, ex3b]
    refine ⟨ns.map V.int, .inl hS, ?_⟩
    split
    · rename_i hk'
      obtain ⟨z, hz⟩ : ∃ z : Int, (ns.map V.int)[k]? = some (V.int z) := by
        rw [List.length_map] at hk'
        exact ⟨ns[k], by rw [List.getElem?_map, List.getElem?_eq_getElem hk']; rfl⟩
      refine ⟨_, hS, _, atI_nat hz, ?_⟩
      simp -dsimp [tSeq, tAsg, tRet, tIfS, tIf, tTest, tVar, tCons, tNil, tC, tOp, tUn, rI, rI0, rU, tCB, tLst_A, tTup_A, gName, L2.start, CMul, CPow, CDiv, tDrop, tBM, tBM0, tNext, tPar, gSub, rSetL, rIxL, rIxT, tChain, tB, tNot, tNotV, tAnd, tOr, tAndV, tOrV, tFld, tCall, rIxLH, rIxTH, atI, ixN, upd_same, cxK, ex2, ex3, ex3b]
      split <;> exact ⟨le3, fun p hp => q _ _ p hp⟩
    · split <;> exact ⟨le3, fun p hp => q _ _ p hp⟩
theorem scDraw : FnScope ["_law_draws", "_law_many", "_law_found"] ["_law_draws", "_law_many"] d_draw.scope := ⟨rfl, rfl, rfl, by decide +kernel, rfl, by decide +kernel, by decide +kernel⟩
def spDraw (K : PySem.W.Frag) : Sp := fun vs H Q _ => ∃ (l : Addr) (d0 d1 d2 m : Int), vs = [.ref l, .int m] ∧ H l = some (draws d0 d1 d2) ∧ 0 < m ∧ m.natAbs < 2 ^ 64 ∧ ∀ (r e0 e1 e2 : Int), 0 ≤ r → r < m → Q (.int r) (upd H l (draws e0 e1 e2))
theorem ok_draw (W : Wd K mg) : ∃ fd, FnOk P w K mg base CX0 1 (He.ga K "_law_draw") fd ["_law_draws", "_law_many"] (spDraw K) ∧ Binds K fd ["_law_draws", "_law_many"] [] := by
  obtain ⟨fd, F⟩ := W.F_draw
  refine ⟨fd, F.ok scDraw (fun vs H Q E h => ?_) (fun cdv A outer s H vs Q E hr h => ?_), FunD.bindsN F fun _ _ _ _ _ _ us hl => match us, hl with | [_, _], _ => rfl⟩
  · obtain ⟨a, d0, d1, d2, m, rfl, _⟩ := h
    rfl
  · obtain ⟨l, d0, d1, d2, m, rfl, hl, h0, hm, q⟩ := h
    refine ⟨_, PSs.nox (pss_cons (ps_if (pt_cmpR op_gt (pe_ix ix_lstH (pv 0) pe_int (fun _ _ => rfl)) pe_int (nomark _))
        (pss_cons (ps_set (i := 2) scDraw.nd rfl (Or.inl rfl) (pe_op op_mod (pe_callTy call_intI (by rfl) W.f_int (by decide +kernel) (pa_cons (pe_ix ix_lstH (pv 0) pe_int (fun _ _ => rfl)) pa_nil)) (pv 1)))
        (pss_cons (ps_asg (pe_op op_fdivW (pe_ix ix_lstH (pv 0) pe_int (fun _ _ => rfl)) (pv 1)) (pg_sub (pv 0) pe_int set_list))
        (pss_one (ps_ret (pv 2))))) pss_nil)
      (pss_cons (ps_asg (pe_op op_add (pe_ix ix_lstH (pv 0) pe_int (fun _ _ => rfl)) pe_int) (pg_sub (pv 0) pe_int set_list))
      (pss_cons (ps_asg (pe_op op_mod (pe_callTy call_intI (by rfl) W.f_int (by decide +kernel) (pa_cons (pe_op op_add (pe_op op_add (pe_op op_mul (pe_ix ix_lstH (pv 0) pe_int (fun _ _ => rfl)) pe_int) (pe_op op_mul (pe_ix ix_lstH (pv 0) pe_int (fun _ _ => rfl)) pe_int)) pe_int) pa_nil)) pe_int) (pg_sub (pv 0) pe_int set_list))
      (pss_one (ps_ret (pe_op op_mod (pe_callTy call_intI (by rfl) W.f_int (by decide +kernel) (pa_cons (pe_op op_add (pe_op op_fdiv (pe_ix ix_lstH (pv 0) pe_int (fun _ _ => rfl)) pe_int) (pe_ix ix_lstH (pv 0) pe_int (fun _ _ => rfl))) pa_nil)) (pv 1))))))), ?_⟩
    simp -dsimp [tSeq, tAsg, tRet, tIfS, tIf, tTest, tVar, tCons, tNil, tC, tOp, tUn, rI, rI0, rU, tCB, tLst_A, tTup_A, gName, L2.start, CMul, CPow, CDiv, tDrop, tBM, tBM0, tNext, tPar, gSub, rSetL, rIxL, rIxT, tChain, tB, tNot, tNotV, tAnd, tOr, tAndV, tOrV, tFld, tCall, rIxLH, rIxTH, atI, ixN, upd_same, cxK, ex2, ex3, ex3b, hl, draws]
    split
    · exact ⟨h0, ⟨h0, Nat.lt_of_lt_of_le (PySem.Flt.log2_lt_of (by decide) hm) (by decide)⟩, q _ _ _ _ (Int.emod_nonneg _ (by omega)) (Int.emod_lt_of_pos _ h0)⟩
    · rw [upd_upd]
      exact ⟨h0, q _ _ _ _ (Int.emod_nonneg _ (by omega)) (Int.emod_lt_of_pos _ h0)⟩
end
section
variable {P : Program} {w : World} {K : PySem.W.Frag} {mg : Str → Option Value} {base : Heap}
theorem scInteger : FnScope ["_law_draws", "_law_way", "_law_found"] ["_law_draws"] d_integer.scope := ⟨rfl, rfl, rfl, by decide +kernel, rfl, by decide +kernel, by decide +kernel⟩
def spInteger (K : PySem.W.Frag) : Sp := fun vs H Q _ => ∃ (l : Addr) (d0 d1 d2 : Int), vs = [.ref l] ∧ H l = some (draws d0 d1 d2) ∧ ∀ (r e0 e1 e2 : Int), r.natAbs < 1000000000000 → Q (.int r) (upd H l (draws e0 e1 e2))
theorem ok_integer (W : Wd K mg) : ∃ fd, FnOk P w K mg base CX0 2 (He.ga K "_law_integer") fd ["_law_draws"] (spInteger K) ∧ Binds K fd ["_law_draws"] [] := by
  obtain ⟨fd, F⟩ := W.F_integer
  obtain ⟨fdD, G, bG⟩ := ok_draw (P := P) (w := w) (base := base) W
  have kD : PySem.W.keepIn K (.ref (He.ga K "_law_draw")) = true := by
    obtain ⟨fd, F⟩ := W.F_draw
    exact F.kp
  refine ⟨fd, F.ok scInteger (fun vs H Q E h => ?_) (fun cdv A outer s H vs Q E hr h => ?_), FunD.bindsN F fun _ _ _ _ _ _ us hl => match us, hl with | [_], _ => rfl⟩
  · obtain ⟨a, d0, d1, d2, rfl, _⟩ := h
    rfl
  · obtain ⟨l, d0, d1, d2, rfl, hl, q⟩ := h
    refine ⟨_, PSs.nox (pss_cons (ps_set (i := 1) scInteger.nd rfl (Or.inl rfl) (pe_call G hr rfl W.g_law_draw kD bG .nil pass0 (pa_cons (pv 0) (pa_cons pe_int pa_nil))))
      (pss_cons (ps_if (pt_cmpR op_lt (pv 1) pe_int (nomark _)) (pss_one (ps_ret (pe_op op_sub (pe_call G hr rfl W.g_law_draw kD bG .nil pass0 (pa_cons (pv 0) (pa_cons pe_int pa_nil))) pe_int))) pss_nil)
      (pss_cons (ps_set (i := 2) scInteger.nd rfl (Or.inl rfl) (pe_op op_add (pe_op op_mul (pe_call G hr rfl W.g_law_draw kD bG .nil pass0 (pa_cons (pv 0) (pa_cons (pe_op op_pow pe_int pe_int) pa_nil))) (pe_op op_pow pe_int pe_int)) (pe_call G hr rfl W.g_law_draw kD bG .nil pass0 (pa_cons (pv 0) (pa_cons (pe_op op_pow pe_int pe_int) pa_nil)))))
      (pss_one (ps_ret (pe_ifExp (pt_cmpR op_lt (pv 1) pe_int (nomark _)) (pv 2) (pe_un un_neg (pv 2)))))))), ?_⟩
    simp -dsimp [tSeq, tAsg, tRet, tIfS, tIf, tTest, tVar, tCons, tNil, tC, tOp, tUn, rI, rI0, rU, tCB, tLst_A, tTup_A, gName, L2.start, CMul, CPow, CDiv, tDrop, tBM, tBM0, tNext, tPar, gSub, rSetL, rIxL, rIxT, tChain, tB, tNot, tNotV, tAnd, tOr, tAndV, tOrV, tFld, tCall, rIxLH, rIxTH, atI, ixN, upd_same, cxK, ex2, ex3, ex3b]
    refine ⟨l, d0, d1, d2, 6, rfl, hl, by decide, by decide, fun way e0 e1 e2 w0 w1 => ⟨_, rfl, ?_⟩⟩
    split
    · refine ⟨l, e0, e1, e2, 13, rfl, upd_same, by decide, by decide, fun r f0 f1 f2 r0 r1 => ⟨_, rfl, ?_⟩⟩
      rw [upd_upd]
      exact q _ _ _ _ (by omega)
    · refine ⟨l, e0, e1, e2, 1000000, rfl, upd_same, by decide, by decide, fun r f0 f1 f2 r0 r1 => ⟨_, rfl, ?_⟩⟩
      refine ⟨l, f0, f1, f2, 1000000, rfl, upd_same, by decide, by decide, fun r' g0 g1 g2 s0 s1 => ⟨_, rfl, _, rfl, ?_⟩⟩
      rw [upd_upd, upd_upd]
      split
      · exact q _ _ _ _ (by omega)
      · exact q _ _ _ _ (by omega)
theorem le2 : 2 ≤ sizeLine := by decide
def side (a b : Int) : Int := if b > 0 then (Int.gcd a b : Int) else -(Int.gcd a b : Int)
theorem scLowest : FnScope ["_law_up", "_law_down", "_law_low", "_law_part", "_law_side"] ["_law_up", "_law_down"] d_lowest.scope := ⟨rfl, rfl, rfl, by decide +kernel, rfl, by decide +kernel, by decide +kernel⟩
def spLowest (K : PySem.W.Frag) : Sp := fun vs H Q _ => ∃ (a b : Int), vs = [.int a, .int b] ∧ b ≠ 0 ∧ b.natAbs < big9 ∧ ∀ p, H p = none → Q (.ref p) (upd H p (.tup [.int (a.fdiv (side a b)), .int (b.fdiv (side a b))]))
theorem ok_lowest (W : Wd K mg) : ∃ fd, FnOk P w K mg base CX0 1 (He.ga K "_law_lowest") fd ["_law_up", "_law_down"] (spLowest K) ∧ Binds K fd ["_law_up", "_law_down"] [] := by
  obtain ⟨fd, F⟩ := W.F_lowest
  refine ⟨fd, F.ok scLowest (fun vs H Q E h => ?_) (fun cdv A outer s H vs Q E hr h => ?_), FunD.bindsN F fun _ _ _ _ _ _ us hl => match us, hl with | [_, _], _ => rfl⟩
  · obtain ⟨a, b, rfl, _⟩ := h
    rfl
  · obtain ⟨a, b, rfl, hb, hbb, q⟩ := h
    refine ⟨_, PSs.nox (pss_cons (ps_par (i := 2) (j := 3) rfl scLowest.nd rfl rfl (by decide) rfl rfl (pa_cons (pe_callB call_abs (by rfl) W.f_abs (by decide +kernel) (pa_cons (pe_callTy call_intI (by rfl) W.f_int (by decide +kernel) (pa_cons (pv 0) pa_nil)) pa_nil)) (pa_cons (pe_callB call_abs (by rfl) W.f_abs (by decide +kernel) (pa_cons (pe_callTy call_intI (by rfl) W.f_int (by decide +kernel) (pa_cons (pv 1) pa_nil)) pa_nil)) pa_nil)) rfl)
      (pss_cons (ps_while PassesOwn.never (pt_cmpR op_gt (pv 2) pe_int (nomark _))
        (pss_one (ps_par (i := 2) (j := 3) rfl scLowest.nd rfl rfl (by decide) rfl rfl (pa_cons (pe_op op_mod (pe_callTy call_intI (by rfl) W.f_int (by decide +kernel) (pa_cons (pv 3) pa_nil)) (pv 2)) (pa_cons (pv 2) pa_nil)) rfl)))
      (pss_cons (ps_set (i := 4) scLowest.nd rfl (Or.inl rfl) (pe_ifExp (pt_cmpR op_gt (pv 1) pe_int (nomark _)) (pv 3) (pe_un un_neg (pv 3))))
      (pss_one (ps_ret (pe_tup (pa_cons (pe_op op_fdivX (pv 0) (pv 4)) (pa_cons (pe_op op_fdivX (pv 1) (pv 4)) pa_nil)))))))), ?_⟩
    simp -dsimp [tSeq, tAsg, tRet, tIfS, tIf, tTest, tVar, tCons, tNil, tC, tOp, tUn, rI, rI0, rU, tCB, tLst_A, tTup_A, gName, L2.start, CMul, CPow, CDiv, tDrop, tBM, tBM0, tNext, tPar, gSub, rSetL, rIxL, rIxT, tChain, tB, tNot, tNotV, tAnd, tOr, tAndV, tOrV, tFld, tCall, rIxLH, rIxTH, atI, ixN, upd_same, cxK, ex2, ex3, ex3b]
    refine while_by (fun σ H' => H' = H ∧ ∃ x y : Int, σ = [some (.int a), some (.int b), some (.int x), some (.int y), none] ∧ 0 ≤ x ∧ 0 ≤ y ∧ Int.gcd x y = Int.gcd a b) (fun σ _ => intAt 2 σ) ⟨rfl, _, _, rfl, ?_, ?_, ?_⟩ ?_ ?_
    · split <;> omega
    · split <;> omega
    · split <;> split <;> simp -dsimp [tSeq, tAsg, tRet, tIfS, tIf, tTest, tVar, tCons, tNil, tC, tOp, tUn, rI, rI0, rU, tCB, tLst_A, tTup_A, gName, L2.start, CMul, CPow, CDiv, tDrop, tBM, tBM0, tNext, tPar, gSub, rSetL, rIxL, rIxT, tChain, tB, tNot, tNotV, tAnd, tOr, tAndV, tOrV, tFld, tCall, rIxLH, rIxTH, atI, ixN, upd_same, cxK, ex2, ex3, ex3b]
    · rintro σ H1 ⟨rfl, x, y, rfl, hx, hy, g⟩
      by_cases hp : 0 < x
      · simp -dsimp [tSeq, tAsg, tRet, tIfS, tIf, tTest, tVar, tCons, tNil, tC, tOp, tUn, rI, rI0, rU, tCB, tLst_A, tTup_A, gName, L2.start, CMul, CPow, CDiv, tDrop, tBM, tBM0, tNext, tPar, gSub, rSetL, rIxL, rIxT, tChain, tB, tNot, tNotV, tAnd, tOr, tAndV, tOrV, tFld, tCall, rIxLH, rIxTH, atI, ixN, upd_same, cxK, ex2, ex3, ex3b, hp]
        refine ⟨⟨Int.emod_nonneg _ (by omega), hx, ?_⟩, ?_⟩
        · rw [Int.emod_def, Int.gcd_sub_mul_left_left, Int.gcd_comm, g]
        · have := Int.emod_lt_of_pos y hp
          have := Int.emod_nonneg y (show x ≠ 0 by omega)
          simp -dsimp [tSeq, tAsg, tRet, tIfS, tIf, tTest, tVar, tCons, tNil, tC, tOp, tUn, rI, rI0, rU, tCB, tLst_A, tTup_A, gName, L2.start, CMul, CPow, CDiv, tDrop, tBM, tBM0, tNext, tPar, gSub, rSetL, rIxL, rIxT, tChain, tB, tNot, tNotV, tAnd, tOr, tAndV, tOrV, tFld, tCall, rIxLH, rIxTH, atI, ixN, upd_same, cxK, ex2, ex3, ex3b, intAt]
          omega
      · have x0 : x = 0 := by omega
        subst x0
        have gy : y = (Int.gcd a b : Int) := by
          rw [← g, Int.zero_gcd]
          omega
        have hg0 : 0 < Int.gcd a b := Int.gcd_pos_of_ne_zero_right a hb
        have hgb : (Int.gcd a b) < big9 := Nat.lt_of_le_of_lt (Int.gcd_le_natAbs_right a hb) hbb
        subst gy
        by_cases hb0 : 0 < b
        · have e2 : side a b = (Int.gcd a b : Int) := if_pos hb0
          rw [e2] at q
          simp -dsimp [tSeq, tAsg, tRet, tIfS, tIf, tTest, tVar, tCons, tNil, tC, tOp, tUn, rI, rI0, rU, tCB, tLst_A, tTup_A, gName, L2.start, CMul, CPow, CDiv, tDrop, tBM, tBM0, tNext, tPar, gSub, rSetL, rIxL, rIxT, tChain, tB, tNot, tNotV, tAnd, tOr, tAndV, tOrV, tFld, tCall, rIxLH, rIxTH, atI, ixN, upd_same, cxK, ex2, ex3, ex3b, hb0]
          exact ⟨⟨by omega, by omega⟩, le2, q⟩
        · have e2 : side a b = -(Int.gcd a b : Int) := if_neg hb0
          rw [e2] at q
          simp -dsimp [tSeq, tAsg, tRet, tIfS, tIf, tTest, tVar, tCons, tNil, tC, tOp, tUn, rI, rI0, rU, tCB, tLst_A, tTup_A, gName, L2.start, CMul, CPow, CDiv, tDrop, tBM, tBM0, tNext, tPar, gSub, rSetL, rIxL, rIxT, tChain, tB, tNot, tNotV, tAnd, tOr, tAndV, tOrV, tFld, tCall, rIxLH, rIxTH, atI, ixN, upd_same, cxK, ex2, ex3, ex3b, hb0]
          exact ⟨⟨by omega, by omega⟩, le2, q⟩
    · rintro σ H' Q Q' h ⟨v, e, i, j, e1, e2, k, e3, q⟩
      exact ⟨v, e, i, j, e1, e2, k, e3, h _ _ q⟩
end
section
variable {P : Program} {w : World} {K : PySem.W.Frag} {mg : Str → Option Value} {base : Heap}
theorem scDivisor : FnScope ["one", "other"] ["one", "other"] d_divisor.scope := ⟨rfl, rfl, rfl, by decide +kernel, rfl, by decide +kernel, by decide +kernel⟩
def spDivisor (K : PySem.W.Frag) : Sp := fun vs H Q _ => ∃ (a b : Int), vs = [.int a, .int b] ∧ Q (.int (Int.gcd a b : Int)) H
theorem fmod_lt (x y : Int) (h : y ≠ 0) : (x.fmod y).natAbs < y.natAbs := by
  rcases Int.lt_or_gt_of_ne h with h1 | h1
  · have e := (Int.fdiv_fmod_unique' (a := x) (b := y) (r := x.fmod y) (q := x.fdiv y) h1).mp ⟨rfl, rfl⟩
    omega
  · have e := (Int.fdiv_fmod_unique (a := x) (b := y) (r := x.fmod y) (q := x.fdiv y) h1).mp ⟨rfl, rfl⟩
    omega
theorem ok_divisor (W : Wd K mg) : ∃ fd, FnOk P w K mg base CX0 1 (He.ga K "divisor") fd ["one", "other"] (spDivisor K) ∧ Binds K fd ["one", "other"] [] := by
  obtain ⟨fd, F⟩ := W.F_divisor
  refine ⟨fd, F.ok scDivisor (fun vs H Q E h => ?_) (fun cdv A outer s H vs Q E hr h => ?_), FunD.bindsN F fun _ _ _ _ _ _ us hl => match us, hl with | [_, _], _ => rfl⟩
  · obtain ⟨a, b, rfl, _⟩ := h
    rfl
  · obtain ⟨a, b, rfl, q⟩ := h
    refine ⟨_, PSs.nox (pss_cons (ps_while PassesOwn.never (pt_cmpR op_ne (pv 1) pe_int (nomark _))
        (pss_one (ps_par (i := 0) (j := 1) rfl scDivisor.nd rfl rfl (by decide) rfl rfl (pa_cons (pv 1) (pa_cons (pe_op op_modN (pv 0) (pv 1)) pa_nil)) rfl)))
      (pss_one (ps_ret (pe_callB call_abs (by rfl) W.f_abs (by decide +kernel) (pa_cons (pv 0) pa_nil))))), ?_⟩
    simp -dsimp [tSeq, tAsg, tRet, tIfS, tIf, tTest, tVar, tCons, tNil, tC, tOp, tUn, rI, rI0, rU, tCB, tLst_A, tTup_A, gName, L2.start, CMul, CPow, CDiv, tDrop, tBM, tBM0, tNext, tPar, gSub, rSetL, rIxL, rIxT, tChain, tB, tNot, tNotV, tAnd, tOr, tAndV, tOrV, tFld, tCall, rIxLH, rIxTH, atI, ixN, upd_same, cxK, ex2, ex3, ex3b]
    refine while_by (fun σ H' => H' = H ∧ ∃ x y : Int, σ = [some (.int x), some (.int y)] ∧ Int.gcd x y = Int.gcd a b) (fun σ _ => intAt 1 σ) ⟨rfl, _, _, rfl, rfl⟩ ?_ ?_
    · rintro σ H1 ⟨rfl, x, y, rfl, g⟩
      by_cases hp : y = 0
      · subst hp
        simp -dsimp [tSeq, tAsg, tRet, tIfS, tIf, tTest, tVar, tCons, tNil, tC, tOp, tUn, rI, rI0, rU, tCB, tLst_A, tTup_A, gName, L2.start, CMul, CPow, CDiv, tDrop, tBM, tBM0, tNext, tPar, gSub, rSetL, rIxL, rIxT, tChain, tB, tNot, tNotV, tAnd, tOr, tAndV, tOrV, tFld, tCall, rIxLH, rIxTH, atI, ixN, upd_same, cxK, ex2, ex3, ex3b, rNe, scal]
        rw [Int.gcd_zero] at g
        have : (if x < 0 then -x else x) = (Int.gcd a b : Int) := by
          rw [← g]
          split <;> omega
        rw [this]
        exact q
      · simp -dsimp [tSeq, tAsg, tRet, tIfS, tIf, tTest, tVar, tCons, tNil, tC, tOp, tUn, rI, rI0, rU, tCB, tLst_A, tTup_A, gName, L2.start, CMul, CPow, CDiv, tDrop, tBM, tBM0, tNext, tPar, gSub, rSetL, rIxL, rIxT, tChain, tB, tNot, tNotV, tAnd, tOr, tAndV, tOrV, tFld, tCall, rIxLH, rIxTH, atI, ixN, upd_same, cxK, ex2, ex3, ex3b, rNe, scal, hp]
        refine ⟨?_, ?_⟩
        · rw [Int.fmod_def, Int.gcd_comm, Int.gcd_sub_mul_left_left, g]
        · simp -dsimp [tSeq, tAsg, tRet, tIfS, tIf, tTest, tVar, tCons, tNil, tC, tOp, tUn, rI, rI0, rU, tCB, tLst_A, tTup_A, gName, L2.start, CMul, CPow, CDiv, tDrop, tBM, tBM0, tNext, tPar, gSub, rSetL, rIxL, rIxT, tChain, tB, tNot, tNotV, tAnd, tOr, tAndV, tOrV, tFld, tCall, rIxLH, rIxTH, atI, ixN, upd_same, cxK, ex2, ex3, ex3b, intAt]
          exact fmod_lt x y hp
    · rintro σ H' Q Q' h ⟨v, e, e1, k, e3, q⟩
      exact ⟨v, e, e1, k, e3, h _ _ q⟩
/-- a share: its class, its own dict, its numbers -/
def shareO (C dx : Addr) (t b : Int) : HO := .ins C dx [("top", .int t), ("bottom", .int b)]
theorem scInit : FnScope ["self", "top", "bottom", "common"] ["self", "top", "bottom"] d_Share_init.scope := ⟨rfl, rfl, rfl, by decide +kernel, rfl, by decide +kernel, by decide +kernel⟩
def spInit (K : PySem.W.Frag) : Sp := fun vs H Q _ => ∃ (x dx : Addr) (a b : Int), vs = [.ref x, .int a, .int b] ∧ H x = some (.ins (He.ga K "Share") dx []) ∧ b ≠ 0 ∧ b.natAbs < big9 ∧ Q .non (upd H x (shareO (He.ga K "Share") dx (a.fdiv (side a b)) (b.fdiv (side a b))))
theorem ok_init (W : Wd K mg) : ∃ fd, FnOk P w K mg base CX0 2 (He.ma K (He.ga K "Share") "__init__") fd ["self", "top", "bottom"] (spInit K) ∧ FunD K d_Share_init.name d_Share_init.qual d_Share_init.params d_Share_init.body d_Share_init.scope (d_Share_init.dvs K) (d_Share_init.kws K) (He.fAd K d_Share_init.at_) fd := by
  obtain ⟨fd, F⟩ := W.F_Share_init
  obtain ⟨fdD, G, bG⟩ := ok_divisor (P := P) (w := w) (base := base) W
  have kD : PySem.W.keepIn K (.ref (He.ga K "divisor")) = true := by
    obtain ⟨fd, F⟩ := W.F_divisor
    exact F.kp
  refine ⟨fd, F.ok scInit (fun vs H Q E h => ?_) (fun cdv A outer s H vs Q E hr h => ?_), F⟩
  · obtain ⟨x, dx, a, b, rfl, _⟩ := h
    rfl
  · obtain ⟨x, dx, a, b, rfl, hx, hb, hbb, q⟩ := h
    refine ⟨_, PSs.nox (pss_cons (ps_if (pt_cmpR op_eq (pv 2) pe_int (nomark _)) pss_never pss_nil)
      (pss_cons (ps_set (i := 3) scInit.nd rfl (Or.inl rfl) pe_int)
      (pss_cons (ps_if (pt_cmpR op_ne (pv 2) pe_int (nomark _)) (pss_one (ps_set (i := 3) scInit.nd rfl (Or.inl rfl) (pe_ifExp (pt_cmpR op_gt (pv 2) pe_int (nomark _)) (pe_call G hr rfl W.g_divisor kD bG .nil pass0 (pa_cons (pv 1) (pa_cons (pv 2) pa_nil))) (pe_un un_neg (pe_call G hr rfl W.g_divisor kD bG .nil pass0 (pa_cons (pv 1) (pa_cons (pv 2) pa_nil))))))) pss_nil)
      (pss_cons (ps_fld (pv 0) (pe_op op_fdivX (pv 1) (pv 3)) rfl)
      (pss_one (ps_fld (pv 0) (pe_op op_fdivX (pv 2) (pv 3)) rfl)))))), ?_⟩
    have hg0 : 0 < Int.gcd a b := Int.gcd_pos_of_ne_zero_right a hb
    have hgb : (Int.gcd a b) < big9 := Nat.lt_of_le_of_lt (Int.gcd_le_natAbs_right a hb) hbb
    have n1 : ¬ (Int.gcd a b : Int) = 0 := by omega
    have n3 : ¬ Int.gcd a b = 0 := by omega
    have pf : ∀ (u v : V), putF "bottom" v (putF "top" u []) = [(("top" : Str), u), (("bottom" : Str), v)] := fun u v => by
      show (if ("top" : Str) = "bottom" then [(("top" : Str), v)] else (("top" : Str), u) :: putF "bottom" v []) = _
      rw [if_neg (by decide +kernel)]
      rfl
    have pl : ∀ u : V, (putF "top" u []).length < 1000 := fun u => by
      show 1 < 1000
      decide
    by_cases hb1 : b = 1
    · subst hb1
      have e2 : side a 1 = 1 := by
        show (if (1 : Int) > 0 then (Int.gcd a 1 : Int) else -(Int.gcd a 1 : Int)) = 1
        rw [if_pos (by decide), Int.gcd_one]
        rfl
      rw [e2] at q
      simp -dsimp [tSeq, tAsg, tRet, tIfS, tIf, tTest, tVar, tCons, tNil, tC, tOp, tUn, rI, rI0, rU, tCB, tLst_A, tTup_A, gName, L2.start, CMul, CPow, CDiv, tDrop, tBM, tBM0, tNext, tPar, gSub, rSetL, rIxL, rIxT, tChain, tB, tNot, tNotV, tAnd, tOr, tAndV, tOrV, tFld, tCall, rIxLH, rIxTH, atI, ixN, upd_same, cxK, ex2, ex3, ex3b, rEq, rNe, scal, hx, sFld, W.cls_Share, W.n_Share_top, W.n_Share_bottom, upd_upd, pf, pl]
      rw [Int.fdiv_one, Int.fdiv_one] at q
      exact ⟨hbb, q⟩
    · by_cases hb0 : b < 0
      · have e2 : side a b = -(Int.gcd a b : Int) := if_neg (by omega)
        have hb2 : ¬ 0 < b := by omega
        rw [e2] at q
        simp -dsimp [tSeq, tAsg, tRet, tIfS, tIf, tTest, tVar, tCons, tNil, tC, tOp, tUn, rI, rI0, rU, tCB, tLst_A, tTup_A, gName, L2.start, CMul, CPow, CDiv, tDrop, tBM, tBM0, tNext, tPar, gSub, rSetL, rIxL, rIxT, tChain, tB, tNot, tNotV, tAnd, tOr, tAndV, tOrV, tFld, tCall, rIxLH, rIxTH, atI, ixN, upd_same, cxK, ex2, ex3, ex3b, rEq, rNe, scal, hb, hb1, hb2, hx]
        refine ⟨a, b, rfl, ?_⟩
        simp -dsimp [tSeq, tAsg, tRet, tIfS, tIf, tTest, tVar, tCons, tNil, tC, tOp, tUn, rI, rI0, rU, tCB, tLst_A, tTup_A, gName, L2.start, CMul, CPow, CDiv, tDrop, tBM, tBM0, tNext, tPar, gSub, rSetL, rIxL, rIxT, tChain, tB, tNot, tNotV, tAnd, tOr, tAndV, tOrV, tFld, tCall, rIxLH, rIxTH, atI, ixN, upd_same, cxK, ex2, ex3, ex3b, sFld, hx, W.cls_Share, W.n_Share_top, W.n_Share_bottom, upd_upd, n1, n3, hgb, pf, pl]
        exact q
      · have e2 : side a b = (Int.gcd a b : Int) := if_pos (by omega)
        have hb2 : 0 < b := by omega
        rw [e2] at q
        simp -dsimp [tSeq, tAsg, tRet, tIfS, tIf, tTest, tVar, tCons, tNil, tC, tOp, tUn, rI, rI0, rU, tCB, tLst_A, tTup_A, gName, L2.start, CMul, CPow, CDiv, tDrop, tBM, tBM0, tNext, tPar, gSub, rSetL, rIxL, rIxT, tChain, tB, tNot, tNotV, tAnd, tOr, tAndV, tOrV, tFld, tCall, rIxLH, rIxTH, atI, ixN, upd_same, cxK, ex2, ex3, ex3b, rEq, rNe, scal, hb, hb1, hb2, hx]
        refine ⟨a, b, rfl, ?_⟩
        simp -dsimp [tSeq, tAsg, tRet, tIfS, tIf, tTest, tVar, tCons, tNil, tC, tOp, tUn, rI, rI0, rU, tCB, tLst_A, tTup_A, gName, L2.start, CMul, CPow, CDiv, tDrop, tBM, tBM0, tNext, tPar, gSub, rSetL, rIxL, rIxT, tChain, tB, tNot, tNotV, tAnd, tOr, tAndV, tOrV, tFld, tCall, rIxLH, rIxTH, atI, ixN, upd_same, cxK, ex2, ex3, ex3b, sFld, hx, W.cls_Share, W.n_Share_top, W.n_Share_bottom, upd_upd, n1, n3, hgb, pf, pl]
        exact q
end
/-! ### isinstance by kinds -/
def tyN (H : Hp) : V → Option String
  | .non => some "NoneType"
  | .bl _ => some "bool"
  | .int _ => some "int"
  | .str _ => some "str"
  | .ref a => (match H a with
    | some (.lst _) => some "list"
    | some (.tup _) => some "tuple"
    | some (.dK _) => some "dict"
    | _ => none)
  | _ => none
theorem tyN_ok {K : PySem.W.Frag} {H : Hp} {x : V} {t : String} (h : tyN H x = some t) : TyOf K H x (.type t) := by
  unfold tyN at h
  split at h
  · cases h; exact .non
  · cases h; exact .bl _
  · cases h; exact .int _
  · cases h; exact .str _
  · split at h
    · rename_i e
      cases h; exact .lst e
    · rename_i e
      cases h; exact .tup e
    · rename_i e
      cases h; exact .dK e
    · cases h
  · cases h
def rIs1 : List V → Hp → VK → Prop := fun xs H Q => ∃ (x : V) (T t : String) (b : Bool), xs = [x, .ty T] ∧ tyN H x = some t ∧ kitB t T = some b ∧ Q (.bl b) H
def rIs2 : List V → Hp → VK → Prop := fun xs H Q => ∃ (x : V) (tp : Addr) (T1 T2 t : String) (b1 b2 : Bool), xs = [x, .ref tp] ∧ H tp = some (.tup [.ty T1, .ty T2]) ∧ tyN H x = some t ∧ kitB t T1 = some b1 ∧ kitB t T2 = some b2 ∧ Q (.bl (b1 || b2)) H
section
variable {X : Cx}
theorem isi_1 : CallR X (.builtin "isinstance") rIs1 := by
  intro pins s σ H xs us Q I r h
  obtain ⟨x, T, t, b, e, ty, k, q⟩ := h
  exact call_isi pins s σ H xs us Q I r ⟨x, .ty T, .type t, .type T, b, e, .ty T, .base (tyN_ok ty), kit_ty k, q⟩
theorem isi_2 : CallR X (.builtin "isinstance") rIs2 := by
  intro pins s σ H xs us Q I r h
  obtain ⟨x, tp, T1, T2, t, b1, b2, e, hT, ty, k1, k2, q⟩ := h
  refine call_isiT pins s σ H xs us Q I r ⟨x, tp, _, .type t, [.type T1, .type T2], b1 || b2, e, hT, .cons (.ty T1) (.cons (.ty T2) .nil), .base (tyN_ok ty), ?_, q⟩
  refine kitAny_cons (kit_ty k1) (fun f => ?_) (fun f => by rw [f]; rfl)
  rw [f]
  refine kitAny_cons (kit_ty k2) (fun f => ?_) (fun f => by rw [f]; rfl)
  rw [f]
  exact kitAny_nil
/-- two lists of two truths -/
def rNe2 : R2 := fun x y H Q => ∃ (p q : Addr) (a b c d : Bool), x = .ref p ∧ y = .ref q ∧ H p = some (.lst [.bl a, .bl b]) ∧ H q = some (.lst [.bl c, .bl d]) ∧ Q (.bl (!(a == c && b == d))) H
theorem op_ne2 (hu : X.A.units + 64 < cLine) : OpR X (compareOp .NotEq) rNe2 := by
  intro pins s σ H x y v u Q I rx ry h
  obtain ⟨p, q, a, b, c, d, e1, e2, hp, hq, k⟩ := h
  refine op_neD hu pins s σ H x y v u Q I rx ry ⟨.list [.bool a, .bool b], .list [.bool c, .bool d], ?_, ?_, ?_, ?_, ?_⟩
  · rw [e1]
    exact .lst (SqL.of hp) (.cons (.bl _) (.cons (.bl _) .nil))
  · rw [e2]
    exact .lst (SqL.of hq) (.cons (.bl _) (.cons (.bl _) .nil))
  · cases a <;> cases b <;> decide +kernel
  · cases c <;> cases d <;> decide +kernel
  · have e : PyData.eqv (.list [.bool a, .bool b]) (.list [.bool c, .bool d]) = (a == c && b == d) := by
      show ((a == c) && ((b == d) && true)) = _
      rw [Bool.and_true]
    rw [e]
    exact k
theorem len_tupH : CallR X (.builtin "len") (fun xs H Q => ∃ p ys, xs = [.ref p] ∧ H p = some (.tup ys) ∧ Q (.int ys.length) H) := by
  intro pins s σ H xs us Q I r h
  obtain ⟨p, ys, e, hp, q⟩ := h
  exact call_len_seq pins s σ H xs us Q I r ⟨p, ys, e, .inr (SqT.of hp), q⟩
theorem len_lstH : CallR X (.builtin "len") (fun xs H Q => ∃ p ys, xs = [.ref p] ∧ H p = some (.lst ys) ∧ Q (.int ys.length) H) := by
  intro pins s σ H xs us Q I r h
  obtain ⟨p, ys, e, hp, q⟩ := h
  exact call_len_seq pins s σ H xs us Q I r ⟨p, ys, e, .inl (SqL.of hp), q⟩
end
theorem kb1 : kitB "int" "list" = some false := by decide +kernel
theorem kb2 : kitB "int" "tuple" = some false := by decide +kernel
theorem kb3 : kitB "int" "bool" = some false := by decide +kernel
theorem kb4 : kitB "int" "int" = some true := by decide +kernel
theorem kb5 : kitB "tuple" "list" = some false := by decide +kernel
theorem kb6 : kitB "tuple" "tuple" = some true := by decide +kernel
theorem walk_zipT {K : PySem.W.Frag} {a b : Addr} {xs ys : List V} {n : Nat} (hx : xs.length = n) (hy : ys.length = n) : Walk (RZ.ItzT K a b) n (fun H => SqT K H a xs ∧ SqT K H b ys) (YPair (fun i => xs[i]?) (fun i => ys[i]?)) where
  goes := fun i H hi h => ⟨xs, ys, xs[i], ys[i], h.1, h.2, List.getElem?_eq_getElem (by omega), List.getElem?_eq_getElem (by omega)⟩
  stops := fun H h => ⟨xs, ys, h.1, h.2, .inl (by omega)⟩
  yields := fun i H x H' hi h y => by
    obtain ⟨T, x', y', e1, e2, e3, f1, f2⟩ := y
    exact ⟨T, x', y', e1, e2, e3, f1 xs h.1, f2 ys h.2⟩
section
variable {P : Program} {w : World} {K : PySem.W.Frag} {mg : Str → Option Value} {base : Heap}
theorem scSame : FnScope ["_law_found", "_law_due_here", "_law_kinds", "_law_left", "_law_right"] ["_law_found", "_law_due_here"] d_same.scope := ⟨rfl, rfl, rfl, by decide +kernel, rfl, by decide +kernel, by decide +kernel⟩
def spSameI (K : PySem.W.Frag) : Sp := fun vs H Q _ => ∃ (i : Int), vs = [.int i, .int i] ∧ ∀ H', Same H H' → Q (.bl true) H'
theorem ok_sameI (W : Wd K mg) : ∃ fd, FnOk P w K mg base CX0 1 (He.ga K "_law_same") fd ["_law_found", "_law_due_here"] (spSameI K) ∧ Binds K fd ["_law_found", "_law_due_here"] [] := by
  obtain ⟨fd, F⟩ := W.F_same
  refine ⟨fd, F.ok scSame (fun vs H Q E h => ?_) (fun cdv A outer s H vs Q E hr h => ?_), FunD.bindsN F fun _ _ _ _ _ _ us hl => match us, hl with | [_, _], _ => rfl⟩
  · obtain ⟨i, rfl, _⟩ := h
    rfl
  · obtain ⟨i, rfl, q⟩ := h
    refine ⟨_, PSs.nox (pss_cons (ps_set (i := 2) scSame.nd rfl (Or.inl rfl) (pe_lst (pa_cons (pe_callB isi_1 (by rfl) W.f_isinstance boot_isinstance (pa_cons (pv 0) (pa_cons (pe_bltn (v := .ty "list") (by rfl) W.f_list (by decide +kernel) rfl) pa_nil))) (pa_cons (pe_callB isi_1 (by rfl) W.f_isinstance boot_isinstance (pa_cons (pv 0) (pa_cons (pe_bltn (v := .ty "tuple") (by rfl) W.f_tuple (by decide +kernel) rfl) pa_nil))) pa_nil))))
      (pss_cons (ps_if (pt_val (pe_callB isi_2 (by rfl) W.f_isinstance boot_isinstance (pa_cons (pv 1) (pa_cons (pe_tup (pa_cons (pe_bltn (v := .ty "list") (by rfl) W.f_list (by decide +kernel) rfl) (pa_cons (pe_bltn (v := .ty "tuple") (by rfl) W.f_tuple (by decide +kernel) rfl) pa_nil))) pa_nil)))) pss_never pss_nil)
      (pss_cons (ps_if (pt_val (pe_callB isi_2 (by rfl) W.f_isinstance boot_isinstance (pa_cons (pv 1) (pa_cons (pe_tup (pa_cons (pe_bltn (v := .ty "bool") (by rfl) W.f_bool (by decide +kernel) rfl) (pa_cons (pe_bltn (v := .ty "int") (by rfl) W.f_int (by decide +kernel) rfl) pa_nil))) pa_nil))))
        (pss_one (ps_ret (pe_and (pe_callB isi_1 (by rfl) W.f_isinstance boot_isinstance (pa_cons (pv 0) (pa_cons (pe_bltn (v := .ty "int") (by rfl) W.f_int (by decide +kernel) rfl) pa_nil)))
          (pe_and (pe_cmpR op_eq (pe_callB isi_1 (by rfl) W.f_isinstance boot_isinstance (pa_cons (pv 0) (pa_cons (pe_bltn (v := .ty "bool") (by rfl) W.f_bool (by decide +kernel) rfl) pa_nil))) (pe_callB isi_1 (by rfl) W.f_isinstance boot_isinstance (pa_cons (pv 1) (pa_cons (pe_bltn (v := .ty "bool") (by rfl) W.f_bool (by decide +kernel) rfl) pa_nil))) (nomark _))
          (pe_one (pe_cmpR op_eq (pv 0) (pv 1) (nomark _))))))) pss_nil)
      pss_never))), ?_⟩
    simp -dsimp [tSeq, tAsg, tRet, tIfS, tIf, tTest, tVar, tCons, tNil, tC, tOp, tUn, rI, rI0, rU, tCB, tLst_A, tTup_A, gName, L2.start, CMul, CPow, CDiv, tDrop, tBM, tBM0, tNext, tPar, gSub, rSetL, rIxL, rIxT, tChain, tB, tNot, tNotV, tAnd, tOr, tAndV, tOrV, tFld, tCall, rIxLH, rIxTH, atI, ixN, upd_same, cxK, ex2, ex3, ex3b, rIs1, rIs2, rNe2, tyN, kb1, kb2, kb3, kb4, kb5, kb6, rEq, rNe, scal]
    refine ⟨le2, Alloc.of fun p1 H1 n1 e1 s1 => ?_⟩
    try simp -dsimp [tSeq, tAsg, tRet, tIfS, tIf, tTest, tVar, tCons, tNil, tC, tOp, tUn, rI, rI0, rU, tCB, tLst_A, tTup_A, gName, L2.start, CMul, CPow, CDiv, tDrop, tBM, tBM0, tNext, tPar, gSub, rSetL, rIxL, rIxT, tChain, tB, tNot, tNotV, tAnd, tOr, tAndV, tOrV, tFld, tCall, rIxLH, rIxTH, atI, ixN, upd_same, cxK, ex2, ex3, ex3b, rIs1, rIs2, rNe2, tyN, kb1, kb2, kb3, kb4, kb5, kb6, rEq, rNe, scal]
    refine ⟨le2, Alloc.of fun p2 H2 n2 e2 s2 => ?_⟩
    simp -dsimp [tSeq, tAsg, tRet, tIfS, tIf, tTest, tVar, tCons, tNil, tC, tOp, tUn, rI, rI0, rU, tCB, tLst_A, tTup_A, gName, L2.start, CMul, CPow, CDiv, tDrop, tBM, tBM0, tNext, tPar, gSub, rSetL, rIxL, rIxT, tChain, tB, tNot, tNotV, tAnd, tOr, tAndV, tOrV, tFld, tCall, rIxLH, rIxTH, atI, ixN, upd_same, cxK, ex2, ex3, ex3b, rIs1, rIs2, rNe2, tyN, kb1, kb2, kb3, kb4, kb5, kb6, rEq, rNe, scal, e2]
    refine ⟨le2, Alloc.of fun p3 H3 n3 e3 s3 => ?_⟩
    simp -dsimp [tSeq, tAsg, tRet, tIfS, tIf, tTest, tVar, tCons, tNil, tC, tOp, tUn, rI, rI0, rU, tCB, tLst_A, tTup_A, gName, L2.start, CMul, CPow, CDiv, tDrop, tBM, tBM0, tNext, tPar, gSub, rSetL, rIxL, rIxT, tChain, tB, tNot, tNotV, tAnd, tOr, tAndV, tOrV, tFld, tCall, rIxLH, rIxTH, atI, ixN, upd_same, cxK, ex2, ex3, ex3b, rIs1, rIs2, rNe2, tyN, kb1, kb2, kb3, kb4, kb5, kb6, rEq, rNe, scal, e3]
    exact q _ ((s1.trans s2).trans s3)
end
/-! ### shares made and told -/
def IsSh (K : PySem.W.Frag) (H : Hp) (x : Addr) (a b : Int) : Prop := ∃ dx, H x = some (shareO (He.ga K "Share") dx a b)
/-- a new share -/
def AllocS (K : PySem.W.Frag) (H : Hp) (a b : Int) (Q : V → Hp → Prop) (_ : Lk Q := ⟨⟩) : Prop := ∀ x H', H x = none → IsSh K H' x a b → Same H H' → Q (.ref x) H'
theorem IsSh.same {K : PySem.W.Frag} {H H' : Hp} {x : Addr} {a b : Int} (h : IsSh K H x a b) (s : Same H H') : IsSh K H' x a b := by
  obtain ⟨dx, e⟩ := h
  exact ⟨dx, s _ _ e⟩
theorem mk_ok {K : PySem.W.Frag} {H : Hp} {vs : List V} {a b : Int} {Q : V → Hp → Prop} {E : XK} (e : vs = [.int a, .int b]) (hb : b ≠ 0) (hbb : b.natAbs < big9) (h : AllocS K H (a.fdiv (side a b)) (b.fdiv (side a b)) Q) :
    ∀ x dx, H x = none → H dx = none → dx ≠ x → spInit K (.ref x :: vs) (upd (upd H dx (.own x)) x (.ins (He.ga K "Share") dx [])) (fun v H2 => v = .non ∧ Q (.ref x) H2) E := by
  intro x dx nx nd ne
  refine ⟨x, dx, a, b, by rw [e], upd_same, hb, hbb, rfl, h x _ nx ⟨dx, upd_same⟩ ?_⟩
  intro c o ec
  rw [upd_ne (ne_of_none ec nx), upd_ne (ne_of_none ec nx), upd_ne (ne_of_none ec nd)]
  exact ec
def rStrOwn (C : Addr) (sp : Sp) (E : XK) : List V → Hp → VK → Prop := fun xs H Q => ∃ (a dx : Addr) (fs : List (Str × V)), xs = [.ref a] ∧ H a = some (.ins C dx fs) ∧ sp [.ref a] H (fun z H' => ∃ y, z = .str y ∧ Q z H') E
section
variable {X : Cx} {CX : CXT} {n : Nat} {sp : Sp} {E : XK} {C g : Addr}
theorem call_strOwn (hs : PySem.W.findIn X.K (.ref C) "__str__" = some (some (.ref g))) (hf : PySem.W.isFn X.K (.ref g) = true) (F : FnR X.prog X.w X.K X.mg X.base CX n g sp) (hr : Room (n + 2) X.A) (hx : Passes CX X E) : CallR X (.type "str") (rStrOwn C sp E) := by
  intro pins s σ H xs us Q I r h
  obtain ⟨a, dx, fs, rfl, ha, q⟩ := h
  obtain ⟨u, rfl, ru⟩ := r.one
  cases (show u = Value.ref a from ru)
  obtain ⟨mA, O, _⟩ := ins_get I.hok ha
  obtain ⟨od, J, _⟩ := O.look
  have hr2 : Room n X.A.in1.in1 := (show Room (n + 1) X.A.in1 from Room.in1 hr).in1
  refine PySem.W.kso_call hr2.units0 I.kIn J hs hf (wpAny_mono (wpAny_call (SlX.run_at (us := [.ref a]) (ws := [.ref a]) F hr2 I.env0.in1.in1 hx I (.cons rfl .nil) q)) (fun w s' z => ?_) fun _ _ x => x)
  obtain ⟨z', H', I', rz, y, ey, qz⟩ := z
  subst ey
  obtain ⟨t, e⟩ := (show ∃ t, w = Value.str y t from rz)
  cases e
  exact ⟨.str y, H', I', ⟨t, rfl⟩, qz⟩
end
section
variable {K : PySem.W.Frag} {mg : Str → Option Value}
theorem Wd.isSh (W : Wd K mg) {H : Hp} {x : Addr} {a b : Int} (h : IsSh K H x a b) : TyOf K H (.ref x) (.ref (He.ga K "Share")) := by
  obtain ⟨dx, e⟩ := h
  exact .ins e W.cls_Share (He.eqO_ok (W.ex 0 rfl)) (He.eqO_ok (W.ex 1 rfl)) (of_decide_eq_true (W.ex 2 rfl)) (of_decide_eq_true (W.ex 3 rfl))
theorem Wd.kitS (W : Wd K mg) : PySem.W.kitOne K (.ref (He.ga K "Share")) (.ref (He.ga K "Share")) = some true := of_decide_eq_true (W.ex 4 rfl)
/-- isinstance(x, Share) of a share -/
def rIsS (K : PySem.W.Frag) : List V → Hp → VK → Prop := fun xs H Q => ∃ (x : Addr) (a b : Int), xs = [.ref x, .ref (He.ga K "Share")] ∧ IsSh K H x a b ∧ Q (.bl true) H
theorem isi_S {X : Cx} (W : Wd X.K X.mg) : CallR X (.builtin "isinstance") (rIsS X.K) := by
  intro pins s σ H xs us Q I r h
  obtain ⟨x, a, b, e, hx, q⟩ := h
  exact call_isi pins s σ H xs us Q I r ⟨.ref x, .ref (He.ga X.K "Share"), _, _, true, e, .own _, .base (W.isSh hx), W.kitS, q⟩
end
theorem vals_rev : ∀ {vs : List V} {us : List Value}, Vals vs us → Vals vs.reverse us.reverse
  | _, _, .nil => .nil
  | _, _, .cons r t => by
    rw [List.reverse_cons, List.reverse_cons]
    exact (vals_rev t).append (.cons r .nil)
section
variable {P : Program} {w : World} {K : PySem.W.Frag} {mg : Str → Option Value} {base : Heap} {fd : FuncData}
abbrev FInit (K : PySem.W.Frag) (fd : FuncData) : Prop := FunD K d_Share_init.name d_Share_init.qual d_Share_init.params d_Share_init.body d_Share_init.scope (d_Share_init.dvs K) (d_Share_init.kws K) (He.fAd K d_Share_init.at_) fd
abbrev psI : List Str := ["self", "top", "bottom"]
theorem bind3 (F : FInit K fd) : Binds K fd psI [] := by
  obtain ⟨ds, v, b⟩ := FunD.binds1 (ps := psI) F 3 1 (List.cons_ne_nil _ _) rfl fun T kV doc pm an cdv ct us its hu hi => match us, its, hu, hi with | [_, _, _], [_], _, _ => ⟨_, rfl, rfl⟩
  cases v
  exact b
theorem bind2 (F : FInit K fd) : ∃ ds, Vals [V.int 1] ds ∧ Binds K fd psI ds := by
  obtain ⟨ds, v, b⟩ := FunD.binds1 (ps := psI) F 2 0 (List.cons_ne_nil _ _) rfl fun T kV doc pm an cdv ct us its hu hi => match us, its, hu, hi with | [_, _], [_], _, _ => ⟨_, rfl, rfl⟩
  exact ⟨ds, v, b⟩
/-- Share(bottom = b, top = a) -/
theorem bindBT (F : FInit K fd) : KBn K fd psI 1 ["bottom", "top"] (fun us ws => us ++ ws.reverse) (fun vs zs => vs ++ zs.reverse) := by
  obtain ⟨oc, od, dV, kV, doc, pm, an, cdv, ct, osl, rfl, lk, hcd, hD, hK⟩ := F.ex
  rcases hD with ⟨e, _⟩ | ⟨_, T, o, its, m, rfl, lT, oT, rT⟩
  · exact absurd e (List.cons_ne_nil _ _)
  · refine ⟨fun s us ws X l1 l2 => ?_, fun {vs us zs ws} r1 r2 => ?_⟩
    · match us, ws, l1, l2 with
      | [u], [b, t], _, _ =>
        refine BindsTo.of_looks fun M => ?_
        obtain ⟨k, e1, e2⟩ : ∃ k, bindArgs (PySem.W.fnOf d_Share_init.name d_Share_init.qual d_Share_init.params d_Share_init.body d_Share_init.scope (.ref T) kV doc pm an cdv ct) ⟨[u], (["bottom", "top"] : List Str).zip [b, t]⟩ = seqItems? (.ref T) >>= k ∧ k (some its.toArray) = pure (psI.zip [u, t, b]) := by
          match its, rT with
          | [d], _ => exact ⟨_, rfl, rfl⟩
        rw [e1]
        exact looks_items X lT oT (.of_pure e2)
    · exact r1.append (vals_rev r2)
/-- Share(a, bottom = b) -/
theorem bindB (F : FInit K fd) : KBn K fd psI 2 ["bottom"] (fun us ws => us ++ ws) (fun vs zs => vs ++ zs) := by
  obtain ⟨oc, od, dV, kV, doc, pm, an, cdv, ct, osl, rfl, lk, hcd, hD, hK⟩ := F.ex
  rcases hD with ⟨e, _⟩ | ⟨_, T, o, its, m, rfl, lT, oT, rT⟩
  · exact absurd e (List.cons_ne_nil _ _)
  · refine ⟨fun s us ws X l1 l2 => ?_, fun {vs us zs ws} r1 r2 => r1.append r2⟩
    match us, ws, l1, l2 with
    | [u, t], [b], _, _ =>
      refine BindsTo.of_looks fun M => ?_
      obtain ⟨k, e1, e2⟩ : ∃ k, bindArgs (PySem.W.fnOf d_Share_init.name d_Share_init.qual d_Share_init.params d_Share_init.body d_Share_init.scope (.ref T) kV doc pm an cdv ct) ⟨[u, t], (["bottom"] : List Str).zip [b]⟩ = seqItems? (.ref T) >>= k ∧ k (some its.toArray) = pure (psI.zip [u, t, b]) := by
        match its, rT with
        | [d], _ => exact ⟨_, rfl, rfl⟩
      rw [e1]
      exact looks_items X lT oT (.of_pure e2)
theorem look_top (t b : V) : List.lookup ("top" : Str) [(("top" : Str), t), (("bottom" : Str), b)] = some t := rfl
theorem look_bot (t b : V) : List.lookup ("bottom" : Str) [(("top" : Str), t), (("bottom" : Str), b)] = some b := rfl
end
def numS (n : Int) : Str := Str.ofString (toString n)
theorem neg_text {n : Int} (h : n < 0) : Txt.join (Str.ofString "") [Str.ofString "-", numS (-n)] = numS n := by
  have e : (-n : Int) = 0 - n := by omega
  unfold numS
  rw [TL.join_eq, PyProof.Rows.toString_neg h, e]
  refine PyProof.Rows.ext_toList ?_
  show TL.tl (Str.ofString "-" ++ Str.ofString "" ++ Str.ofString (toString (0 - n))) = TL.tl (Str.ofString ("-" ++ toString (0 - n)))
  rw [TL.tl_append, TL.tl_append, TL.tl_ofString, TL.tl_ofString, TL.tl_ofString, TL.tl_ofString, String.toList_append, List.map_append]
  rfl
theorem call_strN {X : Cx} : CallR X (.type "str") (fun xs H Q => ∃ i, xs = [.int i] ∧ i.natAbs.log2 < 1920 ∧ Q (.str (numS i)) H) := call_str_int
theorem numS_len {n : Int} (h : n.natAbs < 10 ^ 60) : (numS n).length ≤ 1921 ∧ n.natAbs.log2 < 1920 := by
  have h1 : n.natAbs.log2 < 1920 := by
    have h2 : n.natAbs < 2 ^ 200 := Nat.lt_of_lt_of_le h (by decide)
    have h3 := PySem.Flt.log2_lt_of (by decide : 0 < 200) h2
    omega
  exact ⟨PyProof.Rows.int_text_len_1921 h1, h1⟩
theorem tyV_lst {K : PySem.W.Frag} {H : Hp} {p : Addr} {xs : List V} (h : H p = some (.lst xs)) : tyV K "list" (.ref p) H := .inl ⟨rfl, _, SqL.of h⟩
section
variable {P : Program} {w : World} {K : PySem.W.Frag} {mg : Str → Option Value} {base : Heap} {fd : FuncData}
theorem scDigits : FnScope ["number", "size", "blocks", "rest", "block"] ["number"] d_digits.scope := ⟨rfl, rfl, rfl, by decide +kernel, rfl, by decide +kernel, by decide +kernel⟩
def spDigits (K : PySem.W.Frag) : Sp := fun vs H Q _ => ∃ (n : Int), vs = [.int n] ∧ n.natAbs < 10 ^ 60 ∧ ∀ H', Same H H' → Q (.str (numS n)) H'
theorem ok_digits (W : Wd K mg) : ∃ fd, FnOk P w K mg base CX0 1 (He.ga K "digits") fd ["number"] (spDigits K) ∧ Binds K fd ["number"] [] := by
  obtain ⟨fd, F⟩ := W.F_digits
  refine ⟨fd, F.ok scDigits (fun vs H Q E h => ?_) (fun cdv A outer s H vs Q E hr h => ?_), FunD.bindsN F fun _ _ _ _ _ _ us hl => match us, hl with | [_], _ => rfl⟩
  · obtain ⟨n, rfl, _⟩ := h
    rfl
  · obtain ⟨n, rfl, hn, q⟩ := h
    refine ⟨_, PSs.nox (pss_cons (ps_set (i := 1) scDigits.nd rfl (Or.inl rfl) (pe_op op_pow pe_int pe_int))
      (pss_cons (ps_set (i := 2) scDigits.nd rfl (Or.inl rfl) (pe_lst pa_nil))
      (pss_cons (ps_set (i := 3) scDigits.nd rfl (Or.inl rfl) (pe_callB call_abs (by rfl) W.f_abs (by decide +kernel) (pa_cons (pv 0) pa_nil)))
      (pss_cons (ps_while PassesOwn.never (pt_cmpR op_ge (pv 3) (pv 1) (nomark _)) pss_never)
      (pss_cons (ps_expr (pe_bm PySem.F.plainAttrs_list PySem.F.slot_list_append PySem.F.type_list_append mt_append (pv 2) (pa_cons (pe_callTy call_strN (by rfl) W.f_str (by decide +kernel) (pa_cons (pv 3) pa_nil)) pa_nil)))
      (pss_cons (ps_if (pt_cmpR op_lt (pv 0) pe_int (nomark _)) (pss_one (ps_expr (pe_bm PySem.F.plainAttrs_list PySem.F.slot_list_append PySem.F.type_list_append mt_append (pv 2) (pa_cons pe_str pa_nil)))) pss_nil)
      (pss_one (ps_ret (pe_join pe_str (pe_revL (pv 2)))))))))))  , ?_⟩
    simp -dsimp [tSeq, tAsg, tRet, tIfS, tIf, tTest, tVar, tCons, tNil, tC, tOp, tUn, rI, rI0, rU, tCB, tLst_A, tTup_A, gName, L2.start, CMul, CPow, CDiv, tDrop, tBM, tBM0, tNext, tPar, gSub, rSetL, rIxL, rIxT, tChain, tB, tNot, tNotV, tAnd, tOr, tAndV, tOrV, tFld, tCall, rIxLH, rIxTH, atI, ixN, upd_same, cxK, ex2, ex3, ex3b, rIs1, rIs2, rNe2, tyN, kb1, kb2, kb3, kb4, kb5, kb6, rEq, rNe, scal]
    have nl := numS_len hn
    refine Alloc.of fun p H1 n1 e1 s1 => ⟨fun m σ' H' => σ' = _ ∧ H' = H1, ⟨0, rfl, rfl⟩, ?_⟩
    rintro m σ' H' ⟨rfl, rfl⟩
    have p60 : (10 : Nat) ^ 60 = 1000000000000000000000000000000000000000000000000000000000000 := by decide
    have fr : ∀ {b : Addr} {o : HO}, H b = some o → b ≠ p := fun e => ne_of_none e n1
    by_cases h0 : n < 0
    · have nn : (-n).natAbs < 10 ^ 60 := by omega
      have nl2 := numS_len nn
      have lt : ¬ (1000000000000000000000000000000000000000000000000000000000000 ≤ -n) := by omega
      simp -dsimp [tSeq, tAsg, tRet, tIfS, tIf, tTest, tVar, tCons, tNil, tC, tOp, tUn, rI, rI0, rU, tCB, tLst_A, tTup_A, gName, L2.start, CMul, CPow, CDiv, tDrop, tBM, tBM0, tNext, tPar, gSub, rSetL, rIxL, rIxT, tChain, tB, tNot, tNotV, tAnd, tOr, tAndV, tOrV, tFld, tCall, rIxLH, rIxTH, atI, ixN, upd_same, cxK, ex2, ex3, ex3b, rIs1, rIs2, rNe2, tyN, kb1, kb2, kb3, kb4, kb5, kb6, rEq, rNe, scal, lt, h0, tyV_lst e1, rAppend, e1]
      refine ⟨nl.2, by decide, tyV_lst upd_same, by decide, ?_⟩
      refine ⟨⟨_, rfl⟩, _, rfl, p, _, rfl, SqL.of upd_same, fun p2 np2 => ⟨_, rfl, p2, rfl, [Str.ofString "-", numS (-n)], .inl (SqL.of upd_same), ?_, ?_⟩⟩
      · have l1 : (Str.ofString "-").length = 1 := rfl
        simp -dsimp [tSeq, tAsg, tRet, tIfS, tIf, tTest, tVar, tCons, tNil, tC, tOp, tUn, rI, rI0, rU, tCB, tLst_A, tTup_A, gName, L2.start, CMul, CPow, CDiv, tDrop, tBM, tBM0, tNext, tPar, gSub, rSetL, rIxL, rIxT, tChain, tB, tNot, tNotV, tAnd, tOr, tAndV, tOrV, tFld, tCall, rIxLH, rIxTH, atI, ixN, upd_same, cxK, ex2, ex3, ex3b, rIs1, rIs2, rNe2, tyN, kb1, kb2, kb3, kb4, kb5, kb6, rEq, rNe, scal, l1]
        have := nl2.1
        show 1 + (numS (-n)).length + 2 * 0 ≤ 16777216
        omega
      · rw [neg_text h0]
        refine q _ fun b o e => ?_
        have bp := fr e
        have e' : upd (upd H' p (HO.lst [V.str (numS (-n))])) p (HO.lst [V.str (numS (-n)), V.str (Str.ofString "-")]) b = some o := by
          rw [upd_ne bp, upd_ne bp]
          exact s1 _ _ e
        rw [upd_ne (ne_of_none e' np2)]
        exact e'
    · have lt : ¬ (1000000000000000000000000000000000000000000000000000000000000 ≤ n) := by omega
      simp -dsimp [tSeq, tAsg, tRet, tIfS, tIf, tTest, tVar, tCons, tNil, tC, tOp, tUn, rI, rI0, rU, tCB, tLst_A, tTup_A, gName, L2.start, CMul, CPow, CDiv, tDrop, tBM, tBM0, tNext, tPar, gSub, rSetL, rIxL, rIxT, tChain, tB, tNot, tNotV, tAnd, tOr, tAndV, tOrV, tFld, tCall, rIxLH, rIxTH, atI, ixN, upd_same, cxK, ex2, ex3, ex3b, rIs1, rIs2, rNe2, tyN, kb1, kb2, kb3, kb4, kb5, kb6, rEq, rNe, scal, lt, h0, tyV_lst e1, rAppend, e1]
      refine ⟨nl.2, by decide, ?_⟩
      refine ⟨⟨_, rfl⟩, _, rfl, p, _, rfl, SqL.of upd_same, fun p2 np2 => ⟨_, rfl, p2, rfl, [numS n], .inl (SqL.of upd_same), ?_, ?_⟩⟩
      · simp -dsimp [tSeq, tAsg, tRet, tIfS, tIf, tTest, tVar, tCons, tNil, tC, tOp, tUn, rI, rI0, rU, tCB, tLst_A, tTup_A, gName, L2.start, CMul, CPow, CDiv, tDrop, tBM, tBM0, tNext, tPar, gSub, rSetL, rIxL, rIxT, tChain, tB, tNot, tNotV, tAnd, tOr, tAndV, tOrV, tFld, tCall, rIxLH, rIxTH, atI, ixN, upd_same, cxK, ex2, ex3, ex3b, rIs1, rIs2, rNe2, tyN, kb1, kb2, kb3, kb4, kb5, kb6, rEq, rNe, scal]
        have := nl.1
        show (numS n).length + 1 * 0 ≤ 16777216
        omega
      · have e0 : Txt.join (Str.ofString "") [numS n] = numS n := by rw [TL.join_eq]; rfl
        rw [e0]
        refine q _ fun b o e => ?_
        have bp := fr e
        have e' : upd H' p (HO.lst [V.str (numS n)]) b = some o := by
          rw [upd_ne bp]
          exact s1 _ _ e
        rw [upd_ne (ne_of_none e' np2)]
        exact e'
end
/-! ### the numbers -/
theorem side_facts (a b : Int) (hb : b ≠ 0) : side a b ∣ a ∧ side a b ∣ b ∧ side a b ≠ 0 := by
  have hg : 0 < Int.gcd a b := Int.gcd_pos_of_ne_zero_right a hb
  have h1 := Int.gcd_dvd_left a b
  have h2 := Int.gcd_dvd_right a b
  unfold side
  split
  · exact ⟨h1, h2, by omega⟩
  · exact ⟨Int.neg_dvd.mpr h1, Int.neg_dvd.mpr h2, by omega⟩
theorem side_neg (a b : Int) (hb : b ≠ 0) : side a (-b) = -side a b := by
  unfold side
  rw [Int.gcd_neg]
  by_cases h : b > 0
  · rw [if_pos h, if_neg (by omega)]
  · rw [if_neg h, if_pos (by omega), Int.neg_neg]
theorem side_one (a : Int) : side a 1 = 1 := by
  unfold side
  rw [if_pos (by decide), Int.gcd_one]
  rfl
theorem fdiv_le {a s : Int} (h : s ∣ a) (hs : s ≠ 0) : (a.fdiv s).natAbs ≤ a.natAbs := by
  obtain ⟨c, rfl⟩ := h
  rw [Int.fdiv_eq_ediv_of_dvd ⟨c, rfl⟩, Int.mul_ediv_cancel_left _ hs, Int.natAbs_mul]
  exact Nat.le_mul_of_pos_left _ (by omega)
theorem fdiv_flip {a b : Int} (hb : b ≠ 0) : a.fdiv (side a (-b)) = -(a.fdiv (side a b)) ∧ (-b).fdiv (side a (-b)) = b.fdiv (side a b) := by
  obtain ⟨h1, h2, h3⟩ := side_facts a b hb
  rw [side_neg a b hb]
  refine ⟨by rw [Int.fdiv_neg h3, if_pos h1], ?_⟩
  rw [Int.fdiv_neg h3, if_pos (Int.dvd_neg.mpr h2), Int.fdiv_eq_ediv_of_dvd (Int.dvd_neg.mpr h2), Int.fdiv_eq_ediv_of_dvd h2, Int.neg_ediv_of_dvd h2, Int.neg_neg]
theorem scaled {a p : Int} (h : a.natAbs < 1000000000000) (h0 : 0 ≤ p) (h1 : p < 12) : (a / 100 * (1 + p)).natAbs < 2000000000000 := by
  have e : (a / 100).natAbs ≤ 10000000001 := by omega
  rw [Int.natAbs_mul]
  have e2 : (1 + p).natAbs ≤ 12 := by omega
  have := Nat.mul_le_mul e e2
  omega
theorem big_of {n : Nat} (h : n < 10 ^ 60) : n < big9 := Nat.lt_of_lt_of_le h (by unfold big9; exact Nat.le_trans (by decide : (10 : Nat) ^ 60 ≤ 2 ^ 200) (Nat.pow_le_pow_right (by decide) (by decide)))
/-- a share is made of the ints vs -/
def MkS (K : PySem.W.Frag) (H : Hp) (vs : List V) (Q : V → Hp → Prop) (E : XK) (_ : Lk (Q, E) := ⟨⟩) : Prop :=
  ∀ x dx, H x = none → H dx = none → dx ≠ x → spInit K (.ref x :: vs) (upd (upd H dx (.own x)) x (.ins (He.ga K "Share") dx [])) (fun v H2 => v = .non ∧ Q (.ref x) H2) E
theorem MkS.of {K : PySem.W.Frag} {H : Hp} {vs : List V} {a b : Int} {Q : V → Hp → Prop} {E : XK} (e : vs = [.int a, .int b]) (hb : b ≠ 0) (hbb : b.natAbs < big9) (h : AllocS K H (a.fdiv (side a b)) (b.fdiv (side a b)) Q) : MkS K H vs Q E := mk_ok e hb hbb h
theorem tMake_S {K : PySem.W.Frag} {dvs : List V} {E : XK} {t : TA} {σ : List (Option V)} {H : Hp} {Q : V → Hp → Prop} : tMake (He.ga K "Share") (spInit K) dvs E t σ H Q = t σ H fun vs H1 => MkS K H1 (vs ++ dvs) Q E := rfl
theorem tMakeK_S {K : PySem.W.Frag} {n m : Nat} {E : XK} {t tk : TA} {σ : List (Option V)} {H : Hp} {Q : V → Hp → Prop} : tMakeK (He.ga K "Share") n m (spInit K) (fun vs zs => vs ++ zs.reverse) E t tk σ H Q = t σ H fun vs H1 => tk σ H1 fun zs H2 => vs.length = n ∧ zs.length = m ∧ MkS K H2 (vs ++ zs.reverse) Q E := rfl
theorem tMakeN_S {K : PySem.W.Frag} {n m : Nat} {E : XK} {t tk : TA} {σ : List (Option V)} {H : Hp} {Q : V → Hp → Prop} : tMakeN (He.ga K "Share") n m (spInit K) (fun vs zs => vs ++ zs) E t tk σ H Q = t σ H fun vs H1 => tk σ H1 fun zs H2 => vs.length = n ∧ zs.length = m ∧ MkS K H2 (vs ++ zs) Q E := rfl
/-- a loop over the list at a, from here -/
def ForW (K : PySem.W.Frag) (a : Addr) (g : TG) (tb : TS) (D : Ends) (σ : List (Option V)) (H : Hp) (_ : Lk (g, tb, D) := ⟨⟩) : Prop :=
  ∃ W : Nat → Nat → List (Option V) → Hp → Prop, (∃ m, W 0 m σ H) ∧ ∀ i m σ H, W i m σ H → ((Itl K a).stop i H ∧ D.nx σ H) ∨ ((Itl K a).go i H ∧ ∃ N : List (Option V) → Hp → Prop, (∀ σ' H', N σ' H' → ∃ m', m' < m ∧ W (i + 1) m' σ' H') ∧ ∀ x H', (Itl K a).yld i H x H' → g x σ H' fun σ2 H2 => tb { D with nx := N, ct := N, bk := D.nx } σ2 H2)
theorem tFor_iL {K : PySem.W.Frag} {tl : TE} {g : TG} {tb : TS} {D : Ends} {σ : List (Option V)} {H : Hp} : tFor (iList K tl) g tb D σ H = tl σ H fun x H1 => ∃ a, x = .ref a ∧ (∃ xs, SqL K H1 a xs) ∧ ForW K a g tb D σ H1 := rfl
/-! ### numbers: shares and ints -/
def bigH : Nat := 2 ^ 4499
theorem mul_h {a b : Int} (ha : a.natAbs < bigH) (hb : b.natAbs < bigH) : 2 * (a * b).natAbs < big9 := by
  rw [Int.natAbs_mul]
  have h := Nat.mul_lt_mul'' ha hb
  have e : 2 * (bigH * bigH) = big9 := by
    unfold bigH big9
    rw [← Nat.pow_add, Nat.mul_comm, ← Nat.pow_succ]
  omega
theorem h_lt_M {n : Nat} (h : n < bigH) : n < bigM := Nat.lt_of_lt_of_le h (by unfold bigH bigM; exact Nat.pow_le_pow_right (by decide) (by decide))
/-- v is c over d: a share, or an int -/
def Nu (K : PySem.W.Frag) (H : Hp) (v : V) (c d : Int) : Prop := (∃ y, v = .ref y ∧ IsSh K H y c d) ∨ (v = .int c ∧ d = 1)
theorem Nu.same {K : PySem.W.Frag} {H H' : Hp} {v : V} {c d : Int} (h : Nu K H v c d) (s : Same H H') : Nu K H' v c d := by
  rcases h with ⟨y, e, h⟩ | h
  · exact .inl ⟨y, e, h.same s⟩
  · exact .inr h
theorem tup2 {K : PySem.W.Frag} {p : Addr} {u v : V} {f g : TG} {σ : List (Option V)} {H : Hp} {Q : List (Option V) → Hp → Prop} (h : H p = some (.tup [u, v])) (k : f u σ H fun σ1 H1 => g v σ1 H1 Q) : gTup K 2 (gCons f (gCons g gNil)) (.ref p) σ H Q := by
  refine ⟨p, [u, v], rfl, SqT.of h, rfl, u, [v], rfl, ?_⟩
  refine Eq.mp ?_ k
  congr 1
  funext σ1 H1
  refine propext ⟨fun z => ⟨v, [], rfl, ?_⟩, fun ⟨v', r, e, z⟩ => ?_⟩
  · refine Eq.mp ?_ z
    congr 1
    funext σ2 H2
    exact propext ⟨fun z => ⟨rfl, z⟩, fun z => z.2⟩
  · cases e
    refine Eq.mp ?_ z
    congr 1
    funext σ2 H2
    exact propext ⟨fun z => z.2, fun z => ⟨rfl, z⟩⟩
section
/-- what follows for a new share in lowest terms -/
def Res (K : PySem.W.Frag) (H : Hp) (p q : Int) (Q : V → Hp → Prop) (_ : Lk Q := ⟨⟩) : Prop := ∀ z H', Same H H' → IsSh K H' z (p.fdiv (side p q)) (q.fdiv (side p q)) → Q (.ref z) H'
theorem MkS.res {K : PySem.W.Frag} {H0 H : Hp} {vs : List V} {a b : Int} {Q : V → Hp → Prop} {E : XK} (s : Same H0 H) (e : vs = [.int a, .int b]) (hb : b ≠ 0) (hbb : b.natAbs < big9) (h : Res K H0 a b Q) : MkS K H vs Q E :=
  MkS.of e hb hbb fun z H' _ i s' => h z H' (s.trans s') i
theorem one_fd (c : Int) : c.fdiv (side c 1) = c ∧ (1 : Int).fdiv (side c 1) = 1 := by
  rw [side_one, Int.fdiv_one, Int.fdiv_one]
  exact ⟨rfl, rfl⟩
end
/-! ### lowest terms -/
def Low (c d : Int) : Prop := 0 < d ∧ Int.gcd c d = 1
theorem side_low {c d : Int} (h : Low c d) : side c d = 1 := by
  unfold side
  rw [if_pos h.1, h.2]
  rfl
theorem lo_low {c d : Int} (h : Low c d) : c.fdiv (side c d) = c ∧ d.fdiv (side c d) = d := by
  rw [side_low h, Int.fdiv_one, Int.fdiv_one]
  exact ⟨rfl, rfl⟩
theorem lo_cross {x y : Int} (hy : y ≠ 0) : x.fdiv (side x y) * y = x * y.fdiv (side x y) := by
  obtain ⟨⟨k, hk⟩, ⟨m, hm⟩, h3⟩ := side_facts x y hy
  have e1 : x.fdiv (side x y) = k := by
    rw [Int.fdiv_eq_ediv_of_dvd ⟨k, hk⟩]
    exact Int.ediv_eq_of_eq_mul_right h3 hk
  have e2 : y.fdiv (side x y) = m := by
    rw [Int.fdiv_eq_ediv_of_dvd ⟨m, hm⟩]
    exact Int.ediv_eq_of_eq_mul_right h3 hm
  rw [e1, e2]
  calc k * y = k * (side x y * m) := by rw [← hm]
    _ = side x y * k * m := by rw [Int.mul_comm (side x y) k, Int.mul_assoc]
    _ = x * m := by rw [← hk]
theorem low_lo {x y : Int} (hy : y ≠ 0) : Low (x.fdiv (side x y)) (y.fdiv (side x y)) := by
  have hg : 0 < Int.gcd x y := Int.gcd_pos_of_ne_zero_right x hy
  have d1 := Int.gcd_dvd_left x y
  have d2 := Int.gcd_dvd_right x y
  have h3 : ((Int.gcd x y : Nat) : Int) ≠ 0 := by omega
  have key : Int.gcd (x / (Int.gcd x y : Int)) (y / (Int.gcd x y : Int)) = 1 := by
    rw [Int.gcd_ediv d1 d2]
    rw [Int.natAbs_natCast]
    exact Nat.div_self hg
  by_cases hp : y > 0
  · have e : side x y = (Int.gcd x y : Int) := if_pos hp
    rw [e, Int.fdiv_eq_ediv_of_dvd d1, Int.fdiv_eq_ediv_of_dvd d2]
    exact ⟨Int.ediv_pos_of_pos_of_dvd hp (by omega) d2, key⟩
  · have e : side x y = -(Int.gcd x y : Int) := if_neg hp
    have n1 : -((Int.gcd x y : Nat) : Int) ∣ x := Int.neg_dvd.mpr d1
    have n2 : -((Int.gcd x y : Nat) : Int) ∣ y := Int.neg_dvd.mpr d2
    rw [e, Int.fdiv_eq_ediv_of_dvd n1, Int.fdiv_eq_ediv_of_dvd n2, Int.ediv_neg, Int.ediv_neg]
    refine ⟨?_, by rw [Int.neg_gcd, Int.gcd_neg]; exact key⟩
    have : 0 < (-y) / (Int.gcd x y : Int) := Int.ediv_pos_of_pos_of_dvd (by omega) (by omega) (Int.dvd_neg.mpr d2)
    rw [Int.neg_ediv_of_dvd d2] at this
    exact this
/-- two pairs in lowest terms with one worth are one pair -/
theorem low_eq {a b c d : Int} (h1 : Low a b) (h2 : Low c d) (h : a * d = c * b) : a = c ∧ b = d := by
  have db : b ∣ d := by
    have z : b ∣ a * d := ⟨c, by rw [h, Int.mul_comm]⟩
    have g := Int.dvd_gcd_mul_iff_dvd_mul.mpr z
    rw [Int.gcd_comm, h1.2] at g
    simpa using g
  have dd : d ∣ b := by
    have z : d ∣ c * b := ⟨a, by rw [← h, Int.mul_comm]⟩
    have g := Int.dvd_gcd_mul_iff_dvd_mul.mpr z
    rw [Int.gcd_comm, h2.2] at g
    simpa using g
  have e : b = d := Int.dvd_antisymm (Int.le_of_lt h1.1) (Int.le_of_lt h2.1) db dd
  subst e
  exact ⟨Int.eq_of_mul_eq_mul_right (Int.ne_of_gt h1.1) h, rfl⟩
/-- lowest terms of x over y are c over d, where these are -/
theorem lo_eq {x y c d : Int} (hy : y ≠ 0) (h : Low c d) (e : x * d = c * y) : x.fdiv (side x y) = c ∧ y.fdiv (side x y) = d := by
  have l := low_lo (x := x) hy
  have cr := lo_cross (x := x) hy
  refine low_eq l h (Int.eq_of_mul_eq_mul_right hy ?_)
  calc x.fdiv (side x y) * d * y = x.fdiv (side x y) * y * d := by rw [Int.mul_right_comm]
    _ = x * y.fdiv (side x y) * d := by rw [cr]
    _ = x * d * y.fdiv (side x y) := by rw [Int.mul_right_comm]
    _ = c * y * y.fdiv (side x y) := by rw [e]
    _ = c * y.fdiv (side x y) * y := by rw [Int.mul_right_comm]
/-! ### numbers and other things -/
def rIsG (K : PySem.W.Frag) : List V → Hp → VK → Prop := fun xs H Q => ∃ (x c : V) (t u : Value) (b : Bool), xs = [x, c] ∧ ClsV c u ∧ TyOf K H x t ∧ PySem.W.kitOne K t u = some b ∧ Q (.bl b) H
section
variable {X : Cx}
theorem isi_G : CallR X (.builtin "isinstance") (rIsG X.K) := by
  intro pins s σ H xs us Q I r h
  obtain ⟨x, c, t, u, b, e, cv, ty, k, q⟩ := h
  exact call_isi pins s σ H xs us Q I r ⟨x, c, t, u, b, e, cv, .base ty, k, q⟩
end
section
variable {K : PySem.W.Frag} {mg : Str → Option Value}
theorem Wd.knS (W : Wd K mg) : NuX.KN K (.ref (He.ga K "Share")) true := NuX.knB_ok (W.ex 8 rfl)
theorem Wd.knT (W : Wd K mg) : NuX.KN K (.ref (He.ga K "Term")) false := NuX.knB_ok (W.ex 9 rfl)
theorem Wd.knI (W : Wd K mg) : NuX.KN K (.type "int") true := NuX.knB_ok (W.ex 10 rfl)
theorem Wd.cmp (W : Wd K mg) : CmX.CmpC K (He.ga K "Share") := CmX.cmpB_ok (W.ex 7 rfl)
/-- a number: its kind, whether it is a share -/
theorem Wd.nuTy (W : Wd K mg) {H : Hp} {v : V} {c d : Int} (h : Nu K H v c d) : ∃ t b, TyOf K H v t ∧ NuX.KN K t true ∧ PySem.W.kitOne K t (.ref (He.ga K "Share")) = some b ∧ CmX.Beside K (He.ga K "Share") t ∧
    ((b = true ∧ ∃ y, v = .ref y ∧ IsSh K H y c d) ∨ (b = false ∧ v = .int c ∧ d = 1)) := by
  rcases h with ⟨y, e, h⟩ | ⟨e, e2⟩
  · subst e
    exact ⟨_, true, W.isSh h, W.knS, W.kitS, .inl rfl, .inl ⟨rfl, y, rfl, h⟩⟩
  · subst e
    exact ⟨_, false, .int c, W.knI, of_decide_eq_true (W.ex 21 rfl), .inr (W.cmp.no "int" (by decide)).1, .inr ⟨rfl, rfl, e2⟩⟩
end
section
variable {P : Program} {w : World} {K : PySem.W.Frag} {mg : Str → Option Value} {base : Heap}
theorem scIsInt : FnScope ["thing"] ["thing"] d_is_integer.scope := ⟨rfl, rfl, rfl, by decide +kernel, rfl, by decide +kernel, by decide +kernel⟩
def spIsInt (K : PySem.W.Frag) : Sp := fun vs H Q _ => ∃ (v : V) (t : Value) (b : Bool), vs = [v] ∧ TyOf K H v t ∧ NuX.KI K t b ∧ Q (.bl b) H
theorem ok_isInt (W : Wd K mg) : ∃ fd, FnOk P w K mg base CX0 1 (He.ga K "is_integer") fd ["thing"] (spIsInt K) ∧ Binds K fd ["thing"] [] := by
  obtain ⟨fd, F⟩ := W.F_is_integer
  refine ⟨fd, F.ok scIsInt (fun vs H Q E h => ?_) (fun cdv A outer s H vs Q E hr h => ?_), FunD.bindsN F fun _ _ _ _ _ _ us hl => match us, hl with | [_], _ => rfl⟩
  · obtain ⟨v, t, b, rfl, _⟩ := h
    rfl
  · obtain ⟨v, t, b, rfl, ty, ⟨bi, bb, k1, k2, rfl⟩, q⟩ := h
    refine ⟨_, PSs.nox (pss_one (ps_ret (pe_and (pe_callB isi_G (by rfl) W.f_isinstance boot_isinstance (pa_cons (pv 0) (pa_cons (pe_bltn (v := .ty "int") (by rfl) W.f_int (by decide +kernel) rfl) pa_nil)))
      (pe_one (pe_not (pe_callB isi_G (by rfl) W.f_isinstance boot_isinstance (pa_cons (pv 0) (pa_cons (pe_bltn (v := .ty "bool") (by rfl) W.f_bool (by decide +kernel) rfl) pa_nil)))))))), ?_⟩
    simp -dsimp [tSeq, tAsg, tRet, tIfS, tIf, tTest, tVar, tCons, tNil, tC, tOp, tUn, rI, rI0, rU, tCB, tLst_A, tTup_A, gName, L2.start, CMul, CPow, CDiv, tDrop, tBM, tBM0, tNext, tPar, gSub, rSetL, rIxL, rIxT, tChain, tB, tNot, tNotV, tAnd, tOr, tAndV, tOrV, tFld, tCall, rIxLH, rIxTH, atI, ixN, upd_same, cxK, ex2, ex3, ex3b, rIs1, rIs2, rNe2, tyN, kb1, kb2, kb3, kb4, kb5, kb6, rEq, rNe, scal, tMake_S, tMakeK_S, tMakeN_S]
    refine ⟨_, _, t, _, bi, rfl, .ty "int", ty, k1, ?_⟩
    cases bi with
    | false => exact .inl ⟨rfl, q⟩
    | true =>
      refine .inr ⟨rfl, _, _, t, _, bb, rfl, .ty "bool", ty, k2, ?_⟩
      cases bb with
      | false => exact .inl ⟨rfl, q⟩
      | true => exact .inr ⟨rfl, q⟩
theorem scIsNum : FnScope ["thing"] ["thing"] d_is_number.scope := ⟨rfl, rfl, rfl, by decide +kernel, rfl, by decide +kernel, by decide +kernel⟩
def spIsNum (K : PySem.W.Frag) : Sp := fun vs H Q _ => ∃ (v : V) (t : Value) (b : Bool), vs = [v] ∧ TyOf K H v t ∧ NuX.KN K t b ∧ Q (.bl b) H
theorem ok_isNum (W : Wd K mg) : ∃ fd, FnOk P w K mg base CX0 2 (He.ga K "is_number") fd ["thing"] (spIsNum K) ∧ Binds K fd ["thing"] [] := by
  obtain ⟨fdI, GI, bI⟩ := ok_isInt (P := P) (w := w) (base := base) W
  have kI : PySem.W.keepIn K (.ref (He.ga K "is_integer")) = true := by obtain ⟨fd, F⟩ := W.F_is_integer; exact F.kp
  obtain ⟨fd, F⟩ := W.F_is_number
  refine ⟨fd, F.ok scIsNum (fun vs H Q E h => ?_) (fun cdv A outer s H vs Q E hr h => ?_), FunD.bindsN F fun _ _ _ _ _ _ us hl => match us, hl with | [_], _ => rfl⟩
  · obtain ⟨v, t, b, rfl, _⟩ := h
    rfl
  · obtain ⟨v, t, b, rfl, ty, ⟨bs, k1, kk⟩, q⟩ := h
    refine ⟨_, PSs.nox (pss_one (ps_ret (pe_or (pe_callB isi_G (by rfl) W.f_isinstance boot_isinstance (pa_cons (pv 0) (pa_cons (pe_glob (v := .ref (He.ga K "Share")) rfl W.g_Share rfl) pa_nil)))
      (pe_one (pe_call GI hr rfl W.g_is_integer kI bI .nil pass0 (pa_cons (pv 0) pa_nil)))))), ?_⟩
    simp -dsimp [tSeq, tAsg, tRet, tIfS, tIf, tTest, tVar, tCons, tNil, tC, tOp, tUn, rI, rI0, rU, tCB, tLst_A, tTup_A, gName, L2.start, CMul, CPow, CDiv, tDrop, tBM, tBM0, tNext, tPar, gSub, rSetL, rIxL, rIxT, tChain, tB, tNot, tNotV, tAnd, tOr, tAndV, tOrV, tFld, tCall, rIxLH, rIxTH, atI, ixN, upd_same, cxK, ex2, ex3, ex3b, rIs1, rIs2, rNe2, tyN, kb1, kb2, kb3, kb4, kb5, kb6, rEq, rNe, scal, tMake_S, tMakeK_S, tMakeN_S]
    refine ⟨_, _, t, _, bs, rfl, .own _, ty, k1, ?_⟩
    rcases kk with ⟨rfl, rfl⟩ | ⟨rfl, kk⟩
    · exact .inr ⟨rfl, q⟩
    · exact .inl ⟨rfl, _, t, b, rfl, ty, kk, q⟩
theorem scFrac : FnScope ["number"] ["number"] d_fraction.scope := ⟨rfl, rfl, rfl, by decide +kernel, rfl, by decide +kernel, by decide +kernel⟩
def spFrac (K : PySem.W.Frag) : Sp := fun vs H Q _ => ∃ (v : V) (c d : Int), vs = [v] ∧ Nu K H v c d ∧ ∀ p H', H p = none → H' p = some (.tup [.int c, .int d]) → Same H H' → Q (.ref p) H'
theorem ok_frac (W : Wd K mg) : ∃ fd, FnOk P w K mg base CX0 1 (He.ga K "fraction") fd ["number"] (spFrac K) ∧ Binds K fd ["number"] [] := by
  obtain ⟨fd, F⟩ := W.F_fraction
  refine ⟨fd, F.ok scFrac (fun vs H Q E h => ?_) (fun cdv A outer s H vs Q E hr h => ?_), FunD.bindsN F fun _ _ _ _ _ _ us hl => match us, hl with | [_], _ => rfl⟩
  · obtain ⟨v, c, d, rfl, _⟩ := h
    rfl
  · obtain ⟨v, c, d, rfl, h, q⟩ := h
    refine ⟨_, PSs.nox (pss_cons (ps_if (pt_val (pe_callB isi_G (by rfl) W.f_isinstance boot_isinstance (pa_cons (pv 0) (pa_cons (pe_glob (v := .ref (He.ga K "Share")) rfl W.g_Share rfl) pa_nil))))
        (pss_one (ps_ret (pe_tup (pa_cons (pe_fld (pv 0) rfl) (pa_cons (pe_fld (pv 0) rfl) pa_nil))))) pss_nil)
      (pss_one (ps_ret (pe_tup (pa_cons (pv 0) (pa_cons pe_int pa_nil)))))), ?_⟩
    obtain ⟨t, b, ty, kn, k, _, hb⟩ := W.nuTy h
    simp -dsimp [tSeq, tAsg, tRet, tIfS, tIf, tTest, tVar, tCons, tNil, tC, tOp, tUn, rI, rI0, rU, tCB, tLst_A, tTup_A, gName, L2.start, CMul, CPow, CDiv, tDrop, tBM, tBM0, tNext, tPar, gSub, rSetL, rIxL, rIxT, tChain, tB, tNot, tNotV, tAnd, tOr, tAndV, tOrV, tFld, tCall, rIxLH, rIxTH, atI, ixN, upd_same, cxK, ex2, ex3, ex3b, rIs1, rIs2, rNe2, tyN, kb1, kb2, kb3, kb4, kb5, kb6, rEq, rNe, scal, tMake_S, tMakeK_S, tMakeN_S]
    refine ⟨_, _, t, _, b, rfl, .own _, ty, k, ?_⟩
    rcases hb with ⟨rfl, y, rfl, hy⟩ | ⟨rfl, rfl, rfl⟩
    · obtain ⟨dx, hd⟩ := id hy
      simp -dsimp [tSeq, tAsg, tRet, tIfS, tIf, tTest, tVar, tCons, tNil, tC, tOp, tUn, rI, rI0, rU, tCB, tLst_A, tTup_A, gName, L2.start, CMul, CPow, CDiv, tDrop, tBM, tBM0, tNext, tPar, gSub, rSetL, rIxL, rIxT, tChain, tB, tNot, tNotV, tAnd, tOr, tAndV, tOrV, tFld, tCall, rIxLH, rIxTH, atI, ixN, upd_same, cxK, ex2, ex3, ex3b, rIs1, rIs2, rNe2, tyN, kb1, kb2, kb3, kb4, kb5, kb6, rEq, rNe, scal, tMake_S, tMakeK_S, tMakeN_S, hd, shareO, W.cls_Share, W.n_Share_top, W.n_Share_bottom, look_top, look_bot]
      exact ⟨le2, Alloc.of q⟩
    · simp -dsimp [tSeq, tAsg, tRet, tIfS, tIf, tTest, tVar, tCons, tNil, tC, tOp, tUn, rI, rI0, rU, tCB, tLst_A, tTup_A, gName, L2.start, CMul, CPow, CDiv, tDrop, tBM, tBM0, tNext, tPar, gSub, rSetL, rIxL, rIxT, tChain, tB, tNot, tNotV, tAnd, tOr, tAndV, tOrV, tFld, tCall, rIxLH, rIxTH, atI, ixN, upd_same, cxK, ex2, ex3, ex3b, rIs1, rIs2, rNe2, tyN, kb1, kb2, kb3, kb4, kb5, kb6, rEq, rNe, scal, tMake_S, tMakeK_S, tMakeN_S]
      exact ⟨le2, Alloc.of q⟩
theorem scShareOf : FnScope ["number"] ["number"] d_share_of.scope := ⟨rfl, rfl, rfl, by decide +kernel, rfl, by decide +kernel, by decide +kernel⟩
def spShareOf (K : PySem.W.Frag) : Sp := fun vs H Q _ => ∃ (v : V) (c d : Int), vs = [v] ∧ Nu K H v c d ∧ ∀ z H', Same H H' → IsSh K H' z c d → Q (.ref z) H'
theorem ok_shareOf (W : Wd K mg) : ∃ fd, FnOk P w K mg base CX0 4 (He.ga K "share_of") fd ["number"] (spShareOf K) ∧ Binds K fd ["number"] [] := by
  obtain ⟨fdH, GH, FH⟩ := ok_init (P := P) (w := w) (base := base) W
  obtain ⟨ds1, v1, b1⟩ := bind2 FH
  obtain ⟨fd, F⟩ := W.F_share_of
  refine ⟨fd, F.ok scShareOf (fun vs H Q E h => ?_) (fun cdv A outer s H vs Q E hr h => ?_), FunD.bindsN F fun _ _ _ _ _ _ us hl => match us, hl with | [_], _ => rfl⟩
  · obtain ⟨v, c, d, rfl, _⟩ := h
    rfl
  · obtain ⟨v, c, d, rfl, h, q⟩ := h
    refine ⟨_, PSs.nox (pss_cons (ps_if (pt_val (pe_callB isi_G (by rfl) W.f_isinstance boot_isinstance (pa_cons (pv 0) (pa_cons (pe_glob (v := .ref (He.ga K "Share")) rfl W.g_Share rfl) pa_nil))))
        (pss_one (ps_ret (pv 0))) pss_nil)
      (pss_one (ps_ret (pe_make W.mkr_Share GH hr rfl W.g_Share b1 v1 pass0 (pa_cons (pv 0) pa_nil))))), ?_⟩
    obtain ⟨t, b, ty, kn, k, _, hb⟩ := W.nuTy h
    simp -dsimp [tSeq, tAsg, tRet, tIfS, tIf, tTest, tVar, tCons, tNil, tC, tOp, tUn, rI, rI0, rU, tCB, tLst_A, tTup_A, gName, L2.start, CMul, CPow, CDiv, tDrop, tBM, tBM0, tNext, tPar, gSub, rSetL, rIxL, rIxT, tChain, tB, tNot, tNotV, tAnd, tOr, tAndV, tOrV, tFld, tCall, rIxLH, rIxTH, atI, ixN, upd_same, cxK, ex2, ex3, ex3b, rIs1, rIs2, rNe2, tyN, kb1, kb2, kb3, kb4, kb5, kb6, rEq, rNe, scal, tMake_S, tMakeK_S, tMakeN_S]
    refine ⟨_, _, t, _, b, rfl, .own _, ty, k, ?_⟩
    rcases hb with ⟨rfl, y, rfl, hy⟩ | ⟨rfl, rfl, rfl⟩
    · exact .inr ⟨rfl, q y H (Same.refl _) hy⟩
    · refine .inl ⟨rfl, ?_⟩
      refine MkS.of rfl (by decide) (by decide +kernel) fun z H' _ i s' => ?_
      rw [(one_fd c).1, (one_fd c).2] at i
      exact q z H' s' i
def Sm (a b c d : Int) : Prop := a.natAbs < bigH ∧ b.natAbs < bigH ∧ c.natAbs < bigH ∧ d.natAbs < bigH
theorem scExcess : FnScope ["share", "number", "top", "bottom"] ["share", "number"] d_excess.scope := ⟨rfl, rfl, rfl, by decide +kernel, rfl, by decide +kernel, by decide +kernel⟩
def spExcess (K : PySem.W.Frag) : Sp := fun vs H Q _ => ∃ (x : Addr) (v : V) (a b c d : Int), vs = [.ref x, v] ∧ IsSh K H x a b ∧ Nu K H v c d ∧ Sm a b c d ∧ ∀ H', Same H H' → Q (.int (a * d - c * b)) H'
theorem ok_excess (W : Wd K mg) : ∃ fd, FnOk P w K mg base CX0 2 (He.ga K "excess") fd ["share", "number"] (spExcess K) ∧ Binds K fd ["share", "number"] [] := by
  obtain ⟨fdF, GF, bF⟩ := ok_frac (P := P) (w := w) (base := base) W
  have kF : PySem.W.keepIn K (.ref (He.ga K "fraction")) = true := by obtain ⟨fd, F⟩ := W.F_fraction; exact F.kp
  obtain ⟨fd, F⟩ := W.F_excess
  refine ⟨fd, F.ok scExcess (fun vs H Q E h => ?_) (fun cdv A outer s H vs Q E hr h => ?_), FunD.bindsN F fun _ _ _ _ _ _ us hl => match us, hl with | [_, _], _ => rfl⟩
  · obtain ⟨x, v, a, b, c, d, rfl, _⟩ := h
    rfl
  · obtain ⟨x, v, a, b, c, d, rfl, hx, hv, ⟨ha, hb, hc, hd⟩, q⟩ := h
    refine ⟨_, PSs.nox (pss_cons (ps_asg (pe_call GF hr rfl W.g_fraction kF bF .nil pass0 (pa_cons (pv 1) pa_nil)) (pg_tup rfl (pgs_cons (pg_name (i := 2) scExcess.nd rfl (Or.inl rfl)) (pgs_cons (pg_name (i := 3) scExcess.nd rfl (Or.inl rfl)) pgs_nil))))
      (pss_one (ps_ret (pe_op op_sub (pe_op op_mulX9 (pe_fld (pv 0) rfl) (pv 3)) (pe_op op_mulX9 (pv 2) (pe_fld (pv 0) rfl)))))), ?_⟩
    simp -dsimp [tSeq, tAsg, tRet, tIfS, tIf, tTest, tVar, tCons, tNil, tC, tOp, tUn, rI, rI0, rU, tCB, tLst_A, tTup_A, gName, L2.start, CMul, CPow, CDiv, tDrop, tBM, tBM0, tNext, tPar, gSub, rSetL, rIxL, rIxT, tChain, tB, tNot, tNotV, tAnd, tOr, tAndV, tOrV, tFld, tCall, rIxLH, rIxTH, atI, ixN, upd_same, cxK, ex2, ex3, ex3b, rIs1, rIs2, rNe2, tyN, kb1, kb2, kb3, kb4, kb5, kb6, rEq, rNe, scal, tMake_S, tMakeK_S, tMakeN_S]
    refine ⟨v, c, d, rfl, hv, fun p H1 np hp s1 => tup2 hp ?_⟩
    obtain ⟨dx, hx1⟩ := hx.same s1
    simp -dsimp [tSeq, tAsg, tRet, tIfS, tIf, tTest, tVar, tCons, tNil, tC, tOp, tUn, rI, rI0, rU, tCB, tLst_A, tTup_A, gName, L2.start, CMul, CPow, CDiv, tDrop, tBM, tBM0, tNext, tPar, gSub, rSetL, rIxL, rIxT, tChain, tB, tNot, tNotV, tAnd, tOr, tAndV, tOrV, tFld, tCall, rIxLH, rIxTH, atI, ixN, upd_same, cxK, ex2, ex3, ex3b, rIs1, rIs2, rNe2, tyN, kb1, kb2, kb3, kb4, kb5, kb6, rEq, rNe, scal, tMake_S, tMakeK_S, tMakeN_S, hx1, shareO, W.cls_Share, W.n_Share_top, W.n_Share_bottom, look_top, look_bot, h_lt_M ha, h_lt_M hb, h_lt_M hc, h_lt_M hd]
    exact q H1 s1
/-- what an own comparison promises of a number -/
def spCmp (K : PySem.W.Frag) (f : Int → Bool) : Sp := fun vs H Q _ => ∃ (x : Addr) (v : V) (a b c d : Int), vs = [.ref x, v] ∧ IsSh K H x a b ∧ Nu K H v c d ∧ Sm a b c d ∧ ∀ H', Same H H' → Q (.bl (f (a * d - c * b))) H'
theorem spCmp_len {K : PySem.W.Frag} {f : Int → Bool} {vs : List V} {H : Hp} {Q : VK} {E : XK} (h : spCmp K f vs H Q E) : vs.length = 2 := by
  obtain ⟨x, v, a, b, c, d, rfl, _⟩ := h
  rfl
/-- .. and __eq__ of other things -/
def spEqS (K : PySem.W.Frag) : Sp := fun vs H Q E => spCmp K (fun z => decide (z = 0)) vs H Q E ∨ ∃ (x : Addr) (a b : Int) (v : V) (t : Value), vs = [.ref x, v] ∧ IsSh K H x a b ∧ TyOf K H v t ∧ NuX.KN K t false ∧ Q (.bl false) H
def sc2 (sc : Scope) : Prop := FnScope ["self", "other"] ["self", "other"] sc
theorem sc_lt : FnScope ["self", "other"] ["self", "other"] d_Share_lt.scope := ⟨rfl, rfl, rfl, by decide +kernel, rfl, by decide +kernel, by decide +kernel⟩
theorem ok_lt (W : Wd K mg) : ∃ fd, FnOk P w K mg base CX0 3 (He.ma K (He.ga K "Share") "__lt__") fd ["self", "other"] (spCmp K (fun z => decide (z < 0))) ∧ Binds K fd ["self", "other"] [] := by
  obtain ⟨fdN, GN, bN⟩ := ok_isNum (P := P) (w := w) (base := base) W
  obtain ⟨fdX, GX, bX⟩ := ok_excess (P := P) (w := w) (base := base) W
  have kN : PySem.W.keepIn K (.ref (He.ga K "is_number")) = true := by obtain ⟨fd, F⟩ := W.F_is_number; exact F.kp
  have kX : PySem.W.keepIn K (.ref (He.ga K "excess")) = true := by obtain ⟨fd, F⟩ := W.F_excess; exact F.kp
  obtain ⟨fd, F⟩ := W.F_Share_lt
  refine ⟨fd, F.ok sc_lt (fun vs H Q E h => spCmp_len h) (fun cdv A outer s H vs Q E hr h => ?_), FunD.bindsN F fun _ _ _ _ _ _ us hl => match us, hl with | [_, _], _ => rfl⟩
  obtain ⟨x, v, a, b, c, d, rfl, hx, hv, hs, q⟩ := h
  refine ⟨_, PSs.nox (pss_cons (ps_if (pt_not (pt_val (pe_call GN hr rfl W.g_is_number kN bN .nil pass0 (pa_cons (pv 1) pa_nil)))) pss_never pss_nil)
    (pss_one (ps_ret (pe_cmpR op_lt (pe_call GX hr rfl W.g_excess kX bX .nil pass0 (pa_cons (pv 0) (pa_cons (pv 1) pa_nil))) pe_int (nomark _))))), ?_⟩
  obtain ⟨t, bb, ty, kn, k, _, _⟩ := W.nuTy hv
  simp -dsimp [tSeq, tAsg, tRet, tIfS, tIf, tTest, tVar, tCons, tNil, tC, tOp, tUn, rI, rI0, rU, tCB, tLst_A, tTup_A, gName, L2.start, CMul, CPow, CDiv, tDrop, tBM, tBM0, tNext, tPar, gSub, rSetL, rIxL, rIxT, tChain, tB, tNot, tNotV, tAnd, tOr, tAndV, tOrV, tFld, tCall, rIxLH, rIxTH, atI, ixN, upd_same, cxK, ex2, ex3, ex3b, rIs1, rIs2, rNe2, tyN, kb1, kb2, kb3, kb4, kb5, kb6, rEq, rNe, scal, tMake_S, tMakeK_S, tMakeN_S]
  exact ⟨_, t, true, rfl, ty, kn, .inr ⟨rfl, _, _, a, b, c, d, rfl, hx, hv, hs, fun H' s' => ⟨_, rfl, q H' s'⟩⟩⟩
theorem sc_le : FnScope ["self", "other"] ["self", "other"] d_Share_le.scope := ⟨rfl, rfl, rfl, by decide +kernel, rfl, by decide +kernel, by decide +kernel⟩
theorem ok_le (W : Wd K mg) : ∃ fd, FnOk P w K mg base CX0 3 (He.ma K (He.ga K "Share") "__le__") fd ["self", "other"] (spCmp K (fun z => decide (z ≤ 0))) ∧ Binds K fd ["self", "other"] [] := by
  obtain ⟨fdN, GN, bN⟩ := ok_isNum (P := P) (w := w) (base := base) W
  obtain ⟨fdX, GX, bX⟩ := ok_excess (P := P) (w := w) (base := base) W
  have kN : PySem.W.keepIn K (.ref (He.ga K "is_number")) = true := by obtain ⟨fd, F⟩ := W.F_is_number; exact F.kp
  have kX : PySem.W.keepIn K (.ref (He.ga K "excess")) = true := by obtain ⟨fd, F⟩ := W.F_excess; exact F.kp
  obtain ⟨fd, F⟩ := W.F_Share_le
  refine ⟨fd, F.ok sc_le (fun vs H Q E h => spCmp_len h) (fun cdv A outer s H vs Q E hr h => ?_), FunD.bindsN F fun _ _ _ _ _ _ us hl => match us, hl with | [_, _], _ => rfl⟩
  obtain ⟨x, v, a, b, c, d, rfl, hx, hv, hs, q⟩ := h
  refine ⟨_, PSs.nox (pss_cons (ps_if (pt_not (pt_val (pe_call GN hr rfl W.g_is_number kN bN .nil pass0 (pa_cons (pv 1) pa_nil)))) pss_never pss_nil)
    (pss_one (ps_ret (pe_cmpR op_le (pe_call GX hr rfl W.g_excess kX bX .nil pass0 (pa_cons (pv 0) (pa_cons (pv 1) pa_nil))) pe_int (nomark _))))), ?_⟩
  obtain ⟨t, bb, ty, kn, k, _, _⟩ := W.nuTy hv
  simp -dsimp [tSeq, tAsg, tRet, tIfS, tIf, tTest, tVar, tCons, tNil, tC, tOp, tUn, rI, rI0, rU, tCB, tLst_A, tTup_A, gName, L2.start, CMul, CPow, CDiv, tDrop, tBM, tBM0, tNext, tPar, gSub, rSetL, rIxL, rIxT, tChain, tB, tNot, tNotV, tAnd, tOr, tAndV, tOrV, tFld, tCall, rIxLH, rIxTH, atI, ixN, upd_same, cxK, ex2, ex3, ex3b, rIs1, rIs2, rNe2, tyN, kb1, kb2, kb3, kb4, kb5, kb6, rEq, rNe, scal, tMake_S, tMakeK_S, tMakeN_S]
  exact ⟨_, t, true, rfl, ty, kn, .inr ⟨rfl, _, _, a, b, c, d, rfl, hx, hv, hs, fun H' s' => ⟨_, rfl, q H' s'⟩⟩⟩
theorem sc_gt : FnScope ["self", "other"] ["self", "other"] d_Share_gt.scope := ⟨rfl, rfl, rfl, by decide +kernel, rfl, by decide +kernel, by decide +kernel⟩
theorem ok_gt (W : Wd K mg) : ∃ fd, FnOk P w K mg base CX0 3 (He.ma K (He.ga K "Share") "__gt__") fd ["self", "other"] (spCmp K (fun z => decide (0 < z))) ∧ Binds K fd ["self", "other"] [] := by
  obtain ⟨fdN, GN, bN⟩ := ok_isNum (P := P) (w := w) (base := base) W
  obtain ⟨fdX, GX, bX⟩ := ok_excess (P := P) (w := w) (base := base) W
  have kN : PySem.W.keepIn K (.ref (He.ga K "is_number")) = true := by obtain ⟨fd, F⟩ := W.F_is_number; exact F.kp
  have kX : PySem.W.keepIn K (.ref (He.ga K "excess")) = true := by obtain ⟨fd, F⟩ := W.F_excess; exact F.kp
  obtain ⟨fd, F⟩ := W.F_Share_gt
  refine ⟨fd, F.ok sc_gt (fun vs H Q E h => spCmp_len h) (fun cdv A outer s H vs Q E hr h => ?_), FunD.bindsN F fun _ _ _ _ _ _ us hl => match us, hl with | [_, _], _ => rfl⟩
  obtain ⟨x, v, a, b, c, d, rfl, hx, hv, hs, q⟩ := h
  refine ⟨_, PSs.nox (pss_cons (ps_if (pt_not (pt_val (pe_call GN hr rfl W.g_is_number kN bN .nil pass0 (pa_cons (pv 1) pa_nil)))) pss_never pss_nil)
    (pss_one (ps_ret (pe_cmpR op_gt (pe_call GX hr rfl W.g_excess kX bX .nil pass0 (pa_cons (pv 0) (pa_cons (pv 1) pa_nil))) pe_int (nomark _))))), ?_⟩
  obtain ⟨t, bb, ty, kn, k, _, _⟩ := W.nuTy hv
  simp -dsimp [tSeq, tAsg, tRet, tIfS, tIf, tTest, tVar, tCons, tNil, tC, tOp, tUn, rI, rI0, rU, tCB, tLst_A, tTup_A, gName, L2.start, CMul, CPow, CDiv, tDrop, tBM, tBM0, tNext, tPar, gSub, rSetL, rIxL, rIxT, tChain, tB, tNot, tNotV, tAnd, tOr, tAndV, tOrV, tFld, tCall, rIxLH, rIxTH, atI, ixN, upd_same, cxK, ex2, ex3, ex3b, rIs1, rIs2, rNe2, tyN, kb1, kb2, kb3, kb4, kb5, kb6, rEq, rNe, scal, tMake_S, tMakeK_S, tMakeN_S]
  exact ⟨_, t, true, rfl, ty, kn, .inr ⟨rfl, _, _, a, b, c, d, rfl, hx, hv, hs, fun H' s' => ⟨_, rfl, q H' s'⟩⟩⟩
theorem sc_ge : FnScope ["self", "other"] ["self", "other"] d_Share_ge.scope := ⟨rfl, rfl, rfl, by decide +kernel, rfl, by decide +kernel, by decide +kernel⟩
theorem ok_ge (W : Wd K mg) : ∃ fd, FnOk P w K mg base CX0 3 (He.ma K (He.ga K "Share") "__ge__") fd ["self", "other"] (spCmp K (fun z => decide (0 ≤ z))) ∧ Binds K fd ["self", "other"] [] := by
  obtain ⟨fdN, GN, bN⟩ := ok_isNum (P := P) (w := w) (base := base) W
  obtain ⟨fdX, GX, bX⟩ := ok_excess (P := P) (w := w) (base := base) W
  have kN : PySem.W.keepIn K (.ref (He.ga K "is_number")) = true := by obtain ⟨fd, F⟩ := W.F_is_number; exact F.kp
  have kX : PySem.W.keepIn K (.ref (He.ga K "excess")) = true := by obtain ⟨fd, F⟩ := W.F_excess; exact F.kp
  obtain ⟨fd, F⟩ := W.F_Share_ge
  refine ⟨fd, F.ok sc_ge (fun vs H Q E h => spCmp_len h) (fun cdv A outer s H vs Q E hr h => ?_), FunD.bindsN F fun _ _ _ _ _ _ us hl => match us, hl with | [_, _], _ => rfl⟩
  obtain ⟨x, v, a, b, c, d, rfl, hx, hv, hs, q⟩ := h
  refine ⟨_, PSs.nox (pss_cons (ps_if (pt_not (pt_val (pe_call GN hr rfl W.g_is_number kN bN .nil pass0 (pa_cons (pv 1) pa_nil)))) pss_never pss_nil)
    (pss_one (ps_ret (pe_cmpR op_ge (pe_call GX hr rfl W.g_excess kX bX .nil pass0 (pa_cons (pv 0) (pa_cons (pv 1) pa_nil))) pe_int (nomark _))))), ?_⟩
  obtain ⟨t, bb, ty, kn, k, _, _⟩ := W.nuTy hv
  simp -dsimp [tSeq, tAsg, tRet, tIfS, tIf, tTest, tVar, tCons, tNil, tC, tOp, tUn, rI, rI0, rU, tCB, tLst_A, tTup_A, gName, L2.start, CMul, CPow, CDiv, tDrop, tBM, tBM0, tNext, tPar, gSub, rSetL, rIxL, rIxT, tChain, tB, tNot, tNotV, tAnd, tOr, tAndV, tOrV, tFld, tCall, rIxLH, rIxTH, atI, ixN, upd_same, cxK, ex2, ex3, ex3b, rIs1, rIs2, rNe2, tyN, kb1, kb2, kb3, kb4, kb5, kb6, rEq, rNe, scal, tMake_S, tMakeK_S, tMakeN_S]
  exact ⟨_, t, true, rfl, ty, kn, .inr ⟨rfl, _, _, a, b, c, d, rfl, hx, hv, hs, fun H' s' => ⟨_, rfl, q H' s'⟩⟩⟩
theorem sc_eq : FnScope ["self", "other"] ["self", "other"] d_Share_eq.scope := ⟨rfl, rfl, rfl, by decide +kernel, rfl, by decide +kernel, by decide +kernel⟩
theorem ok_eq (W : Wd K mg) : ∃ fd, FnOk P w K mg base CX0 3 (He.ma K (He.ga K "Share") "__eq__") fd ["self", "other"] (spEqS K) ∧ Binds K fd ["self", "other"] [] := by
  obtain ⟨fdN, GN, bN⟩ := ok_isNum (P := P) (w := w) (base := base) W
  obtain ⟨fdX, GX, bX⟩ := ok_excess (P := P) (w := w) (base := base) W
  have kN : PySem.W.keepIn K (.ref (He.ga K "is_number")) = true := by obtain ⟨fd, F⟩ := W.F_is_number; exact F.kp
  have kX : PySem.W.keepIn K (.ref (He.ga K "excess")) = true := by obtain ⟨fd, F⟩ := W.F_excess; exact F.kp
  obtain ⟨fd, F⟩ := W.F_Share_eq
  refine ⟨fd, F.ok sc_eq (fun vs H Q E h => ?_) (fun cdv A outer s H vs Q E hr h => ?_), FunD.bindsN F fun _ _ _ _ _ _ us hl => match us, hl with | [_, _], _ => rfl⟩
  · rcases h with h | ⟨x, a, b, v, t, rfl, _⟩
    · exact spCmp_len h
    · rfl
  · refine ⟨_, PSs.nox (pss_cons (ps_if (pt_not (pt_val (pe_call GN hr rfl W.g_is_number kN bN .nil pass0 (pa_cons (pv 1) pa_nil)))) (pss_one (ps_ret pe_bl)) pss_nil)
      (pss_one (ps_ret (pe_cmpR op_eq (pe_call GX hr rfl W.g_excess kX bX .nil pass0 (pa_cons (pv 0) (pa_cons (pv 1) pa_nil))) pe_int (nomark _))))), ?_⟩
    rcases h with ⟨x, v, a, b, c, d, rfl, hx, hv, hs, q⟩ | ⟨x, a, b, v, t, rfl, hx, ty, kn, q⟩
    · obtain ⟨t, bb, ty, kn, k, _, _⟩ := W.nuTy hv
      simp -dsimp [tSeq, tAsg, tRet, tIfS, tIf, tTest, tVar, tCons, tNil, tC, tOp, tUn, rI, rI0, rU, tCB, tLst_A, tTup_A, gName, L2.start, CMul, CPow, CDiv, tDrop, tBM, tBM0, tNext, tPar, gSub, rSetL, rIxL, rIxT, tChain, tB, tNot, tNotV, tAnd, tOr, tAndV, tOrV, tFld, tCall, rIxLH, rIxTH, atI, ixN, upd_same, cxK, ex2, ex3, ex3b, rIs1, rIs2, rNe2, tyN, kb1, kb2, kb3, kb4, kb5, kb6, rEq, rNe, scal, tMake_S, tMakeK_S, tMakeN_S]
      refine ⟨_, t, true, rfl, ty, kn, .inr ⟨rfl, _, _, a, b, c, d, rfl, hx, hv, hs, fun H' s' => ?_⟩⟩
      have e : decide (V.int (a * d - c * b) = V.int 0) = decide (a * d - c * b = 0) := by simp only [V.int.injEq]
      refine ⟨rfl, ?_⟩
      show Q (.bl (decide (V.int (a * d - c * b) = V.int 0))) H'
      rw [e]
      exact q H' s'
    · simp -dsimp [tSeq, tAsg, tRet, tIfS, tIf, tTest, tVar, tCons, tNil, tC, tOp, tUn, rI, rI0, rU, tCB, tLst_A, tTup_A, gName, L2.start, CMul, CPow, CDiv, tDrop, tBM, tBM0, tNext, tPar, gSub, rSetL, rIxL, rIxT, tChain, tB, tNot, tNotV, tAnd, tOr, tAndV, tOrV, tFld, tCall, rIxLH, rIxTH, atI, ixN, upd_same, cxK, ex2, ex3, ex3b, rIs1, rIs2, rNe2, tyN, kb1, kb2, kb3, kb4, kb5, kb6, rEq, rNe, scal, tMake_S, tMakeK_S, tMakeN_S]
      exact ⟨_, t, false, rfl, ty, kn, .inl ⟨rfl, q⟩⟩
end
/-! ### terms made -/
def tNo : TE := fun _ _ _ => False
theorem pe_no {X : Cx} {e : Expr} : PE X e tNo := ⟨fun _ _ _ _ _ _ h => h.elim⟩
def termO (C dx : Addr) (n t : V) : HO := .ins C dx [("number", n), ("times", t)]
section
variable {P : Program} {w : World} {K : PySem.W.Frag} {mg : Str → Option Value} {base : Heap}
theorem scTInit : FnScope ["self", "number", "times"] ["self", "number", "times"] d_Term_init.scope := ⟨rfl, rfl, rfl, by decide +kernel, rfl, by decide +kernel, by decide +kernel⟩
def spTInit (K : PySem.W.Frag) : Sp := fun vs H Q _ => ∃ (x dx : Addr) (n t : V), vs = [.ref x, n, t] ∧ H x = some (.ins (He.ga K "Term") dx []) ∧ Q .non (upd H x (termO (He.ga K "Term") dx n t))
theorem ok_tinit (W : Wd K mg) : ∃ fd, FnOk P w K mg base CX0 1 (He.ma K (He.ga K "Term") "__init__") fd ["self", "number", "times"] (spTInit K) ∧ Binds K fd ["self", "number", "times"] [] := by
  obtain ⟨fd, F⟩ := W.F_Term_init
  refine ⟨fd, F.ok scTInit (fun vs H Q E h => ?_) (fun cdv A outer s H vs Q E hr h => ?_), FunD.bindsN F fun _ _ _ _ _ _ us hl => match us, hl with | [_, _, _], _ => rfl⟩
  · obtain ⟨x, dx, n, t, rfl, _⟩ := h
    rfl
  · obtain ⟨x, dx, n, t, rfl, hx, q⟩ := h
    refine ⟨_, PSs.nox (pss_cons (ps_fld (pv 0) (pv 1) rfl) (pss_one (ps_fld (pv 0) (pv 2) rfl))), ?_⟩
    have pf : ∀ (u v : V), putF "times" v (putF "number" u []) = [(("number" : Str), u), (("times" : Str), v)] := fun u v => by
      show (if ("number" : Str) = "times" then [(("number" : Str), v)] else (("number" : Str), u) :: putF "times" v []) = _
      rw [if_neg (by decide +kernel)]
      rfl
    have pl : ∀ u : V, (putF "number" u []).length < 1000 := fun u => by
      show 1 < 1000
      decide
    simp -dsimp [tSeq, tAsg, tRet, tIfS, tIf, tTest, tVar, tCons, tNil, tC, tOp, tUn, rI, rI0, rU, tCB, tLst_A, tTup_A, gName, L2.start, CMul, CPow, CDiv, tDrop, tBM, tBM0, tNext, tPar, gSub, rSetL, rIxL, rIxT, tChain, tB, tNot, tNotV, tAnd, tOr, tAndV, tOrV, tFld, tCall, rIxLH, rIxTH, atI, ixN, upd_same, cxK, ex2, ex3, ex3b, rIs1, rIs2, rNe2, tyN, kb1, kb2, kb3, kb4, kb5, kb6, rEq, rNe, scal, tMake_S, tMakeK_S, tMakeN_S, sFld, hx, W.cls_Term, W.n_Term_number, W.n_Term_times, upd_upd, pf, pl]
    exact q
/-- a term is made of n and t -/
def MkT (K : PySem.W.Frag) (H : Hp) (vs : List V) (Q : V → Hp → Prop) (E : XK) (_ : Lk (Q, E) := ⟨⟩) : Prop :=
  ∀ x dx, H x = none → H dx = none → dx ≠ x → spTInit K (.ref x :: vs) (upd (upd H dx (.own x)) x (.ins (He.ga K "Term") dx [])) (fun v H2 => v = .non ∧ Q (.ref x) H2) E
theorem MkT.of {H : Hp} {vs : List V} {n t : V} {Q : V → Hp → Prop} {E : XK} (e : vs = [n, t]) (h : ∀ x dx H', H x = none → H' x = some (termO (He.ga K "Term") dx n t) → Same H H' → Q (.ref x) H') : MkT K H vs Q E := by
  intro x dx nx nd ne
  refine ⟨x, dx, n, t, by rw [e], upd_same, rfl, h x dx _ nx upd_same ?_⟩
  intro c o ec
  rw [upd_ne (ne_of_none ec nx), upd_ne (ne_of_none ec nx), upd_ne (ne_of_none ec nd)]
  exact ec
theorem tMake_T {E : XK} {t : TA} {σ : List (Option V)} {H : Hp} {Q : V → Hp → Prop} : tMake (He.ga K "Term") (spTInit K) [] E t σ H Q = t σ H fun vs H1 => MkT K H1 vs Q E := by
  show (t σ H fun vs H1 => MkT K H1 (vs ++ []) Q E) = _
  simp only [List.append_nil]
/-- a share: its two numbers as a pair -/
abbrev IsS (K : PySem.W.Frag) (H : Hp) (x : Addr) (p : Int × Int) : Prop := IsSh K H x p.1 p.2
/-- a term: its number and its multiples -/
def IsTm (K : PySem.W.Frag) (H : Hp) (x : Addr) (n t0 t1 t2 : Int × Int) : Prop := ∃ dx a tp a0 a1 a2, H x = some (termO (He.ga K "Term") dx (.ref a) (.ref tp)) ∧ IsS K H a n ∧ H tp = some (.tup [.ref a0, .ref a1, .ref a2]) ∧ IsS K H a0 t0 ∧ IsS K H a1 t1 ∧ IsS K H a2 t2
theorem IsTm.same {H H' : Hp} {x : Addr} {n t0 t1 t2 : Int × Int} (h : IsTm K H x n t0 t1 t2) (s : Same H H') : IsTm K H' x n t0 t1 t2 := by
  obtain ⟨dx, a, tp, a0, a1, a2, h1, h2, h3, h4, h5, h6⟩ := h
  exact ⟨dx, a, tp, a0, a1, a2, s _ _ h1, h2.same s, s _ _ h3, h4.same s, h5.same s, h6.same s⟩
theorem le3' : 3 ≤ sizeLine := by decide
theorem scConst : FnScope ["number"] ["number"] d_Term_constant.scope := ⟨rfl, rfl, rfl, by decide +kernel, rfl, by decide +kernel, by decide +kernel⟩
def spConst (K : PySem.W.Frag) : Sp := fun vs H Q _ => ∃ (v : V) (c d : Int), vs = [v] ∧ Nu K H v c d ∧ ∀ z H', Same H H' → IsTm K H' z (c, d) (0, 1) (0, 1) (0, 1) → Q (.ref z) H'
theorem zero_fd : (0 : Int).fdiv (side 0 1) = 0 ∧ (1 : Int).fdiv (side 0 1) = 1 := one_fd 0
theorem MkS.zero {H : Hp} {Q : V → Hp → Prop} {E : XK} (h : ∀ z H', Same H H' → IsSh K H' z 0 1 → Q (.ref z) H') : MkS K H [.int 0, .int 1] Q E := MkS.of rfl (by decide) (by decide +kernel) fun z H' _ i s' => h z H' s' (by
  rw [zero_fd.1, zero_fd.2] at i
  exact i)
theorem ok_const (W : Wd K mg) : ∃ fd, FnOk P w K mg base CX0 5 (He5.wf K (He.ga K "Term") "staticmethod" "constant") fd ["number"] (spConst K) ∧ Binds K fd ["number"] [] := by
  obtain ⟨fdH, GH, FH⟩ := ok_init (P := P) (w := w) (base := base) W
  obtain ⟨ds1, v1, b1⟩ := bind2 FH
  obtain ⟨fdO, GO, bO⟩ := ok_shareOf (P := P) (w := w) (base := base) W
  obtain ⟨fdT, GT, bT⟩ := ok_tinit (P := P) (w := w) (base := base) W
  have kO : PySem.W.keepIn K (.ref (He.ga K "share_of")) = true := by obtain ⟨fd, F⟩ := W.F_share_of; exact F.kp
  obtain ⟨fd, F⟩ := W.F_Term_constant
  refine ⟨fd, F.ok scConst (fun vs H Q E h => ?_) (fun cdv A outer s H vs Q E hr h => ?_), FunD.bindsN F fun _ _ _ _ _ _ us hl => match us, hl with | [_], _ => rfl⟩
  · obtain ⟨v, c, d, rfl, _⟩ := h
    rfl
  · obtain ⟨v, c, d, rfl, h, q⟩ := h
    have r3 : Room 3 _ := hr.mono (by decide)
    have r2 : Room 2 _ := hr.mono (by decide)
    refine ⟨_, PSs.nox (pss_one (ps_ret (pe_make W.mkr_Term GT r2 rfl W.g_Term bT .nil pass0 (pa_cons (pe_call GO hr rfl W.g_share_of kO bO .nil pass0 (pa_cons (pv 0) pa_nil))
      (pa_cons (pe_tup (pa_cons (pe_make W.mkr_Share GH r3 rfl W.g_Share b1 v1 pass0 (pa_cons pe_int pa_nil)) (pa_cons (pe_make W.mkr_Share GH r3 rfl W.g_Share b1 v1 pass0 (pa_cons pe_int pa_nil)) (pa_cons (pe_make W.mkr_Share GH r3 rfl W.g_Share b1 v1 pass0 (pa_cons pe_int pa_nil)) pa_nil)))) pa_nil))))), ?_⟩
    simp -dsimp [tSeq, tAsg, tRet, tIfS, tIf, tTest, tVar, tCons, tNil, tC, tOp, tUn, rI, rI0, rU, tCB, tLst_A, tTup_A, gName, L2.start, CMul, CPow, CDiv, tDrop, tBM, tBM0, tNext, tPar, gSub, rSetL, rIxL, rIxT, tChain, tB, tNot, tNotV, tAnd, tOr, tAndV, tOrV, tFld, tCall, rIxLH, rIxTH, atI, ixN, upd_same, cxK, ex2, ex3, ex3b, rIs1, rIs2, rNe2, tyN, kb1, kb2, kb3, kb4, kb5, kb6, rEq, rNe, scal, tMake_S, tMakeK_S, tMakeN_S, tMake_T]
    refine ⟨v, c, d, rfl, h, fun a H1 s1 i1 => ?_⟩
    refine MkS.zero fun a0 H2 s2 i2 => MkS.zero fun a1 H3 s3 i3 => MkS.zero fun a2 H4 s4 i4 => ⟨le3', Alloc.of fun tp H5 n5 e5 s5 => MkT.of rfl fun x dx H6 n6 e6 s6 => ?_⟩
    have s56 := s5.trans s6
    exact q x H6 ((((s1.trans s2).trans s3).trans s4).trans s56) ⟨dx, a, tp, a0, a1, a2, e6, i1.same (((s2.trans s3).trans s4).trans s56), s6 _ _ e5, i2.same ((s3.trans s4).trans s56), i3.same (s4.trans s56), i4.same s56⟩
theorem Wd.isTm (W : Wd K mg) {H : Hp} {x : Addr} {n t0 t1 t2 : Int × Int} (h : IsTm K H x n t0 t1 t2) : TyOf K H (.ref x) (.ref (He.ga K "Term")) := by
  obtain ⟨dx, a, tp, a0, a1, a2, h1, _⟩ := h
  exact .ins h1 W.cls_Term (He.eqO_ok (W.ex 5 rfl)) (He.eqO_ok (W.ex 1 rfl)) (of_decide_eq_true (W.ex 2 rfl)) (of_decide_eq_true (W.ex 6 rfl))
theorem scTEq : FnScope ["self", "other"] ["self", "other"] d_Term_eq.scope := ⟨rfl, rfl, rfl, by decide +kernel, rfl, by decide +kernel, by decide +kernel⟩
/-- term == x, x a thing that is no term -/
def spTEqNo (K : PySem.W.Frag) : Sp := fun vs H Q _ => ∃ (x : Addr) (v : V) (t : Value), vs = [.ref x, v] ∧ TyOf K H v t ∧ PySem.W.kitOne K t (.ref (He.ga K "Term")) = some false ∧ Q (.bl false) H
theorem ok_teqNo (W : Wd K mg) : ∃ fd, FnOk P w K mg base CX0 1 (He.ma K (He.ga K "Term") "__eq__") fd ["self", "other"] (spTEqNo K) ∧ Binds K fd ["self", "other"] [] := by
  obtain ⟨fd, F⟩ := W.F_Term_eq
  refine ⟨fd, F.ok scTEq (fun vs H Q E h => ?_) (fun cdv A outer s H vs Q E hr h => ?_), FunD.bindsN F fun _ _ _ _ _ _ us hl => match us, hl with | [_, _], _ => rfl⟩
  · obtain ⟨x, v, t, rfl, _⟩ := h
    rfl
  · obtain ⟨x, v, t, rfl, ty, k, q⟩ := h
    refine ⟨_, PSs.nox (pss_one (ps_ret (pe_and (pe_callB isi_G (by rfl) W.f_isinstance boot_isinstance (pa_cons (pv 1) (pa_cons (pe_glob (v := .ref (He.ga K "Term")) rfl W.g_Term rfl) pa_nil))) pe_no))), ?_⟩
    simp -dsimp [tSeq, tAsg, tRet, tIfS, tIf, tTest, tVar, tCons, tNil, tC, tOp, tUn, rI, rI0, rU, tCB, tLst_A, tTup_A, gName, L2.start, CMul, CPow, CDiv, tDrop, tBM, tBM0, tNext, tPar, gSub, rSetL, rIxL, rIxT, tChain, tB, tNot, tNotV, tAnd, tOr, tAndV, tOrV, tFld, tCall, rIxLH, rIxTH, atI, ixN, upd_same, cxK, ex2, ex3, ex3b, rIs1, rIs2, rNe2, tyN, kb1, kb2, kb3, kb4, kb5, kb6, rEq, rNe, scal, tMake_S, tMakeK_S, tMakeN_S, tNo]
    exact ⟨_, _, t, _, false, rfl, .own _, ty, k, rfl, q⟩
end
section
variable {P : Program} {w : World} {K : PySem.W.Frag} {mg : Str → Option Value} {base : Heap} {fd : FuncData}
def slash : Str := Str.ofString "/"
def shS (a b : Int) : Str := if b = 1 then numS a else numS a ++ slash ++ numS b
theorem small9 {n : Nat} (h : n ≤ 9000) : n ≤ sizeLine := Nat.le_trans h (by decide)
theorem empty_app (x : Str) : Str.empty ++ x = x := by
  refine PyProof.Rows.ext_toList ?_
  show TL.tl (Str.empty ++ x) = TL.tl x
  rw [TL.tl_append]
  rfl
theorem app_len (x y : Str) : (x ++ y).length = x.length + y.length := by
  show (TL.tl (x ++ y)).length = _
  rw [TL.tl_append, List.length_append]
  rfl
theorem scStr : FnScope ["self"] ["self"] d_Share_str.scope := ⟨rfl, rfl, rfl, by decide +kernel, rfl, by decide +kernel, by decide +kernel⟩
def spStr (K : PySem.W.Frag) : Sp := fun vs H Q _ => ∃ (x : Addr) (a b : Int), vs = [.ref x] ∧ IsSh K H x a b ∧ a.natAbs < 10 ^ 60 ∧ b.natAbs < 10 ^ 60 ∧ ∀ H', Same H H' → Q (.str (shS a b)) H'
theorem ok_str (W : Wd K mg) : ∃ fd, FnOk P w K mg base CX0 2 (He.ma K (He.ga K "Share") "__str__") fd ["self"] (spStr K) ∧ Binds K fd ["self"] [] := by
  obtain ⟨fdD, G, bG⟩ := ok_digits (P := P) (w := w) (base := base) W
  have kD : PySem.W.keepIn K (.ref (He.ga K "digits")) = true := by
    obtain ⟨fd, F⟩ := W.F_digits
    exact F.kp
  obtain ⟨fd, F⟩ := W.F_Share_str
  refine ⟨fd, F.ok scStr (fun vs H Q E h => ?_) (fun cdv A outer s H vs Q E hr h => ?_), FunD.bindsN F fun _ _ _ _ _ _ us hl => match us, hl with | [_], _ => rfl⟩
  · obtain ⟨x, a, b, rfl, _⟩ := h
    rfl
  · obtain ⟨x, a, b, rfl, hx, ha, hb, q⟩ := h
    obtain ⟨dx, hd⟩ := id hx
    refine ⟨_, PSs.nox (pss_cons (ps_if (pt_cmpR op_eq (pe_fld (pv 0) rfl) pe_int (nomark _)) (pss_one (ps_ret (pe_joined1 (pe_fmt (pe_call G hr rfl W.g_digits kD bG .nil pass0 (pa_cons (pe_fld (pv 0) rfl) pa_nil)))))) pss_nil)
      (pss_one (ps_ret (pe_joined (.cons (pe_fmt (pe_call G hr rfl W.g_digits kD bG .nil pass0 (pa_cons (pe_fld (pv 0) rfl) pa_nil))) (.cons pe_str (.cons (pe_fmt (pe_call G hr rfl W.g_digits kD bG .nil pass0 (pa_cons (pe_fld (pv 0) rfl) pa_nil))) .nil))))))), ?_⟩
    have ga := numS_len ha
    have gb := numS_len hb
    have l1 : slash.length = 1 := rfl
    by_cases h1 : b = 1
    · have e : shS a b = numS a := if_pos h1
      rw [e] at q
      simp -dsimp [tSeq, tAsg, tRet, tIfS, tIf, tTest, tVar, tCons, tNil, tC, tOp, tUn, rI, rI0, rU, tCB, tLst_A, tTup_A, gName, L2.start, CMul, CPow, CDiv, tDrop, tBM, tBM0, tNext, tPar, gSub, rSetL, rIxL, rIxT, tChain, tB, tNot, tNotV, tAnd, tOr, tAndV, tOrV, tFld, tCall, rIxLH, rIxTH, atI, ixN, upd_same, cxK, ex2, ex3, ex3b, rIs1, rIs2, rNe2, tyN, kb1, kb2, kb3, kb4, kb5, kb6, rEq, rNe, scal, tMake_S, tMakeK_S, tMakeN_S, hd, shareO, W.cls_Share, W.n_Share_top, W.n_Share_bottom, look_top, look_bot, h1, tFmt]
      exact ⟨a, rfl, ha, fun H' s' => .inl ⟨numS a, rfl, small9 (by omega), q H' s'⟩⟩
    · have e : shS a b = numS a ++ slash ++ numS b := if_neg h1
      rw [e] at q
      simp -dsimp [tSeq, tAsg, tRet, tIfS, tIf, tTest, tVar, tCons, tNil, tC, tOp, tUn, rI, rI0, rU, tCB, tLst_A, tTup_A, gName, L2.start, CMul, CPow, CDiv, tDrop, tBM, tBM0, tNext, tPar, gSub, rSetL, rIxL, rIxT, tChain, tB, tNot, tNotV, tAnd, tOr, tAndV, tOrV, tFld, tCall, rIxLH, rIxTH, atI, ixN, upd_same, cxK, ex2, ex3, ex3b, rIs1, rIs2, rNe2, tyN, kb1, kb2, kb3, kb4, kb5, kb6, rEq, rNe, scal, tMake_S, tMakeK_S, tMakeN_S, hd, shareO, W.cls_Share, W.n_Share_top, W.n_Share_bottom, look_top, look_bot, h1, tFmt, tJs]
      have l0 : (Str.empty ++ numS a).length = (numS a).length := by rw [empty_app]
      refine ⟨a, rfl, ha, fun H1 s1 => .inl ⟨numS a, rfl, small9 (by omega), small9 (by omega), small9 ?_, _, _, _, s1 _ _ hd, W.cls_Share, W.n_Share_bottom, _, rfl, b, rfl, hb, fun H2 s2 => .inl ⟨numS b, rfl, small9 (by omega), small9 ?_, ?_⟩⟩⟩
      · rw [app_len, empty_app]
        show (numS a).length + slash.length ≤ 9000
        omega
      · rw [app_len, app_len, empty_app]
        show (numS a).length + slash.length + (numS b).length ≤ 9000
        omega
      · rw [empty_app]
        exact q _ (s1.trans s2)
end
section
variable {P : Program} {w : World} {K : PySem.W.Frag} {mg : Str → Option Value} {base : Heap}
theorem scRatio : FnScope ["_law_draws", "_law_up", "_law_way", "_law_down"] ["_law_draws"] d_ratio.scope := ⟨rfl, rfl, rfl, by decide +kernel, rfl, by decide +kernel, by decide +kernel⟩
def spRatio (K : PySem.W.Frag) : Sp := fun vs H Q _ => ∃ (l : Addr) (d0 d1 d2 : Int), vs = [.ref l] ∧ H l = some (draws d0 d1 d2) ∧ ∀ (e0 e1 e2 : Int) (p : Addr) (H' : Hp) (v : V) (t : Addr) (c d : Int), Same (upd H l (draws e0 e1 e2)) H' →
  H' p = some (.tup [v, .ref t]) → H' t = some (.tup [.int c, .int d]) → Nu K H' v c d → Low c d → c.natAbs < 1000000000000 → d.natAbs < 1000000000000 → Q (.ref p) H'
theorem low_one (c : Int) : Low c 1 := ⟨by decide, Int.gcd_one⟩
theorem ok_ratio (W : Wd K mg) : ∃ fd, FnOk P w K mg base CX0 4 (He.ga K "_law_ratio") fd ["_law_draws"] (spRatio K) ∧ Binds K fd ["_law_draws"] [] := by
  obtain ⟨fdI, GI, bI⟩ := ok_integer (P := P) (w := w) (base := base) W
  obtain ⟨fdD, GD, bD⟩ := ok_draw (P := P) (w := w) (base := base) W
  obtain ⟨fdL, GL, bL⟩ := ok_lowest (P := P) (w := w) (base := base) W
  obtain ⟨fdH, GH, FH⟩ := ok_init (P := P) (w := w) (base := base) W
  have kI : PySem.W.keepIn K (.ref (He.ga K "_law_integer")) = true := by obtain ⟨fd, F⟩ := W.F_integer; exact F.kp
  have kD : PySem.W.keepIn K (.ref (He.ga K "_law_draw")) = true := by obtain ⟨fd, F⟩ := W.F_draw; exact F.kp
  have kL : PySem.W.keepIn K (.ref (He.ga K "_law_lowest")) = true := by obtain ⟨fd, F⟩ := W.F_lowest; exact F.kp
  obtain ⟨fd, F⟩ := W.F_ratio
  refine ⟨fd, F.ok scRatio (fun vs H Q E h => ?_) (fun cdv A outer s H vs Q E hr h => ?_), FunD.bindsN F fun _ _ _ _ _ _ us hl => match us, hl with | [_], _ => rfl⟩
  · obtain ⟨l, d0, d1, d2, rfl, _⟩ := h
    rfl
  · obtain ⟨l, d0, d1, d2, rfl, hl, q⟩ := h
    have r1 : Room 1 _ := hr.mono (by decide)
    have r2 : Room 2 _ := hr.mono (by decide)
    refine ⟨_, PSs.nox (pss_cons (ps_par (i := 1) (j := 2) rfl scRatio.nd rfl rfl (by decide) rfl rfl (pa_cons (pe_call GI r2 rfl W.g_law_integer kI bI .nil pass0 (pa_cons (pv 0) pa_nil)) (pa_cons (pe_call GD r1 rfl W.g_law_draw kD bD .nil pass0 (pa_cons (pv 0) (pa_cons pe_int pa_nil))) pa_nil)) rfl)
      (pss_cons (ps_if (pt_cmpR op_lt (pv 2) pe_int (nomark _)) (pss_one (ps_ret (pe_tup (pa_cons (pv 1) (pa_cons (pe_tup (pa_cons (pv 1) (pa_cons pe_int pa_nil))) pa_nil))))) pss_nil)
      (pss_cons (ps_set (i := 3) scRatio.nd rfl (Or.inl rfl) (pe_ifExp (pt_cmpR op_eq (pv 2) pe_int (nomark _)) (pe_op op_add pe_int (pe_call GD r1 rfl W.g_law_draw kD bD .nil pass0 (pa_cons (pv 0) (pa_cons pe_int pa_nil))))
        (pe_op op_sub (pe_un un_neg pe_int) (pe_call GD r1 rfl W.g_law_draw kD bD .nil pass0 (pa_cons (pv 0) (pa_cons (pe_op op_sub (pe_op op_pow pe_int pe_int) pe_int) pa_nil))))))
      (pss_one (ps_ret (pe_tup (pa_cons (pe_make W.mkr_Share GH hr rfl W.g_Share (bind3 FH) .nil pass0 (pa_cons (pv 1) (pa_cons (pv 3) pa_nil))) (pa_cons (pe_call GL r1 rfl W.g_law_lowest kL bL .nil pass0 (pa_cons (pv 1) (pa_cons (pv 3) pa_nil))) pa_nil)))))))), ?_⟩
    simp -dsimp [tSeq, tAsg, tRet, tIfS, tIf, tTest, tVar, tCons, tNil, tC, tOp, tUn, rI, rI0, rU, tCB, tLst_A, tTup_A, gName, L2.start, CMul, CPow, CDiv, tDrop, tBM, tBM0, tNext, tPar, gSub, rSetL, rIxL, rIxT, tChain, tB, tNot, tNotV, tAnd, tOr, tAndV, tOrV, tFld, tCall, rIxLH, rIxTH, atI, ixN, upd_same, cxK, ex2, ex3, ex3b, rIs1, rIs2, rNe2, tyN, kb1, kb2, kb3, kb4, kb5, kb6, rEq, rNe, scal, tMake_S, tMakeK_S, tMakeN_S]
    refine ⟨l, d0, d1, d2, rfl, hl, fun up f0 f1 f2 hup => ?_⟩
    refine ⟨l, f0, f1, f2, 4, rfl, upd_same, by decide, by decide, fun way g0 g1 g2 w0 w1 => ?_⟩
    rw [upd_upd]
    have fin : ∀ (dn k0 k1 k2 : Int), dn ≠ 0 → dn.natAbs < 1000000000000 → MkS K (upd H l (draws k0 k1 k2)) [.int up, .int dn] (fun x H1 => spLowest K [.int up, .int dn] H1 (fun y H2 => 2 ≤ sizeLine ∧ Alloc H2 (.tup [x, y]) Q) E0) E0 := by
      intro dn k0 k1 k2 n0 nb
      have bd : dn.natAbs < big9 := big_of (Nat.lt_trans nb (by decide))
      refine MkS.of rfl n0 bd fun x H1 n1 i1 s1 => ?_
      refine ⟨up, dn, rfl, n0, bd, fun t nt => ⟨le2, Alloc.of fun p H3 np hp s3 => ?_⟩⟩
      obtain ⟨sd1, sd2, sd3⟩ := side_facts up dn n0
      exact q k0 k1 k2 p H3 (.ref x) t _ _ ((s1.trans (same_upd nt)).trans s3) hp (s3 _ _ upd_same) (.inl ⟨x, rfl, (i1.same (same_upd nt)).same s3⟩) (low_lo n0)
        (Nat.lt_of_le_of_lt (fdiv_le sd1 sd3) hup) (Nat.lt_of_le_of_lt (fdiv_le sd2 sd3) nb)
    simp -dsimp [tSeq, tAsg, tRet, tIfS, tIf, tTest, tVar, tCons, tNil, tC, tOp, tUn, rI, rI0, rU, tCB, tLst_A, tTup_A, gName, L2.start, CMul, CPow, CDiv, tDrop, tBM, tBM0, tNext, tPar, gSub, rSetL, rIxL, rIxT, tChain, tB, tNot, tNotV, tAnd, tOr, tAndV, tOrV, tFld, tCall, rIxLH, rIxTH, atI, ixN, upd_same, cxK, ex2, ex3, ex3b, rIs1, rIs2, rNe2, tyN, kb1, kb2, kb3, kb4, kb5, kb6, rEq, rNe, scal, tMake_S, tMakeK_S, tMakeN_S]
    split
    · refine ⟨le2, Alloc.of fun t H1 n1 h1 s1 => ⟨le2, Alloc.of fun p H2 n2 h2 s2 => ?_⟩⟩
      exact q g0 g1 g2 p H2 (.int up) t up 1 (s1.trans s2) h2 (s2 _ _ h1) (.inr ⟨rfl, rfl⟩) (low_one up) hup (by decide)
    · split
      · refine ⟨l, g0, g1, g2, 12, rfl, upd_same, by decide, by decide, fun r k0 k1 k2 r0 r1' => ⟨_, rfl, ?_⟩⟩
        rw [upd_upd]
        exact fin _ _ _ _ (by omega) (by omega)
      · refine ⟨l, g0, g1, g2, 999999999999, rfl, upd_same, by decide, by decide, fun r k0 k1 k2 r0 r1' => ⟨_, rfl, ?_⟩⟩
        rw [upd_upd]
        exact fin _ _ _ _ (by omega) (by omega)
end
/-! ### the six comparisons -/
section
variable {P : Program} {w : World} {K : PySem.W.Frag} {mg : Str → Option Value} {base : Heap}
def spNum2 (K : PySem.W.Frag) (f : Int → Bool) : R2 := fun x y H Q => ∃ (a b c d : Int), Nu K H x a b ∧ Nu K H y c d ∧ Sm a b c d ∧ ((∃ z, x = .ref z) ∨ ∃ z, y = .ref z) ∧ ∀ H', Same H H' → Q (.bl (f (a * d - c * b))) H'
theorem sm_swap {a b c d : Int} (h : Sm a b c d) : Sm c d a b := ⟨h.2.2.1, h.2.2.2, h.1, h.2.1⟩
theorem sub_flip (a b c d : Int) : c * b - a * d = -(a * d - c * b) := by omega
section
variable {X : Cx} {fd : FuncData} {ps : List Str}
theorem op_num {op : CmpOp} {f g : Int → Bool} {af ag : Addr} (W : Wd X.K X.mg) (hc : ∀ a b, compareOp op a b = richCompare op a b) (dc : CmX.DcI op) (hfg : ∀ z, g (-z) = f z)
    (hs : PySem.W.findIn X.K (.ref (He.ga X.K "Share")) (cmpInfo op).2.1 = some (some (.ref af))) (hf : PySem.W.isFn X.K (.ref af) = true) (hs2 : PySem.W.findIn X.K (.ref (He.ga X.K "Share")) (cmpInfo op).2.2 = some (some (.ref ag))) (hg : PySem.W.isFn X.K (.ref ag) = true)
    (F : FnR X.prog X.w X.K X.mg X.base CX0 3 af (spCmp X.K f)) (G : FnR X.prog X.w X.K X.mg X.base CX0 3 ag (spCmp X.K g)) (hr : Room 3 X.A) (hu : X.A.units < cLine) : OpR X (compareOp op) (spNum2 X.K f) := by
  intro pins s σ H x y v u Q I rx ry h
  obtain ⟨a, b, c, d, hx, hy, sm, hz, q⟩ := h
  rcases hx with ⟨zx, rfl, ix⟩ | ⟨rfl, rfl⟩
  · obtain ⟨t, bb, ty, kn, k, bs, _⟩ := W.nuTy hy
    obtain ⟨dx, hd⟩ := id ix
    exact CmX.op_cmpL (E := E0) hc hs hf F hr hu pass0 pins s σ H _ y v u Q I rx ry ⟨zx, dx, _, t, rfl, hd, ty, bs, zx, y, a, b, c, d, rfl, ix, hy, sm, q⟩
  · obtain ⟨zy, rfl⟩ : ∃ z, y = .ref z := by
      rcases hz with ⟨z, e⟩ | e
      · cases e
      · exact e
    have iy : IsSh X.K H zy c d := by
      rcases hy with ⟨z, e, i⟩ | ⟨e, _⟩
      · cases e
        exact i
      · cases e
    obtain ⟨dy, hd⟩ := id iy
    refine CmX.op_cmpI (E := E0) hc W.cmp dc hs2 hg G hr hu pass0 pins s σ H _ _ v u Q I rx ry ⟨a, zy, dy, _, rfl, rfl, hd, zy, .int a, c, d, a, 1, rfl, iy, .inr ⟨rfl, rfl⟩, sm_swap sm, fun H' s' => ?_⟩
    have e := hfg (a * d - c * 1)
    rw [← sub_flip] at e
    rw [e]
    exact q H' s'
end
theorem raw0 {CX : CXT} {k : Nat} {f : Addr} {fd : FuncData} {ps : List Str} {sp : Sp} (F : FnOk P w K mg base CX k f fd ps sp) (hb : Binds K fd ps []) : FnR P w K mg base CX k f sp :=
  (FnOk.raw F hb .nil).imp fun vs H Q E h => by
    rw [List.append_nil]
    exact h
theorem Wd.opLt {X : Cx} (W : Wd X.K X.mg) (hr : Room 3 X.A) : OpR X (compareOp .Lt) (spNum2 X.K fun z => decide (z < 0)) := by
  obtain ⟨f1, G1, b1⟩ := ok_lt (P := X.prog) (w := X.w) (base := X.base) W
  obtain ⟨f2, G2, b2⟩ := ok_gt (P := X.prog) (w := X.w) (base := X.base) W
  exact op_num (f := fun z => decide (z < 0)) (g := fun z => decide (0 < z)) W (fun _ _ => rfl) CmX.dc_lt (fun z => by
    have e : (0 < -z) = (z < 0) := propext ⟨fun h => by omega, fun h => by omega⟩
    simp only [e]) W.m_Share_lt.at_ W.m_Share_lt.fn W.m_Share_gt.at_ W.m_Share_gt.fn (raw0 G1 b1) (raw0 G2 b2) hr hr.units0
theorem Wd.opLe {X : Cx} (W : Wd X.K X.mg) (hr : Room 3 X.A) : OpR X (compareOp .LtE) (spNum2 X.K fun z => decide (z ≤ 0)) := by
  obtain ⟨f1, G1, b1⟩ := ok_le (P := X.prog) (w := X.w) (base := X.base) W
  obtain ⟨f2, G2, b2⟩ := ok_ge (P := X.prog) (w := X.w) (base := X.base) W
  exact op_num (f := fun z => decide (z ≤ 0)) (g := fun z => decide (0 ≤ z)) W (fun _ _ => rfl) CmX.dc_le (fun z => by
    have e : (0 ≤ -z) = (z ≤ 0) := propext ⟨fun h => by omega, fun h => by omega⟩
    simp only [e]) W.m_Share_le.at_ W.m_Share_le.fn W.m_Share_ge.at_ W.m_Share_ge.fn (raw0 G1 b1) (raw0 G2 b2) hr hr.units0
theorem Wd.opGt {X : Cx} (W : Wd X.K X.mg) (hr : Room 3 X.A) : OpR X (compareOp .Gt) (spNum2 X.K fun z => decide (0 < z)) := by
  obtain ⟨f1, G1, b1⟩ := ok_gt (P := X.prog) (w := X.w) (base := X.base) W
  obtain ⟨f2, G2, b2⟩ := ok_lt (P := X.prog) (w := X.w) (base := X.base) W
  exact op_num (f := fun z => decide (0 < z)) (g := fun z => decide (z < 0)) W (fun _ _ => rfl) CmX.dc_gt (fun z => by
    have e : (-z < 0) = (0 < z) := propext ⟨fun h => by omega, fun h => by omega⟩
    simp only [e]) W.m_Share_gt.at_ W.m_Share_gt.fn W.m_Share_lt.at_ W.m_Share_lt.fn (raw0 G1 b1) (raw0 G2 b2) hr hr.units0
theorem Wd.opGe {X : Cx} (W : Wd X.K X.mg) (hr : Room 3 X.A) : OpR X (compareOp .GtE) (spNum2 X.K fun z => decide (0 ≤ z)) := by
  obtain ⟨f1, G1, b1⟩ := ok_ge (P := X.prog) (w := X.w) (base := X.base) W
  obtain ⟨f2, G2, b2⟩ := ok_le (P := X.prog) (w := X.w) (base := X.base) W
  exact op_num (f := fun z => decide (0 ≤ z)) (g := fun z => decide (z ≤ 0)) W (fun _ _ => rfl) CmX.dc_ge (fun z => by
    have e : (-z ≤ 0) = (0 ≤ z) := propext ⟨fun h => by omega, fun h => by omega⟩
    simp only [e]) W.m_Share_ge.at_ W.m_Share_ge.fn W.m_Share_le.at_ W.m_Share_le.fn (raw0 G1 b1) (raw0 G2 b2) hr hr.units0
theorem Wd.opEq {X : Cx} (W : Wd X.K X.mg) (hr : Room 3 X.A) : OpR X (compareOp .Eq) (spNum2 X.K fun z => decide (z = 0)) := by
  obtain ⟨f1, G1, b1⟩ := ok_eq (P := X.prog) (w := X.w) (base := X.base) W
  have G := (raw0 G1 b1).imp (sp' := spCmp X.K fun z => decide (z = 0)) fun vs H Q E h => .inl h
  exact op_num (f := fun z => decide (z = 0)) (g := fun z => decide (z = 0)) W (fun _ _ => rfl) CmX.dc_eq (fun z => by
    have e : (-z = 0) = (z = 0) := propext ⟨fun h => by omega, fun h => by omega⟩
    simp only [e]) W.m_Share_eq.at_ W.m_Share_eq.fn W.m_Share_eq.at_ W.m_Share_eq.fn G G hr hr.units0
theorem Wd.opNe {X : Cx} (W : Wd X.K X.mg) (hr : Room 4 X.A) : OpR X (compareOp .NotEq) (spNum2 X.K fun z => !decide (z = 0)) := by
  obtain ⟨f1, G1, b1⟩ := ok_eq (P := X.prog) (w := X.w) (base := X.base) W
  have G := (raw0 G1 b1).imp (sp' := spCmp X.K fun z => decide (z = 0)) fun vs H Q E h => .inl h
  intro pins s σ H x y v u Q I rx ry h
  obtain ⟨a, b, c, d, hx, hy, sm, hz, q⟩ := h
  rcases hx with ⟨zx, rfl, ix⟩ | ⟨rfl, rfl⟩
  · obtain ⟨t, bb, ty, kn, k, bs, _⟩ := W.nuTy hy
    obtain ⟨dx, hd⟩ := id ix
    exact CmX.op_neL (E := E0) W.cmp W.m_Share_eq.at_ W.m_Share_eq.fn G hr (hu_of hr) pass0 pins s σ H _ y v u Q I rx ry ⟨zx, dx, _, t, rfl, hd, ty, bs, zx, y, a, b, c, d, rfl, ix, hy, sm, fun H' s' => ⟨_, rfl, q H' s'⟩⟩
  · obtain ⟨zy, rfl⟩ : ∃ z, y = .ref z := by
      rcases hz with ⟨z, e⟩ | e
      · cases e
      · exact e
    have iy : IsSh X.K H zy c d := by
      rcases hy with ⟨z, e, i⟩ | ⟨e, _⟩
      · cases e
        exact i
      · cases e
    obtain ⟨dy, hd⟩ := id iy
    refine CmX.op_neI (E := E0) W.cmp W.m_Share_eq.at_ W.m_Share_eq.fn G hr (hu_of hr) pass0 pins s σ H _ _ v u Q I rx ry ⟨a, zy, dy, _, rfl, rfl, hd, zy, .int a, c, d, a, 1, rfl, iy, .inr ⟨rfl, rfl⟩, sm_swap sm, fun H' s' => ⟨_, rfl, ?_⟩⟩
    have e : decide (c * 1 - a * d = 0) = decide (a * d - c * 1 = 0) := by
      have e : (c * 1 - a * d = 0) = (a * d - c * 1 = 0) := propext ⟨fun h => by omega, fun h => by omega⟩
      simp only [e]
    show Q (.bl !decide (c * 1 - a * d = 0)) H'
    rw [e]
    exact q H' s'
/-! six, due -/
def sixV (z : Int) : List V := [.bl (decide (z < 0)), .bl (decide (z ≤ 0)), .bl (decide (0 < z)), .bl (decide (0 ≤ z)), .bl (decide (z = 0)), .bl (!decide (z = 0))]
theorem scSix : FnScope ["_law_one", "_law_two"] ["_law_one", "_law_two"] d_six.scope := ⟨rfl, rfl, rfl, by decide +kernel, rfl, by decide +kernel, by decide +kernel⟩
def spSix (K : PySem.W.Frag) : Sp := fun vs H Q _ => ∃ (x y : V) (a b c d : Int), vs = [x, y] ∧ Nu K H x a b ∧ Nu K H y c d ∧ Sm a b c d ∧ ((∃ z, x = .ref z) ∨ ∃ z, y = .ref z) ∧ ∀ p H', H' p = some (.lst (sixV (a * d - c * b))) → Same H H' → Q (.ref p) H'
theorem le6 : 6 ≤ sizeLine := by decide
theorem ok_six (W : Wd K mg) : ∃ fd, FnOk P w K mg base CX0 5 (He.ga K "_law_six") fd ["_law_one", "_law_two"] (spSix K) ∧ Binds K fd ["_law_one", "_law_two"] [] := by
  obtain ⟨fd, F⟩ := W.F_six
  refine ⟨fd, F.ok scSix (fun vs H Q E h => ?_) (fun cdv A outer s H vs Q E hr h => ?_), FunD.bindsN F fun _ _ _ _ _ _ us hl => match us, hl with | [_, _], _ => rfl⟩
  · obtain ⟨x, y, a, b, c, d, rfl, _⟩ := h
    rfl
  · obtain ⟨x, y, a, b, c, d, rfl, hx, hy, sm, hz, q⟩ := h
    have r3 : Room 3 _ := hr.mono (by decide)
    refine ⟨_, PSs.nox (pss_one (ps_ret (pe_lst (pa_cons (pe_cmpR (W.opLt r3) (pv 0) (pv 1) (nomark _)) (pa_cons (pe_cmpR (W.opLe r3) (pv 0) (pv 1) (nomark _)) (pa_cons (pe_cmpR (W.opGt r3) (pv 0) (pv 1) (nomark _)) (pa_cons (pe_cmpR (W.opGe r3) (pv 0) (pv 1) (nomark _))
      (pa_cons (pe_cmpR (W.opEq r3) (pv 0) (pv 1) (nomark _)) (pa_cons (pe_cmpR (W.opNe hr) (pv 0) (pv 1) (nomark _)) pa_nil))))))))), ?_⟩
    simp -dsimp [tSeq, tAsg, tRet, tIfS, tIf, tTest, tVar, tCons, tNil, tC, tOp, tUn, rI, rI0, rU, tCB, tLst_A, tTup_A, gName, L2.start, CMul, CPow, CDiv, tDrop, tBM, tBM0, tNext, tPar, gSub, rSetL, rIxL, rIxT, tChain, tB, tNot, tNotV, tAnd, tOr, tAndV, tOrV, tFld, tCall, rIxLH, rIxTH, atI, ixN, upd_same, cxK, ex2, ex3, ex3b, rIs1, rIs2, rNe2, tyN, kb1, kb2, kb3, kb4, kb5, kb6, rEq, rNe, scal, tMake_S, tMakeK_S, tMakeN_S]
    refine ⟨a, b, c, d, hx, hy, sm, hz, fun H1 s1 => ⟨a, b, c, d, hx.same s1, hy.same s1, sm, hz, fun H2 s2 => ?_⟩⟩
    have s12 := s1.trans s2
    refine ⟨a, b, c, d, hx.same s12, hy.same s12, sm, hz, fun H3 s3 => ?_⟩
    have s13 := s12.trans s3
    refine ⟨a, b, c, d, hx.same s13, hy.same s13, sm, hz, fun H4 s4 => ?_⟩
    have s14 := s13.trans s4
    refine ⟨a, b, c, d, hx.same s14, hy.same s14, sm, hz, fun H5 s5 => ?_⟩
    have s15 := s14.trans s5
    refine ⟨a, b, c, d, hx.same s15, hy.same s15, sm, hz, fun H6 s6 => ⟨le6, ?_⟩⟩
    exact Alloc.of fun p H7 n7 e7 s7 => q p H7 e7 ((s15.trans s6).trans s7)
end
theorem kb7 : kitB "bool" "list" = some false := by decide +kernel
theorem kb8 : kitB "bool" "tuple" = some false := by decide +kernel
theorem kb9 : kitB "bool" "bool" = some true := by decide +kernel
theorem kb10 : kitB "bool" "int" = some true := by decide +kernel
theorem kb11 : kitB "list" "list" = some true := by decide +kernel
theorem kb12 : kitB "list" "tuple" = some false := by decide +kernel
section
variable {P : Program} {w : World} {K : PySem.W.Frag} {mg : Str → Option Value} {base : Heap}
def spSameB (K : PySem.W.Frag) : Sp := fun vs H Q _ => ∃ (i : Bool), vs = [.bl i, .bl i] ∧ ∀ H', Same H H' → Q (.bl true) H'
theorem ok_sameB (W : Wd K mg) : ∃ fd, FnOk P w K mg base CX0 1 (He.ga K "_law_same") fd ["_law_found", "_law_due_here"] (spSameB K) ∧ Binds K fd ["_law_found", "_law_due_here"] [] := by
  obtain ⟨fd, F⟩ := W.F_same
  refine ⟨fd, F.ok scSame (fun vs H Q E h => ?_) (fun cdv A outer s H vs Q E hr h => ?_), FunD.bindsN F fun _ _ _ _ _ _ us hl => match us, hl with | [_, _], _ => rfl⟩
  · obtain ⟨i, rfl, _⟩ := h
    rfl
  · obtain ⟨i, rfl, q⟩ := h
    refine ⟨_, PSs.nox (pss_cons (ps_set (i := 2) scSame.nd rfl (Or.inl rfl) (pe_lst (pa_cons (pe_callB isi_1 (by rfl) W.f_isinstance boot_isinstance (pa_cons (pv 0) (pa_cons (pe_bltn (v := .ty "list") (by rfl) W.f_list (by decide +kernel) rfl) pa_nil))) (pa_cons (pe_callB isi_1 (by rfl) W.f_isinstance boot_isinstance (pa_cons (pv 0) (pa_cons (pe_bltn (v := .ty "tuple") (by rfl) W.f_tuple (by decide +kernel) rfl) pa_nil))) pa_nil))))
      (pss_cons (ps_if (pt_val (pe_callB isi_2 (by rfl) W.f_isinstance boot_isinstance (pa_cons (pv 1) (pa_cons (pe_tup (pa_cons (pe_bltn (v := .ty "list") (by rfl) W.f_list (by decide +kernel) rfl) (pa_cons (pe_bltn (v := .ty "tuple") (by rfl) W.f_tuple (by decide +kernel) rfl) pa_nil))) pa_nil)))) pss_never pss_nil)
      (pss_cons (ps_if (pt_val (pe_callB isi_2 (by rfl) W.f_isinstance boot_isinstance (pa_cons (pv 1) (pa_cons (pe_tup (pa_cons (pe_bltn (v := .ty "bool") (by rfl) W.f_bool (by decide +kernel) rfl) (pa_cons (pe_bltn (v := .ty "int") (by rfl) W.f_int (by decide +kernel) rfl) pa_nil))) pa_nil))))
        (pss_one (ps_ret (pe_and (pe_callB isi_1 (by rfl) W.f_isinstance boot_isinstance (pa_cons (pv 0) (pa_cons (pe_bltn (v := .ty "int") (by rfl) W.f_int (by decide +kernel) rfl) pa_nil)))
          (pe_and (pe_cmpR op_eq (pe_callB isi_1 (by rfl) W.f_isinstance boot_isinstance (pa_cons (pv 0) (pa_cons (pe_bltn (v := .ty "bool") (by rfl) W.f_bool (by decide +kernel) rfl) pa_nil))) (pe_callB isi_1 (by rfl) W.f_isinstance boot_isinstance (pa_cons (pv 1) (pa_cons (pe_bltn (v := .ty "bool") (by rfl) W.f_bool (by decide +kernel) rfl) pa_nil))) (nomark _))
          (pe_one (pe_cmpR op_eq (pv 0) (pv 1) (nomark _))))))) pss_nil)
      pss_never))), ?_⟩
    simp -dsimp [tSeq, tAsg, tRet, tIfS, tIf, tTest, tVar, tCons, tNil, tC, tOp, tUn, rI, rI0, rU, tCB, tLst_A, tTup_A, gName, L2.start, CMul, CPow, CDiv, tDrop, tBM, tBM0, tNext, tPar, gSub, rSetL, rIxL, rIxT, tChain, tB, tNot, tNotV, tAnd, tOr, tAndV, tOrV, tFld, tCall, rIxLH, rIxTH, atI, ixN, upd_same, cxK, ex2, ex3, ex3b, rIs1, rIs2, rNe2, tyN, kb1, kb2, kb3, kb4, kb5, kb6, rEq, rNe, scal, tMake_S, tMakeK_S, tMakeN_S, kb7, kb8, kb9, kb10]
    refine ⟨le2, Alloc.of fun p1 H1 n1 e1 s1 => ?_⟩
    try simp -dsimp [tSeq, tAsg, tRet, tIfS, tIf, tTest, tVar, tCons, tNil, tC, tOp, tUn, rI, rI0, rU, tCB, tLst_A, tTup_A, gName, L2.start, CMul, CPow, CDiv, tDrop, tBM, tBM0, tNext, tPar, gSub, rSetL, rIxL, rIxT, tChain, tB, tNot, tNotV, tAnd, tOr, tAndV, tOrV, tFld, tCall, rIxLH, rIxTH, atI, ixN, upd_same, cxK, ex2, ex3, ex3b, rIs1, rIs2, rNe2, tyN, kb1, kb2, kb3, kb4, kb5, kb6, rEq, rNe, scal, tMake_S, tMakeK_S, tMakeN_S, kb7, kb8, kb9, kb10]
    refine ⟨le2, Alloc.of fun p2 H2 n2 e2 s2 => ?_⟩
    simp -dsimp [tSeq, tAsg, tRet, tIfS, tIf, tTest, tVar, tCons, tNil, tC, tOp, tUn, rI, rI0, rU, tCB, tLst_A, tTup_A, gName, L2.start, CMul, CPow, CDiv, tDrop, tBM, tBM0, tNext, tPar, gSub, rSetL, rIxL, rIxT, tChain, tB, tNot, tNotV, tAnd, tOr, tAndV, tOrV, tFld, tCall, rIxLH, rIxTH, atI, ixN, upd_same, cxK, ex2, ex3, ex3b, rIs1, rIs2, rNe2, tyN, kb1, kb2, kb3, kb4, kb5, kb6, rEq, rNe, scal, tMake_S, tMakeK_S, tMakeN_S, kb7, kb8, kb9, kb10, e2]
    refine ⟨le2, Alloc.of fun p3 H3 n3 e3 s3 => ?_⟩
    simp -dsimp [tSeq, tAsg, tRet, tIfS, tIf, tTest, tVar, tCons, tNil, tC, tOp, tUn, rI, rI0, rU, tCB, tLst_A, tTup_A, gName, L2.start, CMul, CPow, CDiv, tDrop, tBM, tBM0, tNext, tPar, gSub, rSetL, rIxL, rIxT, tChain, tB, tNot, tNotV, tAnd, tOr, tAndV, tOrV, tFld, tCall, rIxLH, rIxTH, atI, ixN, upd_same, cxK, ex2, ex3, ex3b, rIs1, rIs2, rNe2, tyN, kb1, kb2, kb3, kb4, kb5, kb6, rEq, rNe, scal, tMake_S, tMakeK_S, tMakeN_S, kb7, kb8, kb9, kb10, e3]
    exact q _ ((s1.trans s2).trans s3)
end
section
variable {P : Program} {w : World} {K : PySem.W.Frag} {mg : Str → Option Value} {base : Heap}
def spSameL (K : PySem.W.Frag) : Sp := fun vs H Q _ => ∃ (p q : Addr) (bs : List Bool), vs = [.ref p, .ref q] ∧ H p = some (.lst (bs.map V.bl)) ∧ H q = some (.lst (bs.map V.bl)) ∧ bs.length ≤ 100 ∧ ∀ H', Same H H' → Q (.bl true) H'
theorem ok_sameL (W : Wd K mg) : ∃ fd, FnOk P w K mg base CX0 2 (He.ga K "_law_same") fd ["_law_found", "_law_due_here"] (spSameL K) ∧ Binds K fd ["_law_found", "_law_due_here"] [] := by
  obtain ⟨fdI, GI, bI⟩ := ok_sameB (P := P) (w := w) (base := base) W
  obtain ⟨fd, F⟩ := W.F_same
  refine ⟨fd, F.ok scSame (fun vs H Q E h => ?_) (fun cdv A outer s H vs Q E hr h => ?_), FunD.bindsN F fun _ _ _ _ _ _ us hl => match us, hl with | [_, _], _ => rfl⟩
  · obtain ⟨p, q, bs, rfl, _⟩ := h
    rfl
  · obtain ⟨p, q, bs, rfl, hp, hq, hb, k⟩ := h
    refine ⟨_, PSs.nox (pss_cons (ps_set (i := 2) scSame.nd rfl (Or.inl rfl) (pe_lst (pa_cons (pe_callB isi_1 (by rfl) W.f_isinstance boot_isinstance (pa_cons (pv 0) (pa_cons (pe_bltn (v := .ty "list") (by rfl) W.f_list (by decide +kernel) rfl) pa_nil))) (pa_cons (pe_callB isi_1 (by rfl) W.f_isinstance boot_isinstance (pa_cons (pv 0) (pa_cons (pe_bltn (v := .ty "tuple") (by rfl) W.f_tuple (by decide +kernel) rfl) pa_nil))) pa_nil))))
      (pss_cons (ps_if (pt_val (pe_callB isi_2 (by rfl) W.f_isinstance boot_isinstance (pa_cons (pv 1) (pa_cons (pe_tup (pa_cons (pe_bltn (v := .ty "list") (by rfl) W.f_list (by decide +kernel) rfl) (pa_cons (pe_bltn (v := .ty "tuple") (by rfl) W.f_tuple (by decide +kernel) rfl) pa_nil))) pa_nil))))
        (pss_cons (ps_if (PW.pt (pw_or (pt_cmpR (op_ne2 hr.units) (pv 2) (pe_lst (pa_cons (pe_callB isi_1 (by rfl) W.f_isinstance boot_isinstance (pa_cons (pv 1) (pa_cons (pe_bltn (v := .ty "list") (by rfl) W.f_list (by decide +kernel) rfl) pa_nil))) (pa_cons (pe_callB isi_1 (by rfl) W.f_isinstance boot_isinstance (pa_cons (pv 1) (pa_cons (pe_bltn (v := .ty "tuple") (by rfl) W.f_tuple (by decide +kernel) rfl) pa_nil))) pa_nil))) (nomark _))
            (pw_or1 (pt_cmpR op_ne (pe_callB len_lstH (by rfl) W.f_len boot_len (pa_cons (pv 0) pa_nil)) (pe_callB len_lstH (by rfl) W.f_len boot_len (pa_cons (pv 1) pa_nil)) (nomark _))))) (pss_one (ps_ret pe_bl)) pss_nil)
        (pss_one (ps_ret (pe_callB (cr_all rfl) (by rfl) W.f_all boot_all (pa_cons
          (pe_lc (own := [("_law_left", 3), ("_law_right", 4)]) (g := gTup K 2 (gCons (gName 3) (gCons (gName 4) gNil))) (tt := tYes) rfl scSame.nd (RZ.pi_zipA (by rfl) W.f_zip (pa_cons (pv 0) (pa_cons (pv 1) pa_nil))) (blkOk_by (N := ["_law_found", "_law_due_here", "_law_kinds", "_law_left", "_law_right"]) (sc := defScope s_same) (by decide +kernel))
            (fun _ _ _ _ _ => pg_tup rfl (pgs_cons (pg_name (i := 3) scSame.nd rfl (Or.inl rfl)) (pgs_cons (pg_name (i := 4) scSame.nd rfl (Or.inl rfl)) pgs_nil))) (fun _ _ _ _ _ => pts_nil)
            (fun _ _ _ _ _ => pe_call GI hr rfl W.g_law_same F.kp bI .nil pass0 (pa_cons (pv 3) (pa_cons (pv 4) pa_nil)))) pa_nil))))) pss_nil)
      pss_never)), ?_⟩
    simp -dsimp [tSeq, tAsg, tRet, tIfS, tIf, tTest, tVar, tCons, tNil, tC, tOp, tUn, rI, rI0, rU, tCB, tLst_A, tTup_A, gName, L2.start, CMul, CPow, CDiv, tDrop, tBM, tBM0, tNext, tPar, gSub, rSetL, rIxL, rIxT, tChain, tB, tNot, tNotV, tAnd, tOr, tAndV, tOrV, tFld, tCall, rIxLH, rIxTH, atI, ixN, upd_same, cxK, ex2, ex3, ex3b, rIs1, rIs2, rNe2, tyN, kb1, kb2, kb3, kb4, kb5, kb6, rEq, rNe, scal, tMake_S, tMakeK_S, tMakeN_S, kb11, kb12, hp, hq]
    refine ⟨le2, Alloc.of fun p1 H1 n1 e1 s1 => ?_⟩
    have hp1 := s1 _ _ hp
    have hq1 := s1 _ _ hq
    try simp -dsimp [tSeq, tAsg, tRet, tIfS, tIf, tTest, tVar, tCons, tNil, tC, tOp, tUn, rI, rI0, rU, tCB, tLst_A, tTup_A, gName, L2.start, CMul, CPow, CDiv, tDrop, tBM, tBM0, tNext, tPar, gSub, rSetL, rIxL, rIxT, tChain, tB, tNot, tNotV, tAnd, tOr, tAndV, tOrV, tFld, tCall, rIxLH, rIxTH, atI, ixN, upd_same, cxK, ex2, ex3, ex3b, rIs1, rIs2, rNe2, tyN, kb1, kb2, kb3, kb4, kb5, kb6, rEq, rNe, scal, tMake_S, tMakeK_S, tMakeN_S]
    refine ⟨le2, Alloc.of fun p2 H2 n2 e2 s2 => ?_⟩
    have hp2 := s2 _ _ hp1
    have hq2 := s2 _ _ hq1
    have e12 := s2 _ _ e1
    simp -dsimp [tSeq, tAsg, tRet, tIfS, tIf, tTest, tVar, tCons, tNil, tC, tOp, tUn, rI, rI0, rU, tCB, tLst_A, tTup_A, gName, L2.start, CMul, CPow, CDiv, tDrop, tBM, tBM0, tNext, tPar, gSub, rSetL, rIxL, rIxT, tChain, tB, tNot, tNotV, tAnd, tOr, tAndV, tOrV, tFld, tCall, rIxLH, rIxTH, atI, ixN, upd_same, cxK, ex2, ex3, ex3b, rIs1, rIs2, rNe2, tyN, kb1, kb2, kb3, kb4, kb5, kb6, rEq, rNe, scal, tMake_S, tMakeK_S, tMakeN_S, kb11, kb12, e2, hp2, hq2]
    refine ⟨le2, Alloc.of fun p3 H3 n3 e3 s3 => ?_⟩
    have hp3 := s3 _ _ hp2
    have hq3 := s3 _ _ hq2
    have e13 := s3 _ _ e12
    simp -dsimp [tSeq, tAsg, tRet, tIfS, tIf, tTest, tVar, tCons, tNil, tC, tOp, tUn, rI, rI0, rU, tCB, tLst_A, tTup_A, gName, L2.start, CMul, CPow, CDiv, tDrop, tBM, tBM0, tNext, tPar, gSub, rSetL, rIxL, rIxT, tChain, tB, tNot, tNotV, tAnd, tOr, tAndV, tOrV, tFld, tCall, rIxLH, rIxTH, atI, ixN, upd_same, cxK, ex2, ex3, ex3b, rIs1, rIs2, rNe2, tyN, kb1, kb2, kb3, kb4, kb5, kb6, rEq, rNe, scal, tMake_S, tMakeK_S, tMakeN_S, kb11, kb12, e3, hp3, hq3, e13]
    refine ⟨_, rfl, _, rfl, p, q, _, _, rfl, .inl ⟨SqL.of hp3, SqL.of hq3, fun D hD => ?_⟩⟩
    have nD : ∀ {b : Addr} {o : HO}, H3 b = some o → b ≠ D := fun e => ne_of_none e hD
    refine lc_it (walk_zip (xs := bs.map V.bl) (ys := bs.map V.bl) (n := bs.length) (by simp -dsimp [tSeq, tAsg, tRet, tIfS, tIf, tTest, tVar, tCons, tNil, tC, tOp, tUn, rI, rI0, rU, tCB, tLst_A, tTup_A, gName, L2.start, CMul, CPow, CDiv, tDrop, tBM, tBM0, tNext, tPar, gSub, rSetL, rIxL, rIxT, tChain, tB, tNot, tNotV, tAnd, tOr, tAndV, tOrV, tFld, tCall, rIxLH, rIxTH, atI, ixN, upd_same, cxK, ex2, ex3, ex3b, rIs1, rIs2, rNe2, tyN, kb1, kb2, kb3, kb4, kb5, kb6, rEq, rNe, scal, tMake_S, tMakeK_S, tMakeN_S])) (fun i H' => Same H3 H' ∧ H' D = some (.lst (List.replicate i (.bl true)))) ⟨same_upd hD, upd_same⟩ (fun i H' _ h => ⟨SqL.of (h.1 _ _ hp3), SqL.of (h.1 _ _ hq3)⟩) ?_ ?_
    · rintro i x H' H'' hi ⟨sm, hD'⟩ ⟨T, x', y', rfl, hT, rfl, fx, fy⟩
      have hz : ∃ z : Bool, x' = .bl z ∧ y' = .bl z := by
        have fx : (List.map V.bl bs)[i]? = some x' := fx
        have fy : (List.map V.bl bs)[i]? = some y' := fy
        rw [List.getElem?_map, List.getElem?_eq_getElem hi] at fx fy
        exact ⟨bs[i], (Option.some.inj fx).symm, (Option.some.inj fy).symm⟩
      obtain ⟨z, rfl, rfl⟩ := hz
      refine ⟨T, _, rfl, SqT.of upd_same, rfl, _, _, rfl, _, _, rfl, rfl, rfl, ?_⟩
      simp only [tYes, if_true]
      refine ⟨_, rfl, _, rfl, z, rfl, fun H4 s4 => ⟨List.replicate i (.bl true), ?_, ?_, ?_, ?_⟩⟩
      · exact s4 _ _ (by rw [upd_ne (ne_of_none hD' hT)]; exact hD')
      · rw [List.length_replicate]
        exact small1000 (by omega)
      · intro b' o e
        rw [upd_ne (nD e)]
        exact s4 _ _ (same_upd hT _ _ (sm _ _ e))
      · rw [upd_same, ← List.replicate_succ']
    · rintro H' ⟨sm, hD'⟩
      refine ⟨D, List.replicate bs.length true, rfl, ?_, ?_⟩
      · rw [List.map_replicate]
        exact SqL.of hD'
      · have e : (List.replicate bs.length true).all id = true := by
          rw [List.all_eq_true]
          intro x hx
          exact (List.eq_of_mem_replicate hx)
        rw [e]
        exact k _ (((s1.trans s2).trans s3).trans sm)
end
section
variable {P : Program} {w : World} {K : PySem.W.Frag} {mg : Str → Option Value} {base : Heap}
def spDue (K : PySem.W.Frag) : Sp := fun vs H Q _ => ∃ (p q : Addr) (a b c d : Int), vs = [.ref p, .ref q] ∧ H p = some (.tup [.int a, .int b]) ∧ H q = some (.tup [.int c, .int d]) ∧ Sm a b c d ∧ ∀ p H', H p = none → H' p = some (.lst (sixV (a * d - c * b))) → Same H H' → Q (.ref p) H'
theorem scDue : FnScope ["_law_one", "_law_two", "_law_left", "_law_right"] ["_law_one", "_law_two"] d_due.scope := ⟨rfl, rfl, rfl, by decide +kernel, rfl, by decide +kernel, by decide +kernel⟩
theorem ok_due (W : Wd K mg) : ∃ fd, FnOk P w K mg base CX0 1 (He.ga K "_law_due") fd ["_law_one", "_law_two"] (spDue K) ∧ Binds K fd ["_law_one", "_law_two"] [] := by
  obtain ⟨fd, F⟩ := W.F_due
  refine ⟨fd, F.ok scDue (fun vs H Q E h => ?_) (fun cdv A outer s H vs Q E hr h => ?_), FunD.bindsN F fun _ _ _ _ _ _ us hl => match us, hl with | [_, _], _ => rfl⟩
  · obtain ⟨p, q, a, b, c, d, rfl, _⟩ := h
    rfl
  · obtain ⟨p, q, a, b, c, d, rfl, hp, hq, ⟨ha, hb, hc, hd⟩, k⟩ := h

    refine ⟨_, PSs.nox (pss_cons (ps_par (i := 2) (j := 3) rfl scDue.nd rfl rfl (by decide) rfl rfl (pa_cons (pe_op op_mulX9 (pe_ix ix_tupH (pv 0) pe_int (fun _ _ => rfl)) (pe_ix ix_tupH (pv 1) pe_int (fun _ _ => rfl))) (pa_cons (pe_op op_mulX9 (pe_ix ix_tupH (pv 1) pe_int (fun _ _ => rfl)) (pe_ix ix_tupH (pv 0) pe_int (fun _ _ => rfl))) pa_nil)) rfl)
    (pss_one (ps_ret (pe_lst (pa_cons (pe_cmpR op_lt (pv 2) (pv 3) (nomark _)) (pa_cons (pe_cmpR op_le (pv 2) (pv 3) (nomark _)) (pa_cons (pe_cmpR op_gt (pv 2) (pv 3) (nomark _)) (pa_cons (pe_cmpR op_ge (pv 2) (pv 3) (nomark _)) (pa_cons (pe_cmpR op_eq (pv 2) (pv 3) (nomark _)) (pa_cons (pe_cmpR op_ne (pv 2) (pv 3) (nomark _)) pa_nil)))))))))), ?_⟩
    simp -dsimp [tSeq, tAsg, tRet, tIfS, tIf, tTest, tVar, tCons, tNil, tC, tOp, tUn, rI, rI0, rU, tCB, tLst_A, tTup_A, gName, L2.start, CMul, CPow, CDiv, tDrop, tBM, tBM0, tNext, tPar, gSub, rSetL, rIxL, rIxT, tChain, tB, tNot, tNotV, tAnd, tOr, tAndV, tOrV, tFld, tCall, rIxLH, rIxTH, atI, ixN, upd_same, cxK, ex2, ex3, ex3b, rIs1, rIs2, rNe2, tyN, kb1, kb2, kb3, kb4, kb5, kb6, rEq, rNe, scal, tMake_S, tMakeK_S, tMakeN_S, hp, hq, h_lt_M ha, h_lt_M hb, h_lt_M hc, h_lt_M hd]
    have e : [V.bl (decide (a * d < c * b)), V.bl (decide (a * d ≤ c * b)), V.bl (decide (c * b < a * d)), V.bl (decide (c * b ≤ a * d)), V.bl (decide (a * d = c * b)), V.bl (!decide (a * d = c * b))] = sixV (a * d - c * b) := by
      have e1 : (a * d < c * b) = (a * d - c * b < 0) := propext ⟨fun h => by omega, fun h => by omega⟩
      have e2 : (a * d ≤ c * b) = (a * d - c * b ≤ 0) := propext ⟨fun h => by omega, fun h => by omega⟩
      have e3 : (c * b < a * d) = (0 < a * d - c * b) := propext ⟨fun h => by omega, fun h => by omega⟩
      have e4 : (c * b ≤ a * d) = (0 ≤ a * d - c * b) := propext ⟨fun h => by omega, fun h => by omega⟩
      have e5 : (a * d = c * b) = (a * d - c * b = 0) := propext ⟨fun h => by omega, fun h => by omega⟩
      simp only [e1, e2, e3, e4, e5, sixV]
    rw [e]
    exact ⟨le6, Alloc.of k⟩
/-- a number drawn, beside its pair in lowest terms -/
def Num2 (K : PySem.W.Frag) (l : Addr) (H : Hp) (Q : VK) (_ : Lk Q := ⟨⟩) : Prop := ∀ (e0 e1 e2 : Int) (p : Addr) (H' : Hp) (v : V) (t : Addr) (c d : Int), Same (upd H l (draws e0 e1 e2)) H' →
  H' p = some (.tup [v, .ref t]) → H' t = some (.tup [.int c, .int d]) → Nu K H' v c d → Low c d → c.natAbs < 1000000000000 → d.natAbs < 1000000000000 → Q (.ref p) H'
theorem h_of {n : Nat} (h : n < 10 ^ 60) : n < bigH := Nat.lt_of_lt_of_le h (by unfold bigH; exact Nat.le_trans (by decide : (10 : Nat) ^ 60 ≤ 2 ^ 200) (Nat.pow_le_pow_right (by decide) (by decide)))
def spOther (K : PySem.W.Frag) : Sp := fun vs H Q _ => ∃ (l t : Addr) (d0 d1 d2 a b : Int), vs = [.ref l, .ref t] ∧ H l = some (draws d0 d1 d2) ∧ H t = some (.tup [.int a, .int b]) ∧ Low a b ∧ a.natAbs < 1000000000000 ∧ b.natAbs < 1000000000000 ∧ Num2 K l H Q
theorem scOther : FnScope ["_law_draws", "_law_due_here", "_law_way", "_law_part", "_law_is_small", "_law_near"] ["_law_draws", "_law_due_here"] d_other.scope := ⟨rfl, rfl, rfl, by decide +kernel, rfl, by decide +kernel, by decide +kernel⟩
theorem ok_other (W : Wd K mg) : ∃ fd, FnOk P w K mg base CX0 4 (He.ga K "_law_other") fd ["_law_draws", "_law_due_here"] (spOther K) ∧ Binds K fd ["_law_draws", "_law_due_here"] [] := by
  obtain ⟨fd_init, G_init, F_init⟩ := ok_init (P := P) (w := w) (base := base) W
  obtain ⟨ds_init1, v_init1, b_init1⟩ := bind2 F_init
  obtain ⟨fd_draw, G_draw, b_draw⟩ := ok_draw (P := P) (w := w) (base := base) W
  have k_draw : PySem.W.keepIn K (.ref (He.ga K "_law_draw")) = true := by obtain ⟨fd, F⟩ := W.F_draw; exact F.kp
  obtain ⟨fd_lowest, G_lowest, b_lowest⟩ := ok_lowest (P := P) (w := w) (base := base) W
  have k_lowest : PySem.W.keepIn K (.ref (He.ga K "_law_lowest")) = true := by obtain ⟨fd, F⟩ := W.F_lowest; exact F.kp
  obtain ⟨fd, F⟩ := W.F_other
  refine ⟨fd, F.ok scOther (fun vs H Q E h => ?_) (fun cdv A outer s H vs Q E hr h => ?_), FunD.bindsN F fun _ _ _ _ _ _ us hl => match us, hl with | [_, _], _ => rfl⟩
  · obtain ⟨l, t, d0, d1, d2, a, b, rfl, _⟩ := h
    rfl
  · obtain ⟨l, t, d0, d1, d2, a, b, rfl, hl, ht, low, ba, bb, q⟩ := h
    have r1 : Room 1 _ := hr.mono (by decide)
    have r2 : Room 2 _ := hr.mono (by decide)
    have r3 : Room 3 _ := hr.mono (by decide)
    refine ⟨_, PSs.nox (pss_cons (ps_par (i := 2) (j := 3) rfl scOther.nd rfl rfl (by decide) rfl rfl (pa_cons (pe_call G_draw r1 rfl W.g_law_draw k_draw b_draw .nil pass0 (pa_cons (pv 0) (pa_cons pe_int pa_nil))) (pa_cons (pe_op op_add pe_int (pe_call G_draw r1 rfl W.g_law_draw k_draw b_draw .nil pass0 (pa_cons (pv 0) (pa_cons pe_int pa_nil)))) pa_nil)) rfl)
    (pss_cons (ps_set (i := 4) scOther.nd rfl (Or.inl rfl) (pe_and (pe_cmpR op_lt (pe_callB call_abs (by rfl) W.f_abs (by decide +kernel) (pa_cons (pe_ix ix_tupH (pv 1) pe_int (fun _ _ => rfl)) pa_nil)) (pe_op op_pow pe_int pe_int) (nomark _)) (pe_one (pe_cmpR op_lt (pe_ix ix_tupH (pv 1) pe_int (fun _ _ => rfl)) (pe_op op_pow pe_int pe_int) (nomark _)))))
    (pss_cons (ps_if (pt_cmpR op_lt (pv 2) pe_int (nomark _)) (pss_one (ps_ret (pe_ifExp (pt_val (pv 4)) (pe_tup (pa_cons (pe_make W.mkr_Share G_init r3 rfl W.g_Share (bind3 F_init) .nil pass0 (pa_cons (pe_op op_mulX9 (pe_ix ix_tupH (pv 1) pe_int (fun _ _ => rfl)) (pv 3)) (pa_cons (pe_op op_mulX9 (pe_ix ix_tupH (pv 1) pe_int (fun _ _ => rfl)) (pv 3)) pa_nil))) (pa_cons (pv 1) pa_nil))) (pe_tup (pa_cons (pe_make W.mkr_Share G_init r3 rfl W.g_Share (bind3 F_init) .nil pass0 (pa_cons (pe_un un_neg (pe_ix ix_tupH (pv 1) pe_int (fun _ _ => rfl))) (pa_cons (pe_un un_neg (pe_ix ix_tupH (pv 1) pe_int (fun _ _ => rfl))) pa_nil))) (pa_cons (pv 1) pa_nil)))))) pss_nil)
    (pss_cons (ps_if (pt_cmpR op_eq (pv 2) pe_int (nomark _)) (pss_one (ps_ret (pe_tup (pa_cons (pe_op op_fdivX (pe_ix ix_tupH (pv 1) pe_int (fun _ _ => rfl)) (pe_ix ix_tupH (pv 1) pe_int (fun _ _ => rfl))) (pa_cons (pe_tup (pa_cons (pe_op op_fdivX (pe_ix ix_tupH (pv 1) pe_int (fun _ _ => rfl)) (pe_ix ix_tupH (pv 1) pe_int (fun _ _ => rfl))) (pa_cons pe_int pa_nil))) pa_nil))))) pss_nil)
    (pss_cons (ps_set (i := 5) scOther.nd rfl (Or.inl rfl) (pe_tup (pa_cons (pe_ifExp (pt_cmpR op_gt (pe_ix ix_tupH (pv 1) pe_int (fun _ _ => rfl)) pe_int (nomark _)) (pe_op op_sub (pe_ix ix_tupH (pv 1) pe_int (fun _ _ => rfl)) pe_int) (pe_op op_add (pe_ix ix_tupH (pv 1) pe_int (fun _ _ => rfl)) pe_int)) (pa_cons (pe_ix ix_tupH (pv 1) pe_int (fun _ _ => rfl)) pa_nil))))
    (pss_cons (ps_if (pt_val (pv 4)) (pss_one (ps_set (i := 5) scOther.nd rfl (Or.inl rfl) (pe_tup (pa_cons (pe_op op_add (pe_op op_mulX9 (pe_ix ix_tupH (pv 1) pe_int (fun _ _ => rfl)) (pe_op op_pow pe_int pe_int)) (pe_ix ix_lstH (pe_lst (pa_cons pe_int (pa_cons (pe_un un_neg pe_int) pa_nil))) (pe_op op_sub (pv 2) pe_int) (fun _ _ => rfl))) (pa_cons (pe_op op_mulX9 (pe_ix ix_tupH (pv 1) pe_int (fun _ _ => rfl)) (pe_op op_pow pe_int pe_int)) pa_nil))))) pss_nil)
    (pss_one (ps_ret (pe_tup (pa_cons (pe_make W.mkr_Share G_init r3 rfl W.g_Share (bind3 F_init) .nil pass0 (pa_cons (pe_ix ix_tupH (pv 5) pe_int (fun _ _ => rfl)) (pa_cons (pe_ix ix_tupH (pv 5) pe_int (fun _ _ => rfl)) pa_nil))) (pa_cons (pe_call G_lowest r1 rfl W.g_law_lowest k_lowest b_lowest .nil pass0 (pa_cons (pe_ix ix_tupH (pv 5) pe_int (fun _ _ => rfl)) (pa_cons (pe_ix ix_tupH (pv 5) pe_int (fun _ _ => rfl)) pa_nil))) pa_nil))))))))))), ?_⟩
    have n : t ≠ l := fun e => by rw [e, hl] at ht; cases ht
    simp -dsimp [tSeq, tAsg, tRet, tIfS, tIf, tTest, tVar, tCons, tNil, tC, tOp, tUn, rI, rI0, rU, tCB, tLst_A, tTup_A, gName, L2.start, CMul, CPow, CDiv, tDrop, tBM, tBM0, tNext, tPar, gSub, rSetL, rIxL, rIxT, tChain, tB, tNot, tNotV, tAnd, tOr, tAndV, tOrV, tFld, tCall, rIxLH, rIxTH, atI, ixN, upd_same, cxK, ex2, ex3, ex3b, rIs1, rIs2, rNe2, tyN, kb1, kb2, kb3, kb4, kb5, kb6, rEq, rNe, scal, tMake_S, tMakeK_S, tMakeN_S]
    refine ⟨l, d0, d1, d2, 5, rfl, hl, by decide, by decide, fun way e0 e1 e2 w0 w1 => ?_⟩
    refine ⟨l, e0, e1, e2, 9, rfl, upd_same, by decide, by decide, fun part f0 f1 f2 p0 p1 => ?_⟩
    rw [upd_upd]
    have ht1 : upd H l (draws f0 f1 f2) t = some (.tup [.int a, .int b]) := by rw [upd_ne n]; exact ht
    have bp : 0 < b := low.1
    have bn : b ≠ 0 := by have := low.1; omega
    have b9 : b.natAbs < big9 := big_of (Nat.lt_trans bb (by decide))
    have tM : ∀ {n : Nat}, n < 2000000000000 → n < bigM := fun h => h_lt_M (h_of (Nat.lt_of_lt_of_le h (by decide)))
    have small : ∀ (x y : Int), y ≠ 0 → x.natAbs < 1000000000000000000 → y.natAbs < 1000000000000000000 → x.fdiv (side x y) = a ∧ y.fdiv (side x y) = b → MkS K (upd H l (draws f0 f1 f2)) [V.int x, V.int y] (fun x H1 => 2 ≤ sizeLine ∧ Alloc H1 (HO.tup [x, V.ref t]) Q) E0 := by
      intro x y n0 hx hy e
      refine MkS.of rfl n0 (big_of (Nat.lt_trans hy (by decide))) fun z H2 n2 i2 s2 => ⟨le2, Alloc.of fun p H3 n3 e3 s3 => ?_⟩
      rw [e.1, e.2] at i2
      exact q f0 f1 f2 p H3 (.ref z) t a b (s2.trans s3) e3 (s3 _ _ (s2 _ _ ht1)) (.inl ⟨z, rfl, i2.same s3⟩) low ba bb
    have fin : ∀ (x y : Int) (H1 : Hp), Same (upd H l (draws f0 f1 f2)) H1 → y ≠ 0 → x.natAbs < 1000000000000 → y.natAbs < 1000000000000 → ∀ (z : Addr) (H2 : Hp), Same H1 H2 → IsSh K H2 z (x.fdiv (side x y)) (y.fdiv (side x y)) → spLowest K [V.int x, V.int y] H2 (fun t H1 => 2 ≤ sizeLine ∧ Alloc H1 (HO.tup [V.ref z, t]) Q) E0 := by
      intro x y H1 s1 n0 hx hy z H2 s2 i2
      refine ⟨x, y, rfl, n0, big_of (Nat.lt_trans hy (by decide)), fun u nu => ⟨le2, Alloc.of fun p H3 np hp s3 => ?_⟩⟩
      obtain ⟨sd1, sd2, sd3⟩ := side_facts x y n0
      exact q f0 f1 f2 p H3 (.ref z) u _ _ (((s1.trans s2).trans (same_upd nu)).trans s3) hp (s3 _ _ upd_same) (.inl ⟨z, rfl, (i2.same (same_upd nu)).same s3⟩) (low_lo n0)
        (Nat.lt_of_le_of_lt (fdiv_le sd1 sd3) hx) (Nat.lt_of_le_of_lt (fdiv_le sd2 sd3) hy)
    have div : (¬b = 0 ∧ b.natAbs < big9) ∧ 2 ≤ sizeLine ∧ Alloc (upd H l (draws f0 f1 f2)) (HO.tup [V.int (a.fdiv b), V.int 1]) fun x H1 => 2 ≤ sizeLine ∧ Alloc H1 (HO.tup [V.int (a.fdiv b), x]) Q := by
      refine ⟨⟨bn, b9⟩, le2, Alloc.of fun u H2 n2 e2 s2 => ⟨le2, Alloc.of fun p H3 n3 e3 s3 => ?_⟩⟩
      refine q f0 f1 f2 p H3 (.int (a.fdiv b)) u _ 1 (s2.trans s3) e3 (s3 _ _ e2) (.inr ⟨rfl, rfl⟩) (low_one _) (Nat.lt_of_le_of_lt ?_ ba) (by decide)
      rw [Int.fdiv_eq_ediv_of_nonneg _ (by have := low.1; omega)]
      exact Int.natAbs_ediv_le_natAbs a b
    have hM : (1000000 : Nat) < bigM := tM (by decide)
    have near : ∀ x : Int, x.natAbs < 1000000000000 → True := fun _ _ => trivial
    simp -dsimp [tSeq, tAsg, tRet, tIfS, tIf, tTest, tVar, tCons, tNil, tC, tOp, tUn, rI, rI0, rU, tCB, tLst_A, tTup_A, gName, L2.start, CMul, CPow, CDiv, tDrop, tBM, tBM0, tNext, tPar, gSub, rSetL, rIxL, rIxT, tChain, tB, tNot, tNotV, tAnd, tOr, tAndV, tOrV, tFld, tCall, rIxLH, rIxTH, atI, ixN, upd_same, cxK, ex2, ex3, ex3b, rIs1, rIs2, rNe2, tyN, kb1, kb2, kb3, kb4, kb5, kb6, rEq, rNe, scal, tMake_S, tMakeK_S, tMakeN_S, ht1]
    have habs : (if a < 0 then -a else a) = ((a.natAbs : Nat) : Int) := by split <;> omega
    generalize (if a < 0 then -a else a) = m at habs ⊢
    split
    · rename_i ha
      split
      · rename_i hw
        refine (Decidable.em (b < 100000)).elim (fun hb => ?_) (fun hb => ?_)
        · refine .inr ⟨hb, ⟨tM (by omega), tM (by omega)⟩, ⟨tM (by omega), tM (by omega)⟩, small _ _ (Int.mul_ne_zero bn (by omega)) ?_ ?_ (lo_eq (Int.mul_ne_zero bn (by omega)) low (by rw [Int.mul_assoc, Int.mul_comm (1 + part) b]))⟩
          · rw [Int.natAbs_mul]
            exact Nat.lt_of_lt_of_le (Nat.mul_lt_mul'' ba (show (1 + part).natAbs < 1000000 by omega)) (by decide)
          · rw [Int.natAbs_mul]
            exact Nat.lt_of_lt_of_le (Nat.mul_lt_mul'' bb (show (1 + part).natAbs < 1000000 by omega)) (by decide)
        · exact .inl ⟨by omega, small _ _ (by omega) (by omega) (by omega) (lo_eq (by omega) low (by rw [Int.neg_mul, Int.mul_neg]))⟩
      · rename_i hw
        split
        · rename_i h2
          exact div
        · rename_i h2
          split
          · rename_i h0
            refine ⟨le2, Alloc.of fun pn H1 n1 e1 s1 => ?_⟩
            have ht2 := s1 _ _ ht1
            simp -dsimp [tSeq, tAsg, tRet, tIfS, tIf, tTest, tVar, tCons, tNil, tC, tOp, tUn, rI, rI0, rU, tCB, tLst_A, tTup_A, gName, L2.start, CMul, CPow, CDiv, tDrop, tBM, tBM0, tNext, tPar, gSub, rSetL, rIxL, rIxT, tChain, tB, tNot, tNotV, tAnd, tOr, tAndV, tOrV, tFld, tCall, rIxLH, rIxTH, atI, ixN, upd_same, cxK, ex2, ex3, ex3b, rIs1, rIs2, rNe2, tyN, kb1, kb2, kb3, kb4, kb5, kb6, rEq, rNe, scal, tMake_S, tMakeK_S, tMakeN_S, e1, ht2]
            have hbb : 100000 ≤ b ∨ b < 100000 := by omega
            rcases hbb with hb | hb
            · refine .inl ⟨hb, ?_⟩
              refine MkS.of rfl bn (big_of (Nat.lt_trans bb (by decide))) fun z K2 m2 i2 u2 => ?_
              have g2 := u2 _ _ e1
              simp -dsimp [tSeq, tAsg, tRet, tIfS, tIf, tTest, tVar, tCons, tNil, tC, tOp, tUn, rI, rI0, rU, tCB, tLst_A, tTup_A, gName, L2.start, CMul, CPow, CDiv, tDrop, tBM, tBM0, tNext, tPar, gSub, rSetL, rIxL, rIxT, tChain, tB, tNot, tNotV, tAnd, tOr, tAndV, tOrV, tFld, tCall, rIxLH, rIxTH, atI, ixN, upd_same, cxK, ex2, ex3, ex3b, rIs1, rIs2, rNe2, tyN, kb1, kb2, kb3, kb4, kb5, kb6, rEq, rNe, scal, tMake_S, tMakeK_S, tMakeN_S, g2]
              exact fin _ _ H1 s1 bn (by omega) bb z K2 u2 i2
            · refine .inr ⟨hb, ⟨tM (by omega), hM⟩, le2, Alloc.of fun pl H2 n2 e2 s2 => ?_⟩
              have ht3 := s2 _ _ ht2
              have hw34 : way = 3 ∨ way = 4 := by omega
              rcases hw34 with hw3 | hw4
              · subst hw3
                have by9 : (b * 1000000).natAbs < 1000000000000 := by omega
                simp -dsimp [tSeq, tAsg, tRet, tIfS, tIf, tTest, tVar, tCons, tNil, tC, tOp, tUn, rI, rI0, rU, tCB, tLst_A, tTup_A, gName, L2.start, CMul, CPow, CDiv, tDrop, tBM, tBM0, tNext, tPar, gSub, rSetL, rIxL, rIxT, tChain, tB, tNot, tNotV, tAnd, tOr, tAndV, tOrV, tFld, tCall, rIxLH, rIxTH, atI, ixN, upd_same, cxK, ex2, ex3, ex3b, rIs1, rIs2, rNe2, tyN, kb1, kb2, kb3, kb4, kb5, kb6, rEq, rNe, scal, tMake_S, tMakeK_S, tMakeN_S, e2, ht3]
                refine ⟨⟨tM (by omega), hM⟩, le2, Alloc.of fun pm H3 n3 e3 s3 => ?_⟩
                simp -dsimp [tSeq, tAsg, tRet, tIfS, tIf, tTest, tVar, tCons, tNil, tC, tOp, tUn, rI, rI0, rU, tCB, tLst_A, tTup_A, gName, L2.start, CMul, CPow, CDiv, tDrop, tBM, tBM0, tNext, tPar, gSub, rSetL, rIxL, rIxT, tChain, tB, tNot, tNotV, tAnd, tOr, tAndV, tOrV, tFld, tCall, rIxLH, rIxTH, atI, ixN, upd_same, cxK, ex2, ex3, ex3b, rIs1, rIs2, rNe2, tyN, kb1, kb2, kb3, kb4, kb5, kb6, rEq, rNe, scal, tMake_S, tMakeK_S, tMakeN_S, e3]
                refine MkS.of rfl (Int.mul_ne_zero bn (by decide)) (big_of (Nat.lt_trans by9 (by decide))) fun z K2 m2 i2 u2 => ?_
                have g2 := u2 _ _ e3
                simp -dsimp [tSeq, tAsg, tRet, tIfS, tIf, tTest, tVar, tCons, tNil, tC, tOp, tUn, rI, rI0, rU, tCB, tLst_A, tTup_A, gName, L2.start, CMul, CPow, CDiv, tDrop, tBM, tBM0, tNext, tPar, gSub, rSetL, rIxL, rIxT, tChain, tB, tNot, tNotV, tAnd, tOr, tAndV, tOrV, tFld, tCall, rIxLH, rIxTH, atI, ixN, upd_same, cxK, ex2, ex3, ex3b, rIs1, rIs2, rNe2, tyN, kb1, kb2, kb3, kb4, kb5, kb6, rEq, rNe, scal, tMake_S, tMakeK_S, tMakeN_S, g2]
                exact fin _ _ H3 ((s1.trans s2).trans s3) (Int.mul_ne_zero bn (by decide)) (by omega) by9 z K2 u2 i2
              · subst hw4
                have by9 : (b * 1000000).natAbs < 1000000000000 := by omega
                simp -dsimp [tSeq, tAsg, tRet, tIfS, tIf, tTest, tVar, tCons, tNil, tC, tOp, tUn, rI, rI0, rU, tCB, tLst_A, tTup_A, gName, L2.start, CMul, CPow, CDiv, tDrop, tBM, tBM0, tNext, tPar, gSub, rSetL, rIxL, rIxT, tChain, tB, tNot, tNotV, tAnd, tOr, tAndV, tOrV, tFld, tCall, rIxLH, rIxTH, atI, ixN, upd_same, cxK, ex2, ex3, ex3b, rIs1, rIs2, rNe2, tyN, kb1, kb2, kb3, kb4, kb5, kb6, rEq, rNe, scal, tMake_S, tMakeK_S, tMakeN_S, e2, ht3]
                refine ⟨⟨tM (by omega), hM⟩, le2, Alloc.of fun pm H3 n3 e3 s3 => ?_⟩
                simp -dsimp [tSeq, tAsg, tRet, tIfS, tIf, tTest, tVar, tCons, tNil, tC, tOp, tUn, rI, rI0, rU, tCB, tLst_A, tTup_A, gName, L2.start, CMul, CPow, CDiv, tDrop, tBM, tBM0, tNext, tPar, gSub, rSetL, rIxL, rIxT, tChain, tB, tNot, tNotV, tAnd, tOr, tAndV, tOrV, tFld, tCall, rIxLH, rIxTH, atI, ixN, upd_same, cxK, ex2, ex3, ex3b, rIs1, rIs2, rNe2, tyN, kb1, kb2, kb3, kb4, kb5, kb6, rEq, rNe, scal, tMake_S, tMakeK_S, tMakeN_S, e3]
                refine MkS.of rfl (Int.mul_ne_zero bn (by decide)) (big_of (Nat.lt_trans by9 (by decide))) fun z K2 m2 i2 u2 => ?_
                have g2 := u2 _ _ e3
                simp -dsimp [tSeq, tAsg, tRet, tIfS, tIf, tTest, tVar, tCons, tNil, tC, tOp, tUn, rI, rI0, rU, tCB, tLst_A, tTup_A, gName, L2.start, CMul, CPow, CDiv, tDrop, tBM, tBM0, tNext, tPar, gSub, rSetL, rIxL, rIxT, tChain, tB, tNot, tNotV, tAnd, tOr, tAndV, tOrV, tFld, tCall, rIxLH, rIxTH, atI, ixN, upd_same, cxK, ex2, ex3, ex3b, rIs1, rIs2, rNe2, tyN, kb1, kb2, kb3, kb4, kb5, kb6, rEq, rNe, scal, tMake_S, tMakeK_S, tMakeN_S, g2]
                exact fin _ _ H3 ((s1.trans s2).trans s3) (Int.mul_ne_zero bn (by decide)) (by omega) by9 z K2 u2 i2
          · rename_i h0
            refine ⟨le2, Alloc.of fun pn H1 n1 e1 s1 => ?_⟩
            have ht2 := s1 _ _ ht1
            simp -dsimp [tSeq, tAsg, tRet, tIfS, tIf, tTest, tVar, tCons, tNil, tC, tOp, tUn, rI, rI0, rU, tCB, tLst_A, tTup_A, gName, L2.start, CMul, CPow, CDiv, tDrop, tBM, tBM0, tNext, tPar, gSub, rSetL, rIxL, rIxT, tChain, tB, tNot, tNotV, tAnd, tOr, tAndV, tOrV, tFld, tCall, rIxLH, rIxTH, atI, ixN, upd_same, cxK, ex2, ex3, ex3b, rIs1, rIs2, rNe2, tyN, kb1, kb2, kb3, kb4, kb5, kb6, rEq, rNe, scal, tMake_S, tMakeK_S, tMakeN_S, e1, ht2]
            have hbb : 100000 ≤ b ∨ b < 100000 := by omega
            rcases hbb with hb | hb
            · refine .inl ⟨hb, ?_⟩
              refine MkS.of rfl bn (big_of (Nat.lt_trans bb (by decide))) fun z K2 m2 i2 u2 => ?_
              have g2 := u2 _ _ e1
              simp -dsimp [tSeq, tAsg, tRet, tIfS, tIf, tTest, tVar, tCons, tNil, tC, tOp, tUn, rI, rI0, rU, tCB, tLst_A, tTup_A, gName, L2.start, CMul, CPow, CDiv, tDrop, tBM, tBM0, tNext, tPar, gSub, rSetL, rIxL, rIxT, tChain, tB, tNot, tNotV, tAnd, tOr, tAndV, tOrV, tFld, tCall, rIxLH, rIxTH, atI, ixN, upd_same, cxK, ex2, ex3, ex3b, rIs1, rIs2, rNe2, tyN, kb1, kb2, kb3, kb4, kb5, kb6, rEq, rNe, scal, tMake_S, tMakeK_S, tMakeN_S, g2]
              exact fin _ _ H1 s1 bn (by omega) bb z K2 u2 i2
            · refine .inr ⟨hb, ⟨tM (by omega), hM⟩, le2, Alloc.of fun pl H2 n2 e2 s2 => ?_⟩
              have ht3 := s2 _ _ ht2
              have hw34 : way = 3 ∨ way = 4 := by omega
              rcases hw34 with hw3 | hw4
              · subst hw3
                have by9 : (b * 1000000).natAbs < 1000000000000 := by omega
                simp -dsimp [tSeq, tAsg, tRet, tIfS, tIf, tTest, tVar, tCons, tNil, tC, tOp, tUn, rI, rI0, rU, tCB, tLst_A, tTup_A, gName, L2.start, CMul, CPow, CDiv, tDrop, tBM, tBM0, tNext, tPar, gSub, rSetL, rIxL, rIxT, tChain, tB, tNot, tNotV, tAnd, tOr, tAndV, tOrV, tFld, tCall, rIxLH, rIxTH, atI, ixN, upd_same, cxK, ex2, ex3, ex3b, rIs1, rIs2, rNe2, tyN, kb1, kb2, kb3, kb4, kb5, kb6, rEq, rNe, scal, tMake_S, tMakeK_S, tMakeN_S, e2, ht3]
                refine ⟨⟨tM (by omega), hM⟩, le2, Alloc.of fun pm H3 n3 e3 s3 => ?_⟩
                simp -dsimp [tSeq, tAsg, tRet, tIfS, tIf, tTest, tVar, tCons, tNil, tC, tOp, tUn, rI, rI0, rU, tCB, tLst_A, tTup_A, gName, L2.start, CMul, CPow, CDiv, tDrop, tBM, tBM0, tNext, tPar, gSub, rSetL, rIxL, rIxT, tChain, tB, tNot, tNotV, tAnd, tOr, tAndV, tOrV, tFld, tCall, rIxLH, rIxTH, atI, ixN, upd_same, cxK, ex2, ex3, ex3b, rIs1, rIs2, rNe2, tyN, kb1, kb2, kb3, kb4, kb5, kb6, rEq, rNe, scal, tMake_S, tMakeK_S, tMakeN_S, e3]
                refine MkS.of rfl (Int.mul_ne_zero bn (by decide)) (big_of (Nat.lt_trans by9 (by decide))) fun z K2 m2 i2 u2 => ?_
                have g2 := u2 _ _ e3
                simp -dsimp [tSeq, tAsg, tRet, tIfS, tIf, tTest, tVar, tCons, tNil, tC, tOp, tUn, rI, rI0, rU, tCB, tLst_A, tTup_A, gName, L2.start, CMul, CPow, CDiv, tDrop, tBM, tBM0, tNext, tPar, gSub, rSetL, rIxL, rIxT, tChain, tB, tNot, tNotV, tAnd, tOr, tAndV, tOrV, tFld, tCall, rIxLH, rIxTH, atI, ixN, upd_same, cxK, ex2, ex3, ex3b, rIs1, rIs2, rNe2, tyN, kb1, kb2, kb3, kb4, kb5, kb6, rEq, rNe, scal, tMake_S, tMakeK_S, tMakeN_S, g2]
                exact fin _ _ H3 ((s1.trans s2).trans s3) (Int.mul_ne_zero bn (by decide)) (by omega) by9 z K2 u2 i2
              · subst hw4
                have by9 : (b * 1000000).natAbs < 1000000000000 := by omega
                simp -dsimp [tSeq, tAsg, tRet, tIfS, tIf, tTest, tVar, tCons, tNil, tC, tOp, tUn, rI, rI0, rU, tCB, tLst_A, tTup_A, gName, L2.start, CMul, CPow, CDiv, tDrop, tBM, tBM0, tNext, tPar, gSub, rSetL, rIxL, rIxT, tChain, tB, tNot, tNotV, tAnd, tOr, tAndV, tOrV, tFld, tCall, rIxLH, rIxTH, atI, ixN, upd_same, cxK, ex2, ex3, ex3b, rIs1, rIs2, rNe2, tyN, kb1, kb2, kb3, kb4, kb5, kb6, rEq, rNe, scal, tMake_S, tMakeK_S, tMakeN_S, e2, ht3]
                refine ⟨⟨tM (by omega), hM⟩, le2, Alloc.of fun pm H3 n3 e3 s3 => ?_⟩
                simp -dsimp [tSeq, tAsg, tRet, tIfS, tIf, tTest, tVar, tCons, tNil, tC, tOp, tUn, rI, rI0, rU, tCB, tLst_A, tTup_A, gName, L2.start, CMul, CPow, CDiv, tDrop, tBM, tBM0, tNext, tPar, gSub, rSetL, rIxL, rIxT, tChain, tB, tNot, tNotV, tAnd, tOr, tAndV, tOrV, tFld, tCall, rIxLH, rIxTH, atI, ixN, upd_same, cxK, ex2, ex3, ex3b, rIs1, rIs2, rNe2, tyN, kb1, kb2, kb3, kb4, kb5, kb6, rEq, rNe, scal, tMake_S, tMakeK_S, tMakeN_S, e3]
                refine MkS.of rfl (Int.mul_ne_zero bn (by decide)) (big_of (Nat.lt_trans by9 (by decide))) fun z K2 m2 i2 u2 => ?_
                have g2 := u2 _ _ e3
                simp -dsimp [tSeq, tAsg, tRet, tIfS, tIf, tTest, tVar, tCons, tNil, tC, tOp, tUn, rI, rI0, rU, tCB, tLst_A, tTup_A, gName, L2.start, CMul, CPow, CDiv, tDrop, tBM, tBM0, tNext, tPar, gSub, rSetL, rIxL, rIxT, tChain, tB, tNot, tNotV, tAnd, tOr, tAndV, tOrV, tFld, tCall, rIxLH, rIxTH, atI, ixN, upd_same, cxK, ex2, ex3, ex3b, rIs1, rIs2, rNe2, tyN, kb1, kb2, kb3, kb4, kb5, kb6, rEq, rNe, scal, tMake_S, tMakeK_S, tMakeN_S, g2]
                exact fin _ _ H3 ((s1.trans s2).trans s3) (Int.mul_ne_zero bn (by decide)) (by omega) by9 z K2 u2 i2
    · rename_i ha
      split
      · exact small _ _ (by omega) (by omega) (by omega) (lo_eq (by omega) low (by rw [Int.neg_mul, Int.mul_neg]))
      · split
        · exact div
        · split
          · rename_i h0
            refine ⟨le2, Alloc.of fun pn H1 n1 e1 s1 => ?_⟩
            simp -dsimp [tSeq, tAsg, tRet, tIfS, tIf, tTest, tVar, tCons, tNil, tC, tOp, tUn, rI, rI0, rU, tCB, tLst_A, tTup_A, gName, L2.start, CMul, CPow, CDiv, tDrop, tBM, tBM0, tNext, tPar, gSub, rSetL, rIxL, rIxT, tChain, tB, tNot, tNotV, tAnd, tOr, tAndV, tOrV, tFld, tCall, rIxLH, rIxTH, atI, ixN, upd_same, cxK, ex2, ex3, ex3b, rIs1, rIs2, rNe2, tyN, kb1, kb2, kb3, kb4, kb5, kb6, rEq, rNe, scal, tMake_S, tMakeK_S, tMakeN_S, e1]
            refine MkS.of rfl bn (big_of (Nat.lt_trans bb (by decide))) fun z K2 m2 i2 u2 => ?_
            have g2 := u2 _ _ e1
            simp -dsimp [tSeq, tAsg, tRet, tIfS, tIf, tTest, tVar, tCons, tNil, tC, tOp, tUn, rI, rI0, rU, tCB, tLst_A, tTup_A, gName, L2.start, CMul, CPow, CDiv, tDrop, tBM, tBM0, tNext, tPar, gSub, rSetL, rIxL, rIxT, tChain, tB, tNot, tNotV, tAnd, tOr, tAndV, tOrV, tFld, tCall, rIxLH, rIxTH, atI, ixN, upd_same, cxK, ex2, ex3, ex3b, rIs1, rIs2, rNe2, tyN, kb1, kb2, kb3, kb4, kb5, kb6, rEq, rNe, scal, tMake_S, tMakeK_S, tMakeN_S, g2]
            exact fin _ _ H1 s1 bn (by omega) bb z K2 u2 i2
          · rename_i h0
            refine ⟨le2, Alloc.of fun pn H1 n1 e1 s1 => ?_⟩
            simp -dsimp [tSeq, tAsg, tRet, tIfS, tIf, tTest, tVar, tCons, tNil, tC, tOp, tUn, rI, rI0, rU, tCB, tLst_A, tTup_A, gName, L2.start, CMul, CPow, CDiv, tDrop, tBM, tBM0, tNext, tPar, gSub, rSetL, rIxL, rIxT, tChain, tB, tNot, tNotV, tAnd, tOr, tAndV, tOrV, tFld, tCall, rIxLH, rIxTH, atI, ixN, upd_same, cxK, ex2, ex3, ex3b, rIs1, rIs2, rNe2, tyN, kb1, kb2, kb3, kb4, kb5, kb6, rEq, rNe, scal, tMake_S, tMakeK_S, tMakeN_S, e1]
            refine MkS.of rfl bn (big_of (Nat.lt_trans bb (by decide))) fun z K2 m2 i2 u2 => ?_
            have g2 := u2 _ _ e1
            simp -dsimp [tSeq, tAsg, tRet, tIfS, tIf, tTest, tVar, tCons, tNil, tC, tOp, tUn, rI, rI0, rU, tCB, tLst_A, tTup_A, gName, L2.start, CMul, CPow, CDiv, tDrop, tBM, tBM0, tNext, tPar, gSub, rSetL, rIxL, rIxT, tChain, tB, tNot, tNotV, tAnd, tOr, tAndV, tOrV, tFld, tCall, rIxLH, rIxTH, atI, ixN, upd_same, cxK, ex2, ex3, ex3b, rIs1, rIs2, rNe2, tyN, kb1, kb2, kb3, kb4, kb5, kb6, rEq, rNe, scal, tMake_S, tMakeK_S, tMakeN_S, g2]
            exact fin _ _ H1 s1 bn (by omega) bb z K2 u2 i2
end
/-! ### strange things -/
section
variable {P : Program} {w : World} {K : PySem.W.Frag} {mg : Str → Option Value} {base : Heap}
inductive St (K : PySem.W.Frag) (H : Hp) : V → Prop where
  | non : St K H .non
  | bl (x : Bool) : St K H (.bl x)
  | str (x : Str) : St K H (.str x)
  | lst {a : Addr} {xs : List V} (e : H a = some (.lst xs)) : St K H (.ref a)
  | tup {a : Addr} {xs : List V} (e : H a = some (.tup xs)) : St K H (.ref a)
  | dK {a : Addr} {kvs : List (Key × V)} (e : H a = some (.dK kvs)) : St K H (.ref a)
  | tm {x : Addr} {n t0 t1 t2 : Int × Int} (h : IsTm K H x n t0 t1 t2) : St K H (.ref x)
theorem St.same {H H' : Hp} {v : V} (h : St K H v) (s : Same H H') : St K H' v := by
  cases h with
  | non => exact .non
  | bl x => exact .bl x
  | str x => exact .str x
  | lst e => exact .lst (s _ _ e)
  | tup e => exact .tup (s _ _ e)
  | dK e => exact .dK (s _ _ e)
  | tm h => exact .tm (h.same s)
theorem Wd.stTy (W : Wd K mg) {H : Hp} {v : V} (h : St K H v) : ∃ t, TyOf K H v t ∧ NuX.KN K t false ∧ CmX.Beside K (He.ga K "Share") t := by
  cases h with
  | non => exact ⟨_, .non, NuX.knB_ok (W.ex 11 rfl), .inr (W.cmp.no "NoneType" (by decide)).1⟩
  | bl x => exact ⟨_, .bl x, NuX.knB_ok (W.ex 12 rfl), .inr (W.cmp.no "bool" (by decide)).1⟩
  | str x => exact ⟨_, .str x, NuX.knB_ok (W.ex 13 rfl), .inr (W.cmp.no "str" (by decide)).1⟩
  | lst e => exact ⟨_, .lst e, NuX.knB_ok (W.ex 14 rfl), .inr (W.cmp.no "list" (by decide)).1⟩
  | tup e => exact ⟨_, .tup e, NuX.knB_ok (W.ex 15 rfl), .inr (W.cmp.no "tuple" (by decide)).1⟩
  | dK e => exact ⟨_, .dK e, NuX.knB_ok (W.ex 16 rfl), .inr (W.cmp.no "dict" (by decide)).1⟩
  | tm h => exact ⟨_, W.isTm h, W.knT, .inr (of_decide_eq_true (W.ex 19 rfl))⟩
end
section
variable {X : Cx}
/-- a share beside a strange thing -/
def rSt (K : PySem.W.Frag) (b : Bool) : R2 := fun x y H Q => ∃ (z : Addr) (a c : Int), x = .ref z ∧ IsSh K H z a c ∧ St K H y ∧ Q (.bl b) H
theorem Wd.opEqSt (W : Wd X.K X.mg) (hr : Room 3 X.A) : OpR X (compareOp .Eq) (rSt X.K false) := by
  obtain ⟨f1, G1, b1⟩ := ok_eq (P := X.prog) (w := X.w) (base := X.base) W
  intro pins s σ H x y v u Q I rx ry h
  obtain ⟨z, a, c, rfl, hz, st, q⟩ := h
  obtain ⟨t, ty, kn, bs⟩ := W.stTy st
  obtain ⟨dx, hd⟩ := id hz
  exact CmX.op_cmpL (E := E0) (fun _ _ => rfl) W.m_Share_eq.at_ W.m_Share_eq.fn (raw0 G1 b1) hr hr.units0 pass0 pins s σ H _ y v u Q I rx ry ⟨z, dx, _, t, rfl, hd, ty, bs, .inr ⟨z, a, c, y, t, rfl, hz, ty, kn, q⟩⟩
theorem Wd.opNeSt (W : Wd X.K X.mg) (hr : Room 4 X.A) : OpR X (compareOp .NotEq) (rSt X.K true) := by
  obtain ⟨f1, G1, b1⟩ := ok_eq (P := X.prog) (w := X.w) (base := X.base) W
  intro pins s σ H x y v u Q I rx ry h
  obtain ⟨z, a, c, rfl, hz, st, q⟩ := h
  obtain ⟨t, ty, kn, bs⟩ := W.stTy st
  obtain ⟨dx, hd⟩ := id hz
  exact CmX.op_neL (E := E0) W.cmp W.m_Share_eq.at_ W.m_Share_eq.fn (raw0 G1 b1) hr (hu_of hr) pass0 pins s σ H _ y v u Q I rx ry ⟨z, dx, _, t, rfl, hd, ty, bs, .inr ⟨z, a, c, y, t, rfl, hz, ty, kn, false, rfl, q⟩⟩
/-- a strange thing beside a share -/
def rTs (K : PySem.W.Frag) : R2 := fun x y H Q => ∃ (z : Addr) (a c : Int), y = .ref z ∧ IsSh K H z a c ∧ St K H x ∧ Q (.bl false) H
theorem Wd.opStEq (W : Wd X.K X.mg) (hr : Room 3 X.A) : OpR X (compareOp .Eq) (rTs X.K) := by
  obtain ⟨f1, G1, b1⟩ := ok_eq (P := X.prog) (w := X.w) (base := X.base) W
  obtain ⟨f2, G2, b2⟩ := ok_teqNo (P := X.prog) (w := X.w) (base := X.base) W
  intro pins s σ H x y v u Q I rx ry h
  obtain ⟨z, a, c, rfl, hz, st, q⟩ := h
  obtain ⟨dx, hd⟩ := id hz
  have bi : CmX.Bi H x → wpAny (model X.prog X.w) X.A (compareOp .Eq v u) (EP X pins σ Q) X.xe s := fun bi => by
    obtain ⟨t, ty, kn, bs⟩ := W.stTy st
    exact CmX.op_eqB (E := E0) W.cmp W.m_Share_eq.at_ W.m_Share_eq.fn (raw0 G1 b1) hr hr.units0 pass0 pins s σ H x _ v u Q I rx ry ⟨z, dx, _, bi, rfl, hd, .inr ⟨z, a, c, x, t, rfl, hz, ty, kn, q⟩⟩
  cases st with
  | non => exact bi .non
  | bl x => exact bi (.bl x)
  | str x => exact bi (.str x)
  | lst e => exact bi (.lst e)
  | tup e => exact bi (.tup e)
  | dK e => exact bi (.dK e)
  | @tm y n t0 t1 t2 h =>
    obtain ⟨dt, a', tp, a0, a1, a2, h1, h2⟩ := id h
    exact CmX.op_cmpL (E := E0) (fun _ _ => rfl) W.m_Term_eq.at_ W.m_Term_eq.fn (raw0 G2 b2) (hr.mono (by decide)) hr.units0 pass0 pins s σ H _ _ v u Q I rx ry ⟨y, dt, _, _, rfl, h1, W.isSh hz, .inr (of_decide_eq_true (W.ex 20 rfl)), y, .ref z, _, rfl, W.isSh hz, of_decide_eq_true (W.ex 18 rfl), q⟩
end
section
variable {P : Program} {w : World} {K : PySem.W.Frag} {mg : Str → Option Value} {base : Heap}
theorem Wd.sm_constant (W : Wd K mg) : StX.SMet K (He.ga K "Term") "constant" (He.ma K (He.ga K "Term") "constant") (He5.wf K (He.ga K "Term") "staticmethod" "constant") := StX.smB_ok (W.ex 17 rfl)
theorem le1 : 1 ≤ sizeLine := by decide
theorem le10 : 10 ≤ sizeLine := by decide
def spStrange (K : PySem.W.Frag) : Sp := fun vs H Q _ => ∃ (x : Addr) (up a b : Int), vs = [.ref x, .int up] ∧ IsSh K H x a b ∧ a.natAbs < 10 ^ 60 ∧ b.natAbs < 10 ^ 60 ∧ ∀ H', Same H H' → Q (.bl true) H'
theorem scStrange : FnScope ["_law_share", "_law_up", "_law_thing"] ["_law_share", "_law_up"] d_strange.scope := ⟨rfl, rfl, rfl, by decide +kernel, rfl, by decide +kernel, by decide +kernel⟩
theorem ok_strange (W : Wd K mg) : ∃ fd, FnOk P w K mg base CX0 6 (He.ga K "_law_strange") fd ["_law_share", "_law_up"] (spStrange K) ∧ Binds K fd ["_law_share", "_law_up"] [] := by
  obtain ⟨fd_const, G_const, b_const⟩ := ok_const (P := P) (w := w) (base := base) W
  obtain ⟨fd_str, G_str, b_str⟩ := ok_str (P := P) (w := w) (base := base) W
  obtain ⟨fd, F⟩ := W.F_strange
  refine ⟨fd, F.ok scStrange (fun vs H Q E h => ?_) (fun cdv A outer s H vs Q E hr h => ?_), FunD.bindsN F fun _ _ _ _ _ _ us hl => match us, hl with | [_, _], _ => rfl⟩
  · obtain ⟨x, up, a, b, rfl, _⟩ := h
    rfl
  · obtain ⟨x, up, a, b, rfl, hx, ba, bb, q⟩ := h
    have r1 : Room 1 _ := hr.mono (by decide)
    have r2 : Room 2 _ := hr.mono (by decide)
    have r3 : Room 3 _ := hr.mono (by decide)
    have r4 : Room 4 _ := hr.mono (by decide)
    have r5 : Room 5 _ := hr.mono (by decide)
    refine ⟨_, PSs.nox (pss_cons (ps_for PassesOwn.never rfl (pi_list (pe_lst (pa_cons pe_bl (pa_cons pe_bl (pa_cons pe_non (pa_cons (pe_callTy (call_strOwn (C := He.ga K "Share") W.m_Share_str.at_ W.m_Share_str.fn (raw0 G_str b_str) r4 pass0) (by rfl) W.f_str (by decide +kernel) (pa_cons (pv 0) pa_nil)) (pa_cons pe_str (pa_cons (pe_lst (pa_cons (pv 0) pa_nil)) (pa_cons (pe_tup (pa_cons (pv 1) (pa_cons pe_int pa_nil))) (pa_cons (pe_tup pa_nil) (pa_cons (StX.pe_smeth (pe_glob (v := .ref (He.ga K "Term")) rfl W.g_Term rfl) W.sm_constant G_const r5 b_const .nil pass0 (pa_cons (pv 0) pa_nil)) (pa_cons (pe_disp (pps_cons pe_str (pv 1) pps_nil) rfl rfl (by simp -dsimp [tSeq, tAsg, tRet, tIfS, tIf, tTest, tVar, tCons, tNil, tC, tOp, tUn, rI, rI0, rU, tCB, tLst_A, tTup_A, gName, L2.start, CMul, CPow, CDiv, tDrop, tBM, tBM0, tNext, tPar, gSub, rSetL, rIxL, rIxT, tChain, tB, tNot, tNotV, tAnd, tOr, tAndV, tOrV, tFld, tCall, rIxLH, rIxTH, atI, ixN, upd_same, cxK, ex2, ex3, ex3b, rIs1, rIs2, rNe2, tyN, kb1, kb2, kb3, kb4, kb5, kb6, rEq, rNe, scal, tMake_S, tMakeK_S, tMakeN_S]) (by decide)) pa_nil)))))))))))) (pg_name (i := 2) scStrange.nd rfl (Or.inl rfl)) (pss_one (ps_if (PW.pt (pw_or (pt_cmpR (W.opEqSt r3) (pv 0) (pv 2) (nomark _)) (pw_or (pt_not (pt_cmpR (W.opNeSt r4) (pv 0) (pv 2) (nomark _))) (pw_or1 (pt_cmpR (W.opStEq r3) (pv 2) (pv 0) (nomark _)))))) (pss_one (ps_ret pe_bl)) pss_nil)))
    (pss_one (ps_ret pe_bl))), ?_⟩
    simp -dsimp [tSeq, tAsg, tRet, tIfS, tIf, tTest, tVar, tCons, tNil, tC, tOp, tUn, rI, rI0, rU, tCB, tLst_A, tTup_A, gName, L2.start, CMul, CPow, CDiv, tDrop, tBM, tBM0, tNext, tPar, gSub, rSetL, rIxL, rIxT, tChain, tB, tNot, tNotV, tAnd, tOr, tAndV, tOrV, tFld, tCall, rIxLH, rIxTH, atI, ixN, upd_same, cxK, ex2, ex3, ex3b, rIs1, rIs2, rNe2, tyN, kb1, kb2, kb3, kb4, kb5, kb6, rEq, rNe, scal, tMake_S, tMakeK_S, tMakeN_S, tFor_iL, StX.tSMeth, tDisp, tPairs]
    obtain ⟨dx, hd⟩ := id hx
    refine ⟨x, dx, _, rfl, hd, x, a, b, rfl, hx, ba, bb, fun H1 s1 => ⟨_, rfl, le1, Alloc.of fun p2 H2 n2 e2 s2 => ⟨le2, Alloc.of fun p3 H3 n3 e3 s3 => Alloc.of fun p4 H4 n4 e4 s4 => ?_⟩⟩⟩
    have s14 := ((s1.trans s2).trans s3).trans s4
    try simp -dsimp [tSeq, tAsg, tRet, tIfS, tIf, tTest, tVar, tCons, tNil, tC, tOp, tUn, rI, rI0, rU, tCB, tLst_A, tTup_A, gName, L2.start, CMul, CPow, CDiv, tDrop, tBM, tBM0, tNext, tPar, gSub, rSetL, rIxL, rIxT, tChain, tB, tNot, tNotV, tAnd, tOr, tAndV, tOrV, tFld, tCall, rIxLH, rIxTH, atI, ixN, upd_same, cxK, ex2, ex3, ex3b, rIs1, rIs2, rNe2, tyN, kb1, kb2, kb3, kb4, kb5, kb6, rEq, rNe, scal, tMake_S, tMakeK_S, tMakeN_S]
    refine ⟨.ref x, a, b, rfl, .inl ⟨x, rfl, hx.same s14⟩, fun z5 H5 s5 i5 => ?_⟩
    try simp -dsimp [tSeq, tAsg, tRet, tIfS, tIf, tTest, tVar, tCons, tNil, tC, tOp, tUn, rI, rI0, rU, tCB, tLst_A, tTup_A, gName, L2.start, CMul, CPow, CDiv, tDrop, tBM, tBM0, tNext, tPar, gSub, rSetL, rIxL, rIxT, tChain, tB, tNot, tNotV, tAnd, tOr, tAndV, tOrV, tFld, tCall, rIxLH, rIxTH, atI, ixN, upd_same, cxK, ex2, ex3, ex3b, rIs1, rIs2, rNe2, tyN, kb1, kb2, kb3, kb4, kb5, kb6, rEq, rNe, scal, tMake_S, tMakeK_S, tMakeN_S]
    refine fun p6 n6 => ⟨[(.inr "top", .int up)], rfl, by simp, ?_⟩
    rw [upd_upd]
    generalize hH6 : upd H5 p6 (HO.dK (mergeK [] [(Sum.inr ("top" : Str), V.int up)])) = H6
    have e6 : H6 p6 = some (HO.dK (mergeK [] [(Sum.inr ("top" : Str), V.int up)])) := by rw [← hH6]; exact upd_same
    have s6 : Same H5 H6 := by rw [← hH6]; exact same_upd n6
    refine ⟨le10, Alloc.of fun p7 H7 n7 e7 s7 => ⟨p7, rfl, ⟨_, SqL.of e7⟩, ?_⟩⟩
    have s57 := (s5.trans s6).trans s7
    have s17 := s14.trans s57
    have all : ∀ y ∈ [V.bl true, V.bl false, V.non, V.str (shS a b), V.str (Str.ofString ""), V.ref p2, V.ref p3, V.ref p4, V.ref z5, V.ref p6], St K H7 y := by
      intro y hy
      simp only [List.mem_cons, List.not_mem_nil, or_false] at hy
      rcases hy with rfl | rfl | rfl | rfl | rfl | rfl | rfl | rfl | rfl | rfl
      · exact .bl _
      · exact .bl _
      · exact .non
      · exact .str _
      · exact .str _
      · exact .lst ((s3.trans (s4.trans s57)) _ _ e2)
      · exact .tup ((s4.trans s57) _ _ e3)
      · exact .tup (s57 _ _ e4)
      · exact .tm (i5.same (s6.trans s7))
      · exact .dK (s7 _ _ e6)
    unfold ForW
    refine for_list (K := K) (a := p7) (xs := _) (fun j σ' H' => ∃ v2, σ' = [some (.ref x), some (.int up), v2] ∧ Same H7 H') ⟨none, rfl, Same.refl _⟩ (fun j σ' H' _ ⟨_, _, s⟩ => SqL.of (s _ _ e7)) ?_ ?_
    · rintro j y σ' H' hj ⟨v2, rfl, s9⟩
      have sty := (all y (List.mem_of_getElem? hj)).same s9
      have hx9 := hx.same (s17.trans s9)
      simp -dsimp [tSeq, tAsg, tRet, tIfS, tIf, tTest, tVar, tCons, tNil, tC, tOp, tUn, rI, rI0, rU, tCB, tLst_A, tTup_A, gName, L2.start, CMul, CPow, CDiv, tDrop, tBM, tBM0, tNext, tPar, gSub, rSetL, rIxL, rIxT, tChain, tB, tNot, tNotV, tAnd, tOr, tAndV, tOrV, tFld, tCall, rIxLH, rIxTH, atI, ixN, upd_same, cxK, ex2, ex3, ex3b, rIs1, rIs2, rNe2, tyN, kb1, kb2, kb3, kb4, kb5, kb6, rEq, rNe, scal, tMake_S, tMakeK_S, tMakeN_S]
      exact ⟨x, a, b, rfl, hx9, sty, .inl ⟨rfl, x, a, b, rfl, hx9, sty, .inr ⟨rfl, x, a, b, rfl, hx9, sty, .inl ⟨rfl, s9⟩⟩⟩⟩
    · rintro σ' H' ⟨v2, rfl, s9⟩
      simp -dsimp [tSeq, tAsg, tRet, tIfS, tIf, tTest, tVar, tCons, tNil, tC, tOp, tUn, rI, rI0, rU, tCB, tLst_A, tTup_A, gName, L2.start, CMul, CPow, CDiv, tDrop, tBM, tBM0, tNext, tPar, gSub, rSetL, rIxL, rIxT, tChain, tB, tNot, tNotV, tAnd, tOr, tAndV, tOrV, tFld, tCall, rIxLH, rIxTH, atI, ixN, upd_same, cxK, ex2, ex3, ex3b, rIs1, rIs2, rNe2, tyN, kb1, kb2, kb3, kb4, kb5, kb6, rEq, rNe, scal, tMake_S, tMakeK_S, tMakeN_S]
      exact q _ (s17.trans s9)
end
/-! ### the law -/
/-- all but what stands at l is kept -/
def SameN (l : Addr) (H H' : Hp) : Prop := ∀ b o, b ≠ l → H b = some o → H' b = some o
theorem SameN.of {l : Addr} {H H' : Hp} (h : Same H H') : SameN l H H' := fun b o _ e => h b o e
theorem SameN.trans {l : Addr} {H1 H2 H3 : Hp} (h : SameN l H1 H2) (k : SameN l H2 H3) : SameN l H1 H3 := fun b o n e => k b o n (h b o n e)
theorem SameN.upd {l : Addr} {H : Hp} {o : HO} : SameN l H (upd H l o) := fun b u n e => by rw [upd_ne n]; exact e
theorem SameN.tup {l t : Addr} {H H' : Hp} {d0 d1 d2 : Int} {xs : List V} (s : SameN l H H') (hl : H l = some (draws d0 d1 d2)) (ht : H t = some (.tup xs)) : H' t = some (.tup xs) := s _ _ (fun e => by rw [e, hl] at ht; cases ht) ht
theorem SameN.sh {K : PySem.W.Frag} {l y : Addr} {H H' : Hp} {d0 d1 d2 c d : Int} (s : SameN l H H') (hl : H l = some (draws d0 d1 d2)) (h : IsSh K H y c d) : IsSh K H' y c d := by
  obtain ⟨dy, h⟩ := h
  exact ⟨dy, s _ _ (fun e => by rw [e, hl] at h; cases h) h⟩
theorem SameN.nu {K : PySem.W.Frag} {l : Addr} {v : V} {H H' : Hp} {d0 d1 d2 c d : Int} (s : SameN l H H') (hl : H l = some (draws d0 d1 d2)) (h : Nu K H v c d) : Nu K H' v c d := by
  rcases h with ⟨y, e, h⟩ | h
  · exact .inl ⟨y, e, s.sh hl h⟩
  · exact .inr h

section
variable {P : Program} {w : World} {K : PySem.W.Frag} {mg : Str → Option Value} {base : Heap}
abbrev CXL (_ : Program) (_ : World) : CXT := CX0
def lawK : Nat := 7
def spLaw (K : PySem.W.Frag) : Sp := fun vs H Q _ => ∃ (a : Addr) (ns : List Int), vs = [.ref a] ∧ SqL K H a (ns.map V.int) ∧ ns.length ≤ 63 ∧ ∀ H', Q (.bl true) H'
theorem hCX {P : Program} {w : World} : ∀ (H : Hp) (s : Shared) (e : Value) (s' : Shared), CXL P w [] H s (fun _ _ _ => False) e s' → False := fun _ _ _ _ z => z
theorem scLaw : FnScope ["_law_script", "_law_turn", "_law_draws", "_law_first", "_law_due_here", "_law_share", "_law_other_here", "_law_part"] ["_law_script"] d_law.scope := ⟨rfl, rfl, rfl, by decide +kernel, rfl, by decide +kernel, by decide +kernel⟩
theorem three {G0 : Hp} {x y : V} {px py : Addr} {c d c' d' : Int} {R : VK} (hx : Nu K G0 x c d) (hy : Nu K G0 y c' d') (sm : Sm c d c' d') (hz : (∃ z, x = .ref z) ∨ ∃ z, y = .ref z) (ex : G0 px = some (.tup [.int c, .int d])) (ey : G0 py = some (.tup [.int c', .int d']))
    (k : ∀ G1, Same G0 G1 → R (.bl true) G1) : spSix K [x, y] G0 (fun x1 H1 => spDue K [.ref px, .ref py] H1 (fun x2 H2 => spSameL K [x1, x2] H2 R E0) E0) E0 :=
  ⟨x, y, c, d, c', d', rfl, hx, hy, sm, hz, fun p H1 e1 s1 => ⟨px, py, c, d, c', d', rfl, s1 _ _ ex, s1 _ _ ey, sm, fun p2 H2 _ e2 s2 =>
    ⟨p, p2, [decide (c * d' - c' * d < 0), decide (c * d' - c' * d ≤ 0), decide (0 < c * d' - c' * d), decide (0 ≤ c * d' - c' * d), decide (c * d' - c' * d = 0), !decide (c * d' - c' * d = 0)], rfl, s2 _ _ e1, e2, by simp, fun H3 s3 => k _ ((s1.trans s2).trans s3)⟩⟩⟩
theorem ok_law (W : Wd K mg) (hP : SupX.PrgOk P) {fd : FuncData} (F : FunD K d_law.name d_law.qual d_law.params d_law.body d_law.scope (d_law.dvs K) (d_law.kws K) (He.fAd K d_law.at_) fd) : FnOk P w K mg base (CXL P w) lawK (He.ga K "law") fd ["_law_script"] (spLaw K) := by
  obtain ⟨fd_init, G_init, F_init⟩ := ok_init (P := P) (w := w) (base := base) W
  obtain ⟨ds_init1, v_init1, b_init1⟩ := bind2 F_init
  obtain ⟨fd_source, G_source, b_source⟩ := ok_source (P := P) (w := w) (base := base) W
  have k_source : PySem.W.keepIn K (.ref (He.ga K "_law_source")) = true := by obtain ⟨fd, F⟩ := W.F_source; exact F.kp
  obtain ⟨fd_ratio, G_ratio, b_ratio⟩ := ok_ratio (P := P) (w := w) (base := base) W
  have k_ratio : PySem.W.keepIn K (.ref (He.ga K "_law_ratio")) = true := by obtain ⟨fd, F⟩ := W.F_ratio; exact F.kp
  obtain ⟨fd_draw, G_draw, b_draw⟩ := ok_draw (P := P) (w := w) (base := base) W
  have k_draw : PySem.W.keepIn K (.ref (He.ga K "_law_draw")) = true := by obtain ⟨fd, F⟩ := W.F_draw; exact F.kp
  obtain ⟨fd_other, G_other, b_other⟩ := ok_other (P := P) (w := w) (base := base) W
  have k_other : PySem.W.keepIn K (.ref (He.ga K "_law_other")) = true := by obtain ⟨fd, F⟩ := W.F_other; exact F.kp
  obtain ⟨fd_sameL, G_sameL, b_sameL⟩ := ok_sameL (P := P) (w := w) (base := base) W
  have k_sameL : PySem.W.keepIn K (.ref (He.ga K "_law_same")) = true := by obtain ⟨fd, F⟩ := W.F_same; exact F.kp
  obtain ⟨fd_due, G_due, b_due⟩ := ok_due (P := P) (w := w) (base := base) W
  have k_due : PySem.W.keepIn K (.ref (He.ga K "_law_due")) = true := by obtain ⟨fd, F⟩ := W.F_due; exact F.kp
  obtain ⟨fd_six, G_six, b_six⟩ := ok_six (P := P) (w := w) (base := base) W
  have k_six : PySem.W.keepIn K (.ref (He.ga K "_law_six")) = true := by obtain ⟨fd, F⟩ := W.F_six; exact F.kp
  obtain ⟨fd_strange, G_strange, b_strange⟩ := ok_strange (P := P) (w := w) (base := base) W
  have k_strange : PySem.W.keepIn K (.ref (He.ga K "_law_strange")) = true := by obtain ⟨fd, F⟩ := W.F_strange; exact F.kp
  refine F.ok scLaw (fun vs H Q E h => ?_) (fun cdv A outer s H vs Q E hr h => ?_)
  · obtain ⟨a, ns, rfl, _⟩ := h
    rfl
  · obtain ⟨a, ns, rfl, hS, hlen, q⟩ := h
    have r1 : Room 1 _ := hr.mono (by decide)
    have r2 : Room 2 _ := hr.mono (by decide)
    have r3 : Room 3 _ := hr.mono (by decide)
    have r4 : Room 4 _ := hr.mono (by decide)
    have r5 : Room 5 _ := hr.mono (by decide)
    have r6 : Room 6 _ := hr.mono (by decide)
    refine ⟨_, PSs.nox (pss_cons (ps_for PassesOwn.never rfl (pi_range1 rfl W.f_range (pa_cons pe_int pa_nil)) (pg_name (i := 1) scLaw.nd rfl (Or.inl rfl)) (pss_cons (ps_set (i := 2) scLaw.nd rfl (Or.inl rfl) (pe_call G_source r1 rfl W.g_law_source k_source b_source .nil pass0 (pa_cons (pv 0) (pa_cons (pv 1) pa_nil))))
    (pss_cons (ps_asg (pe_call G_ratio r4 rfl W.g_law_ratio k_ratio b_ratio .nil pass0 (pa_cons (pv 2) pa_nil)) (pg_tup rfl (pgs_cons (pg_name (i := 3) scLaw.nd rfl (Or.inl rfl)) (pgs_cons (pg_name (i := 4) scLaw.nd rfl (Or.inl rfl)) pgs_nil))))
    (pss_cons (ps_set (i := 5) scLaw.nd rfl (Or.inl rfl) (pe_make W.mkr_Share G_init r3 rfl W.g_Share (bind3 F_init) .nil pass0 (pa_cons (pe_ix ix_tupH (pv 4) pe_int (fun _ _ => rfl)) (pa_cons (pe_ix ix_tupH (pv 4) pe_int (fun _ _ => rfl)) pa_nil))))
    (C8.pss_cut (ps_asg (pe_ifExp (pt_cmpR op_eq (pe_call G_draw r1 rfl W.g_law_draw k_draw b_draw .nil pass0 (pa_cons (pv 2) (pa_cons pe_int pa_nil))) pe_int (nomark _)) (pe_call G_ratio r4 rfl W.g_law_ratio k_ratio b_ratio .nil pass0 (pa_cons (pv 2) pa_nil)) (pe_call G_other r4 rfl W.g_law_other k_other b_other .nil pass0 (pa_cons (pv 2) (pa_cons (pv 4) pa_nil)))) (pg_tup rfl (pgs_cons (pg_name (i := 6) scLaw.nd rfl (Or.inl rfl)) (pgs_cons (pg_name (i := 7) scLaw.nd rfl (Or.inl rfl)) pgs_nil))))
    (pss_cons (ps_if (pt_not (pt_val (pe_call G_sameL r2 rfl W.g_law_same k_sameL b_sameL .nil pass0 (pa_cons (pe_call G_six r5 rfl W.g_law_six k_six b_six .nil pass0 (pa_cons (pv 5) (pa_cons (pv 6) pa_nil))) (pa_cons (pe_call G_due r1 rfl W.g_law_due k_due b_due .nil pass0 (pa_cons (pv 4) (pa_cons (pv 7) pa_nil))) pa_nil))))) (pss_one (ps_ret pe_bl)) pss_nil)
    (pss_cons (ps_if (pt_not (pt_val (pe_call G_sameL r2 rfl W.g_law_same k_sameL b_sameL .nil pass0 (pa_cons (pe_call G_six r5 rfl W.g_law_six k_six b_six .nil pass0 (pa_cons (pv 6) (pa_cons (pv 5) pa_nil))) (pa_cons (pe_call G_due r1 rfl W.g_law_due k_due b_due .nil pass0 (pa_cons (pv 7) (pa_cons (pv 4) pa_nil))) pa_nil))))) (pss_one (ps_ret pe_bl)) pss_nil)
    (pss_one (ps_if (PW.pt (pw_or (pt_not (pt_val (pe_call G_sameL r2 rfl W.g_law_same k_sameL b_sameL .nil pass0 (pa_cons (pe_call G_six r5 rfl W.g_law_six k_six b_six .nil pass0 (pa_cons (pv 5) (pa_cons (pv 3) pa_nil))) (pa_cons (pe_call G_due r1 rfl W.g_law_due k_due b_due .nil pass0 (pa_cons (pv 4) (pa_cons (pv 4) pa_nil))) pa_nil))))) (pw_or1 (pt_not (pt_val (pe_call G_strange r6 rfl W.g_law_strange k_strange b_strange .nil pass0 (pa_cons (pv 5) (pa_cons (pe_ix ix_tupH (pv 4) pe_int (fun _ _ => rfl)) pa_nil)))))))) (pss_one (ps_ret pe_bl)) pss_nil)))))))))
    (pss_one (ps_ret pe_bl))), ?_⟩
    simp -dsimp [tSeq, tAsg, tRet, tIfS, tIf, tTest, tVar, tCons, tNil, tC, tOp, tUn, rI, rI0, rU, tCB, tLst_A, tTup_A, gName, L2.start, CMul, CPow, CDiv, tDrop, tBM, tBM0, tNext, tPar, gSub, rSetL, rIxL, rIxT, tChain, tB, tNot, tNotV, tAnd, tOr, tAndV, tOrV, tFld, tCall, rIxLH, rIxTH, atI, ixN, upd_same, cxK, ex2, ex3, ex3b, rIs1, rIs2, rNe2, tyN, kb1, kb2, kb3, kb4, kb5, kb6, rEq, rNe, scal, tMake_S, tMakeK_S, tMakeN_S]
    refine ⟨10, rfl, by decide, by decide, for_range (n := 10) (fun i σ H' => ∃ (v1 v2 v3 v4 v5 v6 v7 : Option V), σ = [some (.ref a), v1, v2, v3, v4, v5, v6, v7] ∧ Same H H') ⟨none, none, none, none, none, none, none, rfl, Same.refl _⟩ ?_ ?_⟩
    · rintro i σ H1 hi ⟨v1, v2, v3, v4, v5, v6, v7, rfl, sA⟩
      simp -dsimp [tSeq, tAsg, tRet, tIfS, tIf, tTest, tVar, tCons, tNil, tC, tOp, tUn, rI, rI0, rU, tCB, tLst_A, tTup_A, gName, L2.start, CMul, CPow, CDiv, tDrop, tBM, tBM0, tNext, tPar, gSub, rSetL, rIxL, rIxT, tChain, tB, tNot, tNotV, tAnd, tOr, tAndV, tOrV, tFld, tCall, rIxLH, rIxTH, atI, ixN, upd_same, cxK, ex2, ex3, ex3b, rIs1, rIs2, rNe2, tyN, kb1, kb2, kb3, kb4, kb5, kb6, rEq, rNe, scal, tMake_S, tMakeK_S, tMakeN_S]
      refine ⟨a, ns, i, rfl, sA.seq hS, by omega, fun d0 d1 l nl => ?_⟩
      have N1 : SameN l H1 (upd H1 l (draws d0 d1 0)) := .upd
      refine ⟨l, d0, d1, 0, rfl, upd_same, fun e0 e1 e2 pA HA vA uA cA dA sB hpA htA nA lA bcA bdA => tup2 hpA ?_⟩
      have hlA : HA l = some (draws e0 e1 e2) := sB _ _ upd_same
      have N2 : SameN l H1 HA := (N1.trans .upd).trans (.of sB)
      simp -dsimp [tSeq, tAsg, tRet, tIfS, tIf, tTest, tVar, tCons, tNil, tC, tOp, tUn, rI, rI0, rU, tCB, tLst_A, tTup_A, gName, L2.start, CMul, CPow, CDiv, tDrop, tBM, tBM0, tNext, tPar, gSub, rSetL, rIxL, rIxT, tChain, tB, tNot, tNotV, tAnd, tOr, tAndV, tOrV, tFld, tCall, rIxLH, rIxTH, atI, ixN, upd_same, cxK, ex2, ex3, ex3b, rIs1, rIs2, rNe2, tyN, kb1, kb2, kb3, kb4, kb5, kb6, rEq, rNe, scal, tMake_S, tMakeK_S, tMakeN_S, htA]
      refine MkS.of rfl (Int.ne_of_gt lA.1) (big_of (Nat.lt_trans bdA (by decide))) fun x HC nC iC sD => ?_
      rw [(lo_low lA).1, (lo_low lA).2] at iC
      have hlC : HC l = some (draws e0 e1 e2) := sD _ _ hlA
      have gA : ∀ {G : Hp}, SameN l HC G → G uA = some (.tup [.int cA, .int dA]) ∧ Nu K G vA cA dA ∧ IsSh K G x cA dA := fun z => ⟨z.tup hlC (sD _ _ htA), z.nu hlC (nA.same sD), z.sh hlC iC⟩
      refine ⟨fun σ' G => ∃ (vB : V) (uB : Addr) (cB dB : Int), σ' = [some (.ref a), some (.int i), some (.ref l), some vA, some (.ref uA), some (.ref x), some vB, some (.ref uB)] ∧ SameN l HC G ∧ Nu K G vB cB dB ∧ G uB = some (.tup [.int cB, .int dB]) ∧ Low cB dB ∧ cB.natAbs < 1000000000000 ∧ dB.natAbs < 1000000000000, ?_, ?_⟩
      · simp -dsimp [tSeq, tAsg, tRet, tIfS, tIf, tTest, tVar, tCons, tNil, tC, tOp, tUn, rI, rI0, rU, tCB, tLst_A, tTup_A, gName, L2.start, CMul, CPow, CDiv, tDrop, tBM, tBM0, tNext, tPar, gSub, rSetL, rIxL, rIxT, tChain, tB, tNot, tNotV, tAnd, tOr, tAndV, tOrV, tFld, tCall, rIxLH, rIxTH, atI, ixN, upd_same, cxK, ex2, ex3, ex3b, rIs1, rIs2, rNe2, tyN, kb1, kb2, kb3, kb4, kb5, kb6, rEq, rNe, scal, tMake_S, tMakeK_S, tMakeN_S]
        refine ⟨l, e0, e1, e2, 2, rfl, hlC, by decide, by decide, fun r k0 k1 k2 _ _ => ⟨rfl, ?_⟩⟩
        have M1 : SameN l HC (upd HC l (draws k0 k1 k2)) := .upd
        split
        · refine ⟨l, k0, k1, k2, rfl, upd_same, fun f0 f1 f2 pB HB vB uB cB dB sC hpB htB nB lB bcB bdB => tup2 hpB ?_⟩
          have M2 : SameN l HC HB := (M1.trans .upd).trans (.of sC)
          try simp -dsimp [tSeq, tAsg, tRet, tIfS, tIf, tTest, tVar, tCons, tNil, tC, tOp, tUn, rI, rI0, rU, tCB, tLst_A, tTup_A, gName, L2.start, CMul, CPow, CDiv, tDrop, tBM, tBM0, tNext, tPar, gSub, rSetL, rIxL, rIxT, tChain, tB, tNot, tNotV, tAnd, tOr, tAndV, tOrV, tFld, tCall, rIxLH, rIxTH, atI, ixN, upd_same, cxK, ex2, ex3, ex3b, rIs1, rIs2, rNe2, tyN, kb1, kb2, kb3, kb4, kb5, kb6, rEq, rNe, scal, tMake_S, tMakeK_S, tMakeN_S]
          exact ⟨M2, cB, dB, nB, htB, lB, bcB, bdB⟩
        · refine ⟨l, uA, k0, k1, k2, cA, dA, rfl, upd_same, (gA M1).1, lA, bcA, bdA, fun f0 f1 f2 pB HB vB uB cB dB sC hpB htB nB lB bcB bdB => tup2 hpB ?_⟩
          have M2 : SameN l HC HB := (M1.trans .upd).trans (.of sC)
          try simp -dsimp [tSeq, tAsg, tRet, tIfS, tIf, tTest, tVar, tCons, tNil, tC, tOp, tUn, rI, rI0, rU, tCB, tLst_A, tTup_A, gName, L2.start, CMul, CPow, CDiv, tDrop, tBM, tBM0, tNext, tPar, gSub, rSetL, rIxL, rIxT, tChain, tB, tNot, tNotV, tAnd, tOr, tAndV, tOrV, tFld, tCall, rIxLH, rIxTH, atI, ixN, upd_same, cxK, ex2, ex3, ex3b, rIs1, rIs2, rNe2, tyN, kb1, kb2, kb3, kb4, kb5, kb6, rEq, rNe, scal, tMake_S, tMakeK_S, tMakeN_S]
          exact ⟨M2, cB, dB, nB, htB, lB, bcB, bdB⟩
      · rintro σ' G ⟨vB, uB, cB, dB, rfl, sG, nB, htB, lB, bcB, bdB⟩
        obtain ⟨hu, hv, hx⟩ := gA sG
        have hv' : Nu K G (.ref x) cA dA := .inl ⟨x, rfl, hx⟩
        simp -dsimp [tSeq, tAsg, tRet, tIfS, tIf, tTest, tVar, tCons, tNil, tC, tOp, tUn, rI, rI0, rU, tCB, tLst_A, tTup_A, gName, L2.start, CMul, CPow, CDiv, tDrop, tBM, tBM0, tNext, tPar, gSub, rSetL, rIxL, rIxT, tChain, tB, tNot, tNotV, tAnd, tOr, tAndV, tOrV, tFld, tCall, rIxLH, rIxTH, atI, ixN, upd_same, cxK, ex2, ex3, ex3b, rIs1, rIs2, rNe2, tyN, kb1, kb2, kb3, kb4, kb5, kb6, rEq, rNe, scal, tMake_S, tMakeK_S, tMakeN_S]
        have smv : ∀ {p q r t : Int}, p.natAbs < 1000000000000 → q.natAbs < 1000000000000 → r.natAbs < 1000000000000 → t.natAbs < 1000000000000 → Sm p q r t := fun h1 h2 h3 h4 => ⟨h_of (Nat.lt_trans h1 (by decide)), h_of (Nat.lt_trans h2 (by decide)), h_of (Nat.lt_trans h3 (by decide)), h_of (Nat.lt_trans h4 (by decide))⟩
        refine three hv' nB (smv bcA bdA bcB bdB) (.inl ⟨x, rfl⟩) hu htB fun G1 u1 => .inr ⟨rfl, ?_⟩
        refine three (nB.same u1) (hv'.same u1) (smv bcB bdB bcA bdA) (.inr ⟨x, rfl⟩) (u1 _ _ htB) (u1 _ _ hu) fun G2 u2 => .inr ⟨rfl, ?_⟩
        have u12 := u1.trans u2
        refine three (hv'.same u12) (hv.same u12) (smv bcA bdA bcA bdA) (.inl ⟨x, rfl⟩) (u12 _ _ hu) (u12 _ _ hu) fun G3 u3 => .inr ⟨rfl, _, (u12.trans u3) _ _ hu, .int cA, rfl, ?_⟩
        have u13 := u12.trans u3
        refine ⟨x, cA, cA, dA, rfl, hx.same u13, Nat.lt_trans bcA (by decide), Nat.lt_trans bdA (by decide), fun G4 u4 => .inr ⟨rfl, ?_⟩⟩
        have SE : ∀ {G' : Hp}, SameN l H1 G' → Same H G' := fun z b o e => z b o (ne_of_none (sA _ _ e) nl) (sA _ _ e)
        exact SE (((N2.trans (.of sD)).trans sG).trans (.of (u13.trans u4)))
    · rintro σ H1 ⟨v1, v2, v3, v4, v5, v6, v7, rfl, sA⟩
      simp -dsimp [tSeq, tAsg, tRet, tIfS, tIf, tTest, tVar, tCons, tNil, tC, tOp, tUn, rI, rI0, rU, tCB, tLst_A, tTup_A, gName, L2.start, CMul, CPow, CDiv, tDrop, tBM, tBM0, tNext, tPar, gSub, rSetL, rIxL, rIxT, tChain, tB, tNot, tNotV, tAnd, tOr, tAndV, tOrV, tFld, tCall, rIxLH, rIxTH, atI, ixN, upd_same, cxK, ex2, ex3, ex3b, rIs1, rIs2, rNe2, tyN, kb1, kb2, kb3, kb4, kb5, kb6, rEq, rNe, scal, tMake_S, tMakeK_S, tMakeN_S]
      exact q _
end
theorem facts {P : Program} {w : World} {K : PySem.W.Frag} {h : Heap} {mg : Str → Option Value} {f : Addr} (X : K.In h) (G : h.Ns mainGlobals mg) (hfa : mg ("law" : Str) = some (.ref f)) (c : SaysX fa fn sups extra stats K) (hP : SupX.PrgOk P) :
    ∃ fd : FuncData, (∀ (s : Shared) (v : Value), BindsTo s fd ⟨[v], []⟩ [("_law_script", v)]) ∧ ∀ base : Heap, K.In base → base.Ns mainGlobals mg → FnOk P w K mg base (CXL P w) lawK f fd ["_law_script"] (spLaw K) := by
  have Wq : Wd K mg := ⟨c, h, X, G⟩
  have e := hfa.symm.trans (Wq.g_law)
  cases e
  obtain ⟨fd, F⟩ := Wq.F_law
  have b := FunD.bindsA (ps := ["_law_script"]) F fun _ _ _ _ _ _ us hl => match us, hl with | [_], _ => rfl
  exact ⟨fd, fun s v => b s [v] rfl, fun base _ _ => ok_law Wq hP F⟩
theorem walk {l : PySem.W.OpenLaw} {q : Program} {loose : List Str} {XP : (Str → Option Value) → Heap → Prop} {YP : World → Heap → Prop} {d : DefRec} {K : Params → PySem.W.Frag} (hn : l.most = some 63) (hdf : d.params.defaults = []) (hdn : d.name = "law")
    (hY : ∀ (w : World) (h : Heap), YP w h → (K w.params).In h) (hS : ∀ w : World, SaysX fa fn sups extra stats (K w.params)) (hP : SupX.PrgOk l.prog) :
    PySem.W.WalkO q loose XP YP l.row.toRowW d [] (fun f vs => PySem.call f vs) :=
  L2.walk_of (n := 63) (k := lawK) (x := "_law_script") (CX := fun w => CXL l.prog w) (sp := fun w => spLaw (K w.params)) hn (by decide) hdf ⟨rfl, by decide, by decide⟩ hY
    (fun w mg fa h KX G hmg => facts KX G (by rw [hdn] at hmg; exact hmg) (hS w) hP) (fun _ _ a ns hl _ hS => ⟨a, ns, rfl, hS, hl, fun _ => rfl⟩) fun _ H s e s' z => hCX H s e s' z
end LW
open PySem PySem.W PyProof.Rows
set_option maxRecDepth 100000 in
set_option maxHeartbeats 0 in
theorem PySem.Challenge.cw_lessways_k33_shares_compared_holds : PySem.Challenge.rw_lessways_k33_shares_compared.Holds := by
  w_on; o_law; k_head; (case hw => w_witness2)
  k_fill
  exact LW.walk (l := PySem.Challenge.rw_lessways_k33_shares_compared) rfl rfl rfl (fun w h Y => PySem.W.kIn_of Y) (fun w => by unfold LW.SaysX; kernel_rfl) ⟨by kernel_rfl, by kernel_rfl⟩
#print axioms PySem.Challenge.cw_lessways_k33_shares_compared_holds
