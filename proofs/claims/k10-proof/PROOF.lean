import PyProof.Rows.All
import HandS.TupAny
import HandS.Star
import Wide.All
import OpenK.AllK
import Wide.FinOn
import KE.KStateDown
import Lean
import HandS.ForMost
import HandS.ForExc
import HandS.Defaults
import HandS.IsInst
import HandS.Wide
import HandS.Zip
import HandS.Walk
import HandS.Codes
import HandS.FStr
import HandS.StrMore
import HandS.Style
import HandS.MakeKw
import HandS.MakeKwOnly
import HandS.CallSlots
import HandS.ExcInit
import HandS.ExcField
import HandS.SlotsOwn
import KE.KExcSuper
import HandS.HeadHook1
import HandS.HeadHook2
import KE.KCallOwn
import HandS.NestedK
import KE.KOpsOwn
import HandS.ClsMeth
import HandS.HeadNt
import KE.KEqDict
import HandS.OwnEq
import KE.GoesNew
import HandS.Star
import PySem.Challenge.RW_lessways_k10_leaves_depth_walk
set_option Elab.async false
set_option linter.all false
set_option maxRecDepth 100000
set_option maxHeartbeats 4000000
namespace LW
open PySem PySem.Spec PyProof.Rows L2
/-! ### super().__init__(text); self.f = p : an own exception's __init__ -/
namespace SupX
open PySem.W
/-- what the written part says of the class at C whose __init__ stands at f -/
structure SupC (P : Program) (K : PySem.W.Frag) (C f cc cda : Addr) (name qual : Str) (st : Stmt) : Prop where
  oex : OexC K C
  lk : ∃ (oc : Value) (od : Option Addr) (doc pm : Value) (an : Option Addr) (ct : Value) (osl : Array (Option Value)), K.lookup f = some ⟨oc, od, .func (PySem.W.ksFn name qual (defArgs st) (defBody st) (defScope st) .none .none doc pm an (.ref cda) ct cc), osl⟩
  code : PySem.W.codeIn K (.ref cda) qual = true
  file : ∃ (ccl : Value) (cdd : Option Addr) (vs : Array Value) (ccs : Array (Option Value)) (file : Str) (tf : Tok), K.lookup cda = some ⟨ccl, cdd, .fields vs, ccs⟩ ∧ vs[2]? = some (.str file tf) ∧ ((P.main.file : Str) == file) = true
  cell : ∃ (cl : Value) (cld : Option Addr) (csl : Array (Option Value)), K.lookup cc = some ⟨cl, cld, .cell (some (.ref C)), csl⟩
  isc : ∃ cd, PySem.W.clsIn K C = some cd
  sub : PySem.W.mroIn K C (.ref C) = some true
  sup : PySem.W.nsIn K mainGlobals "super" = some none
  opq : PySem.W.nsIn K PySem.cStatics "thirdparty.any" = some none
  ini : PySem.W.ks_superIn K C C "__init__" = some (some (.builtin "ValueError.__init__"))
  veb : PySem.W.subIn K (.ref C) (.type "ValueError") = some true
  top : (P.main.scope.names.lookup ("super" : Str)).isSome = false
section
variable {X : Cx} {C f cc cda a : Addr} {name qual : Str} {st : Stmt} {body : List Stmt} {scope : Scope} {H : Hp} {s : Shared} {v : V} {par : Str} {p0 p1 p2 p3 p4 p5 : Pos} {msg : Str} {j : Nat}
theorem super_stmt (T : SupC X.prog X.K C f cc cda name qual st) (henv : X.env = PySem.W.ksEnv qual scope X.env.locals f (.ref cda) cc) (hN0 : X.N[0]? = some ("self" : Str))
    (hks : scope.names.lookup ("super" : Str) = some .globalImplicit) (hkc : scope.names.lookup ("__class__" : Str) = some .free) (hka : scope.names.lookup ("self" : Str) = some .local) (hk : scope.kind = .function)
    (hp : ((defArgs st).posonlyargs ++ (defArgs st).args).head?.map (·.arg) = some ("self" : Str)) {pl : Sem Bool}
    (he : eval (.Call (.Attribute (.Call (.Name "super" p0) [] [] p1) "__init__" p2) [.Constant (.str msg) j p3] [] p4) X.env = (do
      let ov ← attributeBase (.Call (.Name "super" p0) [] [] p1) "__init__" X.env (eval (.Call (.Name "super" p0) [] [] p1) X.env)
      standAt p2.atName
      let (f, first) ← holding [ov] (getMethod ov "__init__" pl)
      callWith p4 f first (backTo p4 (starEach [.Constant (.str msg) j p3] X.env)) []))
    (hsw : swapsWith (.Call (.Attribute (.Call (.Name "super" p0) [] [] p1) "__init__" p2) [.Constant (.str msg) j p3] [] p4) none p5.line X.env = pure false) (hi : interactive X.env = false)
    {σ : List (Option V)} (hσ : σ[0]? = some (some (.ref a))) (I : Inv X [] σ H s) (ha : H a = some (exo a C none)) {Q : Flow → Shared → Prop} (h : ∀ s', Inv X [] σ H s' → Q .next s') :
    _root_.PySem.wpAt (model X.prog X.w) X.A (.func body X.env) (exec (.Expr (.Call (.Attribute (.Call (.Name "super" p0) [] [] p1) "__init__" p2) [.Constant (.str msg) j p3] [] p4) p5) X.env) Q X.xe s := by
  obtain ⟨oc, od, doc, pm, an, ct, osl, lk⟩ := T.lk
  obtain ⟨ccl, cdd, vs, ccs, file, tf, lcd, hvs, hfile⟩ := T.file
  obtain ⟨cl, cld, csl, lcc⟩ := T.cell
  obtain ⟨cd, hcd⟩ := T.isc
  obtain ⟨ar, har, hara⟩ : ∃ ar, ((defArgs st).posonlyargs ++ (defArgs st).args).head? = some ar ∧ ar.arg = "self" := by
    cases e : ((defArgs st).posonlyargs ++ (defArgs st).args).head? with
    | none =>
      rw [e] at hp
      cases hp
    | some ar =>
      rw [e] at hp
      exact ⟨ar, rfl, Option.some.inj hp⟩
  have kX : X.K.In s.heap := I.kIn
  have k4 : X.env.scope.kind = .function := I.ok.kind
  obtain ⟨mb, hb1, hb2⟩ := I.mod.blt
  obtain ⟨m, hns, hl⟩ := I.loc
  have hself : m ("self" : Str) = some (.ref a) := by
    obtain ⟨u, r, l⟩ := hl 0 "self" (.ref a) hN0 hσ (.inl (by rw [henv]; exact hka))
    obtain rfl : u = Value.ref a := r
    rcases l with ⟨_, e⟩ | ⟨e, _⟩
    · exact e
    · rw [henv] at e
      have e2 : scope.names.lookup ("self" : Str) = some .cell ∨ scope.names.lookup ("self" : Str) = some .free := e
      rw [hka] at e2
      rcases e2 with e2 | e2 <;> cases e2
  generalize hL : X.env.locals = L at *
  rw [henv] at he hsw hi ⊢
  obtain ⟨t1, ho⟩ := exo_at I.hok ha
  obtain ⟨oD, hD1, hD2⟩ : ∃ oD, s.heap.get? C = some oD ∧ oD.data = .cls cd := by
    unfold PySem.W.clsIn at hcd
    split at hcd
    · rename_i c d cd' sl hoo
      cases hcd
      exact ⟨_, kX _ _ hoo, rfl⟩
    · cases hcd
  have J0 : PySem.W.InstAt s.heap a { cls := .ref C, dict := none, data := .fields #[.ref t1, .none, .none, .none, .bool false, .none] } C none := ⟨ho, rfl, rfl, trivial⟩
  refine PySem.ks_wpAt_Expr_any (PySem.ks_wpAt_MethodCall (PySem.ks_wpAt_super_base hks hkc rfl rfl (kX _ _ lk) rfl har rfl (kX _ _ lcd) rfl hvs hfile T.top ?_) he) hi hsw
  refine PySem.W.ks_loadName_global hk hks (Calls.loadGlobal_builtin (I.mod.glob.keeps I.bk) (PySem.W.mg_none_of I.mod.kin I.mod.glob T.sup) (hb1.keeps I.bk) ((hb2 _ (by decide)).trans (by decide +kernel : bootBuiltins "super" = some (.type "super"))) ⟨rfl, ?_⟩)
  refine wpAny_loadName_free hk hkc rfl ⟨_, kX _ _ lcc, rfl⟩ ?_
  refine wpAny_loadName_local hk (by rw [hara]; exact hka) hns (by rw [hara]; exact hself) ?_
  refine PySem.ks_wpAny_isType_cls hD1 hD2 ⟨rfl, ?_⟩
  obtain ⟨hh, g, dr, tk, os⟩ := s
  refine PySem.ks_wpAny_call_super hD1 hD2 ho rfl (fun c e => by cases e) (PySem.W.looks_mroIn kX T.sub) (fun h1 e1 kk1 => ?_)
  have I1 : Inv X [] σ H ⟨h1, g, dr, tk, os⟩ := I.kept (t' := tk) kk1
  have ho1 := kk1 _ _ ho
  have kX1 : X.K.In h1 := I1.kIn
  have hI1 : PySem.W.Looks (model X.prog X.w) h1 (isInstance (.ref a) (.type "ValueError")) true := (PySem.W.InstAt.type (M := model X.prog X.w) (show PySem.W.InstAt h1 a { cls := .ref C, dict := none, data := .fields #[.ref t1, .none, .none, .none, .bool false, .none] } C none from ⟨ho1, rfl, rfl, trivial⟩)).andThen (PySem.W.looks_subIn kX1 T.veb)
  have hini := T.ini
  unfold PySem.W.ks_superIn at hini
  rw [hcd] at hini
  refine PySem.W.kxs_getMethod PySem.W.kxs_ValueError e1 (PySem.W.looks_opaque kX1 T.opq) (l₀ := cd.mro) (fun A Q E s k q => wpAny_bind ((PySem.W.looks_clsIn kX1 hcd) A _ E s k (wpAny_pure q))) rfl kX1 hini hI1 (PySem.W.ks_ne kX J0 hcd) rfl ?_
  have kk2 : ∀ b o, h1.get? b = some o → (h1.push (PySem.W.kxs_mw "ValueError.__init__" a)).get? b = some o := fun b o e => Heap.get?_push_of_some _ e
  have hu : (h1.push (PySem.W.kxs_mw "ValueError.__init__" a)).get? h1.objs.size = some (PySem.W.kxs_mw "ValueError.__init__" a) := Heap.get?_push_at rfl rfl
  have I2 : Inv X [] σ H ⟨h1.push (PySem.W.kxs_mw "ValueError.__init__" a), g, dr, tk + 1, os⟩ := I1.kept (t' := tk + 1) kk2
  have hu0 : H h1.objs.size = none := I1.hok.fresh (Nat.le_refl _)
  have I3 : Inv X [(h1.objs.size, PySem.W.kxs_mw "ValueError.__init__" a)] σ H ⟨h1.push (PySem.W.kxs_mw "ValueError.__init__" a), g, dr, tk + 1, os⟩ := ⟨I2.ok, I2.os, I2.bare, I2.base, I2.loc, I2.cell, I2.free, I2.freeC, fun p hp => by
    rcases List.mem_append.mp hp with hp | hp
    · exact I2.pin p (List.mem_append_left _ hp)
    · cases List.mem_singleton.mp hp
      exact ⟨hu, hu0, Nat.ne_of_gt I1.lt, I1.nofs (Nat.le_refl _), fun v e => by cases e⟩, I2.hok, I2.len⟩
  refine PySem.W.kxs_callWith (i := "ValueError.__init__") (x := a) rfl ?_
  rw [show ([.Constant (.str msg) j p3] : List Expr) = .Constant (.str msg) j p3 :: [] from rfl]
  refine Calls.evalArgs_plain ?_
  rw [← henv]
  refine thn ((pa_cons (X := X) (pe_str (x := msg) (j := j) (pos := p3)) pa_nil).run p4 _ _ σ H (fun vs H' => vs = [.str msg] ∧ H' = H) I3 ⟨rfl, rfl⟩) fun us s1 ⟨vs, H', I4, r4, ev, eH⟩ => ?_
  subst ev eH
  have hu4 := (I4.pin (h1.objs.size, PySem.W.kxs_mw "ValueError.__init__" a) (List.mem_append_right _ (List.mem_singleton.mpr rfl))).1
  refine ⟨hu4, ?_⟩
  have I5 : Inv X [] σ H' s1 := Inv.unpinned (pl := [(h1.objs.size, PySem.W.kxs_mw "ValueError.__init__" a)]) I4
  obtain ⟨nm, qn, Nn, bs, bm, sn, sub, ab, col, dd, k0, k1, k2, k3, k5, hC, hbm⟩ := T.oex.cls
  have hC4 := I5.kIn _ _ hC
  obtain ⟨t4, ho4⟩ := exo_at I5.hok ha
  have hlen : us.length ≤ sizeLine := by
    rw [← r4.length]
    show 1 ≤ sizeLine
    decide
  obtain ⟨hh4, g4, d4, tk4, os4⟩ := s1
  refine wpAny_call (codeAny_of_tree ?_)
  show wpAny _ X.A.in1 (callAny (.ref h1.objs.size) ⟨[] ++ us, []⟩) _ _ _
  rw [List.nil_append]
  simp only [callAny]
  refine wpAny_bind (wpAny_load hu4 ?_)
  simp only [PySem.W.kxs_mw, show (Value.type "method-wrapper" == Value.type "method" || Value.type "method-wrapper" == Value.type "builtin_function_or_method" || Value.type "method-wrapper" == Value.type "method-wrapper") = true by decide, if_true]
  refine PySem.W.KFB.if_so (by decide) ?_
  refine wpAny_bind (PySem.W.check_bound_init F.excBase_ValueError.toExcCallFacts hC4 ho4 rfl ?_)
  refine wpAny_bind (wpAny_pure (wpAny_pure ?_))
  refine ⟨plainId_quiet F.excBase_ValueError.init.plain _, codeAny_builtin F.excBase_ValueError.initEntry ?_⟩
  refine PySem.W.exc_init_tree (cls := .ref C) (t0 := t4) (dv := none) (c2 := .none) (c3 := .none) (b4 := .bool false) ho4 hlen fun h' k hx _ => ?_
  have J := I5.write (t' := tk4) (x := a) (e := a) (o := exo a C none) (by rw [ha]; exact True.intro) (.inl rfl) k ⟨_, hx⟩ (exo_ok hx)
  have eu : upd H' a (exo a C none) = H' := by
    funext b
    by_cases hb : b = a
    · rw [hb, upd_same, ha]
    · rw [upd_ne hb]
  rw [eu] at J
  exact h _ J
end
section
variable {P : Program} {w : World} {K : PySem.W.Frag} {mg : Str → Option Value} {base : Heap} {CX : CXT} {k : Nat} {C f cc cda : Addr} {name qual : Str} {st : Stmt} {par fld : Str}
/-- the promise of such an __init__ of one parameter -/
def spExc (C : Addr) (fld : Str) : Sp := fun vs H Q _ => ∃ (a : Addr) (v : V), vs = [.ref a, v] ∧ H a = some (exo a C none) ∧ ∀ dx, H dx = none → dx ≠ a → Q .non (upd (upd H dx (exd dx [(fld, v)])) a (exo a C (some dx)))
abbrev nfOf (name qual : Str) (st : Stmt) (cc cda : Addr) : NdefX.NF := ⟨name, qual, defArgs st, defBody st, defScope st, [("__class__", cc)], cda⟩
theorem exc_init (T : SupC P K C f cc cda name qual st) (S : NdefX.NScope ["self", par, "__class__"] ["self", par] ["__class__"] (defScope st)) (hno : PySem.W.findIn K (.ref C) fld = some none)
    (hks : (defScope st).names.lookup ("super" : Str) = some .globalImplicit)
    (hb : ∀ (doc pm ct : Value) (an : Option Addr) (us : List Value), us.length = 2 → bindArgs (PySem.W.ksFn name qual (defArgs st) (defBody st) (defScope st) .none .none doc pm an (.ref cda) ct cc) ⟨us, []⟩ = pure ((["self", par] : List Str).zip us))
    (hp : ((defArgs st).posonlyargs ++ (defArgs st).args).head?.map (·.arg) = some ("self" : Str))
    {p0 p1 p2 p3 p4 p5 p6 p7 p8 p9 : Pos} {msg : Str} {j : Nat}
    (hbody : defBody st = [.Expr (.Call (.Attribute (.Call (.Name "super" p0) [] [] p1) "__init__" p2) [.Constant (.str msg) j p3] [] p4) p5, .Assign [.Attribute (.Name "self" p6) fld p7] (.Name par p8) p9])
    {pl : Env → Sem Bool}
    (he : ∀ env : Env, env.scope = defScope st → eval (.Call (.Attribute (.Call (.Name "super" p0) [] [] p1) "__init__" p2) [.Constant (.str msg) j p3] [] p4) env = (do
      let ov ← attributeBase (.Call (.Name "super" p0) [] [] p1) "__init__" env (eval (.Call (.Name "super" p0) [] [] p1) env)
      standAt p2.atName
      let (f, first) ← holding [ov] (getMethod ov "__init__" (pl env))
      callWith p4 f first (backTo p4 (starEach [.Constant (.str msg) j p3] env)) []))
    (hsw : ∀ env : Env, env.scope = defScope st → swapsWith (.Call (.Attribute (.Call (.Name "super" p0) [] [] p1) "__init__" p2) [.Constant (.str msg) j p3] [] p4) none p5.line env = pure false) (hi : ∀ env : Env, env.scope = defScope st → interactive env = false)
    (hsw2 : ∀ env : Env, env.scope = defScope st → swapsWith (.Name par p8) (some (.Attribute (.Name "self" p6) fld p7)) p9.line env = pure false) (hd1 : (par == ("__debug__" : Str)) = false) (hd2 : (par == ("__classdict__" : Str)) = false) :
    ∃ fd, FnOk P w K mg base CX (k + 1) f fd ["self", par] (spExc C fld) ∧ Binds K fd ["self", par] [] := by
  obtain ⟨oc, od, doc, pm, an, ct, osl, lk⟩ := id T.lk
  obtain ⟨cl, cld, csl, lcc⟩ := id T.cell
  refine ⟨_, ⟨fun vs H Q E h => ?_, fun A outer s H args us vs Q E hr e0 hbd r hsp => ?_⟩, .all (hb doc pm ct an)⟩
  · obtain ⟨a, v, rfl, _⟩ := h
    rfl
  · have KX : K.In s.heap := e0.mod.kin.keeps fun b o e => (e0.bs b o e).1
    have lim : s.heap.NoLimit := e0.mod.nolimit.keeps fun b o e => (e0.bs b o e).1
    obtain ⟨a, v, rfl, ha, q⟩ := hsp
    refine PySem.ks_codeAny_call_defAt (fd := PySem.W.ksFn name qual (defArgs st) (defBody st) (defScope st) .none .none doc pm an (.ref cda) ct cc) (body := defBody st) (binds := (["self", par] : List Str).zip us) hr.depth (KX _ _ lk) rfl lim (PySem.W.codeRec_of KX T.code) rfl hbd S.nocell (fun ⟨n, _⟩ hy => S.par n (List.of_mem_zip hy).1) (fun h₁ hns hk₁ => ?_) S.co S.gen S.kind
    have hl : us.length = 2 := r.length.symm
    have CA : NdefX.CellsAt [("__class__", cc)] ["__class__"] [none] s.heap H := by
      have one : ∀ (y : Str) (c : Addr), ([(("__class__" : Str), cc)] : List (Str × Addr)).lookup y = some c → y = "__class__" ∧ c = cc := fun y c e => by
        by_cases hy : y = "__class__"
        · subst hy
          exact ⟨rfl, (Option.some.inj (show some cc = some c from e)).symm⟩
        · have hy2 : (y == ("__class__" : Str)) = false := by simpa using hy
          rw [List.lookup_cons, hy2] at e
          cases e
      refine ⟨rfl, fun y c e => ?_, fun x y c e1 e2 => (one x c e1).1.trans (one y c e2).1.symm, fun i y hi => ?_⟩
      · obtain ⟨_, rfl⟩ := one y c e
        exact ⟨(e0.bs c _ (e0.mod.kin _ _ lcc)).2, _, _, KX _ _ lcc, rfl⟩
      · match i, hi with
        | 0, hi =>
          cases hi
          exact ⟨cc, rfl, fun v e => by cases e⟩
    have I := NdefX.inv_startN (CX := CX) (mg := mg) (E := E) (F := nfOf name qual st cc cda) (f := f) (tk := s.toks + ((["self", par] : List Str).zip us).length) S hr.hd e0 rfl r CA hns hk₁
    have hself : (defScope st).names.lookup ("self" : Str) = some .local := S.par _ (List.mem_cons_self ..)
    have hpar : (defScope st).names.lookup par = some .local := S.par _ (List.mem_cons_of_mem _ (List.mem_cons_self ..))
    have hcls : (defScope st).names.lookup ("__class__" : Str) = some .free := S.frk _ (List.mem_cons_self ..)
    have hstep : _root_.PySem.wpAt (model P w) (NdefX.ncx CX P w K mg base ["self", par, "__class__"] (nfOf name qual st cc cda) f A outer s H E).A (.func (defBody st) (NdefX.envF (nfOf name qual st cc cda) f s.heap.objs.size)) (execs (defBody st) (NdefX.envF (nfOf name qual st cc cda) f s.heap.objs.size))
        (fun fl s' => CR CX outer P w H s Q E (.ok (.ret (match fl with | .ret v => v | _ => .none))) s') (NdefX.ncx CX P w K mg base ["self", par, "__class__"] (nfOf name qual st cc cda) f A outer s H E).xe
        { s with heap := h₁, toks := s.toks + ((["self", par] : List Str).zip us).length } := by
      have eb : execs (defBody st) (NdefX.envF (nfOf name qual st cc cda) f s.heap.objs.size) = execs [.Expr (.Call (.Attribute (.Call (.Name "super" p0) [] [] p1) "__init__" p2) [.Constant (.str msg) j p3] [] p4) p5, .Assign [.Attribute (.Name "self" p6) fld p7] (.Name par p8) p9] (NdefX.envF (nfOf name qual st cc cda) f s.heap.objs.size) := by rw [hbody]
      rw [eb]
      refine PySem.ks_wpAt_execs_cons (super_stmt (X := NdefX.ncx CX P w K mg base ["self", par, "__class__"] (nfOf name qual st cc cda) f A outer s H E) T rfl rfl hks hcls hself S.kind hp (he _ rfl) (hsw _ rfl) (hi _ rfl) (σ := NdefX.startF ["self", par, "__class__"] [.ref a, v] [none]) rfl I ha (fun s' I' => ?_))
      have d2 : PSs (NdefX.ncx CX P w K mg base ["self", par, "__class__"] (nfOf name qual st cc cda) f A outer s H E) [.Assign [.Attribute (.Name "self" p6) fld p7] (.Name par p8) p9] _ := pss_one (ps_ost (pe_var (i := 0) rfl (.inl hself)) (pe_var (i := 1) rfl (.inl hpar) hd1 hd2) (hsw2 _ rfl))
      refine wpAt_of_wpAny (wpAny_mono (d2.run [] s' _ H { nx := fun _ H' => Q .non H', rt := Q } I' ⟨v, rfl, .ref a, rfl, a, C, rfl, T.oex, hno, .inl ⟨ha, fun dx n ne => q dx n ne⟩⟩) (fun fl s'' hs => ?_) fun e s'' hs => hs)
      cases fl with
      | ret u =>
        obtain ⟨v', σ', H', J, rv, q'⟩ := hs
        exact ⟨v', H', J.os, J.bare, J.base, J.hok, rv, q'⟩
      | next =>
        obtain ⟨σ', H', J, q'⟩ := hs
        exact ⟨.non, H', J.os, J.bare, J.base, J.hok, rfl, q'⟩
      | brk =>
        obtain ⟨_, _, _, q'⟩ := hs
        exact False.elim q'
      | cont =>
        obtain ⟨_, _, _, q'⟩ := hs
        exact False.elim q'
    exact hstep
end
end SupX
/-! ### the facts of such a class as Bools -/
namespace SupX
open PySem.W
def oexB (K : PySem.W.Frag) (C : Addr) : Bool := (match K.lookup C with
  | some ⟨.type "type", _, .cls cd, sl⟩ => (match cd.mro, sl.toList with
    | .ref C' :: bm, [_, _, _, _, some (.builtin n), _] => C' == C && (n == "ValueError.__new__" && (!cd.hasDel && (cd.hasDict && PySem.HandSPX.refsVE bm)))
    | _, _ => false)
  | _ => false) && (He.eqO (PySem.W.findIn K (.ref C) "__setattr__") (some (some (.builtin "object.__setattr__"))) && (decide (PySem.W.subIn K (.ref C) (.type "BaseException") = some true) && (decide (PySem.W.typeIn K (.ref C) = some (.type "type")) && PySem.W.keepIn K (.ref C))))
theorem oexB_ok {K : PySem.W.Frag} {C : Addr} (h : oexB K C = true) : OexC K C := by
  obtain ⟨h1, h⟩ := He.ba h
  obtain ⟨h2, h⟩ := He.ba h
  obtain ⟨h3, h⟩ := He.ba h
  obtain ⟨h4, h5⟩ := He.ba h
  refine ⟨?_, He.eqO_ok h2, of_decide_eq_true h3, of_decide_eq_true h4, h5⟩
  split at h1
  · rename_i dd cd sl ho
    split at h1
    · rename_i C' bm k0 k1 k2 k3 n k5 hm hs
      obtain ⟨g1, h1⟩ := He.ba h1
      obtain ⟨g2, h1⟩ := He.ba h1
      obtain ⟨g3, h1⟩ := He.ba h1
      obtain ⟨g4, g5⟩ := He.ba h1
      have e1 : C' = C := beq_iff_eq.mp g1
      have e2 : n = "ValueError.__new__" := beq_iff_eq.mp g2
      have e3 : cd.hasDel = false := by simpa using g3
      subst e1 e2
      obtain ⟨nm, bs, mro, ns, qn, hd, sn, sub, ab, col, del⟩ := cd
      dsimp only at hm e3 g4
      subst hm e3 g4
      have hsl : sl = #[k0, k1, k2, k3, some (.builtin "ValueError.__new__"), k5] := by
        obtain ⟨l⟩ := sl
        simp only at hs
        rw [hs]
      subst hsl
      exact ⟨nm, qn, ns, bs, bm, sn, sub, ab, col, dd, k0, k1, k2, k3, k5, ho, g5⟩
    · cases h1
  · cases h1
abbrev SpW : Type := Option (Str × Str × Arguments × FuncBody × Scope × Addr × List Str × Addr)
def supW (K : PySem.W.Frag) (f : Addr) : SpW := match K.lookup f with
  | some ⟨_, _, .func fd, _⟩ => some (fd.name, fd.qualname, fd.params, fd.body, fd.scope, fd.globals, fd.closure.map (·.1), fd.builtins)
  | _ => none
def supV (name qual : Str) (st : Stmt) : SpW := some (name, qual, defArgs st, .stmts (defBody st), defScope st, mainGlobals, ["__class__"], builtinsNs)
def supB (K : PySem.W.Frag) (C f : Addr) (qual : Str) : Bool := (match K.lookup f with
  | some ⟨_, _, .func fd, _⟩ => (match fd.code, fd.defaults, fd.kwdefaults, fd.closure with
    | .ref cda, .none, .none, [(_, cc)] => PySem.W.codeIn K (.ref cda) qual && ((match K.lookup cda with
      | some ⟨_, _, .fields vs, _⟩ => (match (vs[2]? : Option Value) with
        | some (Value.str file _) => decide (file = "/claim/cut.py")
        | _ => false)
      | _ => false) && (match K.lookup cc with
      | some ⟨_, _, .cell (some (.ref D)), _⟩ => decide (D = C)
      | _ => false))
    | _, _, _, _ => false)
  | _ => false) && ((PySem.W.clsIn K C).isSome && (decide (PySem.W.mroIn K C (.ref C) = some true) && (He.eqO (PySem.W.nsIn K mainGlobals "super") (some none) && (He.eqO (PySem.W.nsIn K PySem.cStatics "thirdparty.any") (some none) && (He.eqO (PySem.W.ks_superIn K C C "__init__") (some (some (.builtin "ValueError.__init__"))) &&
    decide (PySem.W.subIn K (.ref C) (.type "ValueError") = some true))))))
structure PrgOk (P : Program) : Prop where
  file : P.main.file = "/claim/cut.py"
  top : (P.main.scope.names.lookup ("super" : Str)).isSome = false
theorem supC_of {P : Program} {K : PySem.W.Frag} {C f : Addr} {name qual : Str} {st : Stmt} (hP : PrgOk P) (e : supW K f = supV name qual st) (o : oexB K C = true) (c : supB K C f qual = true) : ∃ cc cda, SupC P K C f cc cda name qual st := by
  obtain ⟨c1, c⟩ := He.ba c
  obtain ⟨c2, c⟩ := He.ba c
  obtain ⟨c3, c⟩ := He.ba c
  obtain ⟨c4, c⟩ := He.ba c
  obtain ⟨c5, c⟩ := He.ba c
  obtain ⟨c6, c7⟩ := He.ba c
  unfold supW at e
  split at c1
  · rename_i oc od fd osl ho
    rw [ho] at e
    split at c1
    · rename_i cda x cc q1 q2 q3 q4
      obtain ⟨d1, c1⟩ := He.ba c1
      obtain ⟨d2, d3⟩ := He.ba c1
      obtain ⟨n1, n2, n3, n4, n5, n6, n7, n8, n9, n10, n11, n12, n13, n14, n15⟩ := fd
      dsimp only at q1 q2 q3 q4
      subst q1 q2 q3 q4
      have e2 : (some (n1, n2, n3, n4, n5, n6, [x], n15) : SpW) = supV name qual st := e
      unfold supV at e2
      simp only [Option.some.injEq, Prod.mk.injEq, List.cons.injEq, and_true] at e2
      obtain ⟨e1, e2, e3, e4, e5, e6, e7, e8⟩ := e2
      subst e1 e2 e3 e4 e5 e6 e7 e8
      refine ⟨cc, cda, ⟨oexB_ok o, ⟨oc, od, _, _, _, _, osl, ho⟩, d1, ?_, ?_, Option.isSome_iff_exists.mp c2, of_decide_eq_true c3, He.eqO_ok c4, He.eqO_ok c5, He.eqO_ok c6, of_decide_eq_true c7, hP.top⟩⟩
      · split at d2
        · rename_i ccl cdd vs ccs h1
          split at d2
          · rename_i file tf h2
            refine ⟨ccl, cdd, vs, ccs, file, tf, h1, h2, ?_⟩
            rw [hP.file, of_decide_eq_true d2]
            exact beq_self_eq_true _
          · cases d2
        · cases d2
      · split at d3
        · rename_i a1 a2 D a3 h1
          have eD : D = C := of_decide_eq_true d3
          subst eD
          exact ⟨a1, a2, a3, h1⟩
        · cases d3
    · cases c1
  · cases c1
end SupX
/-! ### own operators: both of one class, or an int ahead of one -/
namespace OpX
open PySem.W (InstAt findIn isFn selfFirst mroIn looks_mroIn ksp_first ksp_try fills_K instObj)
section
variable {prog : Program} {w : World} {A : Around} {E : Value → Shared → Prop} {s : Shared} {K : PySem.W.Frag} {x y C f : Addr} {ox oy : Obj} {od od2 : Option Obj} {nm : String}
/-- both operands are of the class at C -/
theorem bin1_same {Q : Value → Shared → Prop} (X : K.In s.heap) (I : InstAt s.heap x ox C od) (J : InstAt s.heap y oy C od2) (hc : selfFirst K C = true) (hs : findIn K (.ref C) (PySem.dunder nm) = some (some (.ref f))) (hf : isFn K (.ref f) = true)
    (h : wpAny (model prog w) A (call (.ref f) [.ref x, .ref y]) (PySem.W.CmpBack Q) E s) : wpAny (model prog w) A (binaryOp1 nm (.ref x) (.ref y)) (fun r s' => ∃ v, r = some v ∧ Q v s') E s := by
  obtain ⟨cd, rest, hcd, hm⟩ := ksp_first hc
  have one := ksp_try X I hs hf h
  obtain ⟨hh, g, d, tt, os⟩ := s
  have l1 : PySem.W.Looks (model prog w) hh (typeOf (.ref x)) (.ref C) := I.type
  have l2 : PySem.W.Looks (model prog w) hh (typeOf (.ref y)) (.ref C) := J.type
  have l3 : PySem.W.Looks (model prog w) hh (fillsNumberSlot (.ref C) nm) true := fills_K X hcd hm hs
  have hee : (Value.ref C == Value.ref C) = true := beq_self_eq_true _
  unfold binaryOp1
  refine wpAny_bind (l1.at (wpAny_bind (l2.at (wpAny_bind (l3.at ?_)))))
  simp only [hee, if_true, pure_bind, Bool.and_false, Bool.false_eq_true, if_false, Bool.false_and]
  refine wpAny_bind (wpAny_mono one (fun r s' hr' => ?_) fun _ _ e => e)
  obtain ⟨v, rfl, hq⟩ := hr'
  exact wpAny_pure ⟨v, rfl, hq⟩
/-- an int ahead of an instance: its own method declines, the other one's answers -/
theorem bin1_refl {Q : Value → Shared → Prop} {i : Int} {t : Tok} {g : Addr} (X : K.In s.heap) (I : InstAt s.heap x ox C od) (hc : selfFirst K C = true) (hs : findIn K (.ref C) (PySem.dunder nm) = some (some (.ref g)))
    (hr : findIn K (.ref C) (dunderR nm) = some (some (.ref f))) (hf : isFn K (.ref f) = true) (hsub : mroIn K C (.type "int") = some false) (hfi : fillsNumberSlot (.type "int") nm = pure true)
    (hdec : wpAny (model prog w) A (tryMethod (.int i t) (PySem.dunder nm) (.ref x)) (fun r s' => r = none ∧ s' = s) E s)
    (h : wpAny (model prog w) A (call (.ref f) [.ref x, .int i t]) (PySem.W.CmpBack Q) E s) : wpAny (model prog w) A (binaryOp1 nm (.int i t) (.ref x)) (fun r s' => ∃ v, r = some v ∧ Q v s') E s := by
  obtain ⟨cd, rest, hcd, hm⟩ := ksp_first hc
  have one := ksp_try X I hr hf h
  obtain ⟨hh, g', d, tt, os⟩ := s
  have l1 : PySem.W.Looks (model prog w) hh (typeOf (.ref x)) (.ref C) := I.type
  have l3 : PySem.W.Looks (model prog w) hh (fillsNumberSlot (.ref C) nm) true := fills_K X hcd hm hs
  have l4 : PySem.W.Looks (model prog w) hh (isSubtype (.ref C) (.type "int")) false := looks_mroIn X hsub
  have hne : (Value.type "int" == Value.ref C) = false := Bool.eq_false_iff.mpr fun q => by cases beq_iff_eq.mp q
  unfold binaryOp1
  refine wpAny_bind (wpAny_of_eq (a := .type "int") rfl (wpAny_bind (l1.at (wpAny_bind (wpAny_of_eq hfi ?_)))))
  simp only [hne, Bool.false_eq_true, if_false]
  refine wpAny_bind (l3.at ?_)
  simp only [Bool.and_self, if_true]
  refine wpAny_bind (l4.at ?_)
  have hpy : numberSlotInPython (.type "int") nm = pure false := rfl
  simp only [Bool.false_eq_true, if_false, pure_bind, Bool.not_false, Bool.and_self, if_true, hpy]
  refine wpAny_bind (wpAny_mono hdec (fun r s' hr' => ?_) fun _ _ e => e)
  obtain ⟨rfl, rfl⟩ := hr'
  simp only [pure_bind]
  refine wpAny_bind (wpAny_mono one (fun r s' hr' => ?_) fun _ _ e => e)
  obtain ⟨v, rfl, hq⟩ := hr'
  exact wpAny_bind (wpAny_rule (wpAny_pure ⟨v, rfl, hq⟩))
theorem bin_of {op : Operator} {a b : Value} {Q : Value → Shared → Prop} (h : wpAny (model prog w) A (binaryOp1 op.info.2 a b) (fun r s' => ∃ v, r = some v ∧ Q v s') E s) : wpAny (model prog w) A (binaryOp op a b) Q E s := by
  rcases hi : op.info with ⟨sym, n⟩
  rw [hi] at h
  simp only [binaryOp, hi]
  refine wpAny_holding (wpAny_bind (wpAny_mono h (fun r s' hr' => ?_) fun _ _ e => e))
  obtain ⟨v, rfl, hq⟩ := hr'
  exact wpAny_pure hq
end
end OpX
namespace OpX
open PySem.W (InstAt findIn isFn selfFirst mroIn looks_mroIn ksp_first ksp_try fills_K instObj looks_findIn clsIn looks_clsIn)
/-- the class at C stands ahead of object alone -/
def mro2B (K : PySem.W.Frag) (C : Addr) : Bool := match clsIn K C with
  | some cd => cd.mro == [.ref C, .type "object"]
  | none => false
/-- what the written part says of an operator's names: none in place, and int's own are known -/
def opB (K : PySem.W.Frag) (C : Addr) (nm : String) : Bool :=
  He.eqO (findIn K (.ref C) (dunderI nm)) (some none) && (He.eqO (findIn K (.type "object") (dunderI nm)) (some none) && ((findIn K (.type "int") (PySem.dunder nm)).isSome && (findIn K (.type "int") (dunderR nm)).isSome))
section
variable {prog : Program} {w : World} {A : Around} {E : Value → Shared → Prop} {s : Shared} {K : PySem.W.Frag} {x y C f : Addr} {ox oy : Obj} {od od2 : Option Obj} {nm : String}
theorem fillsI_no {h : Heap} {M : Model} {add : Bool} (X : K.In h) (hm : mro2B K C = true) (hi : findIn K (.ref C) (dunderI nm) = some none) (ho : findIn K (.type "object") (dunderI nm) = some none) :
    PySem.W.Looks M h (fillsInplaceSlot (.ref C) nm add) false := by
  unfold mro2B at hm
  cases hc : clsIn K C with
  | none => rw [hc] at hm; cases hm
  | some cd =>
    rw [hc] at hm
    have hm : cd.mro = [.ref C, .type "object"] := beq_iff_eq.mp hm
    intro A Q E s k q
    have lm : PySem.W.Looks M h (mroOf (.ref C)) cd.mro := (looks_clsIn X hc).andThen (f := fun cd => pure cd.mro) .now
    have lm' := lm.keeps k
    obtain ⟨hh, g, d, tt, os⟩ := s
    have X' : K.In hh := X.keeps k
    have l1 : PySem.W.Looks M hh (typeLookup (.ref C) (dunderI nm)) none := looks_findIn X' hi
    have l2 : PySem.W.Looks M hh (typeLookup (.type "object") (dunderI nm)) none := looks_findIn X' ho
    unfold fillsInplaceSlot
    refine wpAny_bind (lm'.at ?_)
    rw [hm, List.anyM_cons]
    refine wpAny_bind (wpAny_bind (l1.at ?_))
    refine wpAny_pure ?_
    rw [if_neg (by decide), List.anyM_cons]
    refine wpAny_bind (wpAny_bind (l2.at ?_))
    refine wpAny_pure ?_
    rw [if_neg (by decide)]
    exact wpAny_pure q
theorem inp_of {op : Operator} {b : Value} {Q : Value → Shared → Prop} (X : K.In s.heap) (I : InstAt s.heap x ox C od) (hm : mro2B K C = true) (hi : findIn K (.ref C) (dunderI op.info.2) = some none) (ho : findIn K (.type "object") (dunderI op.info.2) = some none)
    (h : wpAny (model prog w) A (binaryOp1 op.info.2 (.ref x) b) (fun r s' => ∃ v, r = some v ∧ Q v s') E s) : wpAny (model prog w) A (inplaceOp op (.ref x) b) Q E s := by
  obtain ⟨hh, g, d, tt, os⟩ := s
  have l1 : PySem.W.Looks (model prog w) hh (typeOf (.ref x)) (.ref C) := I.type
  have l2 : PySem.W.Looks (model prog w) hh (fillsInplaceSlot (.ref C) op.info.2 (op == .Add)) false := fillsI_no X hm hi ho
  unfold inplaceOp
  refine wpAny_holding (wpAny_bind (l1.at (wpAny_bind (l2.at ?_))))
  simp only [Bool.false_eq_true, if_false]
  refine wpAny_bind (wpAny_mono h (fun r s' hr' => ?_) fun _ _ e => e)
  obtain ⟨v, rfl, hq⟩ := hr'
  exact wpAny_pure hq
end
end OpX
namespace OpX
open PySem.W (InstAt findIn isFn selfFirst mroIn looks_mroIn ksp_first ksp_try fills_K instObj looks_findIn clsIn looks_clsIn subIn looks_subIn ksp_inPy)
section
variable {prog : Program} {w : World} {A : Around} {E : Value → Shared → Prop} {s : Shared} {K : PySem.W.Frag} {x y C dx f g : Addr} {ox oy : Obj} {od od2 : Option Obj} {nm : String} {i : Int} {t : Tok}
/-- an instance ahead of an int -/
theorem bin1_int {Q : Value → Shared → Prop} {ro : Option Value} (X : K.In s.heap) (I : InstAt s.heap x ox C od) (hc : selfFirst K C = true) (hs : findIn K (.ref C) (PySem.dunder nm) = some (some (.ref f))) (hf : isFn K (.ref f) = true)
    (hr : findIn K (.ref C) (dunderR nm) = some (some (.ref g))) (h2 : findIn K (.type "int") (dunderR nm) = some ro) (hsub : subIn K (.type "int") (.ref C) = some false) (hfi : fillsNumberSlot (.type "int") nm = pure true)
    (h : wpAny (model prog w) A (call (.ref f) [.ref x, .int i t]) (PySem.W.CmpBack Q) E s) : wpAny (model prog w) A (binaryOp1 nm (.ref x) (.int i t)) (fun r s' => ∃ v, r = some v ∧ Q v s') E s := by
  obtain ⟨cd, rest, hcd, hm⟩ := ksp_first hc
  have one := ksp_try X I hs hf h
  obtain ⟨hh, g', d, tt, os⟩ := s
  have l1 : PySem.W.Looks (model prog w) hh (typeOf (.ref x)) (.ref C) := I.type
  have l3 : PySem.W.Looks (model prog w) hh (fillsNumberSlot (.ref C) nm) true := fills_K X hcd hm hs
  have l4 : PySem.W.Looks (model prog w) hh (isSubtype (.type "int") (.ref C)) false := looks_subIn X hsub
  have l5 : PySem.W.Looks (model prog w) hh (numberSlotInPython (.ref C) nm) true := ksp_inPy X hs hr (.inr ⟨g, rfl⟩)
  have l6 : PySem.W.Looks (model prog w) hh (typeLookup (.type "int") (dunderR nm)) ro := looks_findIn X h2
  have hne : (Value.ref C == Value.type "int") = false := Bool.eq_false_iff.mpr fun q => by cases beq_iff_eq.mp q
  have hpy : numberSlotInPython (.type "int") nm = pure false := rfl
  unfold binaryOp1
  refine wpAny_bind (l1.at (wpAny_bind (wpAny_of_eq (a := .type "int") rfl (wpAny_bind (l3.at ?_)))))
  simp only [hne, Bool.false_eq_true, if_false]
  refine wpAny_bind (wpAny_of_eq hfi ?_)
  simp only [Bool.and_self, if_true]
  refine wpAny_bind (l4.at ?_)
  simp only [Bool.false_eq_true, if_false, pure_bind, Bool.not_false, Bool.and_self, if_true, hpy]
  refine wpAny_bind (l5.at ?_)
  simp only [if_true, pure_bind, Bool.not_false]
  refine wpAny_bind (l6.at ?_)
  refine wpAny_bind (wpAny_mono one (fun r s' hr' => ?_) fun _ _ e => e)
  obtain ⟨v, rfl, hq⟩ := hr'
  exact wpAny_pure ⟨v, rfl, hq⟩
/-- what a two-place method of int says to an instance -/
theorem int_ins {name : String} {F : Int → Int → Sem Fin} : Meets (Builtin.Int.intBinary name F false ⟨[.int i t, .ref x], []⟩) (fun _ R s => s.heap.get? x = some (instObj C dx) ∧ R (.ok (.ret Value.notImplemented)) s) :=
  .of_wp fun prog w A R s h => by
    obtain ⟨hl, h⟩ := h
    unfold Builtin.Int.intBinary
    refine wpAny_bind (wpAny_of_eq (a := (Value.int i t, [Value.ref x])) rfl ?_)
    refine wpAny_bind (wpAny_of_eq (a := i) rfl ?_)
    refine wpAny_bind (m := asInt? (.ref x)) (wpAny_bind (wpAny_load hl ?_))
    refine wpAny_pure ?_
    refine wpAny_bind (wpAny_rule ?_)
    exact wpAny_pure ⟨_, rfl, h⟩
/-- what int's own method says to an instance, by the operator's name -/
def Dec (nm : String) : Prop := ∀ (prog : Program) (w : World) (A : Around) (E : Value → Shared → Prop) (s : Shared) (x C dx : Addr) (i : Int) (t : Tok), s.heap.get? x = some (instObj C dx) →
  wpAny (model prog w) A (tryMethod (.int i t) (PySem.dunder nm) (.ref x)) (fun r s' => r = none ∧ s' = s) E s
theorem dec_gen {nm id name : String} {F : Int → Int → Sem Fin} (slot : Slot "int" (PySem.dunder nm) id) (entry : entryFor table id = some (Builtin.Int.intBinary name F false)) (args : ∀ a b : Value, argsOk id ⟨[a, b], []⟩) : Dec nm := fun prog w A E s x C dx i t hx =>
  wpAny_tryMethod_declines (Q := fun r s' => r = none ∧ s' = s) (typeIs_int s i t) slot (call_meets slot (typeIs_int s i t) entry (args _ _) (int_ins (C := C) (dx := dx)) ⟨hx, rfl, rfl, rfl⟩)
theorem dec_add : Dec "add" := dec_gen PySem.F.slot_int_add PySem.F.entry_int_add PySem.F.args_int_add_2
theorem dec_sub : Dec "sub" := dec_gen PySem.F.slot_int_sub PySem.F.entry_int_sub PySem.F.args_int_sub_2
theorem dec_mul : Dec "mul" := dec_gen PySem.F.slot_int_mul PySem.F.entry_int_mul PySem.F.args_int_mul_2
end
end OpX
/-! ### the operators' readings -/
/-- x op y by x's own def: y of the same class, or an int -/
def rBinL (C : Addr) (sp : Sp) (E : XK) : R2 := fun x y H Q => ∃ (a dx : Addr) (fs : List (Str × V)), x = .ref a ∧ H a = some (.ins C dx fs) ∧ ((∃ (b dy : Addr) (gs : List (Str × V)), y = .ref b ∧ H b = some (.ins C dy gs)) ∨ ∃ i : Int, y = .int i) ∧ sp [x, y] H Q E
/-- x op y by y's own def: x an int -/
def rBinR (C : Addr) (sp : Sp) (E : XK) : R2 := fun x y H Q => ∃ (i : Int) (b dy : Addr) (gs : List (Str × V)), x = .int i ∧ y = .ref b ∧ H b = some (.ins C dy gs) ∧ sp [y, x] H Q E
/-- what the written part says of one operator at the class C -/
structure OpAt (K : PySem.W.Frag) (C : Addr) (nm : String) (f g : Addr) : Prop where
  first : PySem.W.selfFirst K C = true
  at_ : PySem.W.findIn K (.ref C) (PySem.dunder nm) = some (some (.ref f))
  fn : PySem.W.isFn K (.ref f) = true
  atR : PySem.W.findIn K (.ref C) (dunderR nm) = some (some (.ref g))
  fnR : PySem.W.isFn K (.ref g) = true
  notInt : PySem.W.mroIn K C (.type "int") = some false
  intNot : PySem.W.subIn K (.type "int") (.ref C) = some false
  mro : OpX.mro2B K C = true
  names : OpX.opB K C nm = true
  fills : fillsNumberSlot (.type "int") nm = pure true
  dec : OpX.Dec nm
section
variable {X : Cx} {CX : CXT} {n : Nat} {sp : Sp} {E : XK} {C f g : Addr}
theorem bin1_at {nm : String} {pins : List (Addr × Obj)} {s : Shared} {σ : L2.St} {H : Hp} {x y : V} {v u : Value} {Q : VK} (o : OpAt X.K C nm f g) (F : FnR X.prog X.w X.K X.mg X.base CX n f sp) (hr : Room n X.A) (hx : Passes CX X E)
    (I : Inv X pins σ H s) (rx : RelV x v) (ry : RelV y u) (h : rBinL C sp E x y H Q) :
    (∃ (a : Addr) (od : Option Obj) (dx : Addr), v = .ref a ∧ PySem.W.InstAt s.heap a (PySem.W.instObj C dx) C od) ∧ wpAny (model X.prog X.w) X.A (binaryOp1 nm v u) (fun r s' => ∃ z, r = some z ∧ EP X pins σ Q z s') X.xe s := by
  obtain ⟨a, dx, fs, rfl, ha, hy, q⟩ := h
  cases (show v = Value.ref a from rx)
  obtain ⟨mA, O, _⟩ := ins_get I.hok ha
  obtain ⟨od, J, _⟩ := O.look
  refine ⟨⟨a, _, _, rfl, J⟩, ?_⟩
  have go : wpAny (model X.prog X.w) X.A (call (.ref f) [.ref a, u]) (PySem.W.CmpBack (EP X pins σ Q)) X.xe s :=
    wpAny_mono (wpAny_call (run_fnR (us := [.ref a, u]) (vs := [.ref a, y]) F hr hx I (.cons rfl (.cons ry .nil)) q)) (fun w s' z => by
      obtain ⟨z', H', I', rz, qz⟩ := z
      exact SlX.cmpback rz ⟨z', H', I', rz, qz⟩) fun _ _ x => x
  rcases hy with ⟨b, dy, gs, rfl, hb⟩ | ⟨i, rfl⟩
  · cases (show u = Value.ref b from ry)
    obtain ⟨mB, O', _⟩ := ins_get I.hok hb
    obtain ⟨od', J', _⟩ := O'.look
    exact OpX.bin1_same I.kIn J J' o.first o.at_ o.fn go
  · obtain ⟨t, e⟩ := (show ∃ t, u = Value.int i t from ry)
    cases e
    have h2 := (Bool.and_eq_true_iff.mp (Bool.and_eq_true_iff.mp (Bool.and_eq_true_iff.mp o.names).2).2).2
    obtain ⟨ro, h2⟩ := Option.isSome_iff_exists.mp h2
    exact OpX.bin1_int I.kIn J o.first o.at_ o.fn o.atR h2 o.intNot o.fills go
theorem op_L {op : Operator} (o : OpAt X.K C op.info.2 f g) (F : FnR X.prog X.w X.K X.mg X.base CX n f sp) (hr : Room n X.A) (hx : Passes CX X E) : OpR X (binaryOp op) (rBinL C sp E) :=
  fun pins s σ H x y v u Q I rx ry h => OpX.bin_of (bin1_at o F hr hx I rx ry h).2
theorem ip_L {op : Operator} (o : OpAt X.K C op.info.2 f g) (F : FnR X.prog X.w X.K X.mg X.base CX n f sp) (hr : Room n X.A) (hx : Passes CX X E) : PIp X op (rBinL C sp E) := by
  intro pins s σ H x y v u Q I rx ry h
  obtain ⟨⟨a, od, dx, rfl, J⟩, z⟩ := bin1_at o F hr hx I rx ry h
  have h1 := Bool.and_eq_true_iff.mp o.names
  exact OpX.inp_of I.kIn J o.mro (He.eqO_ok h1.1) (He.eqO_ok (Bool.and_eq_true_iff.mp h1.2).1) z
theorem op_Rt {op : Operator} (o : OpAt X.K C op.info.2 f g) (F : FnR X.prog X.w X.K X.mg X.base CX n g sp) (hr : Room n X.A) (hx : Passes CX X E) : OpR X (binaryOp op) (rBinR C sp E) := by
  intro pins s σ H x y v u Q I rx ry h
  obtain ⟨i, b, dy, gs, rfl, rfl, hb, q⟩ := h
  obtain ⟨t, e⟩ := (show ∃ t, v = Value.int i t from rx)
  cases e
  cases (show u = Value.ref b from ry)
  obtain ⟨mB, O, _⟩ := ins_get I.hok hb
  obtain ⟨od, J, _⟩ := O.look
  have go : wpAny (model X.prog X.w) X.A (call (.ref g) [.ref b, .int i t]) (PySem.W.CmpBack (EP X pins σ Q)) X.xe s :=
    wpAny_mono (wpAny_call (run_fnR (us := [.ref b, .int i t]) (vs := [.ref b, .int i]) F hr hx I (.cons rfl (.cons ⟨t, rfl⟩ .nil)) q)) (fun w s' z => by
      obtain ⟨z', H', I', rz, qz⟩ := z
      exact SlX.cmpback rz ⟨z', H', I', rz, qz⟩) fun _ _ x => x
  exact OpX.bin_of (OpX.bin1_refl I.kIn J o.first o.at_ o.atR o.fnR o.notInt o.fills (o.dec _ _ _ _ _ _ _ _ _ _ J.at_) go)
theorem op_or {F : Value → Value → Sem Value} {r1 r2 : R2} (h1 : OpR X F r1) (h2 : OpR X F r2) : OpR X F (fun x y H Q => r1 x y H Q ∨ r2 x y H Q) := by
  intro pins s σ H x y v u Q I rx ry h
  rcases h with h | h
  · exact h1 pins s σ H x y v u Q I rx ry h
  · exact h2 pins s σ H x y v u Q I rx ry h
/-- -x by x's own def -/
def rUnO (C : Addr) (sp : Sp) (E : XK) : V → Hp → VK → Prop := fun x H Q => ∃ (a dx : Addr) (fs : List (Str × V)), x = .ref a ∧ H a = some (.ins C dx fs) ∧ sp [x] H Q E
theorem un_own (hs : PySem.W.findIn X.K (.ref C) "__neg__" = some (some (.ref f))) (hf : PySem.W.isFn X.K (.ref f) = true) (F : FnR X.prog X.w X.K X.mg X.base CX n f sp) (hr : Room n X.A) (hx : Passes CX X E) : UnR X (unaryOp .USub) (rUnO C sp E) := by
  intro pins s σ H x v Q I rx h
  obtain ⟨a, dx, fs, rfl, ha, q⟩ := h
  cases (show v = Value.ref a from rx)
  obtain ⟨mA, O, _⟩ := ins_get I.hok ha
  obtain ⟨od, J, _⟩ := O.look
  obtain ⟨m, hF⟩ := I.fr
  exact PySem.W.ksp_neg hF I.ok.mod.kin J hs hf (wpAny_call (run_fnR (us := [.ref a]) (vs := [.ref a]) F hr hx I (.cons rfl .nil) q))
/-- abs(x) by x's own def -/
def rAbsO (C : Addr) (sp : Sp) (E : XK) : List V → Hp → VK → Prop := fun xs H Q => ∃ (a dx : Addr) (fs : List (Str × V)), xs = [.ref a] ∧ H a = some (.ins C dx fs) ∧ sp [.ref a] H Q E
end
section
variable {X : Cx} {CX : CXT} {n : Nat} {sp : Sp} {E : XK} {C f : Addr}
theorem call_absO (hs : PySem.W.findIn X.K (.ref C) "__abs__" = some (some (.ref f))) (hf : PySem.W.isFn X.K (.ref f) = true) (F : FnR X.prog X.w X.K X.mg X.base CX n f sp) (hr : Room (n + 1) X.A) (hx : Passes CX X E) : CallR X (.builtin "abs") (rAbsO C sp E) := by
  intro pins s σ H xs us Q I r h
  obtain ⟨a, dx, fs, rfl, ha, q⟩ := h
  obtain ⟨u, rfl, ru⟩ := r.one
  cases (show u = Value.ref a from ru)
  obtain ⟨mA, O, _⟩ := ins_get I.hok ha
  obtain ⟨od, J, _⟩ := O.look
  have hr2 : Room n X.A.in1 := Room.in1 hr
  refine Calls.call_function_entry kind_abs plain_abs entry_abs (args_abs _) ?_
  unfold Builtin.«abs»
  refine wpAny_bind (m := oneArg "abs" _) (wpAny_pure ?_)
  refine wpAny_bind (m := callSpecial? (.ref a) (Str.ofString "__abs__")) (PySem.W.special_fn I.kIn J hs (beq_iff_eq.mp hf) (wpAny_mono (wpAny_call (SlX.run_at (us := [.ref a]) (ws := [.ref a]) F hr2 I.env0.in1 hx I (.cons rfl .nil) q)) (fun w s' z => ?_) fun _ _ x => x))
  exact wpAny_pure ⟨_, rfl, z⟩
end
/-! ### comparisons by own methods -/
namespace CmX
open PySem.W (InstAt findIn isFn mroIn typeIn subIn looks_subIn looks_mroIn looks_findIn instObj ifBound_K Looks)
section
variable {prog : Program} {w : World} {A : Around} {E : Value → Shared → Prop} {s : Shared} {K : PySem.W.Frag} {x C f : Addr} {ox : Obj} {od : Option Obj} {a b ta tb : Value} {op : CmpOp}
/-- the left one's rule answers -/
theorem rc_fst {Q : Value → Shared → Prop} (hu : A.units < cLine) (ho : oneThing? op a b = none) (la : Looks (model prog w) s.heap (typeOf a) ta) (lb : Looks (model prog w) s.heap (typeOf b) tb)
    (hn : (ta != tb) = true → Looks (model prog w) s.heap (isSubtype tb ta) false)
    (one : wpAny (model prog w) A (tryCompare a (cmpInfo op).2.1 b) (fun r s' => ∃ v, r = some v ∧ Q v s') E s) : wpAny (model prog w) A (richCompare op a b) Q E s := by
  unfold richCompare
  simp only [ho]
  refine wpAny_holding (wpAny_bind (wpAny_cRoomFor hu ?_))
  refine wpAny_bind (la.here (wpAny_bind (lb.here ?_)))
  split
  · rename_i q
    refine wpAny_bind ((hn q).here ?_)
    simp only [Bool.false_eq_true, if_false]
    refine wpAny_bind (wpAny_mono one (fun r s' z => ?_) fun _ _ e => e)
    obtain ⟨v, rfl, hq⟩ := z
    exact wpAny_pure hq
  · refine wpAny_bind (wpAny_pure ?_)
    simp only [Bool.false_eq_true, if_false]
    refine wpAny_bind (wpAny_mono one (fun r s' z => ?_) fun _ _ e => e)
    obtain ⟨v, rfl, hq⟩ := z
    exact wpAny_pure hq
/-- the left one's rule declines, the right one's answers -/
theorem rc_snd {Q : Value → Shared → Prop} (hu : A.units < cLine) (ho : oneThing? op a b = none) (la : Looks (model prog w) s.heap (typeOf a) ta) (lb : Looks (model prog w) s.heap (typeOf b) tb)
    (hn : Looks (model prog w) s.heap (isSubtype tb ta) false)
    (one : wpAny (model prog w) A (tryCompare a (cmpInfo op).2.1 b) (fun r s' => r = none ∧ s' = s) E s)
    (two : wpAny (model prog w) A (tryCompare b (cmpInfo op).2.2 a) (fun r s' => ∃ v, r = some v ∧ Q v s') E s) : wpAny (model prog w) A (richCompare op a b) Q E s := by
  unfold richCompare
  simp only [ho]
  refine wpAny_holding (wpAny_bind (wpAny_cRoomFor hu ?_))
  refine wpAny_bind (la.here (wpAny_bind (lb.here ?_)))
  split
  · refine wpAny_bind (hn.here ?_)
    simp only [Bool.false_eq_true, if_false, Bool.not_false, if_true]
    refine wpAny_bind (wpAny_mono one (fun r s' z => ?_) fun _ _ e => e)
    obtain ⟨rfl, rfl⟩ := z
    refine wpAny_bind (wpAny_mono two (fun r s' z => ?_) fun _ _ e => e)
    obtain ⟨v, rfl, hq⟩ := z
    exact wpAny_pure hq
  · refine wpAny_bind (wpAny_pure ?_)
    simp only [Bool.false_eq_true, if_false, Bool.not_false, if_true]
    refine wpAny_bind (wpAny_mono one (fun r s' z => ?_) fun _ _ e => e)
    obtain ⟨rfl, rfl⟩ := z
    refine wpAny_bind (wpAny_mono two (fun r s' z => ?_) fun _ _ e => e)
    obtain ⟨v, rfl, hq⟩ := z
    exact wpAny_pure hq
theorem try_own {name : Str} {Q : Value → Shared → Prop} (X : K.In s.heap) (I : InstAt s.heap x ox C od) (hs : findIn K (.ref C) name = some (some (.ref f))) (hf : isFn K (.ref f) = true)
    (h : wpAny (model prog w) A (call (.ref f) [.ref x, b]) (PySem.W.CmpBack Q) E s) : wpAny (model prog w) A (tryCompare (.ref x) name b) (fun r s' => ∃ v, r = some v ∧ Q v s') E s := by
  unfold tryCompare
  refine wpAny_bind (ifBound_K X I hs hf (wpAny_mono h (fun v s' hv => ?_) fun _ _ e => e))
  cases v <;> first | exact hv.elim | exact wpAny_pure ⟨_, rfl, hv⟩
theorem ifBound_ne {args : List Value} {Q : Option Value → Shared → Prop} (X : K.In s.heap) (I : InstAt s.heap x ox C od) (hs : findIn K (.ref C) "__ne__" = some (some (.builtin "object.__ne__")))
    (h : wpAny (model prog w) A (call (.builtin "object.__ne__") (.ref x :: args)) (fun v => Q (some v)) E s) : wpAny (model prog w) A (callSpecialIfBound? (.ref x) "__ne__" args) Q E s := by
  simp only [callSpecialIfBound?, bindSpecialIfBound?]
  refine wpAny_holding (wpAny_bind (wpAny_bind (wpAny_bind (I.type.here ((looks_findIn X hs).here ?_)))))
  refine wpAny_bind (wpAny_askSetting (wpAny_ite ?_))
  have fin : wpAny (model prog w) A (call (.builtin "object.__ne__") ([.ref x] ++ args) >>= fun v => pure (some v)) Q E s := wpAny_bind (wpAny_mono h (fun v s' h' => wpAny_pure h') fun _ _ h' => h')
  split
  · exact wpAny_bind (wpAny_of_eq (F.cmp_object.ne.bind _) (wpAny_pure (by exact fin)))
  · exact wpAny_tryCatch (wpAny_bind (wpAny_of_eq (F.cmp_object.ne.bind _) (wpAny_pure (by exact fin))))
/-- != by an own __eq__ -/
theorem try_ne {Q : Value → Shared → Prop} (hu : A.in1.units < cLine) (X : K.In s.heap) (I : InstAt s.heap x ox C od) (hm : mroIn K C (.type "object") = some true) (hs : findIn K (.ref C) "__ne__" = some (some (.builtin "object.__ne__")))
    (he : findIn K (.ref C) "__eq__" = some (some (.ref f))) (hf : isFn K (.ref f) = true)
    (h : wpAny (model prog w) A.in1 (call (.ref f) [.ref x, b]) (fun v s' => ∃ k, v = .bool k ∧ Q (.bool !k) s') E s) : wpAny (model prog w) A (tryCompare (.ref x) "__ne__" b) (fun r s' => ∃ v, r = some v ∧ Q v s') E s := by
  unfold tryCompare
  refine wpAny_bind (ifBound_ne X I hs ?_)
  refine wpAny_call (codeAny_call_builtin F.cmp_object.ne.plain F.cmpEntry_ne (PySem.W.check_slot F.cmpKind_ne F.cmpSplit_ne (I.type.andThen (looks_mroIn X hm)) (F.cmpArgs_ne _ _) ?_))
  unfold Builtin.«object.__ne__»
  refine wpAny_bind (m := slotArgs "__ne__" 1 _) (wpAny_pure ?_)
  refine wpAny_bind (m := cRoomFor _ _) (wpAny_cRoomFor hu ?_)
  refine wpAny_bind (ifBound_K X I he hf (wpAny_mono h (fun v s' hv => ?_) fun _ _ e => e))
  obtain ⟨k, rfl, hq⟩ := hv
  refine wpAny_bind (wpAny_truthy_bool (wpAny_pure ?_))
  exact wpAny_pure ⟨_, rfl, hq⟩
end
end CmX
/-! ### what the built-in types say to an instance -/
namespace CmX
open PySem.AutoSeq1 (wpAny_loadPart')
open PySem.W (InstAt findIn isFn mroIn typeIn subIn looks_subIn looks_mroIn looks_findIn instObj ifBound_K Looks)
section
variable {x C dx : Addr}
theorem int_eq_ins (b : Int) (u : Tok) : Meets (Builtin.«int.__eq__» ⟨[.int b u, .ref x], []⟩) (fun _ R s => s.heap.get? x = some (instObj C dx) ∧ R (.ok (.ret .notImplemented)) s) :=
  .of_wp fun prog w A R s h => by obtain ⟨hp, g, d, tk, os⟩ := s; obtain ⟨hl, h⟩ := h; wp_walk using wpAny_load hl; exact ⟨_, rfl, h⟩
theorem int_ne_ins (b : Int) (u : Tok) : Meets (Builtin.«int.__ne__» ⟨[.int b u, .ref x], []⟩) (fun _ R s => s.heap.get? x = some (instObj C dx) ∧ R (.ok (.ret .notImplemented)) s) :=
  .of_wp fun prog w A R s h => by obtain ⟨hp, g, d, tk, os⟩ := s; obtain ⟨hl, h⟩ := h; wp_walk using wpAny_load hl; exact ⟨_, rfl, h⟩
theorem int_lt_ins (b : Int) (u : Tok) : Meets (Builtin.«int.__lt__» ⟨[.int b u, .ref x], []⟩) (fun _ R s => s.heap.get? x = some (instObj C dx) ∧ R (.ok (.ret .notImplemented)) s) :=
  .of_wp fun prog w A R s h => by obtain ⟨hp, g, d, tk, os⟩ := s; obtain ⟨hl, h⟩ := h; wp_walk using wpAny_load hl; exact ⟨_, rfl, h⟩
theorem int_le_ins (b : Int) (u : Tok) : Meets (Builtin.«int.__le__» ⟨[.int b u, .ref x], []⟩) (fun _ R s => s.heap.get? x = some (instObj C dx) ∧ R (.ok (.ret .notImplemented)) s) :=
  .of_wp fun prog w A R s h => by obtain ⟨hp, g, d, tk, os⟩ := s; obtain ⟨hl, h⟩ := h; wp_walk using wpAny_load hl; exact ⟨_, rfl, h⟩
theorem int_gt_ins (b : Int) (u : Tok) : Meets (Builtin.«int.__gt__» ⟨[.int b u, .ref x], []⟩) (fun _ R s => s.heap.get? x = some (instObj C dx) ∧ R (.ok (.ret .notImplemented)) s) :=
  .of_wp fun prog w A R s h => by obtain ⟨hp, g, d, tk, os⟩ := s; obtain ⟨hl, h⟩ := h; wp_walk using wpAny_load hl; exact ⟨_, rfl, h⟩
theorem int_ge_ins (b : Int) (u : Tok) : Meets (Builtin.«int.__ge__» ⟨[.int b u, .ref x], []⟩) (fun _ R s => s.heap.get? x = some (instObj C dx) ∧ R (.ok (.ret .notImplemented)) s) :=
  .of_wp fun prog w A R s h => by obtain ⟨hp, g, d, tk, os⟩ := s; obtain ⟨hl, h⟩ := h; wp_walk using wpAny_load hl; exact ⟨_, rfl, h⟩
theorem bool_eq_ins (b : Bool) : Meets (Builtin.«int.__eq__» ⟨[.bool b, .ref x], []⟩) (fun _ R s => s.heap.get? x = some (instObj C dx) ∧ R (.ok (.ret .notImplemented)) s) :=
  .of_wp fun prog w A R s h => by obtain ⟨hp, g, d, tk, os⟩ := s; obtain ⟨hl, h⟩ := h; wp_walk using wpAny_load hl; exact ⟨_, rfl, h⟩
theorem str_eq_ins (b : Str) (u : Tok) : Meets (Builtin.«str.__eq__» ⟨[.str b u, .ref x], []⟩) (fun _ R s => s.heap.get? x = some (instObj C dx) ∧ R (.ok (.ret .notImplemented)) s) :=
  .of_wp fun prog w A R s h => by obtain ⟨hp, g, d, tk, os⟩ := s; obtain ⟨hl, h⟩ := h; wp_walk using wpAny_load hl; exact ⟨_, rfl, h⟩
end
section
variable {prog : Program} {w : World} {A : Around} {E : Value → Shared → Prop} {s : Shared} {K : PySem.W.Frag} {x C dx l : Addr} {ox ol : Obj} {od : Option Obj} {Q : Fin → Shared → Prop}
theorem isi_ins {T : String} {r : Bool} (X : K.In s.heap) (I : InstAt s.heap x ox C od) (hm : mroIn K C (.type T) = some r) : Looks (model prog w) s.heap (isInstance (.ref x) (.type T)) r := I.type.andThen (looks_mroIn X hm)
theorem list_eq_ins {a : Value} (X : K.In s.heap) (I : InstAt s.heap x ox C od) (hm : mroIn K C (.type "list") = some false) (h : Q (.done (.ret .notImplemented)) s) : wpAny (model prog w) A (Builtin.«list.__eq__» ⟨[a, .ref x], []⟩) Q E s := by
  unfold Builtin.«list.__eq__»
  refine wpAny_bind (m := slotArgs "__eq__" 1 _) (wpAny_pure ?_)
  refine wpAny_bind ((isi_ins X I hm).here ?_)
  simp only [Bool.not_false, if_true]
  exact wpAny_pure h
theorem tup_eq_ins {a : Value} (X : K.In s.heap) (I : InstAt s.heap x ox C od) (hm : mroIn K C (.type "tuple") = some false) (h : Q (.done (.ret .notImplemented)) s) : wpAny (model prog w) A (Builtin.«tuple.__eq__» ⟨[a, .ref x], []⟩) Q E s := by
  unfold Builtin.«tuple.__eq__»
  refine wpAny_bind (m := slotArgs "__eq__" 1 _) (wpAny_pure ?_)
  refine wpAny_bind ((isi_ins X I hm).here ?_)
  simp only [Bool.not_false, if_true]
  exact wpAny_pure h
theorem dict_eq_ins (hl : s.heap.get? l = some ol) (hc : ol.cls = .type "dict") (X : K.In s.heap) (I : InstAt s.heap x ox C od) (hm : mroIn K C (.type "dict") = some false) (h : Q (.done (.ret .notImplemented)) s) : wpAny (model prog w) A (Builtin.«dict.__eq__» ⟨[.ref l, .ref x], []⟩) Q E s := by
  unfold Builtin.«dict.__eq__»
  show wpAny _ _ (Builtin.Dict.dictSlotArgs "__eq__" ⟨[.ref l, .ref x], []⟩ >>= _) _ _ s
  refine wpAny_bind ?_
  unfold Builtin.Dict.dictSlotArgs
  refine wpAny_bind (wpAny_notOrdered_dict (show s.TypeIs (.ref l) "dict" from ⟨_, hl, hc⟩) ?_)
  show wpAny _ _ (pure (Value.ref l, Value.ref x)) _ _ s
  refine wpAny_pure ?_
  refine wpAny_bind ((isi_ins X I hm).here ?_)
  simp only [Bool.not_false, if_true]
  exact wpAny_bind (wpAny_rule (wpAny_pure h))
end
end CmX
/-! ### comparisons: readings -/
namespace CmX
open PySem.W (InstAt findIn isFn mroIn typeIn subIn looks_subIn looks_mroIn looks_findIn instObj ifBound_K Looks)
/-- C's own comparisons are asked: what the written part says -/
def names7 : List String := ["NoneType", "bool", "int", "str", "list", "tuple", "dict"]
def cmpB (K : PySem.W.Frag) (C : Addr) : Bool := decide (mroIn K C (.type "object") = some true) && (He.eqO (findIn K (.ref C) "__ne__") (some (some (.builtin "object.__ne__"))) && names7.all fun T => decide (subIn K (.type T) (.ref C) = some false) && decide (mroIn K C (.type T) = some false))
structure CmpC (K : PySem.W.Frag) (C : Addr) : Prop where
  top : mroIn K C (.type "object") = some true
  ne : findIn K (.ref C) "__ne__" = some (some (.builtin "object.__ne__"))
  no : ∀ T ∈ names7, subIn K (.type T) (.ref C) = some false ∧ mroIn K C (.type T) = some false
theorem cmpB_ok {K : PySem.W.Frag} {C : Addr} (h : cmpB K C = true) : CmpC K C := by
  obtain ⟨h1, h⟩ := He.ba h
  obtain ⟨h2, h3⟩ := He.ba h
  refine ⟨of_decide_eq_true h1, He.eqO_ok h2, fun T hT => ?_⟩
  obtain ⟨h4, h5⟩ := He.ba (List.all_eq_true.mp h3 T hT)
  exact ⟨of_decide_eq_true h4, of_decide_eq_true h5⟩
/-- the type of y is C itself, or not below C -/
def Beside (K : PySem.W.Frag) (C : Addr) (t : Value) : Prop := t = .ref C ∨ subIn K t (.ref C) = some false
theorem looks_ty {X : Cx} {pins : List (Addr × Obj)} {σ : L2.St} {H : Hp} {s : Shared} {y : V} {u t : Value} (I : Inv X pins σ H s) (ry : RelV y u) (ty : TyOf X.K H y t) : Looks (model X.prog X.w) s.heap (typeOf u) t := by
  obtain ⟨P, Z, p, _⟩ := kit_of I ry (.base ty)
  exact Z.ty _ _ I.kIn p
/-- x op y by x's own def -/
def rCmpL (K : PySem.W.Frag) (C : Addr) (sp : Sp) (E : XK) : R2 := fun x y H Q => ∃ (a dx : Addr) (fs : List (Str × V)) (t : Value), x = .ref a ∧ H a = some (.ins C dx fs) ∧ TyOf K H y t ∧ Beside K C t ∧ sp [x, y] H Q E
/-- x != y by x's own __eq__ -/
def rNeL (K : PySem.W.Frag) (C : Addr) (sp : Sp) (E : XK) : R2 := fun x y H Q => ∃ (a dx : Addr) (fs : List (Str × V)) (t : Value), x = .ref a ∧ H a = some (.ins C dx fs) ∧ TyOf K H y t ∧ Beside K C t ∧ sp [x, y] H (fun z H' => ∃ k, z = .bl k ∧ Q (.bl !k) H') E
/-- i op y by y's own def -/
def rCmpI (C : Addr) (sp : Sp) (E : XK) : R2 := fun x y H Q => ∃ (i : Int) (b dy : Addr) (gs : List (Str × V)), x = .int i ∧ y = .ref b ∧ H b = some (.ins C dy gs) ∧ sp [y, x] H Q E
def rNeI (C : Addr) (sp : Sp) (E : XK) : R2 := fun x y H Q => ∃ (i : Int) (b dy : Addr) (gs : List (Str × V)), x = .int i ∧ y = .ref b ∧ H b = some (.ins C dy gs) ∧ sp [y, x] H (fun z H' => ∃ k, z = .bl k ∧ Q (.bl !k) H') E
/-- x == y by y's own __eq__, x of a built-in type -/
inductive Bi (H : Hp) : V → Prop where
  | non : Bi H .non
  | bl (x : Bool) : Bi H (.bl x)
  | int (i : Int) : Bi H (.int i)
  | str (x : Str) : Bi H (.str x)
  | lst {a : Addr} {xs : List V} (e : H a = some (.lst xs)) : Bi H (.ref a)
  | tup {a : Addr} {xs : List V} (e : H a = some (.tup xs)) : Bi H (.ref a)
  | dK {a : Addr} {kvs : List (Key × V)} (e : H a = some (.dK kvs)) : Bi H (.ref a)
def rEqB (C : Addr) (sp : Sp) (E : XK) : R2 := fun x y H Q => ∃ (b dy : Addr) (gs : List (Str × V)), Bi H x ∧ y = .ref b ∧ H b = some (.ins C dy gs) ∧ sp [y, x] H Q E
section
variable {X : Cx} {CX : CXT} {n : Nat} {sp : Sp} {E : XK} {C f : Addr} {op : CmpOp}
theorem beside_looks {K : PySem.W.Frag} {M : Model} {h : Heap} {t : Value} (X : K.In h) (b : Beside K C t) : (Value.ref C != t) = true → Looks M h (isSubtype t (.ref C)) false := fun q => by
  rcases b with e | e
  · rw [e] at q
    simp at q
  · exact looks_subIn X e
theorem op_cmpL (hc : ∀ a b, compareOp op a b = richCompare op a b) (hs : findIn X.K (.ref C) (cmpInfo op).2.1 = some (some (.ref f))) (hf : isFn X.K (.ref f) = true)
    (F : FnR X.prog X.w X.K X.mg X.base CX n f sp) (hr : Room n X.A) (hu : X.A.units < cLine) (hx : Passes CX X E) : OpR X (compareOp op) (rCmpL X.K C sp E) := by
  intro pins s σ H x y v u Q I rx ry h
  obtain ⟨a, dx, fs, t, rfl, ha, ty, bs, q⟩ := h
  cases (show v = Value.ref a from rx)
  obtain ⟨mA, O, _⟩ := ins_get I.hok ha
  obtain ⟨od, J, _⟩ := O.look
  rw [hc]
  refine rc_fst hu rfl J.type (looks_ty I ry ty) (beside_looks I.kIn bs) (try_own I.kIn J hs hf ?_)
  exact wpAny_mono (wpAny_call (run_fnR (us := [.ref a, u]) (vs := [.ref a, y]) F hr hx I (.cons rfl (.cons ry .nil)) q)) (fun w s' z => by
    obtain ⟨z', H', I', rz, qz⟩ := z
    exact SlX.cmpback rz ⟨z', H', I', rz, qz⟩) fun _ _ x => x
theorem op_neL (K0 : CmpC X.K C) (hs : findIn X.K (.ref C) "__eq__" = some (some (.ref f))) (hf : isFn X.K (.ref f) = true)
    (F : FnR X.prog X.w X.K X.mg X.base CX n f sp) (hr : Room (n + 1) X.A) (hu : X.A.units + 1 < cLine) (hx : Passes CX X E) : OpR X (compareOp .NotEq) (rNeL X.K C sp E) := by
  intro pins s σ H x y v u Q I rx ry h
  obtain ⟨a, dx, fs, t, rfl, ha, ty, bs, q⟩ := h
  cases (show v = Value.ref a from rx)
  obtain ⟨mA, O, _⟩ := ins_get I.hok ha
  obtain ⟨od, J, _⟩ := O.look
  show wpAny _ _ (richCompare .NotEq (.ref a) u) _ _ s
  refine rc_fst (by omega) rfl J.type (looks_ty I ry ty) (beside_looks I.kIn bs) (try_ne (show X.A.units + 1 < cLine from hu) I.kIn J K0.top K0.ne hs hf ?_)
  exact wpAny_mono (wpAny_call (SlX.run_at (us := [.ref a, u]) (ws := [.ref a, y]) F hr.in1 I.env0.in1 hx I (.cons rfl (.cons ry .nil)) q)) (fun w s' z => by
    obtain ⟨z', H', I', rz, k, rfl, qz⟩ := z
    cases (show w = Value.bool k from rz)
    exact ⟨k, rfl, .bl !k, H', I', rfl, qz⟩) fun _ _ x => x
/-- what int says -/
def DcI (op : CmpOp) : Prop := ∀ (prog : Program) (w : World) (A : Around) (E : Value → Shared → Prop) (s : Shared) (x C dx : Addr) (i : Int) (t : Tok), s.heap.get? x = some (instObj C dx) →
  wpAny (model prog w) A (tryCompare (.int i t) (cmpInfo op).2.1 (.ref x)) (fun r s' => r = none ∧ s' = s) E s
theorem dcI {op : CmpOp} {nm : Str} {id : String} {B : Builtin} (hn : (cmpInfo op).2.1 = nm) (slot : Slot "int" nm id) (entry : entryFor table id = some B) (args : ∀ a b : Value, argsOk id ⟨[a, b], []⟩)
    (hB : ∀ (x C dx : Addr) (i : Int) (t : Tok), Meets (B ⟨[.int i t, .ref x], []⟩) (fun _ R s => s.heap.get? x = some (instObj C dx) ∧ R (.ok (.ret .notImplemented)) s)) : DcI op := fun prog w A E s x C dx i t hx => by
  rw [hn]
  exact wpAny_tryCompare_declines (Q := fun r s' => r = none ∧ s' = s) (typeIs_int s i t) slot (call_meets slot (typeIs_int s i t) entry (args _ _) (hB x C dx i t) ⟨hx, rfl, rfl, rfl⟩)
theorem hb_eq : ∀ (x C dx : Addr) (i : Int) (t : Tok), Meets (Builtin.«int.__eq__» ⟨[.int i t, .ref x], []⟩) (fun _ R s => s.heap.get? x = some (instObj C dx) ∧ R (.ok (.ret .notImplemented)) s) := fun _ _ _ _ _ => int_eq_ins _ _
theorem dc_eq : DcI .Eq := dcI (nm := (cmpInfo .Eq).2.1) rfl F.slot_int_eq F.entry_int_eq F.args_int_eq_2 hb_eq
theorem hb_ne : ∀ (x C dx : Addr) (i : Int) (t : Tok), Meets (Builtin.«int.__ne__» ⟨[.int i t, .ref x], []⟩) (fun _ R s => s.heap.get? x = some (instObj C dx) ∧ R (.ok (.ret .notImplemented)) s) := fun _ _ _ _ _ => int_ne_ins _ _
theorem dc_ne : DcI .NotEq := dcI (nm := (cmpInfo .NotEq).2.1) rfl F.slot_int_ne F.entry_int_ne F.args_int_ne_2 hb_ne
theorem hb_lt : ∀ (x C dx : Addr) (i : Int) (t : Tok), Meets (Builtin.«int.__lt__» ⟨[.int i t, .ref x], []⟩) (fun _ R s => s.heap.get? x = some (instObj C dx) ∧ R (.ok (.ret .notImplemented)) s) := fun _ _ _ _ _ => int_lt_ins _ _
theorem dc_lt : DcI .Lt := dcI (nm := (cmpInfo .Lt).2.1) rfl F.slot_int_lt F.entry_int_lt F.args_int_lt_2 hb_lt
theorem hb_le : ∀ (x C dx : Addr) (i : Int) (t : Tok), Meets (Builtin.«int.__le__» ⟨[.int i t, .ref x], []⟩) (fun _ R s => s.heap.get? x = some (instObj C dx) ∧ R (.ok (.ret .notImplemented)) s) := fun _ _ _ _ _ => int_le_ins _ _
theorem dc_le : DcI .LtE := dcI (nm := (cmpInfo .LtE).2.1) rfl F.slot_int_le F.entry_int_le F.args_int_le_2 hb_le
theorem hb_gt : ∀ (x C dx : Addr) (i : Int) (t : Tok), Meets (Builtin.«int.__gt__» ⟨[.int i t, .ref x], []⟩) (fun _ R s => s.heap.get? x = some (instObj C dx) ∧ R (.ok (.ret .notImplemented)) s) := fun _ _ _ _ _ => int_gt_ins _ _
theorem dc_gt : DcI .Gt := dcI (nm := (cmpInfo .Gt).2.1) rfl F.slot_int_gt F.entry_int_gt F.args_int_gt_2 hb_gt
theorem hb_ge : ∀ (x C dx : Addr) (i : Int) (t : Tok), Meets (Builtin.«int.__ge__» ⟨[.int i t, .ref x], []⟩) (fun _ R s => s.heap.get? x = some (instObj C dx) ∧ R (.ok (.ret .notImplemented)) s) := fun _ _ _ _ _ => int_ge_ins _ _
theorem dc_ge : DcI .GtE := dcI (nm := (cmpInfo .GtE).2.1) rfl F.slot_int_ge F.entry_int_ge F.args_int_ge_2 hb_ge
theorem op_cmpI (hc : ∀ a b, compareOp op a b = richCompare op a b) (K0 : CmpC X.K C) (dc : DcI op) (hs : findIn X.K (.ref C) (cmpInfo op).2.2 = some (some (.ref f))) (hf : isFn X.K (.ref f) = true)
    (F : FnR X.prog X.w X.K X.mg X.base CX n f sp) (hr : Room n X.A) (hu : X.A.units < cLine) (hx : Passes CX X E) : OpR X (compareOp op) (rCmpI C sp E) := by
  intro pins s σ H x y v u Q I rx ry h
  obtain ⟨i, b, dy, gs, rfl, rfl, hb, q⟩ := h
  obtain ⟨t, e⟩ := (show ∃ t, v = Value.int i t from rx)
  cases e
  cases (show u = Value.ref b from ry)
  obtain ⟨mB, O, _⟩ := ins_get I.hok hb
  obtain ⟨od, J, _⟩ := O.look
  rw [hc]
  refine rc_snd hu rfl (Looks.of_pure rfl) J.type (looks_mroIn I.kIn (K0.no "int" (by decide)).2) (dc _ _ _ _ _ _ _ _ _ _ J.at_) (try_own I.kIn J hs hf ?_)
  exact wpAny_mono (wpAny_call (run_fnR (us := [.ref b, .int i t]) (vs := [.ref b, .int i]) F hr hx I (.cons rfl (.cons ⟨t, rfl⟩ .nil)) q)) (fun w s' z => by
    obtain ⟨z', H', I', rz, qz⟩ := z
    exact SlX.cmpback rz ⟨z', H', I', rz, qz⟩) fun _ _ x => x
theorem op_neI (K0 : CmpC X.K C) (hs : findIn X.K (.ref C) "__eq__" = some (some (.ref f))) (hf : isFn X.K (.ref f) = true)
    (F : FnR X.prog X.w X.K X.mg X.base CX n f sp) (hr : Room (n + 1) X.A) (hu : X.A.units + 1 < cLine) (hx : Passes CX X E) : OpR X (compareOp .NotEq) (rNeI C sp E) := by
  intro pins s σ H x y v u Q I rx ry h
  obtain ⟨i, b, dy, gs, rfl, rfl, hb, q⟩ := h
  obtain ⟨t, e⟩ := (show ∃ t, v = Value.int i t from rx)
  cases e
  cases (show u = Value.ref b from ry)
  obtain ⟨mB, O, _⟩ := ins_get I.hok hb
  obtain ⟨od, J, _⟩ := O.look
  show wpAny _ _ (richCompare .NotEq _ _) _ _ s
  refine rc_snd (by omega) rfl (Looks.of_pure rfl) J.type (looks_mroIn I.kIn (K0.no "int" (by decide)).2) (dc_ne _ _ _ _ _ _ _ _ _ _ J.at_) (try_ne (show X.A.units + 1 < cLine from hu) I.kIn J K0.top K0.ne hs hf ?_)
  exact wpAny_mono (wpAny_call (SlX.run_at (us := [.ref b, .int i t]) (ws := [.ref b, .int i]) F hr.in1 I.env0.in1 hx I (.cons rfl (.cons ⟨t, rfl⟩ .nil)) q)) (fun w s' z => by
    obtain ⟨z', H', I', rz, k, rfl, qz⟩ := z
    cases (show w = Value.bool k from rz)
    exact ⟨k, rfl, .bl !k, H', I', rfl, qz⟩) fun _ _ x => x
theorem op_eqB (K0 : CmpC X.K C) (hs : findIn X.K (.ref C) "__eq__" = some (some (.ref f))) (hf : isFn X.K (.ref f) = true)
    (G : FnR X.prog X.w X.K X.mg X.base CX n f sp) (hr : Room n X.A) (hu : X.A.units < cLine) (hx : Passes CX X E) : OpR X (compareOp .Eq) (rEqB C sp E) := by
  intro pins s σ H x y v u Q I rx ry h
  obtain ⟨b, dy, gs, bi, rfl, hb, q⟩ := h
  cases (show u = Value.ref b from ry)
  obtain ⟨mB, O, _⟩ := ins_get I.hok hb
  obtain ⟨od, J, _⟩ := O.look
  have two : wpAny (model X.prog X.w) X.A (tryCompare (.ref b) (cmpInfo .Eq).2.2 v) (fun r s' => ∃ z, r = some z ∧ EP X pins σ Q z s') X.xe s := by
    refine try_own I.kIn J hs hf ?_
    exact wpAny_mono (wpAny_call (run_fnR (us := [.ref b, v]) (vs := [.ref b, x]) G hr hx I (.cons rfl (.cons rx .nil)) q)) (fun w s' z => by
      obtain ⟨z', H', I', rz, qz⟩ := z
      exact SlX.cmpback rz ⟨z', H', I', rz, qz⟩) fun _ _ x => x
  show wpAny _ _ (richCompare .Eq _ _) _ _ s
  cases bi with
  | non =>
    cases (show v = Value.none from rx)
    exact rc_snd hu rfl (Looks.of_pure rfl) J.type (looks_mroIn I.kIn (K0.no "NoneType" (by decide)).2) (wpAny_tryCompare_declines (show s.TypeIs .none "NoneType" from rfl) F.slot_NoneType_eq (call_gives F.slot_NoneType_eq rfl F.entry_NoneType_eq (F.args_NoneType_eq_2 _ _) (SeqAt.NoneType___eq___none_ref_0 b) ⟨rfl, rfl, rfl⟩)) two
  | bl k =>
    cases (show v = Value.bool k from rx)
    exact rc_snd hu rfl (Looks.of_pure rfl) J.type (looks_mroIn I.kIn (K0.no "bool" (by decide)).2) (wpAny_tryCompare_declines (show s.TypeIs (.bool k) "bool" from rfl) F.slot_bool_eq (call_meets F.slot_bool_eq rfl F.entry_int_eq (F.args_int_eq_2 _ _) (bool_eq_ins k) ⟨J.at_, rfl, rfl, rfl⟩)) two
  | int i =>
    obtain ⟨t, e⟩ := (show ∃ t, v = Value.int i t from rx)
    cases e
    exact rc_snd hu rfl (Looks.of_pure rfl) J.type (looks_mroIn I.kIn (K0.no "int" (by decide)).2) (dc_eq _ _ _ _ _ _ _ _ _ _ J.at_) two
  | str z =>
    obtain ⟨t, e⟩ := (show ∃ t, v = Value.str z t from rx)
    cases e
    exact rc_snd hu rfl (Looks.of_pure rfl) J.type (looks_mroIn I.kIn (K0.no "str" (by decide)).2) (wpAny_tryCompare_declines (typeIs_str s z t) F.slot_str_eq (call_meets F.slot_str_eq (typeIs_str s z t) F.entry_str_eq (F.args_str_eq_2 _ _) (str_eq_ins z t) ⟨J.at_, rfl, rfl, rfl⟩)) two
  | @lst a xs e =>
    cases (show v = Value.ref a from rx)
    obtain ⟨_, _, n, _, h1⟩ := (show ObjOk X.prog X.w H s.heap a (.lst xs) from I.hok a _ e)
    have ht : s.TypeIs (.ref a) "list" := ⟨_, h1, rfl⟩
    exact rc_snd hu rfl (looks_ty I rx (.lst e)) J.type (looks_mroIn I.kIn (K0.no "list" (by decide)).2) (wpAny_tryCompare_declines ht F.slot_list_eq (wpAny_call (codeAny_call_builtin F.slot_list_eq.plain F.entry_list_eq (F.slot_list_eq.check _ _ _ _ _ _ _ _ ht (F.args_list_eq_2 _ _) (list_eq_ins I.kIn J (K0.no "list" (by decide)).2 ⟨rfl, rfl, rfl⟩))))) two
  | @tup a xs e =>
    cases (show v = Value.ref a from rx)
    obtain ⟨_, _, _, o, h1, h2, _⟩ := (show ObjOk X.prog X.w H s.heap a (.tup xs) from I.hok a _ e)
    have ht : s.TypeIs (.ref a) "tuple" := ⟨o, h1, h2⟩
    exact rc_snd hu rfl (looks_ty I rx (.tup e)) J.type (looks_mroIn I.kIn (K0.no "tuple" (by decide)).2) (wpAny_tryCompare_declines ht F.slot_tuple_eq (wpAny_call (codeAny_call_builtin F.slot_tuple_eq.plain F.entry_tuple_eq (F.slot_tuple_eq.check _ _ _ _ _ _ _ _ ht (F.args_tuple_eq_2 _ _) (tup_eq_ins I.kIn J (K0.no "tuple" (by decide)).2 ⟨rfl, rfl, rfl⟩))))) two
  | @dK a kvs e =>
    cases (show v = Value.ref a from rx)
    obtain ⟨_, _, vs, _, o, es, ep, h1, h2, _⟩ := (show ObjOk X.prog X.w H s.heap a (.dK kvs) from I.hok a _ e)
    have ht : s.TypeIs (.ref a) "dict" := ⟨o, h1, h2.1⟩
    exact rc_snd hu rfl (looks_ty I rx (.dK e)) J.type (looks_mroIn I.kIn (K0.no "dict" (by decide)).2) (wpAny_tryCompare_declines ht F.slot_dict_eq (wpAny_call (codeAny_call_builtin F.slot_dict_eq.plain F.entry_dict_eq (F.slot_dict_eq.check _ _ _ _ _ _ _ _ ht (F.args_dict_eq_2 _ _) (dict_eq_ins h1 h2.1 I.kIn J (K0.no "dict" (by decide)).2 ⟨rfl, rfl, rfl⟩))))) two
end
end CmX
/-! ### a staticmethod called off its class -/
namespace StX
/-- C.m is a staticmethod around the def at g -/
structure SMet (K : PySem.W.Frag) (C : Addr) (m : Str) (p g : Addr) : Prop where
  rd : ClX.CRead K C (.type "type")
  at_ : PySem.W.findCls K (.ref C) (.type "type") m = some (.get (.builtin "staticmethod.__get__") (.ref p) .none (.ref C))
  rc : ∃ rest, PySem.W.recIn K p "staticmethod" = some (.ref g :: rest)
  kp : PySem.W.keepIn K (.ref g) = true
def smB (K : PySem.W.Frag) (C : Addr) (m : Str) : Bool := PySem.W.readsIn K C (.type "type") && (He.eqO (PySem.W.specialIn K (.ref C) "__getattribute__") (some (some (.builtin "type.__getattribute__"))) && (He5.wrapB K C "staticmethod" "staticmethod.__get__" m && PySem.W.keepIn K (.ref (He5.wf K C "staticmethod" m))))
theorem smB_ok {K : PySem.W.Frag} {C : Addr} {m : Str} (h : smB K C m = true) : SMet K C m (He.ma K C m) (He5.wf K C "staticmethod" m) := by
  obtain ⟨h1, h⟩ := He.ba h
  obtain ⟨h2, h⟩ := He.ba h
  obtain ⟨h3, h4⟩ := He.ba h
  obtain ⟨k1, k2⟩ := He5.wrapB_ok h3
  exact ⟨⟨h1, He.eqO_ok h2⟩, k1, k2, h4⟩
/-- C.m(..) -/
def tSMeth (C : Addr) (sp : Sp) (dvs : List V) (E : XK) (ta : TE) (t : TA) : TE := fun σ H Q => ta σ H fun x H1 => x = .ref C ∧ t σ H1 fun vs H2 => sp (vs ++ dvs) H2 Q E
section
variable {X : Cx} {CX : CXT} {k : Nat} {C p g : Addr} {fd : FuncData} {ps : List Str} {dvs : List V} {ds : List Value} {sp : Sp} {E : XK} {o e : Expr} {es : List Expr} {m : Str} {pos apos : Pos} {ta : TE} {t : TA} {pl : Sem Bool}
theorem pe_smeth (he : PE X o ta) (c : SMet X.K C m p g) (F : FnOk X.prog X.w X.K X.mg X.base CX k g fd ps sp) (hr : Room k X.A) (hb : Binds X.K fd ps ds) (hd : Vals dvs ds) (hx : Passes CX X E) (ha : PA X (e :: es) t)
    (hst : starEach (e :: es) X.env = (false, eval e X.env) :: starEach es X.env := by rfl) (hpl : (backTo pos (starEach es X.env)).any (·.1) = false := by rfl)
    (ht : eval (.Call (.Attribute o m apos) (e :: es) [] pos) X.env = (do
      let ov ← eval o X.env
      standAt apos.atName
      let (f, first) ← holding [ov] (getMethod ov m pl)
      callWith pos f first (backTo pos (starEach (e :: es) X.env)) (backToKw pos (keywordEach [] X.env))) := by rfl) :
    PE X (.Call (.Attribute o m apos) (e :: es) [] pos) (tSMeth C sp dvs E ta t) := by
  refine ⟨fun pins s σ H Q I h => ?_⟩
  refine PySem.W.methodCall_KW (pl := pl) (thn (he.run pins s σ H _ I h) fun u s1 ⟨x, H1, I1, rx, ex, q⟩ => ?_) ht
  subst ex
  obtain rfl : u = Value.ref C := rx
  obtain ⟨rest, hp⟩ := c.rc
  refine PySem.W.method_cls I1.kIn c.rd.ga (PySem.W.cls_bind I1.kIn c.rd.rd c.at_ ?_)
  refine wpAny_call (PySem.W.sm_get (s := { s1 with toks := s1.toks + 1 }) I1.kIn hp (PySem.W.handed_on rfl ?_))
  have I2 := I1.tok (s1.toks + 1 + 1)
  refine PySem.W.callWith_K (first := []) (h₀ := X.base) I.ok.mod.kin c.kp (thn (ha.run pos pins _ σ H1 _ (I1.tok _) q) fun us s2 ⟨vs, H2, I2, r, q2⟩ => ⟨I2.kIn, ?_⟩) hst hpl
  exact run_fn F hr hb hd hx I2 r q2
end
end StX
/-! ### what is a number, by kinds -/
namespace NuX
/-- is_integer, is_number of a thing of type t -/
def KI (K : PySem.W.Frag) (t : Value) (b : Bool) : Prop := ∃ bi bb, PySem.W.kitOne K t (.type "int") = some bi ∧ PySem.W.kitOne K t (.type "bool") = some bb ∧ b = (bi && !bb)
def KN (K : PySem.W.Frag) (t : Value) (b : Bool) : Prop := ∃ bs, PySem.W.kitOne K t (.ref (He.ga K "Share")) = some bs ∧ ((bs = true ∧ b = true) ∨ (bs = false ∧ KI K t b))
def knB (K : PySem.W.Frag) (t : Value) (b : Bool) : Bool := match PySem.W.kitOne K t (.ref (He.ga K "Share")), PySem.W.kitOne K t (.type "int"), PySem.W.kitOne K t (.type "bool") with
  | some true, _, _ => b
  | some false, some bi, some bb => b == (bi && !bb)
  | _, _, _ => false
theorem knB_ok {K : PySem.W.Frag} {t : Value} {b : Bool} (h : knB K t b = true) : KN K t b := by
  unfold knB at h
  split at h
  · rename_i e
    exact ⟨true, e, .inl ⟨rfl, h⟩⟩
  · rename_i bi bb e1 e2 e3
    exact ⟨false, e1, .inr ⟨rfl, bi, bb, e2, e3, eq_of_beq h⟩⟩
  · cases h
end NuX
/-! ### zip of a tuple and a list -/
namespace ZmX
/-- the tuple at a and the list at b as they stand at each turn, the items in new pairs -/
def ItM (K : PySem.W.Frag) (a b : Addr) : It :=
  ⟨fun i H => ∃ xs ys x y, SqT K H a xs ∧ SqL K H b ys ∧ xs[i]? = some x ∧ ys[i]? = some y,
    fun i H v H' => ∃ T x y, v = V.ref T ∧ H T = none ∧ H' = upd H T (.tup [x, y]) ∧ (∀ xs, SqT K H a xs → xs[i]? = some x) ∧ (∀ ys, SqL K H b ys → ys[i]? = some y),
    fun i H => ∃ xs ys, SqT K H a xs ∧ SqL K H b ys ∧ i ≤ xs.length ∧ i ≤ ys.length ∧ (i = xs.length ∨ i = ys.length)⟩
def cells (n : Nat) : List Addr := [n + 4, n + 2, n + 3, n, n + 1]
theorem nin {c x y : Nat} (h1 : c ≠ x) (h2 : c ≠ y) : c ∉ [x, y] := by simp [h1, h2]
theorem sep {n a b : Nat} (ha : a < n) (hb : b < n) : ZipSep2 (n + 4) (n + 2) (n + 3) n (n + 1) [n, a] [n + 1, b] := by
  have f : ∀ {x y : Nat}, x < y → x ≠ y := fun h e => by omega
  have g : ∀ {x y : Nat}, y < x → x ≠ y := fun h e => by omega
  exact ⟨f (by omega), f (by omega), f (by omega), g (by omega), List.mem_cons_self, nin (g (by omega)) (g (by omega)), nin (g (by omega)) (g (by omega)), g (by omega), List.mem_cons_self, nin (g (by omega)) (g (by omega)), nin (g (by omega)) (g (by omega)), nin (f (by omega)) (g (by omega)), nin (g (by omega)) (g (by omega))⟩
/-- the zip's objects over a and b, at place i -/
structure At (n a b i : Nat) (h : Heap) : Prop where
  z : IsZip h (n + 4) (n + 2) (n + 3) .none
  ti : IsPair h (n + 2) (.ref n) (.ref (n + 1))
  to : ∃ x y, IsPair h (n + 3) x y
  one : h.IsTupleIter n a i
  two : h.IsListIter (n + 1) b i
theorem mem_cells {n c : Nat} : c ∈ cells n ↔ c = n + 4 ∨ c = n + 2 ∨ c = n + 3 ∨ c = n ∨ c = n + 1 := by simp [cells]
theorem lt_size_of {h : Heap} {n a b i c : Nat} (st : At n a b i h) (hc : c ∈ cells n) : ∃ o, h.get? c = some o ∧ ∀ v, o.data ≠ .cell v := by
  obtain ⟨hz, ht, ⟨x, y, hto⟩, ⟨o1, e1, _, d1⟩, ⟨o2, e2, _, d2⟩⟩ := st
  rcases mem_cells.mp hc with rfl | rfl | rfl | rfl | rfl
  · exact ⟨_, hz, fun v q => nomatch q⟩
  · exact ⟨_, ht, fun v q => nomatch q⟩
  · exact ⟨_, hto, fun v q => nomatch q⟩
  · exact ⟨o1, e1, fun v q => by rw [d1] at q; cases q⟩
  · exact ⟨o2, e2, fun v q => by rw [d2] at q; cases q⟩
theorem turnM {P : Program} {w : World} {K : PySem.W.Frag} {elts : List Expr} {kk : Nat} {tpos : Pos} {n a b : Nat} (ha : a < n) (hb : b < n) :
    Turn P w K (.Tuple elts kk tpos) (ItM K a b) (cells n) (n + 4) (fun i h => At n a b i h) where
  mem := mem_cells.mpr (.inl rfl)
  obj := fun i h st c hc => lt_size_of st hc
  keep := fun i h h' st k => by
    obtain ⟨hz, ht, ⟨x, y, hto⟩, h1, h2⟩ := st
    exact ⟨k _ (mem_cells.mpr (.inl rfl)) _ hz, k _ (mem_cells.mpr (.inr (.inl rfl))) _ ht, ⟨x, y, k _ (mem_cells.mpr (.inr (.inr (.inl rfl)))) _ hto⟩, h1.at fun o q => k _ (mem_cells.mpr (by simp)) o q, h2.at fun o q => k _ (mem_cells.mpr (by simp)) o q⟩
  item := by
    intro X hP hw hK hc i pins s σ H E I hf st hg
    subst hP hw hK
    obtain ⟨xs, ys, x, y, qx, qy, ex, ey⟩ := hg
    obtain ⟨its, rv, p, _⟩ := I.tuple qx
    obtain ⟨its2, rv2, p2, _⟩ := I.list qy
    obtain ⟨u, hu, ru⟩ := rv.get ex
    obtain ⟨u2, hu2, ru2⟩ := rv2.get ey
    have f : ∀ {x y : Nat}, x < y → x ≠ y := fun h e => by omega
    have g : ∀ {x y : Nat}, y < x → x ≠ y := fun h e => by omega
    have hd : X.A.in1.handled = none := I.ok.hd hc
    obtain ⟨hz, ht, ⟨x0, y0, hto⟩, h1, h2⟩ := id st
    have zl : n + 4 < s.heap.objs.size := Heap.lt_size hz
    have i1 : i < its.length := (List.getElem?_eq_some_iff.mp hu).1
    have i2 : i < its2.length := (List.getElem?_eq_some_iff.mp hu2).1
    have below : ∀ c ∈ cells n, c < s.heap.objs.size := fun c hcm => by
      obtain ⟨o, e, _⟩ := lt_size_of st hcm
      exact Heap.lt_size e
    refine wpAny_pyNext_zipD2_item (sep ha hb) (Draws.tuple hd n a (f ha) its.toArray) (Draws.list hd (n + 1) b (f (Nat.lt_succ_of_lt hb)) its2.toArray) hz ht hto ⟨h1, p⟩ ⟨h2, p2.isList⟩ (by simpa using i1) (by simpa using i2)
      fun v1 v2 h' tk e1 e2 z' to' st1 st2 hT hsz hk => ?_
    have e1 : its[i]? = some v1 := by simpa using e1
    have e2 : its2[i]? = some v2 := by simpa using e2
    rw [hu] at e1
    rw [hu2] at e2
    cases e1
    cases e2
    refine ⟨_, rfl, wpAny_letOwnedTupleGo_zip (s := { s with heap := h', toks := tk }) z' fun h'' z'' sb => ?_⟩
    have nz : s.heap.objs.size ≠ n + 4 := Nat.ne_of_gt zl
    have new : ObjOk X.prog X.w (upd H s.heap.objs.size (.tup [x, y])) h'' s.heap.objs.size (.tup [x, y]) :=
      ⟨by show 2 ≤ sizeLine; decide, [u, u2], .cons ru (.cons ru2 .nil), ⟨_, (sb.2 _ nz).trans hT, rfl, _, rfl⟩⟩
    have I1 : Inv X pins σ (upd H s.heap.objs.size (.tup [x, y])) { s with heap := h'', toks := tk } :=
      I.turnedNew (t' := tk) (ch := cells n) (fun c o nc q => (sb.2 c (fun q' => nc (mem_cells.mpr (.inl q')))).trans
        (hk c o (fun q' => nc (mem_cells.mpr (.inl q'))) (fun q' => nc (mem_cells.mpr (.inr (.inr (.inl q'))))) (fun q' => nc (mem_cells.mpr (.inr (.inr (.inr (.inl q')))))) (fun q' => nc (mem_cells.mpr (.inr (.inr (.inr (.inr q')))))) q)) hf (Nat.le_refl _) new
    refine ⟨.ref s.heap.objs.size, _, I1, rfl, ⟨_, x, y, rfl, I.hok.fresh (Nat.le_refl _), rfl, fun l hl => by rw [I.tuple_inj hl qx]; exact ex, fun l hl => by rw [I.list_inj hl qy]; exact ey⟩, ⟨z'', ?_, ⟨u, u2, ?_⟩, ?_, ?_⟩, fun c hcm => ?_⟩
    · exact (sb.2 _ (f (by omega))).trans (hk _ _ (f (by omega)) (f (by omega)) (g (by omega)) (g (by omega)) ht)
    · exact (sb.2 _ (f (by omega))).trans to'
    · exact st1.1.at fun o q => (sb.2 _ (f (by omega))).trans q
    · exact st2.1.at fun o q => (sb.2 _ (f (by omega))).trans q
    · rw [upd_ne (Nat.ne_of_lt (below c hcm))]
      exact (hf c hcm).1
  done := by
    intro X hP hw hK hc i pins s σ H E I hf st hg
    subst hP hw hK
    obtain ⟨xs, ys, qx, qy, m1, m2, hend⟩ := hg
    obtain ⟨its, rv, p, _⟩ := I.tuple qx
    obtain ⟨its2, rv2, p2, _⟩ := I.list qy
    have f : ∀ {x y : Nat}, x < y → x ≠ y := fun h e => by omega
    have hd : X.A.in1.handled = none := I.ok.hd hc
    obtain ⟨hz, ht, ⟨x0, y0, hto⟩, h1, h2⟩ := id st
    have l1 := rv.length
    have l2 := rv2.length
    exact wpAny_pyNext_zipD2_end (sep ha hb) (Draws.tuple hd n a (f ha) its.toArray) (Draws.list hd (n + 1) b (f (Nat.lt_succ_of_lt hb)) its2.toArray) hz ht hto ⟨h1, p⟩ ⟨h2, p2.isList⟩ (by simp; omega) (by simp; omega) (by simp; omega)
      fun h' tk hk => ⟨rfl, I.turnedL (t' := tk) (ch := cells n) (fun c o nc q => hk c o (fun q' => nc (mem_cells.mpr (.inl q'))) (fun q' => nc (mem_cells.mpr (.inr (.inr (.inl q'))))) (fun q' => nc (mem_cells.mpr (.inr (.inr (.inr (.inl q')))))) (fun q' => nc (mem_cells.mpr (.inr (.inr (.inr (.inr q')))))) q) hf⟩
  self := fun A i s Q E st h => wpAny_pyIter_zip st.z h
/-- zip's object, new -/
def it1 (h : Heap) (a : Addr) : Heap := h.push { cls := .type "tuple_iterator", data := .fields #[.ref a, .int 0 0] }
def it2 (h : Heap) (a b : Addr) : Heap := (it1 h a).push { cls := .type "list_iterator", data := .fields #[.ref b, .int 0 0] }
def it3 (h : Heap) (a b : Addr) : Heap := (it2 h a b).push { cls := .type "tuple", data := .seq #[.ref h.objs.size, .ref (it1 h a).objs.size] }
def it4 (h : Heap) (a b : Addr) : Heap := (it3 h a b).push { cls := .type "tuple", data := .seq #[.none, .none] }
def it5 (h : Heap) (a b : Addr) : Heap := (it4 h a b).push { cls := .type "zip", data := .fields #[.none, .bool false, .bool false, .ref (it2 h a b).objs.size, .ref (it3 h a b).objs.size] }
theorem meets_new (a b : Addr) (xs ys : Array Value) : Meets (Builtin.«zip.__new__» ⟨[.type "zip", .ref a, .ref b], []⟩) (fun _ R s => s.heap.IsTuple a xs ∧ s.heap.IsList b ys ∧ R (.ok (.ret (.ref (it4 s.heap a b).objs.size))) { s with heap := it5 s.heap a b }) :=
  .of_wp fun prog w A R s h => by
    obtain ⟨hp, g, d, tk, os⟩ := s
    obtain ⟨ha, hb, h⟩ := h
    have hsub := sub_zip
    have h1 : Heap.IsTuple (Shared.heap ⟨hp, g, d, tk, os⟩) a xs := ha
    have h2 : Heap.IsList (Shared.heap ⟨it1 hp a, g, d, tk, os⟩) b ys := Heap.IsList.push hb _
    unfold it1 at h2
    wp_walk using wpAny_pyIter_tuple h1, wpAny_pyIter_list h2
    exact ⟨_, rfl, h⟩
section
variable {prog : Program} {w : World} {A : Around} {E : Value → Shared → Prop} {s : Shared}
theorem call_new {a b : Addr} {xs ys : Array Value} {Q : Value → Shared → Prop} (ha : s.heap.IsTuple a xs) (hb : s.heap.IsList b ys)
    (h : ∀ h', At s.heap.objs.size a b 0 h' → (∀ c o, s.heap.get? c = some o → h'.get? c = some o) → Q (.ref (s.heap.objs.size + 4)) { s with heap := h' }) : wpAny (model prog w) A (call (.type "zip") [.ref a, .ref b]) Q E s := by
  refine callType_new F.called_zip (by decide) (F.typeCall_zip_2 _ _) (F.newCall_zip_2 _ _) (fun obj => F.args_object_init_3 obj _ _) F.entry_zip_new (meets_new a b xs ys) ⟨ha, hb, ?_⟩
  have z1 : (it1 s.heap a).objs.size = s.heap.objs.size + 1 := Heap.size_push ..
  have z2 : (it2 s.heap a b).objs.size = s.heap.objs.size + 2 := (Heap.size_push ..).trans (congrArg (· + 1) z1)
  have z3 : (it3 s.heap a b).objs.size = s.heap.objs.size + 3 := (Heap.size_push ..).trans (congrArg (· + 1) z2)
  have z4 : (it4 s.heap a b).objs.size = s.heap.objs.size + 4 := (Heap.size_push ..).trans (congrArg (· + 1) z3)
  have k4 : ∀ c o, (it4 s.heap a b).get? c = some o → (it5 s.heap a b).get? c = some o := fun c o e => Heap.get?_push_of_some _ e
  have k3 : ∀ c o, (it3 s.heap a b).get? c = some o → (it5 s.heap a b).get? c = some o := fun c o e => k4 c o (Heap.get?_push_of_some _ e)
  have k2 : ∀ c o, (it2 s.heap a b).get? c = some o → (it5 s.heap a b).get? c = some o := fun c o e => k3 c o (Heap.get?_push_of_some _ e)
  have k1 : ∀ c o, (it1 s.heap a).get? c = some o → (it5 s.heap a b).get? c = some o := fun c o e => k2 c o (Heap.get?_push_of_some _ e)
  have g5 : (it5 s.heap a b).get? (it4 s.heap a b).objs.size = some _ := Heap.get?_push_size _ rfl
  have g4 : (it5 s.heap a b).get? (it3 s.heap a b).objs.size = some _ := k4 _ _ (Heap.get?_push_size _ rfl)
  have g3 : (it5 s.heap a b).get? (it2 s.heap a b).objs.size = some _ := k3 _ _ (Heap.get?_push_size _ rfl)
  have g2 : (it5 s.heap a b).get? (it1 s.heap a).objs.size = some _ := k2 _ _ (Heap.get?_push_size _ rfl)
  have g1 : (it5 s.heap a b).get? s.heap.objs.size = some _ := k1 _ _ (Heap.get?_push_size _ rfl)
  rw [z2, z3, z4] at g5
  rw [z1, z2] at g3
  rw [z3] at g4
  rw [z1] at g2
  rw [z4]
  exact ⟨⟨_, g5, rfl⟩, h _ ⟨g5, g3, ⟨_, _, g4⟩, ⟨_, g1, rfl, rfl⟩, ⟨_, g2, rfl, rfl⟩⟩ fun c o e => k1 c o (Heap.get?_push_of_some _ e)⟩
end
def iZipM (K : PySem.W.Frag) (ta : TA) : TI := fun σ H R => ta σ H fun vs H1 => ∃ a b xs ys, vs = [.ref a, .ref b] ∧ SqT K H1 a xs ∧ SqL K H1 b ys ∧ R (ItM K a b) H1
theorem pi_zipM {X : Cx} {e e2 : Expr} {ta : TA} {p pos tpos : Pos} {elts : List Expr} {kk : Nat} (hg : Gl X "zip") (hm : X.mg "zip" = none) (ha : PA X [e, e2] ta)
    (hs : starEach [e, e2] X.env = (false, eval e X.env) :: starEach [e2] X.env := by rfl) (hpl : (backTo pos (starEach [e2] X.env)).any (·.1) = false := by rfl) :
    PI X (.Tuple elts kk tpos) (.Call (.Name "zip" p) [e, e2] [] pos) (iZipM X.K ta) := by
  refine ⟨fun pins s σ H R I h => ?_⟩
  refine Call_ (ld_blt I hg hm PyProof.Rows.boot_zip (PyProof.Rows.callWith_type1 (thn (ha.run pos pins s σ H _ I h) fun us s1 ⟨vs, H1, I1, r1, a, b, xs, ys, ex, qx, qy, q⟩ => ?_) hs hpl))
  subst ex
  cases r1 with
  | cons r rr =>
    cases rr with
    | cons r' rr =>
      cases rr
      cases r
      cases r'
      obtain ⟨its, rv, p1, _⟩ := I1.tuple qx
      obtain ⟨its2, rv2, p2, _⟩ := I1.list qy
      obtain ⟨o1, ho1, _⟩ := id p1
      refine call_new (show s1.heap.IsTuple a its.toArray from p1) p2.isList fun h' st hk => wpAny_pyIter_zip st.z ?_
      refine ⟨s1.heap.objs.size + 4, cells s1.heap.objs.size, _, _, H1, rfl, I1.kept (t' := s1.toks) hk, turnM (Heap.lt_size ho1) p2.lt, st, fun c hcm => ?_, q⟩
      have hle : s1.heap.objs.size ≤ c := by
        rcases mem_cells.mp hcm with e | e | e | e | e
        · exact e ▸ Nat.le_add_right _ _
        · exact e ▸ Nat.le_add_right _ _
        · exact e ▸ Nat.le_add_right _ _
        · exact e ▸ Nat.le_refl _
        · exact e ▸ Nat.le_add_right _ _
      exact I1.fpOk hle (I1.hok.fresh hle)
theorem walkM {K : PySem.W.Frag} {a b : Addr} {xs ys : List V} {n : Nat} (hn : n = min xs.length ys.length) : Walk (ItM K a b) n (fun H => SqT K H a xs ∧ SqL K H b ys) (YPair (fun i => xs[i]?) (fun i => ys[i]?)) where
  goes := fun i H hi h => ⟨xs, ys, xs[i], ys[i], h.1, h.2, List.getElem?_eq_getElem (by omega), List.getElem?_eq_getElem (by omega)⟩
  stops := fun H h => ⟨xs, ys, h.1, h.2, by omega, by omega, by omega⟩
  yields := fun i H x H' hi h y => by
    obtain ⟨T, x', y', e1, e2, e3, f1, f2⟩ := y
    exact ⟨T, x', y', e1, e2, e3, f1 xs h.1, f2 ys h.2⟩
end ZmX
/-! ### == of two tuples of three -/
namespace T3X
open PySem.W (Looks)
section
variable {prog : Program} {w : World} {A : Around} {R : Result → Shared → Prop} {E : Value → Shared → Prop}
theorem tup3 {l b : Addr} {v0 v1 v2 w0 w1 w2 : Value} {n n2 : Nat} {dd dd2 : Option Addr} {sl sl2 : Array (Option Value)} {s : Shared} (hl : s.heap.get? l = some { cls := .type "tuple", dict := dd, data := .seq #[v0, v1, v2] n, slots := sl }) (hb : s.heap.get? b = some { cls := .type "tuple", dict := dd2, data := .seq #[w0, w1, w2] n2, slots := sl2 })
    (h : wpAny (model prog w) A (eqBool v0 w0) (fun r s1 => if r = true then wpAny (model prog w) A (eqBool v1 w1) (fun r s2 => if r = true then wpAny (model prog w) A (eqBool v2 w2) (fun r s3 => R (.ok (.ret (.bool r))) s3) E s2 else R (.ok (.ret (.bool false))) s2) E s1 else R (.ok (.ret (.bool false))) s1) E s) :
    wpAny (model prog w) A (Builtin.«tuple.__eq__» ⟨[.ref l, .ref b], []⟩) (fun fin s' => ∃ v, fin = .done (.ret v) ∧ R (.ok (.ret v)) s') E s := by
  have f2 := AutoSeq1.sub_tuple_tuple
  unfold Builtin.«tuple.__eq__»
  refine wpAny_bind (m := slotArgs "__eq__" 1 _) (wpAny_pure ?_)
  refine wpAny_bind (wpAny_isInstance (T := "tuple") (b := true) ⟨_, hb, rfl⟩ f2 ?_)
  simp only [Bool.not_true, Bool.false_eq_true, if_false]
  refine wpAny_bind (wpAny_tupleItemsOf hl rfl ?_)
  refine wpAny_bind (wpAny_tupleItemsOf hb rfl ?_)
  simp only [List.zip_cons_cons, List.zip_nil_left, List.forIn_cons, List.forIn_nil]
  refine wpAny_bind (wpAny_bind (wpAny_bind (wpAny_mono h (fun r s1 h1 => ?_) fun _ _ x => x)))
  cases r with
  | false =>
    have q : R (.ok (.ret (.bool false))) s1 := by simpa using h1
    simp only [Bool.not_false, if_true]
    exact wpAny_bind (wpAny_pure (wpAny_pure (wpAny_pure (wpAny_pure ⟨_, rfl, q⟩))))
  | true =>
    rw [if_pos rfl] at h1
    simp only [Bool.not_true, Bool.false_eq_true, if_false]
    refine wpAny_pure (wpAny_bind (wpAny_bind (wpAny_mono h1 (fun r s2 h2 => ?_) fun _ _ x => x)))
    cases r with
    | false =>
      have q : R (.ok (.ret (.bool false))) s2 := by simpa using h2
      simp only [Bool.not_false, if_true]
      exact wpAny_bind (wpAny_pure (wpAny_pure (wpAny_pure (wpAny_pure ⟨_, rfl, q⟩))))
    | true =>
      rw [if_pos rfl] at h2
      simp only [Bool.not_true, Bool.false_eq_true, if_false]
      refine wpAny_pure (wpAny_bind (wpAny_bind (wpAny_mono h2 (fun r s3 h3 => ?_) fun _ _ x => x)))
      cases r with
      | false =>
        simp only [Bool.not_false, if_true]
        exact wpAny_bind (wpAny_pure (wpAny_pure (wpAny_pure (wpAny_pure ⟨_, rfl, h3⟩))))
      | true =>
        simp only [Bool.not_true, Bool.false_eq_true, if_false]
        exact wpAny_pure (wpAny_pure (wpAny_pure ⟨_, rfl, h3⟩))
end
/-! shares in them -/
section
variable {X : Cx} {n : Nat}
/-- == of two objects of one class by its own __eq__, as == within a tuple asks it -/
def Eq1 (X : Cx) (n : Nat) (C : Addr) (sp : Sp) (E : XK) : Prop := ∀ (A : Around) (pins : List (Addr × Obj)) (s : Shared) (σ : L2.St) (H : Hp) (a b da db : Addr) (fs gs : List (Str × V)) (Q : Bool → Hp → Prop), Room n A → A.units < cLine → Env0 X.prog X.w X.K X.mg X.base A X.stack s H → Inv X pins σ H s → H a = some (.ins C da fs) → H b = some (.ins C db gs) →
  (a = b → Q true H) → sp [.ref a, .ref b] H (fun v H' => ∃ k, v = .bl k ∧ Q k H') E → wpAny (model X.prog X.w) A (eqBool (.ref a) (.ref b)) (fun r s' => ∃ H', Inv X pins σ H' s' ∧ Q r H') X.xe s
theorem eq1_own {CX : CXT} {sp : Sp} {E : XK} {C f : Addr} (hs : PySem.W.findIn X.K (.ref C) (cmpInfo .Eq).2.1 = some (some (.ref f))) (hf : PySem.W.isFn X.K (.ref f) = true) (F : FnR X.prog X.w X.K X.mg X.base CX n f sp) (hx : Passes CX X E) : Eq1 X n C sp E := by
  intro A pins s σ H a b da db fs gs Q hr hu e0 I ha hb hq h
  by_cases hab : a = b
  · subst hab
    unfold eqBool
    refine wpAny_holding ?_
    rw [if_pos (beq_self_eq_true _)]
    exact wpAny_bind (wpAny_rule (wpAny_pure ⟨H, I, hq rfl⟩))
  · obtain ⟨mA, O, _⟩ := ins_get I.hok ha
    obtain ⟨od, J, _⟩ := O.look
    obtain ⟨mB, O', _⟩ := ins_get I.hok hb
    obtain ⟨od', J', _⟩ := O'.look
    refine GQ.eqBool_refG hab ?_
    refine CmX.rc_fst hu rfl J.type J'.type (fun q => by simp at q) (CmX.try_own I.kIn J hs hf ?_)
    exact wpAny_mono (wpAny_call (SlX.run_at (us := [.ref a, .ref b]) (ws := [.ref a, .ref b]) F hr e0 hx I (.cons rfl (.cons rfl .nil)) h)) (fun w s' z => by
      obtain ⟨z', H', I', rz, k, rfl, qz⟩ := z
      cases (show w = Value.bool k from rz)
      exact ⟨k, rfl, H', I', qz⟩) fun _ _ x => x
end
end T3X
/-! ### a def that returns NotImplemented at its first if -/
namespace NiX
open PySem.W (Looks InstAt findIn isFn selfFirst mroIn looks_mroIn ksp_first ksp_try fills_K instObj looks_findIn subIn looks_subIn ksp_inPy)
/-- f, called so, returns NotImplemented, the heap becoming what R says -/
def FnN (P : Program) (w : World) (K : PySem.W.Frag) (mg : Str → Option Value) (base : Heap) (k : Nat) (f : Addr) (sp : List V → Hp → (Hp → Prop) → Prop) : Prop :=
  ∀ (A : Around) (outer : List Env) (s : Shared) (H : Hp) (us : List Value) (vs : List V) (R : Hp → Prop), Room k A → Env0 P w K mg base A outer s H → Vals vs us → sp vs H R →
    codeAny (model P w) A (.call (.ref f) ⟨us, []⟩) (fun r s' => r = .ok (.ret .notImplemented) ∧ CE outer P w H s (fun _ H' => R H') .none s') s
section
variable {P : Program} {w : World} {K : PySem.W.Frag} {mg : Str → Option Value} {base : Heap} {x qual : Str} {params : Arguments} {body : List Stmt} {scope : Scope} {f : Addr} {fd : FuncData} {ps N : List Str} {k : Nat} {sp : List V → Hp → (Hp → Prop) → Prop}
  {tst : Expr} {p1 p2 p3 : Pos} {rest els : List Stmt}
theorem fnN (F : FunD K x qual params body scope [] [] f fd) (S : FnScope N ps scope) (hloc : ∀ y ∈ ps, scope.names.lookup y = some .local)
    (hb : ∀ (kV doc pm : Value) (an : Option Addr) (cdv ct : Value) (us : List Value), us.length = ps.length → bindArgs (PySem.W.fnOf x qual params body scope Value.none kV doc pm an cdv ct) { pos := us } = pure (ps.zip us))
    (hbody : body = .If tst [.Return (some (.Name "NotImplemented" p1)) p2] els p3 :: rest) (hg : ∀ (L a : Addr) (cdv : Value), (PyProof.Rows.envOfC qual scope L a cdv).kindOf ("NotImplemented" : Str) = some .globalImplicit) (hm : mg ("NotImplemented" : Str) = none)
    (len : ∀ vs H R, sp vs H R → vs.length = ps.length)
    (ht : ∀ (cdv : Value) (A : Around) (outer : List Env) (s : Shared) (H : Hp) (vs : List V) (R : Hp → Prop), Room k (A.deeper (PyProof.Rows.envOfC qual scope s.heap.objs.size f cdv)) → sp vs H R →
      ∃ t, PT (cxOf CX0 P w K mg base N qual scope f cdv A outer s H E0) tst t ∧ t (L2.start N vs) H (fun b H' => b = true ∧ R H')) : FnN P w K mg base (k + 1) f sp := by
  intro A outer s H us vs R hr e0 r hsp
  obtain ⟨oc, od, dV, kV, doc, pm, an, cdv, ct, osl, hfd, lk, code, dfl, kwd⟩ := F.ex
  have hd : dV = .none := by
    rcases dfl with ⟨_, e⟩ | ⟨h, _⟩
    · exact e
    · exact (h rfl).elim
  subst hd hfd
  have KX : K.In s.heap := e0.mod.kin.keeps fun b o e => (e0.bs b o e).1
  have lim : s.heap.NoLimit := e0.mod.nolimit.keeps fun b o e => (e0.bs b o e).1
  have hl : us.length = ps.length := by
    rw [← r.length]
    exact len vs H R hsp
  refine PySem.codeAny_call_cells (fd := PySem.W.fnOf x qual params body scope Value.none kV doc pm an cdv ct) (body := body) (binds := ps.zip us) hr.depth (KX _ _ lk) rfl lim (PySem.W.codeRec_of KX code) rfl (hb _ _ _ _ _ _ us hl) rfl (fun ⟨n, _⟩ hy => .inl (hloc n (List.of_mem_zip hy).1)) (fun s1 hin => ?_) S.co S.gen S.kind
  have I : L2.Inv (cxOf CX0 P w K mg base N qual scope f cdv A outer s H E0) [] (L2.start N vs) H s1 := inv_start S hr.hd e0 (len vs H R hsp) r hin
  have r' : Room k (A.deeper (PyProof.Rows.envOfC qual scope s.heap.objs.size f cdv)) := hr.deeper _
  obtain ⟨t, pt, h⟩ := ht cdv A outer s H vs R r' hsp
  subst hbody
  refine wpAny_execs_cons ?_
  rw [exec_If]
  refine wpAny_bind (wpAny_standAt ?_)
  refine wpAny_bind (wpAny_mono (pt.run [] s1 _ H _ I h) (fun b s2 z => ?_) (fun e s2 z => ?_))
  · obtain ⟨H2, I2, rfl, hR⟩ := z
    rw [if_pos rfl]
    refine wpAny_execs_cons ?_
    rw [exec_Return_some]
    exact wpAny_bind (wpAny_standAt (wpAny_bind (ld_blt I2 (hg _ _ _) hm (by decide +kernel) (wpAny_pure ⟨rfl, .non, H2, I2.os, I2.bare, I2.base, I2.hok, rfl, hR⟩))))
  · exact wpAny_mono z (fun _ _ h => h.elim) (fun _ _ h => h.elim)
end
section
variable {prog : Program} {w : World} {A : Around} {E : Value → Shared → Prop} {s : Shared} {K : PySem.W.Frag} {x y C D f g fr gr : Addr} {ox oy : Obj} {od od2 : Option Obj} {nm : String}
/-- an own method that returns NotImplemented -/
theorem try_no {M : Model} {name : Str} {b : Value} {Q : Shared → Prop} (X : K.In s.heap) (I : InstAt s.heap x ox C od) (hs : findIn K (.ref C) name = some (some (.ref f))) (hf : isFn K (.ref f) = true)
    (h : wpAny M A (call (.ref f) [.ref x, b]) (fun v s' => v = .notImplemented ∧ Q s') E s) : wpAny M A (tryMethod (.ref x) name b) (fun r s' => r = none ∧ Q s') E s := by
  unfold tryMethod
  refine wpAny_bind (PySem.W.special_fn X I hs (beq_iff_eq.mp hf) (wpAny_mono h (fun v s' z => ?_) fun _ _ e => e))
  obtain ⟨rfl, q⟩ := z
  exact wpAny_pure ⟨rfl, q⟩
/-- operands of two classes: the left one's method answers -/
theorem bin1_left {Q : Value → Shared → Prop} (X : K.In s.heap) (I : InstAt s.heap x ox C od) (J : InstAt s.heap y oy D od2) (hCD : C ≠ D) (hc : selfFirst K C = true) (hd : selfFirst K D = true) (hs : findIn K (.ref C) (PySem.dunder nm) = some (some (.ref f))) (hf : isFn K (.ref f) = true)
    (hr : findIn K (.ref C) (dunderR nm) = some (some (.ref fr))) (ht : findIn K (.ref D) (PySem.dunder nm) = some (some (.ref g))) (htr : findIn K (.ref D) (dunderR nm) = some (some (.ref gr))) (hsub : subIn K (.ref D) (.ref C) = some false)
    (h : wpAny (model prog w) A (call (.ref f) [.ref x, .ref y]) (PySem.W.CmpBack Q) E s) : wpAny (model prog w) A (binaryOp1 nm (.ref x) (.ref y)) (fun r s' => ∃ v, r = some v ∧ Q v s') E s := by
  obtain ⟨cd, rest, hcd, hm⟩ := ksp_first hc
  obtain ⟨cd2, rest2, hcd2, hm2⟩ := ksp_first hd
  have one := ksp_try X I hs hf h
  obtain ⟨hh, g', d, tt, os⟩ := s
  have l1 : Looks (model prog w) hh (typeOf (.ref x)) (.ref C) := I.type
  have l2 : Looks (model prog w) hh (typeOf (.ref y)) (.ref D) := J.type
  have l3 : Looks (model prog w) hh (fillsNumberSlot (.ref C) nm) true := fills_K X hcd hm hs
  have l3' : Looks (model prog w) hh (fillsNumberSlot (.ref D) nm) true := fills_K X hcd2 hm2 ht
  have l4 : Looks (model prog w) hh (isSubtype (.ref D) (.ref C)) false := looks_subIn X hsub
  have l5 : Looks (model prog w) hh (numberSlotInPython (.ref C) nm) true := ksp_inPy X hs hr (.inr ⟨fr, rfl⟩)
  have l6 : Looks (model prog w) hh (numberSlotInPython (.ref D) nm) true := ksp_inPy X ht htr (.inr ⟨gr, rfl⟩)
  have hne : (Value.ref C == Value.ref D) = false := Bool.eq_false_iff.mpr fun q => hCD (by cases beq_iff_eq.mp q; rfl)
  unfold binaryOp1
  refine wpAny_bind (l1.at (wpAny_bind (l2.at (wpAny_bind (l3.at ?_)))))
  simp only [hne, Bool.false_eq_true, if_false]
  refine wpAny_bind (l3'.at ?_)
  simp only [Bool.and_self, if_true]
  refine wpAny_bind (l4.at ?_)
  simp only [Bool.false_eq_true, if_false, pure_bind, Bool.not_false, Bool.and_self, if_true]
  refine wpAny_bind (l5.at ?_)
  simp only [if_true]
  refine wpAny_bind (l6.at ?_)
  simp only [Bool.not_true, Bool.false_eq_true, if_false]
  refine wpAny_bind (wpAny_mono one (fun r s' hr' => ?_) fun _ _ e => e)
  obtain ⟨v, rfl, hq⟩ := hr'
  exact wpAny_pure ⟨v, rfl, hq⟩
/-- .. it declines, and the right one's method answers -/
theorem bin1_swap {Q : Value → Shared → Prop} (X : K.In s.heap) (I : InstAt s.heap x ox C od) (J : InstAt s.heap y oy D od2) (hCD : C ≠ D) (hc : selfFirst K C = true) (hd : selfFirst K D = true) (hs : findIn K (.ref C) (PySem.dunder nm) = some (some (.ref f))) (hf : isFn K (.ref f) = true)
    (hr : findIn K (.ref C) (dunderR nm) = some (some (.ref fr))) (ht : findIn K (.ref D) (PySem.dunder nm) = some (some (.ref g))) (htr : findIn K (.ref D) (dunderR nm) = some (some (.ref gr))) (hgr : isFn K (.ref gr) = true) (hsub : subIn K (.ref D) (.ref C) = some false)
    (h : wpAny (model prog w) A (call (.ref f) [.ref x, .ref y]) (fun v s' => v = .notImplemented ∧ K.In s'.heap ∧ (∃ ox od, InstAt s'.heap x ox C od) ∧ (∃ oy od, InstAt s'.heap y oy D od) ∧ wpAny (model prog w) A (call (.ref gr) [.ref y, .ref x]) (PySem.W.CmpBack Q) E s') E s) :
    wpAny (model prog w) A (binaryOp1 nm (.ref x) (.ref y)) (fun r s' => ∃ v, r = some v ∧ Q v s') E s := by
  obtain ⟨cd, rest, hcd, hm⟩ := ksp_first hc
  obtain ⟨cd2, rest2, hcd2, hm2⟩ := ksp_first hd
  have one := try_no X I hs hf h
  obtain ⟨hh, g', d, tt, os⟩ := s
  have l1 : Looks (model prog w) hh (typeOf (.ref x)) (.ref C) := I.type
  have l2 : Looks (model prog w) hh (typeOf (.ref y)) (.ref D) := J.type
  have l3 : Looks (model prog w) hh (fillsNumberSlot (.ref C) nm) true := fills_K X hcd hm hs
  have l3' : Looks (model prog w) hh (fillsNumberSlot (.ref D) nm) true := fills_K X hcd2 hm2 ht
  have l4 : Looks (model prog w) hh (isSubtype (.ref D) (.ref C)) false := looks_subIn X hsub
  have l5 : Looks (model prog w) hh (numberSlotInPython (.ref C) nm) true := ksp_inPy X hs hr (.inr ⟨fr, rfl⟩)
  have l6 : Looks (model prog w) hh (numberSlotInPython (.ref D) nm) true := ksp_inPy X ht htr (.inr ⟨gr, rfl⟩)
  have hne : (Value.ref C == Value.ref D) = false := Bool.eq_false_iff.mpr fun q => hCD (by cases beq_iff_eq.mp q; rfl)
  unfold binaryOp1
  refine wpAny_bind (l1.at (wpAny_bind (l2.at (wpAny_bind (l3.at ?_)))))
  simp only [hne, Bool.false_eq_true, if_false]
  refine wpAny_bind (l3'.at ?_)
  simp only [Bool.and_self, if_true]
  refine wpAny_bind (l4.at ?_)
  simp only [Bool.false_eq_true, if_false, pure_bind, Bool.not_false, Bool.and_self, if_true]
  refine wpAny_bind (l5.at ?_)
  simp only [if_true]
  refine wpAny_bind (l6.at ?_)
  simp only [Bool.not_true, Bool.false_eq_true, if_false]
  refine wpAny_bind (wpAny_mono one (fun r s' hr' => ?_) fun _ _ e => e)
  obtain ⟨rfl, X', ⟨ox', od', I'⟩, ⟨oy', od2', J'⟩, h'⟩ := hr'
  have two := ksp_try X' J' htr hgr h'
  obtain ⟨hh', g'', d', tt', os'⟩ := s'
  have m1 : Looks (model prog w) hh' (typeOf (.ref x)) (.ref C) := I'.type
  have m2 : Looks (model prog w) hh' (typeOf (.ref y)) (.ref D) := J'.type
  simp only []
  refine wpAny_bind (m1.at (wpAny_bind (m2.at ?_)))
  simp only [hne, Bool.false_eq_true, if_false]
  refine wpAny_bind (wpAny_mono two (fun r s' hr' => ?_) fun _ _ e => e)
  obtain ⟨v, rfl, hq⟩ := hr'
  exact wpAny_bind (wpAny_rule (wpAny_pure ⟨v, rfl, hq⟩))
end
end NiX
/-! ### operators between two own classes -/
section
variable {X : Cx} {CX : CXT} {n m : Nat} {sp : Sp} {spn : List V → Hp → (Hp → Prop) → Prop} {E : XK} {C D f fr g gr : Addr}
theorem run_fnN {pins : List (Addr × Obj)} {σ : L2.St} {H : Hp} {s : Shared} {us : List Value} {vs : List V} {R : Hp → Prop} (N : NiX.FnN X.prog X.w X.K X.mg X.base n f spn) (hr : Room n X.A) (I : Inv X pins σ H s) (r : Vals vs us) (h : spn vs H R) :
    codeAny (model X.prog X.w) X.A (.call (.ref f) ⟨us, []⟩) (fun r s' => match r with | .ok (.ret v) => v = .notImplemented ∧ ∃ H', Inv X pins σ H' s' ∧ R H' | .ok _ => False | .error e => X.xe e s') s := by
  refine codeAny_mono (N X.A X.stack s H us vs R hr I.env0 r h) (fun r s' z => ?_)
  obtain ⟨rfl, z⟩ := z
  obtain ⟨v, H', I', _, q⟩ := I.after z
  exact ⟨rfl, H', I', q⟩
/-- x op y by x's own def, y of another class -/
def rMixL (C D : Addr) (sp : Sp) (E : XK) : R2 := fun x y H Q => ∃ (a dx b dy : Addr) (fs gs : List (Str × V)), x = .ref a ∧ H a = some (.ins C dx fs) ∧ y = .ref b ∧ H b = some (.ins D dy gs) ∧ sp [x, y] H Q E
/-- x op y by y's own reflected def, x's own one declining -/
def rMixR (C D : Addr) (spn : List V → Hp → (Hp → Prop) → Prop) (sp : Sp) (E : XK) : R2 := fun x y H Q => ∃ (a b : Addr), x = .ref a ∧ y = .ref b ∧ (∃ (dx : Addr) (fs : List (Str × V)), H a = some (.ins C dx fs)) ∧ (∃ (dy : Addr) (gs : List (Str × V)), H b = some (.ins D dy gs)) ∧
  spn [x, y] H (fun H1 => (∃ (dx : Addr) (fs : List (Str × V)), H1 a = some (.ins C dx fs)) ∧ (∃ (dy : Addr) (gs : List (Str × V)), H1 b = some (.ins D dy gs)) ∧ sp [y, x] H1 Q E)
theorem bin1_mixL {nm : String} {pins : List (Addr × Obj)} {s : Shared} {σ : L2.St} {H : Hp} {x y : V} {v u : Value} {Q : VK} (o : OpAt X.K C nm f fr) (o2 : OpAt X.K D nm g gr) (hCD : C ≠ D) (hsub : PySem.W.subIn X.K (.ref D) (.ref C) = some false) (F : FnR X.prog X.w X.K X.mg X.base CX n f sp) (hr : Room n X.A) (hx : Passes CX X E)
    (I : Inv X pins σ H s) (rx : RelV x v) (ry : RelV y u) (h : rMixL C D sp E x y H Q) :
    (∃ (a : Addr) (od : Option Obj) (dx : Addr), v = .ref a ∧ PySem.W.InstAt s.heap a (PySem.W.instObj C dx) C od) ∧ wpAny (model X.prog X.w) X.A (binaryOp1 nm v u) (fun r s' => ∃ z, r = some z ∧ EP X pins σ Q z s') X.xe s := by
  obtain ⟨a, dx, b, dy, fs, gs, rfl, ha, rfl, hb, q⟩ := h
  cases (show v = Value.ref a from rx)
  cases (show u = Value.ref b from ry)
  obtain ⟨mA, O, _⟩ := ins_get I.hok ha
  obtain ⟨od, J, _⟩ := O.look
  obtain ⟨mB, O', _⟩ := ins_get I.hok hb
  obtain ⟨od', J', _⟩ := O'.look
  refine ⟨⟨a, _, _, rfl, J⟩, ?_⟩
  exact NiX.bin1_left I.kIn J J' hCD o.first o2.first o.at_ o.fn o.atR o2.at_ o2.atR hsub (wpAny_mono (wpAny_call (run_fnR (us := [.ref a, .ref b]) (vs := [.ref a, .ref b]) F hr hx I (.cons rfl (.cons rfl .nil)) q)) (fun w s' z => by
      obtain ⟨z', H', I', rz, qz⟩ := z
      exact SlX.cmpback rz ⟨z', H', I', rz, qz⟩) fun _ _ x => x)
theorem op_mixL {op : Operator} (o : OpAt X.K C op.info.2 f fr) (o2 : OpAt X.K D op.info.2 g gr) (hCD : C ≠ D) (hsub : PySem.W.subIn X.K (.ref D) (.ref C) = some false) (F : FnR X.prog X.w X.K X.mg X.base CX n f sp) (hr : Room n X.A) (hx : Passes CX X E) : OpR X (binaryOp op) (rMixL C D sp E) :=
  fun pins s σ H x y v u Q I rx ry h => OpX.bin_of (bin1_mixL o o2 hCD hsub F hr hx I rx ry h).2
theorem ip_mixL {op : Operator} (o : OpAt X.K C op.info.2 f fr) (o2 : OpAt X.K D op.info.2 g gr) (hCD : C ≠ D) (hsub : PySem.W.subIn X.K (.ref D) (.ref C) = some false) (F : FnR X.prog X.w X.K X.mg X.base CX n f sp) (hr : Room n X.A) (hx : Passes CX X E) : PIp X op (rMixL C D sp E) := by
  intro pins s σ H x y v u Q I rx ry h
  obtain ⟨⟨a, od, dx, rfl, J⟩, z⟩ := bin1_mixL o o2 hCD hsub F hr hx I rx ry h
  have h1 := Bool.and_eq_true_iff.mp o.names
  exact OpX.inp_of I.kIn J o.mro (He.eqO_ok h1.1) (He.eqO_ok (Bool.and_eq_true_iff.mp h1.2).1) z
theorem bin1_mixR {nm : String} {pins : List (Addr × Obj)} {s : Shared} {σ : L2.St} {H : Hp} {x y : V} {v u : Value} {Q : VK} (o : OpAt X.K C nm f fr) (o2 : OpAt X.K D nm g gr) (hCD : C ≠ D) (hsub : PySem.W.subIn X.K (.ref D) (.ref C) = some false) (N : NiX.FnN X.prog X.w X.K X.mg X.base m f spn) (F : FnR X.prog X.w X.K X.mg X.base CX n gr sp) (hrN : Room m X.A) (hr : Room n X.A) (hx : Passes CX X E)
    (I : Inv X pins σ H s) (rx : RelV x v) (ry : RelV y u) (h : rMixR C D spn sp E x y H Q) :
    (∃ (a : Addr) (od : Option Obj) (dx : Addr), v = .ref a ∧ PySem.W.InstAt s.heap a (PySem.W.instObj C dx) C od) ∧ wpAny (model X.prog X.w) X.A (binaryOp1 nm v u) (fun r s' => ∃ z, r = some z ∧ EP X pins σ Q z s') X.xe s := by
  obtain ⟨a, b, rfl, rfl, ⟨dx, fs, ha⟩, ⟨dy, gs, hb⟩, q⟩ := h
  cases (show v = Value.ref a from rx)
  cases (show u = Value.ref b from ry)
  obtain ⟨mA, O, _⟩ := ins_get I.hok ha
  obtain ⟨od, J, _⟩ := O.look
  obtain ⟨mB, O', _⟩ := ins_get I.hok hb
  obtain ⟨od', J', _⟩ := O'.look
  refine ⟨⟨a, _, _, rfl, J⟩, ?_⟩
  refine NiX.bin1_swap I.kIn J J' hCD o.first o2.first o.at_ o.fn o.atR o2.at_ o2.atR o2.fnR hsub (wpAny_mono (wpAny_call (run_fnN (us := [.ref a, .ref b]) (vs := [.ref a, .ref b]) N hrN I (.cons rfl (.cons rfl .nil)) q)) (fun w s' z => ?_) fun _ _ x => x)
  obtain ⟨rfl, H1, I1, ⟨dx1, fs1, ha1⟩, ⟨dy1, gs1, hb1⟩, q1⟩ := z
  obtain ⟨mA1, O1, _⟩ := ins_get I1.hok ha1
  obtain ⟨od1, J1, _⟩ := O1.look
  obtain ⟨mB1, O1', _⟩ := ins_get I1.hok hb1
  obtain ⟨od1', J1', _⟩ := O1'.look
  exact ⟨rfl, I1.kIn, ⟨_, _, J1⟩, ⟨_, _, J1'⟩, wpAny_mono (wpAny_call (run_fnR (us := [.ref b, .ref a]) (vs := [.ref b, .ref a]) F hr hx I1 (.cons rfl (.cons rfl .nil)) q1)) (fun w s' z => by
      obtain ⟨z', H', I', rz, qz⟩ := z
      exact SlX.cmpback rz ⟨z', H', I', rz, qz⟩) fun _ _ x => x⟩
theorem op_mixR {op : Operator} (o : OpAt X.K C op.info.2 f fr) (o2 : OpAt X.K D op.info.2 g gr) (hCD : C ≠ D) (hsub : PySem.W.subIn X.K (.ref D) (.ref C) = some false) (N : NiX.FnN X.prog X.w X.K X.mg X.base m f spn) (F : FnR X.prog X.w X.K X.mg X.base CX n gr sp) (hrN : Room m X.A) (hr : Room n X.A) (hx : Passes CX X E) : OpR X (binaryOp op) (rMixR C D spn sp E) :=
  fun pins s σ H x y v u Q I rx ry h => OpX.bin_of (bin1_mixR o o2 hCD hsub N F hrN hr hx I rx ry h).2
end
/-! ### the text by places -/
def top (i : Nat) : Stmt := PySem.Challenge.pw_lessways_k10_leaves_depth_walk.main.body.getD i (.Pass ⟨0, 0, 0, 0⟩)
abbrev s_divisor : Stmt := top 11
abbrev s_is_integer : Stmt := top 7
abbrev s_is_number : Stmt := top 8
abbrev s_share_of : Stmt := top 9
abbrev s_fraction : Stmt := top 10
abbrev s_excess : Stmt := top 12
abbrev s_term_of : Stmt := top 20
abbrev s_source : Stmt := top 29
abbrev s_draw : Stmt := top 30
abbrev s_same : Stmt := top 50
abbrev s_scale : Stmt := top 16
abbrev s_side : Stmt := top 26
abbrev s_walk : Stmt := top 27
abbrev s_leaves : Stmt := top 23
abbrev s_leaves_behind : Stmt := top 24
abbrev s_depth : Stmt := top 25
abbrev s_pick : Stmt := top 31
abbrev s_less : Stmt := top 32
abbrev s_middle : Stmt := top 33
abbrev s_worths : Stmt := top 34
abbrev s_root : Stmt := top 35
abbrev s_fixed : Stmt := top 36
abbrev s_line : Stmt := top 37
abbrev s_meet : Stmt := top 38
abbrev s_plane : Stmt := top 39
abbrev s_det : Stmt := top 40
abbrev s_triple : Stmt := top 41
abbrev s_room : Stmt := top 42
abbrev s_faces : Stmt := top 43
abbrev s_number : Stmt := top 44
abbrev s_holds : Stmt := top 45
abbrev s_ints : Stmt := top 46
abbrev s_row : Stmt := top 47
abbrev s_said : Stmt := top 48
abbrev s_terms : Stmt := top 49
abbrev s_passed : Stmt := top 51
abbrev s_grown : Stmt := top 52
abbrev s_of_terms : Stmt := top 53
abbrev s_listed : Stmt := top 54
abbrev s_rows_of : Stmt := top 55
abbrev s_led : Stmt := top 56
abbrev s_chain_right : Stmt := top 57
abbrev s_law : Stmt := top 58
abbrev s_Share_init : Stmt := inClass (top 14) 0
abbrev s_Share_eq : Stmt := inClass (top 14) 10
abbrev s_Share_add : Stmt := inClass (top 14) 2
abbrev s_Share_radd : Stmt := inClass (top 14) 3
abbrev s_Share_sub : Stmt := inClass (top 14) 4
abbrev s_Share_rsub : Stmt := inClass (top 14) 5
abbrev s_Share_mul : Stmt := inClass (top 14) 6
abbrev s_Share_rmul : Stmt := inClass (top 14) 7
abbrev s_Share_neg : Stmt := inClass (top 14) 8
abbrev s_Share_lt : Stmt := inClass (top 14) 11
abbrev s_Share_le : Stmt := inClass (top 14) 12
abbrev s_Share_gt : Stmt := inClass (top 14) 13
abbrev s_Share_ge : Stmt := inClass (top 14) 14
abbrev s_Term_init : Stmt := inClass (top 21) 0
abbrev s_Term_eq : Stmt := inClass (top 21) 12
abbrev s_Term_add : Stmt := inClass (top 21) 5
abbrev s_Term_radd : Stmt := inClass (top 21) 6
abbrev s_Term_sub : Stmt := inClass (top 21) 7
abbrev s_Term_rsub : Stmt := inClass (top 21) 8
abbrev s_Term_mul : Stmt := inClass (top 21) 9
abbrev s_Term_rmul : Stmt := inClass (top 21) 10
abbrev s_Term_neg : Stmt := inClass (top 21) 11
abbrev s_Term_lt : Stmt := inClass (top 21) 13
abbrev s_Term_le : Stmt := inClass (top 21) 14
abbrev s_Term_gt : Stmt := inClass (top 21) 15
abbrev s_Term_ge : Stmt := inClass (top 21) 16
abbrev s_Term_at : Stmt := inClass (top 21) 4
abbrev s_Row_init : Stmt := inClass (top 17) 0
abbrev s_Row_holds : Stmt := inClass (top 17) 1
abbrev s_Row_eq : Stmt := inClass (top 17) 3
abbrev s_NoUnknown_init : Stmt := inClass (top 4) 0
def sups : List (Str × Str × Str × Stmt) := [("NoUnknown", "__init__", "NoUnknown.__init__", s_NoUnknown_init)]
abbrev s_Term_constant : Stmt := inClass (top 21) 2
abbrev s_Term_unknown : Stmt := inClass (top 21) 1
def d_Term_constant : He5.DefA := ⟨fun K => He5.wf K (He.ga K "Term") "staticmethod" "constant", "constant", "Term.constant", defArgs s_Term_constant, defBody s_Term_constant, defScope s_Term_constant, [], []⟩
def d_Term_unknown : He5.DefA := ⟨fun K => He5.wf K (He.ga K "Term") "staticmethod" "unknown", "unknown", "Term.unknown", defArgs s_Term_unknown, defBody s_Term_unknown, defScope s_Term_unknown, [], []⟩
def stats : List He5.DefA := [d_Term_constant, d_Term_unknown]
/-! ### the facts by names -/
def d_divisor : He.DefD := ⟨("divisor", none), "divisor", "divisor", defArgs s_divisor, defBody s_divisor, defScope s_divisor, [], []⟩
def d_is_integer : He.DefD := ⟨("is_integer", none), "is_integer", "is_integer", defArgs s_is_integer, defBody s_is_integer, defScope s_is_integer, [], []⟩
def d_is_number : He.DefD := ⟨("is_number", none), "is_number", "is_number", defArgs s_is_number, defBody s_is_number, defScope s_is_number, [], []⟩
def d_share_of : He.DefD := ⟨("share_of", none), "share_of", "share_of", defArgs s_share_of, defBody s_share_of, defScope s_share_of, [], []⟩
def d_fraction : He.DefD := ⟨("fraction", none), "fraction", "fraction", defArgs s_fraction, defBody s_fraction, defScope s_fraction, [], []⟩
def d_excess : He.DefD := ⟨("excess", none), "excess", "excess", defArgs s_excess, defBody s_excess, defScope s_excess, [], []⟩
def d_term_of : He.DefD := ⟨("term_of", none), "term_of", "term_of", defArgs s_term_of, defBody s_term_of, defScope s_term_of, [], []⟩
def d_source : He.DefD := ⟨("_law_source", none), "_law_source", "_law_source", defArgs s_source, defBody s_source, defScope s_source, [], []⟩
def d_draw : He.DefD := ⟨("_law_draw", none), "_law_draw", "_law_draw", defArgs s_draw, defBody s_draw, defScope s_draw, [], []⟩
def d_same : He.DefD := ⟨("_law_same", none), "_law_same", "_law_same", defArgs s_same, defBody s_same, defScope s_same, [], []⟩
def d_scale : He.DefD := ⟨("scale", none), "scale", "scale", defArgs s_scale, defBody s_scale, defScope s_scale, [], []⟩
def d_side : He.DefD := ⟨("side", none), "side", "side", defArgs s_side, defBody s_side, defScope s_side, [], []⟩
def d_walk : He.DefD := ⟨("walk", none), "walk", "walk", defArgs s_walk, defBody s_walk, defScope s_walk, [], []⟩
def d_leaves : He.DefD := ⟨("leaves", none), "leaves", "leaves", defArgs s_leaves, defBody s_leaves, defScope s_leaves, [], []⟩
def d_leaves_behind : He.DefD := ⟨("leaves_behind", none), "leaves_behind", "leaves_behind", defArgs s_leaves_behind, defBody s_leaves_behind, defScope s_leaves_behind, [], []⟩
def d_depth : He.DefD := ⟨("depth", none), "depth", "depth", defArgs s_depth, defBody s_depth, defScope s_depth, [], []⟩
def d_pick : He.DefD := ⟨("_law_pick", none), "_law_pick", "_law_pick", defArgs s_pick, defBody s_pick, defScope s_pick, [], []⟩
def d_less : He.DefD := ⟨("_law_less", none), "_law_less", "_law_less", defArgs s_less, defBody s_less, defScope s_less, [], []⟩
def d_middle : He.DefD := ⟨("_law_middle", none), "_law_middle", "_law_middle", defArgs s_middle, defBody s_middle, defScope s_middle, [], []⟩
def d_worths : He.DefD := ⟨("_law_worths", none), "_law_worths", "_law_worths", defArgs s_worths, defBody s_worths, defScope s_worths, [], []⟩
def d_root : He.DefD := ⟨("_law_root", none), "_law_root", "_law_root", defArgs s_root, defBody s_root, defScope s_root, [], []⟩
def d_fixed : He.DefD := ⟨("_law_fixed", none), "_law_fixed", "_law_fixed", defArgs s_fixed, defBody s_fixed, defScope s_fixed, [], []⟩
def d_line : He.DefD := ⟨("_law_line", none), "_law_line", "_law_line", defArgs s_line, defBody s_line, defScope s_line, [], []⟩
def d_meet : He.DefD := ⟨("_law_meet", none), "_law_meet", "_law_meet", defArgs s_meet, defBody s_meet, defScope s_meet, [], []⟩
def d_plane : He.DefD := ⟨("_law_plane", none), "_law_plane", "_law_plane", defArgs s_plane, defBody s_plane, defScope s_plane, [], []⟩
def d_det : He.DefD := ⟨("_law_det", none), "_law_det", "_law_det", defArgs s_det, defBody s_det, defScope s_det, [], []⟩
def d_triple : He.DefD := ⟨("_law_triple", none), "_law_triple", "_law_triple", defArgs s_triple, defBody s_triple, defScope s_triple, [], []⟩
def d_room : He.DefD := ⟨("_law_room", none), "_law_room", "_law_room", defArgs s_room, defBody s_room, defScope s_room, [], []⟩
def d_faces : He.DefD := ⟨("_law_faces", none), "_law_faces", "_law_faces", defArgs s_faces, defBody s_faces, defScope s_faces, [], []⟩
def d_number : He.DefD := ⟨("_law_number", none), "_law_number", "_law_number", defArgs s_number, defBody s_number, defScope s_number, [], []⟩
def d_holds : He.DefD := ⟨("_law_holds", none), "_law_holds", "_law_holds", defArgs s_holds, defBody s_holds, defScope s_holds, [], []⟩
def d_ints : He.DefD := ⟨("_law_ints", none), "_law_ints", "_law_ints", defArgs s_ints, defBody s_ints, defScope s_ints, [], []⟩
def d_row : He.DefD := ⟨("_law_row", none), "_law_row", "_law_row", defArgs s_row, defBody s_row, defScope s_row, [], []⟩
def d_said : He.DefD := ⟨("_law_said", none), "_law_said", "_law_said", defArgs s_said, defBody s_said, defScope s_said, [], []⟩
def d_terms : He.DefD := ⟨("_law_terms", none), "_law_terms", "_law_terms", defArgs s_terms, defBody s_terms, defScope s_terms, [], []⟩
def d_passed : He.DefD := ⟨("_law_passed", none), "_law_passed", "_law_passed", defArgs s_passed, defBody s_passed, defScope s_passed, [], []⟩
def d_grown : He.DefD := ⟨("_law_grown", none), "_law_grown", "_law_grown", defArgs s_grown, defBody s_grown, defScope s_grown, [], []⟩
def d_of_terms : He.DefD := ⟨("_law_of_terms", none), "_law_of_terms", "_law_of_terms", defArgs s_of_terms, defBody s_of_terms, defScope s_of_terms, [], []⟩
def d_listed : He.DefD := ⟨("_law_listed", none), "_law_listed", "_law_listed", defArgs s_listed, defBody s_listed, defScope s_listed, [], []⟩
def d_rows_of : He.DefD := ⟨("_law_rows_of", none), "_law_rows_of", "_law_rows_of", defArgs s_rows_of, defBody s_rows_of, defScope s_rows_of, [], []⟩
def d_led : He.DefD := ⟨("_law_led", none), "_law_led", "_law_led", defArgs s_led, defBody s_led, defScope s_led, [], []⟩
def d_chain_right : He.DefD := ⟨("_law_chain_right", none), "_law_chain_right", "_law_chain_right", defArgs s_chain_right, defBody s_chain_right, defScope s_chain_right, [], []⟩
def d_law : He.DefD := ⟨("law", none), "law", "law", defArgs s_law, defBody s_law, defScope s_law, [], []⟩
def d_Share_init : He.DefD := ⟨("Share", some "__init__"), "__init__", "Share.__init__", defArgs s_Share_init, defBody s_Share_init, defScope s_Share_init, [.int 1], []⟩
def d_Share_eq : He.DefD := ⟨("Share", some "__eq__"), "__eq__", "Share.__eq__", defArgs s_Share_eq, defBody s_Share_eq, defScope s_Share_eq, [], []⟩
def d_Share_add : He.DefD := ⟨("Share", some "__add__"), "__add__", "Share.__add__", defArgs s_Share_add, defBody s_Share_add, defScope s_Share_add, [], []⟩
def d_Share_radd : He.DefD := ⟨("Share", some "__radd__"), "__radd__", "Share.__radd__", defArgs s_Share_radd, defBody s_Share_radd, defScope s_Share_radd, [], []⟩
def d_Share_sub : He.DefD := ⟨("Share", some "__sub__"), "__sub__", "Share.__sub__", defArgs s_Share_sub, defBody s_Share_sub, defScope s_Share_sub, [], []⟩
def d_Share_rsub : He.DefD := ⟨("Share", some "__rsub__"), "__rsub__", "Share.__rsub__", defArgs s_Share_rsub, defBody s_Share_rsub, defScope s_Share_rsub, [], []⟩
def d_Share_mul : He.DefD := ⟨("Share", some "__mul__"), "__mul__", "Share.__mul__", defArgs s_Share_mul, defBody s_Share_mul, defScope s_Share_mul, [], []⟩
def d_Share_rmul : He.DefD := ⟨("Share", some "__rmul__"), "__rmul__", "Share.__rmul__", defArgs s_Share_rmul, defBody s_Share_rmul, defScope s_Share_rmul, [], []⟩
def d_Share_neg : He.DefD := ⟨("Share", some "__neg__"), "__neg__", "Share.__neg__", defArgs s_Share_neg, defBody s_Share_neg, defScope s_Share_neg, [], []⟩
def d_Share_lt : He.DefD := ⟨("Share", some "__lt__"), "__lt__", "Share.__lt__", defArgs s_Share_lt, defBody s_Share_lt, defScope s_Share_lt, [], []⟩
def d_Share_le : He.DefD := ⟨("Share", some "__le__"), "__le__", "Share.__le__", defArgs s_Share_le, defBody s_Share_le, defScope s_Share_le, [], []⟩
def d_Share_gt : He.DefD := ⟨("Share", some "__gt__"), "__gt__", "Share.__gt__", defArgs s_Share_gt, defBody s_Share_gt, defScope s_Share_gt, [], []⟩
def d_Share_ge : He.DefD := ⟨("Share", some "__ge__"), "__ge__", "Share.__ge__", defArgs s_Share_ge, defBody s_Share_ge, defScope s_Share_ge, [], []⟩
def d_Term_init : He.DefD := ⟨("Term", some "__init__"), "__init__", "Term.__init__", defArgs s_Term_init, defBody s_Term_init, defScope s_Term_init, [], []⟩
def d_Term_eq : He.DefD := ⟨("Term", some "__eq__"), "__eq__", "Term.__eq__", defArgs s_Term_eq, defBody s_Term_eq, defScope s_Term_eq, [], []⟩
def d_Term_add : He.DefD := ⟨("Term", some "__add__"), "__add__", "Term.__add__", defArgs s_Term_add, defBody s_Term_add, defScope s_Term_add, [], []⟩
def d_Term_radd : He.DefD := ⟨("Term", some "__radd__"), "__radd__", "Term.__radd__", defArgs s_Term_radd, defBody s_Term_radd, defScope s_Term_radd, [], []⟩
def d_Term_sub : He.DefD := ⟨("Term", some "__sub__"), "__sub__", "Term.__sub__", defArgs s_Term_sub, defBody s_Term_sub, defScope s_Term_sub, [], []⟩
def d_Term_rsub : He.DefD := ⟨("Term", some "__rsub__"), "__rsub__", "Term.__rsub__", defArgs s_Term_rsub, defBody s_Term_rsub, defScope s_Term_rsub, [], []⟩
def d_Term_mul : He.DefD := ⟨("Term", some "__mul__"), "__mul__", "Term.__mul__", defArgs s_Term_mul, defBody s_Term_mul, defScope s_Term_mul, [], []⟩
def d_Term_rmul : He.DefD := ⟨("Term", some "__rmul__"), "__rmul__", "Term.__rmul__", defArgs s_Term_rmul, defBody s_Term_rmul, defScope s_Term_rmul, [], []⟩
def d_Term_neg : He.DefD := ⟨("Term", some "__neg__"), "__neg__", "Term.__neg__", defArgs s_Term_neg, defBody s_Term_neg, defScope s_Term_neg, [], []⟩
def d_Term_lt : He.DefD := ⟨("Term", some "__lt__"), "__lt__", "Term.__lt__", defArgs s_Term_lt, defBody s_Term_lt, defScope s_Term_lt, [], []⟩
def d_Term_le : He.DefD := ⟨("Term", some "__le__"), "__le__", "Term.__le__", defArgs s_Term_le, defBody s_Term_le, defScope s_Term_le, [], []⟩
def d_Term_gt : He.DefD := ⟨("Term", some "__gt__"), "__gt__", "Term.__gt__", defArgs s_Term_gt, defBody s_Term_gt, defScope s_Term_gt, [], []⟩
def d_Term_ge : He.DefD := ⟨("Term", some "__ge__"), "__ge__", "Term.__ge__", defArgs s_Term_ge, defBody s_Term_ge, defScope s_Term_ge, [], []⟩
def d_Term_at : He.DefD := ⟨("Term", some "at"), "at", "Term.at", defArgs s_Term_at, defBody s_Term_at, defScope s_Term_at, [], []⟩
def d_Row_init : He.DefD := ⟨("Row", some "__init__"), "__init__", "Row.__init__", defArgs s_Row_init, defBody s_Row_init, defScope s_Row_init, [], []⟩
def d_Row_holds : He.DefD := ⟨("Row", some "holds"), "holds", "Row.holds", defArgs s_Row_holds, defBody s_Row_holds, defScope s_Row_holds, [], []⟩
def d_Row_eq : He.DefD := ⟨("Row", some "__eq__"), "__eq__", "Row.__eq__", defArgs s_Row_eq, defBody s_Row_eq, defScope s_Row_eq, [], []⟩
def fn : List He.DefD := [d_divisor, d_is_integer, d_is_number, d_share_of, d_fraction, d_excess, d_term_of, d_source, d_draw, d_same, d_scale, d_side, d_walk, d_leaves, d_leaves_behind, d_depth, d_pick, d_less, d_middle, d_worths, d_root, d_fixed, d_line, d_meet, d_plane, d_det, d_triple, d_room, d_faces, d_number, d_holds, d_ints, d_row, d_said, d_terms, d_passed, d_grown, d_of_terms, d_listed, d_rows_of, d_led, d_chain_right, d_law, d_Share_init, d_Share_eq, d_Share_add, d_Share_radd, d_Share_sub, d_Share_rsub, d_Share_mul, d_Share_rmul, d_Share_neg, d_Share_lt, d_Share_le, d_Share_gt, d_Share_ge, d_Term_init, d_Term_eq, d_Term_add, d_Term_radd, d_Term_sub, d_Term_rsub, d_Term_mul, d_Term_rmul, d_Term_neg, d_Term_lt, d_Term_le, d_Term_gt, d_Term_ge, d_Term_at, d_Row_init, d_Row_holds, d_Row_eq]
def fa : List He.Fa := [.glo "divisor", .glo "is_integer", .glo "is_number", .glo "share_of", .glo "fraction", .glo "excess", .glo "term_of", .glo "_law_source", .glo "_law_draw", .glo "_law_same", .glo "scale", .glo "side", .glo "walk", .glo "leaves", .glo "leaves_behind", .glo "depth", .glo "_law_pick", .glo "_law_less", .glo "_law_middle", .glo "_law_worths", .glo "_law_root", .glo "_law_fixed", .glo "_law_line", .glo "_law_meet", .glo "_law_plane", .glo "_law_det", .glo "_law_triple", .glo "_law_room", .glo "_law_faces", .glo "_law_number", .glo "_law_holds", .glo "_law_ints", .glo "_law_row", .glo "_law_said", .glo "_law_terms", .glo "_law_passed", .glo "_law_grown", .glo "_law_of_terms", .glo "_law_listed", .glo "_law_rows_of", .glo "_law_led", .glo "_law_chain_right", .glo "law", .glo "Share", .glo "Term", .glo "NoUnknown", .glo "Row", .free "isinstance", .free "int", .free "bool", .free "abs", .free "len", .free "range", .free "str", .free "list", .free "tuple", .free "all", .free "zip", .free "NotImplemented", .free "super", .free "min", .free "max", .free "enumerate", .int "UNKNOWNS" 3, .cls "Share", .mkr "Share", .cls "Term", .mkr "Term", .cls "Row", .mkr "Row", .noat "Share" "top", .noat "Share" "bottom", .noat "Term" "number", .noat "Term" "times", .noat "NoUnknown" "k", .noat "Row" "term", .noat "Row" "strict", .meth "Share" "__eq__", .meth "Share" "__add__", .meth "Share" "__radd__", .meth "Share" "__sub__", .meth "Share" "__rsub__", .meth "Share" "__mul__", .meth "Share" "__rmul__", .meth "Share" "__neg__", .meth "Share" "__lt__", .meth "Share" "__le__", .meth "Share" "__gt__", .meth "Share" "__ge__", .meth "Term" "__eq__", .meth "Term" "__add__", .meth "Term" "__radd__", .meth "Term" "__sub__", .meth "Term" "__rsub__", .meth "Term" "__mul__", .meth "Term" "__rmul__", .meth "Term" "__neg__", .meth "Term" "__lt__", .meth "Term" "__le__", .meth "Term" "__gt__", .meth "Term" "__ge__", .meth "Term" "at", .meth "Row" "holds", .meth "Row" "__eq__"]
/-- further facts, as Bools of the written part -/
def extra : List (PySem.W.Frag → Bool) := [fun K => He.eqO (PySem.W.findIn K (.ref (He.ga K "Share")) "__class__") (some (some (.builtin "object.__class__"))),
  fun K => He.eqO (PySem.W.specialIn K (.builtin "object.__class__") "__get__") (some (some (.builtin "getset_descriptor.__get__"))),
  fun K => decide (PySem.W.takesIn K (.builtin "object.__class__") = some true),
  fun K => decide (PySem.W.mroIn K (He.ga K "Share") (.type "object") = some true),
  fun K => decide (PySem.W.kitOne K (.ref (He.ga K "Share")) (.ref (He.ga K "Share")) = some true),
  fun K => He.eqO (PySem.W.findIn K (.ref (He.ga K "Term")) "__class__") (some (some (.builtin "object.__class__"))),
  fun K => decide (PySem.W.mroIn K (He.ga K "Term") (.type "object") = some true),
  fun K => CmX.cmpB K (He.ga K "Share"),
  fun K => NuX.knB K (.ref (He.ga K "Share")) true,
  fun K => NuX.knB K (.ref (He.ga K "Term")) false,
  fun K => NuX.knB K (.type "int") true,
  fun K => NuX.knB K (.type "NoneType") false,
  fun K => NuX.knB K (.type "bool") false,
  fun K => NuX.knB K (.type "str") false,
  fun K => NuX.knB K (.type "list") false,
  fun K => NuX.knB K (.type "tuple") false,
  fun K => NuX.knB K (.type "dict") false,
  fun K => StX.smB K (He.ga K "Term") "constant",
  fun K => decide (PySem.W.kitOne K (.ref (He.ga K "Share")) (.ref (He.ga K "Term")) = some false),
  fun K => decide (PySem.W.subIn K (.ref (He.ga K "Term")) (.ref (He.ga K "Share")) = some false),
  fun K => decide (PySem.W.subIn K (.ref (He.ga K "Share")) (.ref (He.ga K "Term")) = some false),
  fun K => decide (PySem.W.kitOne K (.type "int") (.ref (He.ga K "Share")) = some false),
  fun K => CmX.cmpB K (He.ga K "Term"),
  fun K => SupX.oexB K (He.ga K "NoUnknown"),
  fun K => SupX.supB K (He.ga K "NoUnknown") (He.ma K (He.ga K "NoUnknown") "__init__") "NoUnknown.__init__",
  fun K => decide (PySem.W.exmOne K (.ref (He.ga K "NoUnknown")) (.ref (He.ga K "NoUnknown")) = some true),
  fun K => He.eqO (PySem.W.findIn K (.ref (He.ga K "NoUnknown")) "__init__") (some (some (.ref (He.ma K (He.ga K "NoUnknown") "__init__")))) && decide (PySem.W.typeIn K (.ref (He.ma K (He.ga K "NoUnknown") "__init__")) = some (.type "function")),
  fun K => xfB K (He.ga K "NoUnknown"),
  fun K => StX.smB K (He.ga K "Term") "unknown",
  fun K => CmX.names7.all fun T => decide (PySem.W.kitOne K (.type T) (.ref (He.ga K "Term")) = some false),
  fun K => decide (PySem.W.kitOne K (.ref (He.ga K "Term")) (.ref (He.ga K "Term")) = some true),
  fun K => ["int", "bool", "list", "tuple"].all fun T => decide (PySem.W.kitOne K (.ref (He.ga K "Share")) (.type T) = some false),
  fun K => PySem.W.selfFirst K (He.ga K "Share"),
  fun K => decide (PySem.W.mroIn K (He.ga K "Share") (.type "int") = some false),
  fun K => decide (PySem.W.subIn K (.type "int") (.ref (He.ga K "Share")) = some false),
  fun K => OpX.mro2B K (He.ga K "Share"),
  fun K => OpX.opB K (He.ga K "Share") "add",
  fun K => OpX.opB K (He.ga K "Share") "sub",
  fun K => OpX.opB K (He.ga K "Share") "mul",
  fun K => PySem.W.selfFirst K (He.ga K "Term"),
  fun K => decide (PySem.W.mroIn K (He.ga K "Term") (.type "int") = some false),
  fun K => decide (PySem.W.subIn K (.type "int") (.ref (He.ga K "Term")) = some false),
  fun K => OpX.mro2B K (He.ga K "Term"),
  fun K => OpX.opB K (He.ga K "Term") "add",
  fun K => OpX.opB K (He.ga K "Term") "sub",
  fun K => OpX.opB K (He.ga K "Term") "mul",
  fun K => He.eqO (PySem.W.findIn K (.ref (He.ga K "Row")) "__class__") (some (some (.builtin "object.__class__"))),
  fun K => decide (PySem.W.mroIn K (He.ga K "Row") (.type "object") = some true),
  fun K => decide (PySem.W.kitOne K (.ref (He.ga K "Row")) (.ref (He.ga K "Row")) = some true),
  fun K => CmX.cmpB K (He.ga K "Row"),
  fun K => CmX.names7.all fun T => decide (PySem.W.kitOne K (.type T) (.ref (He.ga K "Row")) = some false),
  fun K => decide (PySem.W.kitOne K (.ref (He.ga K "Term")) (.ref (He.ga K "Row")) = some false),
  fun K => decide (PySem.W.subIn K (.ref (He.ga K "Term")) (.ref (He.ga K "Row")) = some false),
  fun K => ["int", "bool", "list", "tuple"].all fun T => decide (PySem.W.kitOne K (.ref (He.ga K "Term")) (.type T) = some false),
  fun K => ["int", "bool", "list", "tuple"].all fun T => decide (PySem.W.kitOne K (.ref (He.ga K "Row")) (.type T) = some false)]
abbrev AlX : Type := Bool × He.AlD × List SupX.SpW × List He5.FnW
def obsX (fa : List He.Fa) (fn : List He.DefD) (sp : List (Str × Str × Str × Stmt)) (ex : List (PySem.W.Frag → Bool)) (st : List He5.DefA) (K : PySem.W.Frag) : AlX := ((ex.all fun f => f K) && st.all fun d => d.ok K, He.obsD fa fn K, sp.map fun d => SupX.supW K (He.fAd K (d.1, some d.2.1)), st.map fun d => He5.fnA K (d.at_ K))
def valX (fn : List He.DefD) (sp : List (Str × Str × Str × Stmt)) (st : List He5.DefA) : AlX := (true, He.valD fn, sp.map fun d => SupX.supV d.2.1 d.2.2.1 d.2.2.2, st.map He5.DefA.val)
def SaysX (fa : List He.Fa) (fn : List He.DefD) (sp : List (Str × Str × Str × Stmt)) (ex : List (PySem.W.Frag → Bool)) (st : List He5.DefA) (K : PySem.W.Frag) : Prop := obsX fa fn sp ex st K = valX fn sp st
/-- what every def leans on: the facts, and where the module's names are read -/
structure Wd (K : PySem.W.Frag) (mg : Str → Option Value) : Prop where
  s : SaysX fa fn sups extra stats K
  X : ∃ h : Heap, K.In h ∧ h.Ns mainGlobals mg
section
variable {K : PySem.W.Frag} {mg : Str → Option Value}
theorem Wd.c (W : Wd K mg) : He.SaysD fa fn K := congrArg (fun z : AlX => z.2.1) W.s
theorem Wd.ex (W : Wd K mg) (i : Nat) {f : PySem.W.Frag → Bool} (h : extra[i]? = some f) : f K = true :=
  List.all_eq_true.mp (He.ba (show ((extra.all fun f => f K) && stats.all fun d => d.ok K) = true from congrArg (fun z : AlX => z.1) W.s)).1 f (List.mem_of_getElem? h)
theorem Wd.stat (W : Wd K mg) (i : Nat) {d : He5.DefA} (h : stats[i]? = some d) : ∃ fd, FunD K d.name d.qual d.params d.body d.scope (d.dvs K) (d.kws K) (d.at_ K) fd := by
  have c := (He.ba (show ((extra.all fun f => f K) && stats.all fun d => d.ok K) = true from congrArg (fun z : AlX => z.1) W.s)).2
  have e : stats.map (fun d => He5.fnA K (d.at_ K)) = stats.map He5.DefA.val := congrArg (fun z : AlX => z.2.2.2) W.s
  have e2 : (stats.map fun d => He5.fnA K (d.at_ K))[i]? = (stats.map He5.DefA.val)[i]? := by rw [e]
  rw [List.getElem?_map, List.getElem?_map, h] at e2
  exact He5.DefA.funD (Option.some.inj e2) (List.all_eq_true.mp c d (List.mem_of_getElem? h))
theorem Wd.glo (W : Wd K mg) (i : Nat) {x : Str} (h : fa[i]? = some (.glo x)) : mg x = some (.ref (He.ga K x)) := by
  obtain ⟨h0, X, G⟩ := W.X
  exact He.glo_ok X G (W.c.fact i h)
theorem Wd.free (W : Wd K mg) (i : Nat) {x : Str} (h : fa[i]? = some (.free x)) : mg x = none := by
  obtain ⟨h0, X, G⟩ := W.X
  exact He.free_ok X G (W.c.fact i h)
theorem Wd.sup (W : Wd K mg) (i : Nat) {d : Str × Str × Str × Stmt} (h : sups[i]? = some d) : SupX.supW K (He.fAd K (d.1, some d.2.1)) = SupX.supV d.2.1 d.2.2.1 d.2.2.2 := by
  have e : sups.map (fun d => SupX.supW K (He.fAd K (d.1, some d.2.1))) = sups.map fun d => SupX.supV d.2.1 d.2.2.1 d.2.2.2 := congrArg (fun z : AlX => z.2.2.1) W.s
  have e2 : (sups.map (fun d => SupX.supW K (He.fAd K (d.1, some d.2.1))))[i]? = (sups.map fun d => SupX.supV d.2.1 d.2.2.1 d.2.2.2)[i]? := by rw [e]
  rw [List.getElem?_map, List.getElem?_map, h] at e2
  exact Option.some.inj e2
end

theorem Wd.g_divisor {K : PySem.W.Frag} {mg : Str → Option Value} (W : Wd K mg) : mg "divisor" = some (.ref (He.ga K "divisor")) := W.glo 0 rfl
theorem Wd.g_is_integer {K : PySem.W.Frag} {mg : Str → Option Value} (W : Wd K mg) : mg "is_integer" = some (.ref (He.ga K "is_integer")) := W.glo 1 rfl
theorem Wd.g_is_number {K : PySem.W.Frag} {mg : Str → Option Value} (W : Wd K mg) : mg "is_number" = some (.ref (He.ga K "is_number")) := W.glo 2 rfl
theorem Wd.g_share_of {K : PySem.W.Frag} {mg : Str → Option Value} (W : Wd K mg) : mg "share_of" = some (.ref (He.ga K "share_of")) := W.glo 3 rfl
theorem Wd.g_fraction {K : PySem.W.Frag} {mg : Str → Option Value} (W : Wd K mg) : mg "fraction" = some (.ref (He.ga K "fraction")) := W.glo 4 rfl
theorem Wd.g_excess {K : PySem.W.Frag} {mg : Str → Option Value} (W : Wd K mg) : mg "excess" = some (.ref (He.ga K "excess")) := W.glo 5 rfl
theorem Wd.g_term_of {K : PySem.W.Frag} {mg : Str → Option Value} (W : Wd K mg) : mg "term_of" = some (.ref (He.ga K "term_of")) := W.glo 6 rfl
theorem Wd.g_law_source {K : PySem.W.Frag} {mg : Str → Option Value} (W : Wd K mg) : mg "_law_source" = some (.ref (He.ga K "_law_source")) := W.glo 7 rfl
theorem Wd.g_law_draw {K : PySem.W.Frag} {mg : Str → Option Value} (W : Wd K mg) : mg "_law_draw" = some (.ref (He.ga K "_law_draw")) := W.glo 8 rfl
theorem Wd.g_law_same {K : PySem.W.Frag} {mg : Str → Option Value} (W : Wd K mg) : mg "_law_same" = some (.ref (He.ga K "_law_same")) := W.glo 9 rfl
theorem Wd.g_scale {K : PySem.W.Frag} {mg : Str → Option Value} (W : Wd K mg) : mg "scale" = some (.ref (He.ga K "scale")) := W.glo 10 rfl
theorem Wd.g_side {K : PySem.W.Frag} {mg : Str → Option Value} (W : Wd K mg) : mg "side" = some (.ref (He.ga K "side")) := W.glo 11 rfl
theorem Wd.g_walk {K : PySem.W.Frag} {mg : Str → Option Value} (W : Wd K mg) : mg "walk" = some (.ref (He.ga K "walk")) := W.glo 12 rfl
theorem Wd.g_leaves {K : PySem.W.Frag} {mg : Str → Option Value} (W : Wd K mg) : mg "leaves" = some (.ref (He.ga K "leaves")) := W.glo 13 rfl
theorem Wd.g_leaves_behind {K : PySem.W.Frag} {mg : Str → Option Value} (W : Wd K mg) : mg "leaves_behind" = some (.ref (He.ga K "leaves_behind")) := W.glo 14 rfl
theorem Wd.g_depth {K : PySem.W.Frag} {mg : Str → Option Value} (W : Wd K mg) : mg "depth" = some (.ref (He.ga K "depth")) := W.glo 15 rfl
theorem Wd.g_law_pick {K : PySem.W.Frag} {mg : Str → Option Value} (W : Wd K mg) : mg "_law_pick" = some (.ref (He.ga K "_law_pick")) := W.glo 16 rfl
theorem Wd.g_law_less {K : PySem.W.Frag} {mg : Str → Option Value} (W : Wd K mg) : mg "_law_less" = some (.ref (He.ga K "_law_less")) := W.glo 17 rfl
theorem Wd.g_law_middle {K : PySem.W.Frag} {mg : Str → Option Value} (W : Wd K mg) : mg "_law_middle" = some (.ref (He.ga K "_law_middle")) := W.glo 18 rfl
theorem Wd.g_law_worths {K : PySem.W.Frag} {mg : Str → Option Value} (W : Wd K mg) : mg "_law_worths" = some (.ref (He.ga K "_law_worths")) := W.glo 19 rfl
theorem Wd.g_law_root {K : PySem.W.Frag} {mg : Str → Option Value} (W : Wd K mg) : mg "_law_root" = some (.ref (He.ga K "_law_root")) := W.glo 20 rfl
theorem Wd.g_law_fixed {K : PySem.W.Frag} {mg : Str → Option Value} (W : Wd K mg) : mg "_law_fixed" = some (.ref (He.ga K "_law_fixed")) := W.glo 21 rfl
theorem Wd.g_law_line {K : PySem.W.Frag} {mg : Str → Option Value} (W : Wd K mg) : mg "_law_line" = some (.ref (He.ga K "_law_line")) := W.glo 22 rfl
theorem Wd.g_law_meet {K : PySem.W.Frag} {mg : Str → Option Value} (W : Wd K mg) : mg "_law_meet" = some (.ref (He.ga K "_law_meet")) := W.glo 23 rfl
theorem Wd.g_law_plane {K : PySem.W.Frag} {mg : Str → Option Value} (W : Wd K mg) : mg "_law_plane" = some (.ref (He.ga K "_law_plane")) := W.glo 24 rfl
theorem Wd.g_law_det {K : PySem.W.Frag} {mg : Str → Option Value} (W : Wd K mg) : mg "_law_det" = some (.ref (He.ga K "_law_det")) := W.glo 25 rfl
theorem Wd.g_law_triple {K : PySem.W.Frag} {mg : Str → Option Value} (W : Wd K mg) : mg "_law_triple" = some (.ref (He.ga K "_law_triple")) := W.glo 26 rfl
theorem Wd.g_law_room {K : PySem.W.Frag} {mg : Str → Option Value} (W : Wd K mg) : mg "_law_room" = some (.ref (He.ga K "_law_room")) := W.glo 27 rfl
theorem Wd.g_law_faces {K : PySem.W.Frag} {mg : Str → Option Value} (W : Wd K mg) : mg "_law_faces" = some (.ref (He.ga K "_law_faces")) := W.glo 28 rfl
theorem Wd.g_law_number {K : PySem.W.Frag} {mg : Str → Option Value} (W : Wd K mg) : mg "_law_number" = some (.ref (He.ga K "_law_number")) := W.glo 29 rfl
theorem Wd.g_law_holds {K : PySem.W.Frag} {mg : Str → Option Value} (W : Wd K mg) : mg "_law_holds" = some (.ref (He.ga K "_law_holds")) := W.glo 30 rfl
theorem Wd.g_law_ints {K : PySem.W.Frag} {mg : Str → Option Value} (W : Wd K mg) : mg "_law_ints" = some (.ref (He.ga K "_law_ints")) := W.glo 31 rfl
theorem Wd.g_law_row {K : PySem.W.Frag} {mg : Str → Option Value} (W : Wd K mg) : mg "_law_row" = some (.ref (He.ga K "_law_row")) := W.glo 32 rfl
theorem Wd.g_law_said {K : PySem.W.Frag} {mg : Str → Option Value} (W : Wd K mg) : mg "_law_said" = some (.ref (He.ga K "_law_said")) := W.glo 33 rfl
theorem Wd.g_law_terms {K : PySem.W.Frag} {mg : Str → Option Value} (W : Wd K mg) : mg "_law_terms" = some (.ref (He.ga K "_law_terms")) := W.glo 34 rfl
theorem Wd.g_law_passed {K : PySem.W.Frag} {mg : Str → Option Value} (W : Wd K mg) : mg "_law_passed" = some (.ref (He.ga K "_law_passed")) := W.glo 35 rfl
theorem Wd.g_law_grown {K : PySem.W.Frag} {mg : Str → Option Value} (W : Wd K mg) : mg "_law_grown" = some (.ref (He.ga K "_law_grown")) := W.glo 36 rfl
theorem Wd.g_law_of_terms {K : PySem.W.Frag} {mg : Str → Option Value} (W : Wd K mg) : mg "_law_of_terms" = some (.ref (He.ga K "_law_of_terms")) := W.glo 37 rfl
theorem Wd.g_law_listed {K : PySem.W.Frag} {mg : Str → Option Value} (W : Wd K mg) : mg "_law_listed" = some (.ref (He.ga K "_law_listed")) := W.glo 38 rfl
theorem Wd.g_law_rows_of {K : PySem.W.Frag} {mg : Str → Option Value} (W : Wd K mg) : mg "_law_rows_of" = some (.ref (He.ga K "_law_rows_of")) := W.glo 39 rfl
theorem Wd.g_law_led {K : PySem.W.Frag} {mg : Str → Option Value} (W : Wd K mg) : mg "_law_led" = some (.ref (He.ga K "_law_led")) := W.glo 40 rfl
theorem Wd.g_law_chain_right {K : PySem.W.Frag} {mg : Str → Option Value} (W : Wd K mg) : mg "_law_chain_right" = some (.ref (He.ga K "_law_chain_right")) := W.glo 41 rfl
theorem Wd.g_law {K : PySem.W.Frag} {mg : Str → Option Value} (W : Wd K mg) : mg "law" = some (.ref (He.ga K "law")) := W.glo 42 rfl
theorem Wd.g_Share {K : PySem.W.Frag} {mg : Str → Option Value} (W : Wd K mg) : mg "Share" = some (.ref (He.ga K "Share")) := W.glo 43 rfl
theorem Wd.g_Term {K : PySem.W.Frag} {mg : Str → Option Value} (W : Wd K mg) : mg "Term" = some (.ref (He.ga K "Term")) := W.glo 44 rfl
theorem Wd.g_NoUnknown {K : PySem.W.Frag} {mg : Str → Option Value} (W : Wd K mg) : mg "NoUnknown" = some (.ref (He.ga K "NoUnknown")) := W.glo 45 rfl
theorem Wd.g_Row {K : PySem.W.Frag} {mg : Str → Option Value} (W : Wd K mg) : mg "Row" = some (.ref (He.ga K "Row")) := W.glo 46 rfl
theorem Wd.f_isinstance {K : PySem.W.Frag} {mg : Str → Option Value} (W : Wd K mg) : mg "isinstance" = none := W.free 47 rfl
theorem Wd.f_int {K : PySem.W.Frag} {mg : Str → Option Value} (W : Wd K mg) : mg "int" = none := W.free 48 rfl
theorem Wd.f_bool {K : PySem.W.Frag} {mg : Str → Option Value} (W : Wd K mg) : mg "bool" = none := W.free 49 rfl
theorem Wd.f_abs {K : PySem.W.Frag} {mg : Str → Option Value} (W : Wd K mg) : mg "abs" = none := W.free 50 rfl
theorem Wd.f_len {K : PySem.W.Frag} {mg : Str → Option Value} (W : Wd K mg) : mg "len" = none := W.free 51 rfl
theorem Wd.f_range {K : PySem.W.Frag} {mg : Str → Option Value} (W : Wd K mg) : mg "range" = none := W.free 52 rfl
theorem Wd.f_str {K : PySem.W.Frag} {mg : Str → Option Value} (W : Wd K mg) : mg "str" = none := W.free 53 rfl
theorem Wd.f_list {K : PySem.W.Frag} {mg : Str → Option Value} (W : Wd K mg) : mg "list" = none := W.free 54 rfl
theorem Wd.f_tuple {K : PySem.W.Frag} {mg : Str → Option Value} (W : Wd K mg) : mg "tuple" = none := W.free 55 rfl
theorem Wd.f_all {K : PySem.W.Frag} {mg : Str → Option Value} (W : Wd K mg) : mg "all" = none := W.free 56 rfl
theorem Wd.f_zip {K : PySem.W.Frag} {mg : Str → Option Value} (W : Wd K mg) : mg "zip" = none := W.free 57 rfl
theorem Wd.f_NotImplemented {K : PySem.W.Frag} {mg : Str → Option Value} (W : Wd K mg) : mg "NotImplemented" = none := W.free 58 rfl
theorem Wd.f_super {K : PySem.W.Frag} {mg : Str → Option Value} (W : Wd K mg) : mg "super" = none := W.free 59 rfl
theorem Wd.f_min {K : PySem.W.Frag} {mg : Str → Option Value} (W : Wd K mg) : mg "min" = none := W.free 60 rfl
theorem Wd.f_max {K : PySem.W.Frag} {mg : Str → Option Value} (W : Wd K mg) : mg "max" = none := W.free 61 rfl
theorem Wd.f_enumerate {K : PySem.W.Frag} {mg : Str → Option Value} (W : Wd K mg) : mg "enumerate" = none := W.free 62 rfl
theorem Wd.cls_Share {K : PySem.W.Frag} {mg : Str → Option Value} (W : Wd K mg) : Cls K (He.ga K "Share") := He.cls_ok (W.c.fact 64 rfl)
theorem Wd.mkr_Share {K : PySem.W.Frag} {mg : Str → Option Value} (W : Wd K mg) : Mk K (He.ga K "Share") (He.ma K (He.ga K "Share") "__init__") := He.mkr_ok (W.c.fact 65 rfl)
theorem Wd.cls_Term {K : PySem.W.Frag} {mg : Str → Option Value} (W : Wd K mg) : Cls K (He.ga K "Term") := He.cls_ok (W.c.fact 66 rfl)
theorem Wd.mkr_Term {K : PySem.W.Frag} {mg : Str → Option Value} (W : Wd K mg) : Mk K (He.ga K "Term") (He.ma K (He.ga K "Term") "__init__") := He.mkr_ok (W.c.fact 67 rfl)
theorem Wd.cls_Row {K : PySem.W.Frag} {mg : Str → Option Value} (W : Wd K mg) : Cls K (He.ga K "Row") := He.cls_ok (W.c.fact 68 rfl)
theorem Wd.mkr_Row {K : PySem.W.Frag} {mg : Str → Option Value} (W : Wd K mg) : Mk K (He.ga K "Row") (He.ma K (He.ga K "Row") "__init__") := He.mkr_ok (W.c.fact 69 rfl)
theorem Wd.n_Share_top {K : PySem.W.Frag} {mg : Str → Option Value} (W : Wd K mg) : NoAttr K (He.ga K "Share") "top" := He.noat_ok (W.c.fact 70 rfl)
theorem Wd.n_Share_bottom {K : PySem.W.Frag} {mg : Str → Option Value} (W : Wd K mg) : NoAttr K (He.ga K "Share") "bottom" := He.noat_ok (W.c.fact 71 rfl)
theorem Wd.n_Term_number {K : PySem.W.Frag} {mg : Str → Option Value} (W : Wd K mg) : NoAttr K (He.ga K "Term") "number" := He.noat_ok (W.c.fact 72 rfl)
theorem Wd.n_Term_times {K : PySem.W.Frag} {mg : Str → Option Value} (W : Wd K mg) : NoAttr K (He.ga K "Term") "times" := He.noat_ok (W.c.fact 73 rfl)
theorem Wd.n_NoUnknown_k {K : PySem.W.Frag} {mg : Str → Option Value} (W : Wd K mg) : NoAttr K (He.ga K "NoUnknown") "k" := He.noat_ok (W.c.fact 74 rfl)
theorem Wd.n_Row_term {K : PySem.W.Frag} {mg : Str → Option Value} (W : Wd K mg) : NoAttr K (He.ga K "Row") "term" := He.noat_ok (W.c.fact 75 rfl)
theorem Wd.n_Row_strict {K : PySem.W.Frag} {mg : Str → Option Value} (W : Wd K mg) : NoAttr K (He.ga K "Row") "strict" := He.noat_ok (W.c.fact 76 rfl)
theorem Wd.m_Share_eq {K : PySem.W.Frag} {mg : Str → Option Value} (W : Wd K mg) : Meth K (He.ga K "Share") "__eq__" (He.ma K (He.ga K "Share") "__eq__") := He.meth_ok (W.c.fact 77 rfl)
theorem Wd.m_Share_add {K : PySem.W.Frag} {mg : Str → Option Value} (W : Wd K mg) : Meth K (He.ga K "Share") "__add__" (He.ma K (He.ga K "Share") "__add__") := He.meth_ok (W.c.fact 78 rfl)
theorem Wd.m_Share_radd {K : PySem.W.Frag} {mg : Str → Option Value} (W : Wd K mg) : Meth K (He.ga K "Share") "__radd__" (He.ma K (He.ga K "Share") "__radd__") := He.meth_ok (W.c.fact 79 rfl)
theorem Wd.m_Share_sub {K : PySem.W.Frag} {mg : Str → Option Value} (W : Wd K mg) : Meth K (He.ga K "Share") "__sub__" (He.ma K (He.ga K "Share") "__sub__") := He.meth_ok (W.c.fact 80 rfl)
theorem Wd.m_Share_rsub {K : PySem.W.Frag} {mg : Str → Option Value} (W : Wd K mg) : Meth K (He.ga K "Share") "__rsub__" (He.ma K (He.ga K "Share") "__rsub__") := He.meth_ok (W.c.fact 81 rfl)
theorem Wd.m_Share_mul {K : PySem.W.Frag} {mg : Str → Option Value} (W : Wd K mg) : Meth K (He.ga K "Share") "__mul__" (He.ma K (He.ga K "Share") "__mul__") := He.meth_ok (W.c.fact 82 rfl)
theorem Wd.m_Share_rmul {K : PySem.W.Frag} {mg : Str → Option Value} (W : Wd K mg) : Meth K (He.ga K "Share") "__rmul__" (He.ma K (He.ga K "Share") "__rmul__") := He.meth_ok (W.c.fact 83 rfl)
theorem Wd.m_Share_neg {K : PySem.W.Frag} {mg : Str → Option Value} (W : Wd K mg) : Meth K (He.ga K "Share") "__neg__" (He.ma K (He.ga K "Share") "__neg__") := He.meth_ok (W.c.fact 84 rfl)
theorem Wd.m_Share_lt {K : PySem.W.Frag} {mg : Str → Option Value} (W : Wd K mg) : Meth K (He.ga K "Share") "__lt__" (He.ma K (He.ga K "Share") "__lt__") := He.meth_ok (W.c.fact 85 rfl)
theorem Wd.m_Share_le {K : PySem.W.Frag} {mg : Str → Option Value} (W : Wd K mg) : Meth K (He.ga K "Share") "__le__" (He.ma K (He.ga K "Share") "__le__") := He.meth_ok (W.c.fact 86 rfl)
theorem Wd.m_Share_gt {K : PySem.W.Frag} {mg : Str → Option Value} (W : Wd K mg) : Meth K (He.ga K "Share") "__gt__" (He.ma K (He.ga K "Share") "__gt__") := He.meth_ok (W.c.fact 87 rfl)
theorem Wd.m_Share_ge {K : PySem.W.Frag} {mg : Str → Option Value} (W : Wd K mg) : Meth K (He.ga K "Share") "__ge__" (He.ma K (He.ga K "Share") "__ge__") := He.meth_ok (W.c.fact 88 rfl)
theorem Wd.m_Term_eq {K : PySem.W.Frag} {mg : Str → Option Value} (W : Wd K mg) : Meth K (He.ga K "Term") "__eq__" (He.ma K (He.ga K "Term") "__eq__") := He.meth_ok (W.c.fact 89 rfl)
theorem Wd.m_Term_add {K : PySem.W.Frag} {mg : Str → Option Value} (W : Wd K mg) : Meth K (He.ga K "Term") "__add__" (He.ma K (He.ga K "Term") "__add__") := He.meth_ok (W.c.fact 90 rfl)
theorem Wd.m_Term_radd {K : PySem.W.Frag} {mg : Str → Option Value} (W : Wd K mg) : Meth K (He.ga K "Term") "__radd__" (He.ma K (He.ga K "Term") "__radd__") := He.meth_ok (W.c.fact 91 rfl)
theorem Wd.m_Term_sub {K : PySem.W.Frag} {mg : Str → Option Value} (W : Wd K mg) : Meth K (He.ga K "Term") "__sub__" (He.ma K (He.ga K "Term") "__sub__") := He.meth_ok (W.c.fact 92 rfl)
theorem Wd.m_Term_rsub {K : PySem.W.Frag} {mg : Str → Option Value} (W : Wd K mg) : Meth K (He.ga K "Term") "__rsub__" (He.ma K (He.ga K "Term") "__rsub__") := He.meth_ok (W.c.fact 93 rfl)
theorem Wd.m_Term_mul {K : PySem.W.Frag} {mg : Str → Option Value} (W : Wd K mg) : Meth K (He.ga K "Term") "__mul__" (He.ma K (He.ga K "Term") "__mul__") := He.meth_ok (W.c.fact 94 rfl)
theorem Wd.m_Term_rmul {K : PySem.W.Frag} {mg : Str → Option Value} (W : Wd K mg) : Meth K (He.ga K "Term") "__rmul__" (He.ma K (He.ga K "Term") "__rmul__") := He.meth_ok (W.c.fact 95 rfl)
theorem Wd.m_Term_neg {K : PySem.W.Frag} {mg : Str → Option Value} (W : Wd K mg) : Meth K (He.ga K "Term") "__neg__" (He.ma K (He.ga K "Term") "__neg__") := He.meth_ok (W.c.fact 96 rfl)
theorem Wd.m_Term_lt {K : PySem.W.Frag} {mg : Str → Option Value} (W : Wd K mg) : Meth K (He.ga K "Term") "__lt__" (He.ma K (He.ga K "Term") "__lt__") := He.meth_ok (W.c.fact 97 rfl)
theorem Wd.m_Term_le {K : PySem.W.Frag} {mg : Str → Option Value} (W : Wd K mg) : Meth K (He.ga K "Term") "__le__" (He.ma K (He.ga K "Term") "__le__") := He.meth_ok (W.c.fact 98 rfl)
theorem Wd.m_Term_gt {K : PySem.W.Frag} {mg : Str → Option Value} (W : Wd K mg) : Meth K (He.ga K "Term") "__gt__" (He.ma K (He.ga K "Term") "__gt__") := He.meth_ok (W.c.fact 99 rfl)
theorem Wd.m_Term_ge {K : PySem.W.Frag} {mg : Str → Option Value} (W : Wd K mg) : Meth K (He.ga K "Term") "__ge__" (He.ma K (He.ga K "Term") "__ge__") := He.meth_ok (W.c.fact 100 rfl)
theorem Wd.m_Term_at {K : PySem.W.Frag} {mg : Str → Option Value} (W : Wd K mg) : Meth K (He.ga K "Term") "at" (He.ma K (He.ga K "Term") "at") := He.meth_ok (W.c.fact 101 rfl)
theorem Wd.m_Row_holds {K : PySem.W.Frag} {mg : Str → Option Value} (W : Wd K mg) : Meth K (He.ga K "Row") "holds" (He.ma K (He.ga K "Row") "holds") := He.meth_ok (W.c.fact 102 rfl)
theorem Wd.m_Row_eq {K : PySem.W.Frag} {mg : Str → Option Value} (W : Wd K mg) : Meth K (He.ga K "Row") "__eq__" (He.ma K (He.ga K "Row") "__eq__") := He.meth_ok (W.c.fact 103 rfl)
theorem Wd.F_divisor {K : PySem.W.Frag} {mg : Str → Option Value} (W : Wd K mg) : ∃ fd, FunD K d_divisor.name d_divisor.qual d_divisor.params d_divisor.body d_divisor.scope (d_divisor.dvs K) (d_divisor.kws K) (He.fAd K d_divisor.at_) fd := W.c.def_ 0 rfl
theorem Wd.F_is_integer {K : PySem.W.Frag} {mg : Str → Option Value} (W : Wd K mg) : ∃ fd, FunD K d_is_integer.name d_is_integer.qual d_is_integer.params d_is_integer.body d_is_integer.scope (d_is_integer.dvs K) (d_is_integer.kws K) (He.fAd K d_is_integer.at_) fd := W.c.def_ 1 rfl
theorem Wd.F_is_number {K : PySem.W.Frag} {mg : Str → Option Value} (W : Wd K mg) : ∃ fd, FunD K d_is_number.name d_is_number.qual d_is_number.params d_is_number.body d_is_number.scope (d_is_number.dvs K) (d_is_number.kws K) (He.fAd K d_is_number.at_) fd := W.c.def_ 2 rfl
theorem Wd.F_share_of {K : PySem.W.Frag} {mg : Str → Option Value} (W : Wd K mg) : ∃ fd, FunD K d_share_of.name d_share_of.qual d_share_of.params d_share_of.body d_share_of.scope (d_share_of.dvs K) (d_share_of.kws K) (He.fAd K d_share_of.at_) fd := W.c.def_ 3 rfl
theorem Wd.F_fraction {K : PySem.W.Frag} {mg : Str → Option Value} (W : Wd K mg) : ∃ fd, FunD K d_fraction.name d_fraction.qual d_fraction.params d_fraction.body d_fraction.scope (d_fraction.dvs K) (d_fraction.kws K) (He.fAd K d_fraction.at_) fd := W.c.def_ 4 rfl
theorem Wd.F_excess {K : PySem.W.Frag} {mg : Str → Option Value} (W : Wd K mg) : ∃ fd, FunD K d_excess.name d_excess.qual d_excess.params d_excess.body d_excess.scope (d_excess.dvs K) (d_excess.kws K) (He.fAd K d_excess.at_) fd := W.c.def_ 5 rfl
theorem Wd.F_term_of {K : PySem.W.Frag} {mg : Str → Option Value} (W : Wd K mg) : ∃ fd, FunD K d_term_of.name d_term_of.qual d_term_of.params d_term_of.body d_term_of.scope (d_term_of.dvs K) (d_term_of.kws K) (He.fAd K d_term_of.at_) fd := W.c.def_ 6 rfl
theorem Wd.F_source {K : PySem.W.Frag} {mg : Str → Option Value} (W : Wd K mg) : ∃ fd, FunD K d_source.name d_source.qual d_source.params d_source.body d_source.scope (d_source.dvs K) (d_source.kws K) (He.fAd K d_source.at_) fd := W.c.def_ 7 rfl
theorem Wd.F_draw {K : PySem.W.Frag} {mg : Str → Option Value} (W : Wd K mg) : ∃ fd, FunD K d_draw.name d_draw.qual d_draw.params d_draw.body d_draw.scope (d_draw.dvs K) (d_draw.kws K) (He.fAd K d_draw.at_) fd := W.c.def_ 8 rfl
theorem Wd.F_same {K : PySem.W.Frag} {mg : Str → Option Value} (W : Wd K mg) : ∃ fd, FunD K d_same.name d_same.qual d_same.params d_same.body d_same.scope (d_same.dvs K) (d_same.kws K) (He.fAd K d_same.at_) fd := W.c.def_ 9 rfl
theorem Wd.F_scale {K : PySem.W.Frag} {mg : Str → Option Value} (W : Wd K mg) : ∃ fd, FunD K d_scale.name d_scale.qual d_scale.params d_scale.body d_scale.scope (d_scale.dvs K) (d_scale.kws K) (He.fAd K d_scale.at_) fd := W.c.def_ 10 rfl
theorem Wd.F_side {K : PySem.W.Frag} {mg : Str → Option Value} (W : Wd K mg) : ∃ fd, FunD K d_side.name d_side.qual d_side.params d_side.body d_side.scope (d_side.dvs K) (d_side.kws K) (He.fAd K d_side.at_) fd := W.c.def_ 11 rfl
theorem Wd.F_walk {K : PySem.W.Frag} {mg : Str → Option Value} (W : Wd K mg) : ∃ fd, FunD K d_walk.name d_walk.qual d_walk.params d_walk.body d_walk.scope (d_walk.dvs K) (d_walk.kws K) (He.fAd K d_walk.at_) fd := W.c.def_ 12 rfl
theorem Wd.F_leaves {K : PySem.W.Frag} {mg : Str → Option Value} (W : Wd K mg) : ∃ fd, FunD K d_leaves.name d_leaves.qual d_leaves.params d_leaves.body d_leaves.scope (d_leaves.dvs K) (d_leaves.kws K) (He.fAd K d_leaves.at_) fd := W.c.def_ 13 rfl
theorem Wd.F_leaves_behind {K : PySem.W.Frag} {mg : Str → Option Value} (W : Wd K mg) : ∃ fd, FunD K d_leaves_behind.name d_leaves_behind.qual d_leaves_behind.params d_leaves_behind.body d_leaves_behind.scope (d_leaves_behind.dvs K) (d_leaves_behind.kws K) (He.fAd K d_leaves_behind.at_) fd := W.c.def_ 14 rfl
theorem Wd.F_depth {K : PySem.W.Frag} {mg : Str → Option Value} (W : Wd K mg) : ∃ fd, FunD K d_depth.name d_depth.qual d_depth.params d_depth.body d_depth.scope (d_depth.dvs K) (d_depth.kws K) (He.fAd K d_depth.at_) fd := W.c.def_ 15 rfl
theorem Wd.F_pick {K : PySem.W.Frag} {mg : Str → Option Value} (W : Wd K mg) : ∃ fd, FunD K d_pick.name d_pick.qual d_pick.params d_pick.body d_pick.scope (d_pick.dvs K) (d_pick.kws K) (He.fAd K d_pick.at_) fd := W.c.def_ 16 rfl
theorem Wd.F_less {K : PySem.W.Frag} {mg : Str → Option Value} (W : Wd K mg) : ∃ fd, FunD K d_less.name d_less.qual d_less.params d_less.body d_less.scope (d_less.dvs K) (d_less.kws K) (He.fAd K d_less.at_) fd := W.c.def_ 17 rfl
theorem Wd.F_middle {K : PySem.W.Frag} {mg : Str → Option Value} (W : Wd K mg) : ∃ fd, FunD K d_middle.name d_middle.qual d_middle.params d_middle.body d_middle.scope (d_middle.dvs K) (d_middle.kws K) (He.fAd K d_middle.at_) fd := W.c.def_ 18 rfl
theorem Wd.F_worths {K : PySem.W.Frag} {mg : Str → Option Value} (W : Wd K mg) : ∃ fd, FunD K d_worths.name d_worths.qual d_worths.params d_worths.body d_worths.scope (d_worths.dvs K) (d_worths.kws K) (He.fAd K d_worths.at_) fd := W.c.def_ 19 rfl
theorem Wd.F_root {K : PySem.W.Frag} {mg : Str → Option Value} (W : Wd K mg) : ∃ fd, FunD K d_root.name d_root.qual d_root.params d_root.body d_root.scope (d_root.dvs K) (d_root.kws K) (He.fAd K d_root.at_) fd := W.c.def_ 20 rfl
theorem Wd.F_fixed {K : PySem.W.Frag} {mg : Str → Option Value} (W : Wd K mg) : ∃ fd, FunD K d_fixed.name d_fixed.qual d_fixed.params d_fixed.body d_fixed.scope (d_fixed.dvs K) (d_fixed.kws K) (He.fAd K d_fixed.at_) fd := W.c.def_ 21 rfl
theorem Wd.F_line {K : PySem.W.Frag} {mg : Str → Option Value} (W : Wd K mg) : ∃ fd, FunD K d_line.name d_line.qual d_line.params d_line.body d_line.scope (d_line.dvs K) (d_line.kws K) (He.fAd K d_line.at_) fd := W.c.def_ 22 rfl
theorem Wd.F_meet {K : PySem.W.Frag} {mg : Str → Option Value} (W : Wd K mg) : ∃ fd, FunD K d_meet.name d_meet.qual d_meet.params d_meet.body d_meet.scope (d_meet.dvs K) (d_meet.kws K) (He.fAd K d_meet.at_) fd := W.c.def_ 23 rfl
theorem Wd.F_plane {K : PySem.W.Frag} {mg : Str → Option Value} (W : Wd K mg) : ∃ fd, FunD K d_plane.name d_plane.qual d_plane.params d_plane.body d_plane.scope (d_plane.dvs K) (d_plane.kws K) (He.fAd K d_plane.at_) fd := W.c.def_ 24 rfl
theorem Wd.F_det {K : PySem.W.Frag} {mg : Str → Option Value} (W : Wd K mg) : ∃ fd, FunD K d_det.name d_det.qual d_det.params d_det.body d_det.scope (d_det.dvs K) (d_det.kws K) (He.fAd K d_det.at_) fd := W.c.def_ 25 rfl
theorem Wd.F_triple {K : PySem.W.Frag} {mg : Str → Option Value} (W : Wd K mg) : ∃ fd, FunD K d_triple.name d_triple.qual d_triple.params d_triple.body d_triple.scope (d_triple.dvs K) (d_triple.kws K) (He.fAd K d_triple.at_) fd := W.c.def_ 26 rfl
theorem Wd.F_room {K : PySem.W.Frag} {mg : Str → Option Value} (W : Wd K mg) : ∃ fd, FunD K d_room.name d_room.qual d_room.params d_room.body d_room.scope (d_room.dvs K) (d_room.kws K) (He.fAd K d_room.at_) fd := W.c.def_ 27 rfl
theorem Wd.F_faces {K : PySem.W.Frag} {mg : Str → Option Value} (W : Wd K mg) : ∃ fd, FunD K d_faces.name d_faces.qual d_faces.params d_faces.body d_faces.scope (d_faces.dvs K) (d_faces.kws K) (He.fAd K d_faces.at_) fd := W.c.def_ 28 rfl
theorem Wd.F_number {K : PySem.W.Frag} {mg : Str → Option Value} (W : Wd K mg) : ∃ fd, FunD K d_number.name d_number.qual d_number.params d_number.body d_number.scope (d_number.dvs K) (d_number.kws K) (He.fAd K d_number.at_) fd := W.c.def_ 29 rfl
theorem Wd.F_holds {K : PySem.W.Frag} {mg : Str → Option Value} (W : Wd K mg) : ∃ fd, FunD K d_holds.name d_holds.qual d_holds.params d_holds.body d_holds.scope (d_holds.dvs K) (d_holds.kws K) (He.fAd K d_holds.at_) fd := W.c.def_ 30 rfl
theorem Wd.F_ints {K : PySem.W.Frag} {mg : Str → Option Value} (W : Wd K mg) : ∃ fd, FunD K d_ints.name d_ints.qual d_ints.params d_ints.body d_ints.scope (d_ints.dvs K) (d_ints.kws K) (He.fAd K d_ints.at_) fd := W.c.def_ 31 rfl
theorem Wd.F_row {K : PySem.W.Frag} {mg : Str → Option Value} (W : Wd K mg) : ∃ fd, FunD K d_row.name d_row.qual d_row.params d_row.body d_row.scope (d_row.dvs K) (d_row.kws K) (He.fAd K d_row.at_) fd := W.c.def_ 32 rfl
theorem Wd.F_said {K : PySem.W.Frag} {mg : Str → Option Value} (W : Wd K mg) : ∃ fd, FunD K d_said.name d_said.qual d_said.params d_said.body d_said.scope (d_said.dvs K) (d_said.kws K) (He.fAd K d_said.at_) fd := W.c.def_ 33 rfl
theorem Wd.F_terms {K : PySem.W.Frag} {mg : Str → Option Value} (W : Wd K mg) : ∃ fd, FunD K d_terms.name d_terms.qual d_terms.params d_terms.body d_terms.scope (d_terms.dvs K) (d_terms.kws K) (He.fAd K d_terms.at_) fd := W.c.def_ 34 rfl
theorem Wd.F_passed {K : PySem.W.Frag} {mg : Str → Option Value} (W : Wd K mg) : ∃ fd, FunD K d_passed.name d_passed.qual d_passed.params d_passed.body d_passed.scope (d_passed.dvs K) (d_passed.kws K) (He.fAd K d_passed.at_) fd := W.c.def_ 35 rfl
theorem Wd.F_grown {K : PySem.W.Frag} {mg : Str → Option Value} (W : Wd K mg) : ∃ fd, FunD K d_grown.name d_grown.qual d_grown.params d_grown.body d_grown.scope (d_grown.dvs K) (d_grown.kws K) (He.fAd K d_grown.at_) fd := W.c.def_ 36 rfl
theorem Wd.F_of_terms {K : PySem.W.Frag} {mg : Str → Option Value} (W : Wd K mg) : ∃ fd, FunD K d_of_terms.name d_of_terms.qual d_of_terms.params d_of_terms.body d_of_terms.scope (d_of_terms.dvs K) (d_of_terms.kws K) (He.fAd K d_of_terms.at_) fd := W.c.def_ 37 rfl
theorem Wd.F_listed {K : PySem.W.Frag} {mg : Str → Option Value} (W : Wd K mg) : ∃ fd, FunD K d_listed.name d_listed.qual d_listed.params d_listed.body d_listed.scope (d_listed.dvs K) (d_listed.kws K) (He.fAd K d_listed.at_) fd := W.c.def_ 38 rfl
theorem Wd.F_rows_of {K : PySem.W.Frag} {mg : Str → Option Value} (W : Wd K mg) : ∃ fd, FunD K d_rows_of.name d_rows_of.qual d_rows_of.params d_rows_of.body d_rows_of.scope (d_rows_of.dvs K) (d_rows_of.kws K) (He.fAd K d_rows_of.at_) fd := W.c.def_ 39 rfl
theorem Wd.F_led {K : PySem.W.Frag} {mg : Str → Option Value} (W : Wd K mg) : ∃ fd, FunD K d_led.name d_led.qual d_led.params d_led.body d_led.scope (d_led.dvs K) (d_led.kws K) (He.fAd K d_led.at_) fd := W.c.def_ 40 rfl
theorem Wd.F_chain_right {K : PySem.W.Frag} {mg : Str → Option Value} (W : Wd K mg) : ∃ fd, FunD K d_chain_right.name d_chain_right.qual d_chain_right.params d_chain_right.body d_chain_right.scope (d_chain_right.dvs K) (d_chain_right.kws K) (He.fAd K d_chain_right.at_) fd := W.c.def_ 41 rfl
theorem Wd.F_law {K : PySem.W.Frag} {mg : Str → Option Value} (W : Wd K mg) : ∃ fd, FunD K d_law.name d_law.qual d_law.params d_law.body d_law.scope (d_law.dvs K) (d_law.kws K) (He.fAd K d_law.at_) fd := W.c.def_ 42 rfl
theorem Wd.F_Share_init {K : PySem.W.Frag} {mg : Str → Option Value} (W : Wd K mg) : ∃ fd, FunD K d_Share_init.name d_Share_init.qual d_Share_init.params d_Share_init.body d_Share_init.scope (d_Share_init.dvs K) (d_Share_init.kws K) (He.fAd K d_Share_init.at_) fd := W.c.def_ 43 rfl
theorem Wd.F_Share_eq {K : PySem.W.Frag} {mg : Str → Option Value} (W : Wd K mg) : ∃ fd, FunD K d_Share_eq.name d_Share_eq.qual d_Share_eq.params d_Share_eq.body d_Share_eq.scope (d_Share_eq.dvs K) (d_Share_eq.kws K) (He.fAd K d_Share_eq.at_) fd := W.c.def_ 44 rfl
theorem Wd.F_Share_add {K : PySem.W.Frag} {mg : Str → Option Value} (W : Wd K mg) : ∃ fd, FunD K d_Share_add.name d_Share_add.qual d_Share_add.params d_Share_add.body d_Share_add.scope (d_Share_add.dvs K) (d_Share_add.kws K) (He.fAd K d_Share_add.at_) fd := W.c.def_ 45 rfl
theorem Wd.F_Share_radd {K : PySem.W.Frag} {mg : Str → Option Value} (W : Wd K mg) : ∃ fd, FunD K d_Share_radd.name d_Share_radd.qual d_Share_radd.params d_Share_radd.body d_Share_radd.scope (d_Share_radd.dvs K) (d_Share_radd.kws K) (He.fAd K d_Share_radd.at_) fd := W.c.def_ 46 rfl
theorem Wd.F_Share_sub {K : PySem.W.Frag} {mg : Str → Option Value} (W : Wd K mg) : ∃ fd, FunD K d_Share_sub.name d_Share_sub.qual d_Share_sub.params d_Share_sub.body d_Share_sub.scope (d_Share_sub.dvs K) (d_Share_sub.kws K) (He.fAd K d_Share_sub.at_) fd := W.c.def_ 47 rfl
theorem Wd.F_Share_rsub {K : PySem.W.Frag} {mg : Str → Option Value} (W : Wd K mg) : ∃ fd, FunD K d_Share_rsub.name d_Share_rsub.qual d_Share_rsub.params d_Share_rsub.body d_Share_rsub.scope (d_Share_rsub.dvs K) (d_Share_rsub.kws K) (He.fAd K d_Share_rsub.at_) fd := W.c.def_ 48 rfl
theorem Wd.F_Share_mul {K : PySem.W.Frag} {mg : Str → Option Value} (W : Wd K mg) : ∃ fd, FunD K d_Share_mul.name d_Share_mul.qual d_Share_mul.params d_Share_mul.body d_Share_mul.scope (d_Share_mul.dvs K) (d_Share_mul.kws K) (He.fAd K d_Share_mul.at_) fd := W.c.def_ 49 rfl
theorem Wd.F_Share_rmul {K : PySem.W.Frag} {mg : Str → Option Value} (W : Wd K mg) : ∃ fd, FunD K d_Share_rmul.name d_Share_rmul.qual d_Share_rmul.params d_Share_rmul.body d_Share_rmul.scope (d_Share_rmul.dvs K) (d_Share_rmul.kws K) (He.fAd K d_Share_rmul.at_) fd := W.c.def_ 50 rfl
theorem Wd.F_Share_neg {K : PySem.W.Frag} {mg : Str → Option Value} (W : Wd K mg) : ∃ fd, FunD K d_Share_neg.name d_Share_neg.qual d_Share_neg.params d_Share_neg.body d_Share_neg.scope (d_Share_neg.dvs K) (d_Share_neg.kws K) (He.fAd K d_Share_neg.at_) fd := W.c.def_ 51 rfl
theorem Wd.F_Share_lt {K : PySem.W.Frag} {mg : Str → Option Value} (W : Wd K mg) : ∃ fd, FunD K d_Share_lt.name d_Share_lt.qual d_Share_lt.params d_Share_lt.body d_Share_lt.scope (d_Share_lt.dvs K) (d_Share_lt.kws K) (He.fAd K d_Share_lt.at_) fd := W.c.def_ 52 rfl
theorem Wd.F_Share_le {K : PySem.W.Frag} {mg : Str → Option Value} (W : Wd K mg) : ∃ fd, FunD K d_Share_le.name d_Share_le.qual d_Share_le.params d_Share_le.body d_Share_le.scope (d_Share_le.dvs K) (d_Share_le.kws K) (He.fAd K d_Share_le.at_) fd := W.c.def_ 53 rfl
theorem Wd.F_Share_gt {K : PySem.W.Frag} {mg : Str → Option Value} (W : Wd K mg) : ∃ fd, FunD K d_Share_gt.name d_Share_gt.qual d_Share_gt.params d_Share_gt.body d_Share_gt.scope (d_Share_gt.dvs K) (d_Share_gt.kws K) (He.fAd K d_Share_gt.at_) fd := W.c.def_ 54 rfl
theorem Wd.F_Share_ge {K : PySem.W.Frag} {mg : Str → Option Value} (W : Wd K mg) : ∃ fd, FunD K d_Share_ge.name d_Share_ge.qual d_Share_ge.params d_Share_ge.body d_Share_ge.scope (d_Share_ge.dvs K) (d_Share_ge.kws K) (He.fAd K d_Share_ge.at_) fd := W.c.def_ 55 rfl
theorem Wd.F_Term_init {K : PySem.W.Frag} {mg : Str → Option Value} (W : Wd K mg) : ∃ fd, FunD K d_Term_init.name d_Term_init.qual d_Term_init.params d_Term_init.body d_Term_init.scope (d_Term_init.dvs K) (d_Term_init.kws K) (He.fAd K d_Term_init.at_) fd := W.c.def_ 56 rfl
theorem Wd.F_Term_eq {K : PySem.W.Frag} {mg : Str → Option Value} (W : Wd K mg) : ∃ fd, FunD K d_Term_eq.name d_Term_eq.qual d_Term_eq.params d_Term_eq.body d_Term_eq.scope (d_Term_eq.dvs K) (d_Term_eq.kws K) (He.fAd K d_Term_eq.at_) fd := W.c.def_ 57 rfl
theorem Wd.F_Term_add {K : PySem.W.Frag} {mg : Str → Option Value} (W : Wd K mg) : ∃ fd, FunD K d_Term_add.name d_Term_add.qual d_Term_add.params d_Term_add.body d_Term_add.scope (d_Term_add.dvs K) (d_Term_add.kws K) (He.fAd K d_Term_add.at_) fd := W.c.def_ 58 rfl
theorem Wd.F_Term_radd {K : PySem.W.Frag} {mg : Str → Option Value} (W : Wd K mg) : ∃ fd, FunD K d_Term_radd.name d_Term_radd.qual d_Term_radd.params d_Term_radd.body d_Term_radd.scope (d_Term_radd.dvs K) (d_Term_radd.kws K) (He.fAd K d_Term_radd.at_) fd := W.c.def_ 59 rfl
theorem Wd.F_Term_sub {K : PySem.W.Frag} {mg : Str → Option Value} (W : Wd K mg) : ∃ fd, FunD K d_Term_sub.name d_Term_sub.qual d_Term_sub.params d_Term_sub.body d_Term_sub.scope (d_Term_sub.dvs K) (d_Term_sub.kws K) (He.fAd K d_Term_sub.at_) fd := W.c.def_ 60 rfl
theorem Wd.F_Term_rsub {K : PySem.W.Frag} {mg : Str → Option Value} (W : Wd K mg) : ∃ fd, FunD K d_Term_rsub.name d_Term_rsub.qual d_Term_rsub.params d_Term_rsub.body d_Term_rsub.scope (d_Term_rsub.dvs K) (d_Term_rsub.kws K) (He.fAd K d_Term_rsub.at_) fd := W.c.def_ 61 rfl
theorem Wd.F_Term_mul {K : PySem.W.Frag} {mg : Str → Option Value} (W : Wd K mg) : ∃ fd, FunD K d_Term_mul.name d_Term_mul.qual d_Term_mul.params d_Term_mul.body d_Term_mul.scope (d_Term_mul.dvs K) (d_Term_mul.kws K) (He.fAd K d_Term_mul.at_) fd := W.c.def_ 62 rfl
theorem Wd.F_Term_rmul {K : PySem.W.Frag} {mg : Str → Option Value} (W : Wd K mg) : ∃ fd, FunD K d_Term_rmul.name d_Term_rmul.qual d_Term_rmul.params d_Term_rmul.body d_Term_rmul.scope (d_Term_rmul.dvs K) (d_Term_rmul.kws K) (He.fAd K d_Term_rmul.at_) fd := W.c.def_ 63 rfl
theorem Wd.F_Term_neg {K : PySem.W.Frag} {mg : Str → Option Value} (W : Wd K mg) : ∃ fd, FunD K d_Term_neg.name d_Term_neg.qual d_Term_neg.params d_Term_neg.body d_Term_neg.scope (d_Term_neg.dvs K) (d_Term_neg.kws K) (He.fAd K d_Term_neg.at_) fd := W.c.def_ 64 rfl
theorem Wd.F_Term_lt {K : PySem.W.Frag} {mg : Str → Option Value} (W : Wd K mg) : ∃ fd, FunD K d_Term_lt.name d_Term_lt.qual d_Term_lt.params d_Term_lt.body d_Term_lt.scope (d_Term_lt.dvs K) (d_Term_lt.kws K) (He.fAd K d_Term_lt.at_) fd := W.c.def_ 65 rfl
theorem Wd.F_Term_le {K : PySem.W.Frag} {mg : Str → Option Value} (W : Wd K mg) : ∃ fd, FunD K d_Term_le.name d_Term_le.qual d_Term_le.params d_Term_le.body d_Term_le.scope (d_Term_le.dvs K) (d_Term_le.kws K) (He.fAd K d_Term_le.at_) fd := W.c.def_ 66 rfl
theorem Wd.F_Term_gt {K : PySem.W.Frag} {mg : Str → Option Value} (W : Wd K mg) : ∃ fd, FunD K d_Term_gt.name d_Term_gt.qual d_Term_gt.params d_Term_gt.body d_Term_gt.scope (d_Term_gt.dvs K) (d_Term_gt.kws K) (He.fAd K d_Term_gt.at_) fd := W.c.def_ 67 rfl
theorem Wd.F_Term_ge {K : PySem.W.Frag} {mg : Str → Option Value} (W : Wd K mg) : ∃ fd, FunD K d_Term_ge.name d_Term_ge.qual d_Term_ge.params d_Term_ge.body d_Term_ge.scope (d_Term_ge.dvs K) (d_Term_ge.kws K) (He.fAd K d_Term_ge.at_) fd := W.c.def_ 68 rfl
theorem Wd.F_Term_at {K : PySem.W.Frag} {mg : Str → Option Value} (W : Wd K mg) : ∃ fd, FunD K d_Term_at.name d_Term_at.qual d_Term_at.params d_Term_at.body d_Term_at.scope (d_Term_at.dvs K) (d_Term_at.kws K) (He.fAd K d_Term_at.at_) fd := W.c.def_ 69 rfl
theorem Wd.F_Row_init {K : PySem.W.Frag} {mg : Str → Option Value} (W : Wd K mg) : ∃ fd, FunD K d_Row_init.name d_Row_init.qual d_Row_init.params d_Row_init.body d_Row_init.scope (d_Row_init.dvs K) (d_Row_init.kws K) (He.fAd K d_Row_init.at_) fd := W.c.def_ 70 rfl
theorem Wd.F_Row_holds {K : PySem.W.Frag} {mg : Str → Option Value} (W : Wd K mg) : ∃ fd, FunD K d_Row_holds.name d_Row_holds.qual d_Row_holds.params d_Row_holds.body d_Row_holds.scope (d_Row_holds.dvs K) (d_Row_holds.kws K) (He.fAd K d_Row_holds.at_) fd := W.c.def_ 71 rfl
theorem Wd.F_Row_eq {K : PySem.W.Frag} {mg : Str → Option Value} (W : Wd K mg) : ∃ fd, FunD K d_Row_eq.name d_Row_eq.qual d_Row_eq.params d_Row_eq.body d_Row_eq.scope (d_Row_eq.dvs K) (d_Row_eq.kws K) (He.fAd K d_Row_eq.at_) fd := W.c.def_ 72 rfl
theorem Wd.F_Term_constant {K : PySem.W.Frag} {mg : Str → Option Value} (W : Wd K mg) : ∃ fd, FunD K d_Term_constant.name d_Term_constant.qual d_Term_constant.params d_Term_constant.body d_Term_constant.scope (d_Term_constant.dvs K) (d_Term_constant.kws K) (d_Term_constant.at_ K) fd := W.stat 0 rfl
theorem Wd.F_Term_unknown {K : PySem.W.Frag} {mg : Str → Option Value} (W : Wd K mg) : ∃ fd, FunD K d_Term_unknown.name d_Term_unknown.qual d_Term_unknown.params d_Term_unknown.body d_Term_unknown.scope (d_Term_unknown.dvs K) (d_Term_unknown.kws K) (d_Term_unknown.at_ K) fd := W.stat 1 rfl
def loose1 : List PySem.Str := ["LessError", "NoShare", "NoUnknown", "NotStraight", "Row", "Share", "Term", "UNKNOWNS", "_law_chain_right", "_law_det", "_law_draw", "_law_faces", "_law_fixed", "_law_grown", "_law_holds", "_law_ints", "_law_led", "_law_less", "_law_line", "_law_listed", "_law_meet", "_law_middle", "_law_number", "_law_of_terms", "_law_passed", "_law_pick"]
def loose2 : List PySem.Str := ["_law_plane", "_law_room", "_law_root", "_law_row", "_law_rows_of", "_law_said", "_law_same", "_law_source", "_law_terms", "_law_triple", "_law_worths", "_wall", "depth", "digits", "divisor", "excess", "fraction", "is_integer", "is_number", "leaves", "leaves_behind", "scale", "share_of", "side", "term_of", "walk"]
abbrev R : PySem.W.OpenRow := PySem.W.OpenLaw.row PySem.Challenge.rw_lessways_k10_leaves_depth_walk
def lawAt : Nat := 58
section
variable {K : PySem.W.Frag} {mg : Str → Option Value}
theorem Wd.e_firstShare (W : Wd K mg) : (fun K => PySem.W.selfFirst K (He.ga K "Share")) K = true := W.ex 32 rfl
theorem Wd.e_notIntShare (W : Wd K mg) : (fun K => decide (PySem.W.mroIn K (He.ga K "Share") (.type "int") = some false)) K = true := W.ex 33 rfl
theorem Wd.e_intNotShare (W : Wd K mg) : (fun K => decide (PySem.W.subIn K (.type "int") (.ref (He.ga K "Share")) = some false)) K = true := W.ex 34 rfl
theorem Wd.e_mro2Share (W : Wd K mg) : (fun K => OpX.mro2B K (He.ga K "Share")) K = true := W.ex 35 rfl
theorem Wd.e_opShareadd (W : Wd K mg) : (fun K => OpX.opB K (He.ga K "Share") "add") K = true := W.ex 36 rfl
theorem Wd.e_opSharesub (W : Wd K mg) : (fun K => OpX.opB K (He.ga K "Share") "sub") K = true := W.ex 37 rfl
theorem Wd.e_opSharemul (W : Wd K mg) : (fun K => OpX.opB K (He.ga K "Share") "mul") K = true := W.ex 38 rfl
theorem Wd.e_firstTerm (W : Wd K mg) : (fun K => PySem.W.selfFirst K (He.ga K "Term")) K = true := W.ex 39 rfl
theorem Wd.e_notIntTerm (W : Wd K mg) : (fun K => decide (PySem.W.mroIn K (He.ga K "Term") (.type "int") = some false)) K = true := W.ex 40 rfl
theorem Wd.e_intNotTerm (W : Wd K mg) : (fun K => decide (PySem.W.subIn K (.type "int") (.ref (He.ga K "Term")) = some false)) K = true := W.ex 41 rfl
theorem Wd.e_mro2Term (W : Wd K mg) : (fun K => OpX.mro2B K (He.ga K "Term")) K = true := W.ex 42 rfl
theorem Wd.e_opTermadd (W : Wd K mg) : (fun K => OpX.opB K (He.ga K "Term") "add") K = true := W.ex 43 rfl
theorem Wd.e_opTermsub (W : Wd K mg) : (fun K => OpX.opB K (He.ga K "Term") "sub") K = true := W.ex 44 rfl
theorem Wd.e_opTermmul (W : Wd K mg) : (fun K => OpX.opB K (He.ga K "Term") "mul") K = true := W.ex 45 rfl
theorem Wd.e_clsRow (W : Wd K mg) : (fun K => He.eqO (PySem.W.findIn K (.ref (He.ga K "Row")) "__class__") (some (some (.builtin "object.__class__")))) K = true := W.ex 46 rfl
theorem Wd.e_objRow (W : Wd K mg) : (fun K => decide (PySem.W.mroIn K (He.ga K "Row") (.type "object") = some true)) K = true := W.ex 47 rfl
theorem Wd.e_kitRow (W : Wd K mg) : (fun K => decide (PySem.W.kitOne K (.ref (He.ga K "Row")) (.ref (He.ga K "Row")) = some true)) K = true := W.ex 48 rfl
theorem Wd.e_cmpRow (W : Wd K mg) : (fun K => CmX.cmpB K (He.ga K "Row")) K = true := W.ex 49 rfl
theorem Wd.e_kitBR (W : Wd K mg) : (fun K => CmX.names7.all fun T => decide (PySem.W.kitOne K (.type T) (.ref (He.ga K "Row")) = some false)) K = true := W.ex 50 rfl
theorem Wd.e_kitTR (W : Wd K mg) : (fun K => decide (PySem.W.kitOne K (.ref (He.ga K "Term")) (.ref (He.ga K "Row")) = some false)) K = true := W.ex 51 rfl
theorem Wd.e_subTR (W : Wd K mg) : (fun K => decide (PySem.W.subIn K (.ref (He.ga K "Term")) (.ref (He.ga K "Row")) = some false)) K = true := W.ex 52 rfl
theorem Wd.e_bTerm (W : Wd K mg) : (fun K => ["int", "bool", "list", "tuple"].all fun T => decide (PySem.W.kitOne K (.ref (He.ga K "Term")) (.type T) = some false)) K = true := W.ex 53 rfl
theorem Wd.e_bRow (W : Wd K mg) : (fun K => ["int", "bool", "list", "tuple"].all fun T => decide (PySem.W.kitOne K (.ref (He.ga K "Row")) (.type T) = some false)) K = true := W.ex 54 rfl
end
def big9 : Nat := 2 ^ 8999
def bigM : Nat := 2 ^ 400000
section
variable {X : Cx}
/-- // by a divisor that is not 0, below 2 ^ 9000 either way -/
theorem op_fdivX : OpR X (binaryOp .FloorDiv) (rI (fun _ j => j ≠ 0 ∧ j.natAbs < big9) fun i j => .int (i.fdiv j)) := opI fun i j _ _ _ _ _ hc q => by
  exact floordiv_int hc.1 q (.inl (PyProof.noPylong_of_log2 (Nat.lt_of_lt_of_le (PySem.Flt.log2_lt_of (by decide) hc.2) (by decide))))
theorem call_intI : CallR X (.type "int") (fun xs H Q => ∃ i, xs = [.int i] ∧ Q (.int i) H) := fun pins s σ H xs us Q I r h => by
  obtain ⟨i, e, q⟩ := h
  exact call_int1 pins s σ H xs us Q I r (.inl ⟨i, e, q⟩)
theorem op_mulX9 : OpR X (binaryOp .Mult) (rI (fun i j => i.natAbs < bigM ∧ j.natAbs < bigM) fun i j => .int (i * j)) := opI fun i j _ _ _ _ _ hc q => by
  refine mul_int q (CMulW.ok (wide_mul hc.1 hc.2 (by omega) (by omega) (by omega)))
end
def rIxLH : R2 := fun x y H Q => ∃ (p : Addr) (xs : List V) (i : Int) (v : V), x = .ref p ∧ y = .int i ∧ H p = some (.lst xs) ∧ atI xs i = some v ∧ Q v H
def rIxTH : R2 := fun x y H Q => ∃ (p : Addr) (xs : List V) (i : Int) (v : V), x = .ref p ∧ y = .int i ∧ H p = some (.tup xs) ∧ atI xs i = some v ∧ Q v H
section
variable {X : Cx}
theorem ix_lstH : IxR X rIxLH := by
  intro value slice pins s σ H x y v u Q I rx ry h hs
  obtain ⟨p, xs, i, z, e1, e2, hp, a, q⟩ := h
  exact ix_list value slice pins s σ H x y v u Q I rx ry ⟨p, xs, i, z, e1, e2, SqL.of hp, a, q⟩ hs
theorem ix_tupH : IxR X rIxTH := by
  intro value slice pins s σ H x y v u Q I rx ry h hs
  obtain ⟨p, xs, i, z, e1, e2, hp, a, q⟩ := h
  exact ix_tup value slice pins s σ H x y v u Q I rx ry ⟨p, xs, i, z, e1, e2, SqT.of hp, a, q⟩ hs
end
theorem cxK {CX : CXT} {P : Program} {w : World} {K : PySem.W.Frag} {mg : Str → Option Value} {base : Heap} {N : List Str} {qual : Str} {scope : Scope} {f : Addr} {cd : Value} {A : Around} {outer : List Env} {s : Shared} {H : Hp} {E : XK} :
    (cxOf CX P w K mg base N qual scope f cd A outer s H E).K = K := rfl
/-- the size of the int in slot i -/
def intAt (i : Nat) (σ : List (Option V)) : Nat := match σ[i]? with
  | some (some (V.int x)) => x.natAbs
  | _ => 0
theorem ex2 {α β : Type} {a : α} {b : β} {P : α → β → Prop} : (∃ x y, (a = x ∧ b = y) ∧ P x y) ↔ P a b := ⟨fun ⟨_, _, ⟨e1, e2⟩, h⟩ => by subst e1 e2; exact h, fun h => ⟨_, _, ⟨rfl, rfl⟩, h⟩⟩
theorem ex3 {α β γ : Type} {a : α} {b : β} {c : γ} {P : α → β → γ → Prop} : (∃ x y z, (a = x ∧ b = y ∧ c = z) ∧ P x y z) ↔ P a b c := ⟨fun ⟨_, _, _, ⟨e1, e2, e3⟩, h⟩ => by subst e1 e2 e3; exact h, fun h => ⟨_, _, _, ⟨rfl, rfl, rfl⟩, h⟩⟩
theorem ex3b {α β γ : Type} {a : α} {b : β} {c : γ} {P : α → β → γ → Prop} : (∃ x y z, (a = x ∧ b = y ∧ z = c) ∧ P x y z) ↔ P a b c := ⟨fun ⟨_, _, _, ⟨e1, e2, e3⟩, h⟩ => by subst e1 e2 e3; exact h, fun h => ⟨_, _, _, ⟨rfl, rfl, rfl⟩, h⟩⟩
universe u
/-- what a is locked with: behind it simp leaves a be -/
structure Lk {α : Sort u} (a : α) : Type
/-- a new object: what follows holds of it and of the heap with it -/
def Alloc (H : Hp) (o : HO) (Q : V → Hp → Prop) (_ : Lk Q := ⟨⟩) : Prop := ∀ p, H p = none → Q (.ref p) (upd H p o)
theorem same_upd {H : Hp} {p : Addr} {o : HO} (h : H p = none) : Same H (upd H p o) := fun b u e => by
  rw [upd_ne (ne_of_none e h)]
  exact e
theorem Alloc.of {H : Hp} {o : HO} {Q : V → Hp → Prop} (h : ∀ p H', H p = none → H' p = some o → Same H H' → Q (.ref p) H') : Alloc H o Q := fun p hp => h p _ hp upd_same (same_upd hp)
theorem tLst_A {t : TA} {σ : List (Option V)} {H : Hp} {Q : V → Hp → Prop} : tLst t σ H Q = t σ H fun xs H1 => xs.length ≤ sizeLine ∧ Alloc H1 (.lst xs) Q := rfl
theorem tTup_A {t : TA} {σ : List (Option V)} {H : Hp} {Q : V → Hp → Prop} : tTup t σ H Q = t σ H fun xs H1 => xs.length ≤ sizeLine ∧ Alloc H1 (.tup xs) Q := rfl
/-! ### the draws -/
section
variable {P : Program} {w : World} {K : PySem.W.Frag} {mg : Str → Option Value} {base : Heap}
def draws (d0 d1 d2 : Int) : HO := .lst [.int d0, .int d1, .int d2]
theorem scSource : FnScope ["_law_script", "_law_at", "_law_cell"] ["_law_script", "_law_at"] d_source.scope := ⟨rfl, rfl, rfl, by decide +kernel, rfl, by decide +kernel, by decide +kernel⟩
def spSource (K : PySem.W.Frag) : Sp := fun vs H Q _ => ∃ (a : Addr) (ns : List Int) (k : Nat), vs = [.ref a, .int k] ∧ SqL K H a (ns.map V.int) ∧ k < 100 ∧ ∀ (d0 d1 : Int) (p : Addr), H p = none → Q (.ref p) (upd H p (draws d0 d1 0))
theorem le3 : 3 ≤ sizeLine := by decide
theorem ok_source (W : Wd K mg) : ∃ fd, FnOk P w K mg base CX0 1 (He.ga K "_law_source") fd ["_law_script", "_law_at"] (spSource K) ∧ Binds K fd ["_law_script", "_law_at"] [] := by
  obtain ⟨fd, F⟩ := W.F_source
  refine ⟨fd, F.ok scSource (fun vs H Q E h => ?_) (fun cdv A outer s H vs Q E hr h => ?_), FunD.bindsN F fun _ _ _ _ _ _ us hl => match us, hl with | [_, _], _ => rfl⟩
  · obtain ⟨a, ns, k, rfl, _⟩ := h
    rfl
  · obtain ⟨a, ns, k, rfl, hS, hk, q⟩ := h
    refine ⟨_, PSs.nox (pss_cons (ps_set (i := 2) scSource.nd rfl (Or.inl rfl) (pe_ifExp (pt_cmpR op_lt (pv 1) (pe_callB call_len_seq (by rfl) W.f_len boot_len (pa_cons (pv 0) pa_nil)) (nomark _)) (pe_ix ix_list (pv 0) (pv 1) (fun _ _ => rfl)) (pe_op op_add (pe_op op_mul pe_int (pv 1)) pe_int)))
      (pss_one (ps_ret (pe_lst (pa_cons (pe_ifExp (pt_cmpR op_ge (pv 2) (pe_op op_pow pe_int pe_int) (nomark _)) (pv 2) pe_int) (pa_cons (pe_op op_mod (pe_callTy call_intI (by rfl) W.f_int (by decide +kernel) (pa_cons (pv 2) pa_nil)) pe_int) (pa_cons pe_int pa_nil))))))), ?_⟩
    simp -dsimp [tSeq, tAsg, tRet, tIfS, tIf, tTest, tVar, tCons, tNil, tC, tOp, tUn, rI, rI0, rU, tCB, tLst_A, tTup_A, gName, L2.start, CMul, CPow, CDiv, tDrop, tBM, tBM0, tNext, tPar, gSub, rSetL, rIxL, rIxT, tChain, tB, tNot, tNotV, tAnd, tOr, tAndV, tOrV, tFld, tCall, rIxLH, rIxTH, ixN, upd_same, cxK, ex2, ex3, ex3b]
    refine ⟨ns.map V.int, .inl hS, ?_⟩
    split
    · rename_i hk'
      obtain ⟨z, hz⟩ : ∃ z : Int, (ns.map V.int)[k]? = some (V.int z) := by
        rw [List.length_map] at hk'
        exact ⟨ns[k], by rw [List.getElem?_map, List.getElem?_eq_getElem hk']; rfl⟩
      refine ⟨_, hS, _, atI_nat hz, ?_⟩
      simp -dsimp [tSeq, tAsg, tRet, tIfS, tIf, tTest, tVar, tCons, tNil, tC, tOp, tUn, rI, rI0, rU, tCB, tLst_A, tTup_A, gName, L2.start, CMul, CPow, CDiv, tDrop, tBM, tBM0, tNext, tPar, gSub, rSetL, rIxL, rIxT, tChain, tB, tNot, tNotV, tAnd, tOr, tAndV, tOrV, tFld, tCall, rIxLH, rIxTH, atI, ixN, upd_same, cxK, ex2, ex3, ex3b]
      split <;> exact ⟨le3, fun p hp => q _ _ p hp⟩
    · split <;> exact ⟨le3, fun p hp => q _ _ p hp⟩
theorem scDraw : FnScope ["_law_draws", "_law_many", "_law_found"] ["_law_draws", "_law_many"] d_draw.scope := ⟨rfl, rfl, rfl, by decide +kernel, rfl, by decide +kernel, by decide +kernel⟩
def spDraw (K : PySem.W.Frag) : Sp := fun vs H Q _ => ∃ (l : Addr) (d0 d1 d2 m : Int), vs = [.ref l, .int m] ∧ H l = some (draws d0 d1 d2) ∧ 0 < m ∧ m.natAbs < 2 ^ 64 ∧ ∀ (r e0 e1 e2 : Int), 0 ≤ r → r < m → Q (.int r) (upd H l (draws e0 e1 e2))
theorem ok_draw (W : Wd K mg) : ∃ fd, FnOk P w K mg base CX0 1 (He.ga K "_law_draw") fd ["_law_draws", "_law_many"] (spDraw K) ∧ Binds K fd ["_law_draws", "_law_many"] [] := by
  obtain ⟨fd, F⟩ := W.F_draw
  refine ⟨fd, F.ok scDraw (fun vs H Q E h => ?_) (fun cdv A outer s H vs Q E hr h => ?_), FunD.bindsN F fun _ _ _ _ _ _ us hl => match us, hl with | [_, _], _ => rfl⟩
  · obtain ⟨a, d0, d1, d2, m, rfl, _⟩ := h
    rfl
  · obtain ⟨l, d0, d1, d2, m, rfl, hl, h0, hm, q⟩ := h
    refine ⟨_, PSs.nox (pss_cons (ps_if (pt_cmpR op_gt (pe_ix ix_lstH (pv 0) pe_int (fun _ _ => rfl)) pe_int (nomark _))
        (pss_cons (ps_set (i := 2) scDraw.nd rfl (Or.inl rfl) (pe_op op_mod (pe_callTy call_intI (by rfl) W.f_int (by decide +kernel) (pa_cons (pe_ix ix_lstH (pv 0) pe_int (fun _ _ => rfl)) pa_nil)) (pv 1)))
        (pss_cons (ps_asg (pe_op op_fdivW (pe_ix ix_lstH (pv 0) pe_int (fun _ _ => rfl)) (pv 1)) (pg_sub (pv 0) pe_int set_list))
        (pss_one (ps_ret (pv 2))))) pss_nil)
      (pss_cons (ps_asg (pe_op op_add (pe_ix ix_lstH (pv 0) pe_int (fun _ _ => rfl)) pe_int) (pg_sub (pv 0) pe_int set_list))
      (pss_cons (ps_asg (pe_op op_mod (pe_callTy call_intI (by rfl) W.f_int (by decide +kernel) (pa_cons (pe_op op_add (pe_op op_add (pe_op op_mul (pe_ix ix_lstH (pv 0) pe_int (fun _ _ => rfl)) pe_int) (pe_op op_mul (pe_ix ix_lstH (pv 0) pe_int (fun _ _ => rfl)) pe_int)) pe_int) pa_nil)) pe_int) (pg_sub (pv 0) pe_int set_list))
      (pss_one (ps_ret (pe_op op_mod (pe_callTy call_intI (by rfl) W.f_int (by decide +kernel) (pa_cons (pe_op op_add (pe_op op_fdiv (pe_ix ix_lstH (pv 0) pe_int (fun _ _ => rfl)) pe_int) (pe_ix ix_lstH (pv 0) pe_int (fun _ _ => rfl))) pa_nil)) (pv 1))))))), ?_⟩
    simp -dsimp [tSeq, tAsg, tRet, tIfS, tIf, tTest, tVar, tCons, tNil, tC, tOp, tUn, rI, rI0, rU, tCB, tLst_A, tTup_A, gName, L2.start, CMul, CPow, CDiv, tDrop, tBM, tBM0, tNext, tPar, gSub, rSetL, rIxL, rIxT, tChain, tB, tNot, tNotV, tAnd, tOr, tAndV, tOrV, tFld, tCall, rIxLH, rIxTH, atI, ixN, upd_same, cxK, ex2, ex3, ex3b, hl, draws]
    split
    · exact ⟨h0, ⟨h0, Nat.lt_of_lt_of_le (PySem.Flt.log2_lt_of (by decide) hm) (by decide)⟩, q _ _ _ _ (Int.emod_nonneg _ (by omega)) (Int.emod_lt_of_pos _ h0)⟩
    · rw [upd_upd]
      exact ⟨h0, q _ _ _ _ (Int.emod_nonneg _ (by omega)) (Int.emod_lt_of_pos _ h0)⟩
end
section
variable {P : Program} {w : World} {K : PySem.W.Frag} {mg : Str → Option Value} {base : Heap}
theorem le2 : 2 ≤ sizeLine := by decide
def side (a b : Int) : Int := if b > 0 then (Int.gcd a b : Int) else -(Int.gcd a b : Int)
end
section
variable {P : Program} {w : World} {K : PySem.W.Frag} {mg : Str → Option Value} {base : Heap}
theorem scDivisor : FnScope ["one", "other"] ["one", "other"] d_divisor.scope := ⟨rfl, rfl, rfl, by decide +kernel, rfl, by decide +kernel, by decide +kernel⟩
def spDivisor (K : PySem.W.Frag) : Sp := fun vs H Q _ => ∃ (a b : Int), vs = [.int a, .int b] ∧ Q (.int (Int.gcd a b : Int)) H
theorem fmod_lt (x y : Int) (h : y ≠ 0) : (x.fmod y).natAbs < y.natAbs := by
  rcases Int.lt_or_gt_of_ne h with h1 | h1
  · have e := (Int.fdiv_fmod_unique' (a := x) (b := y) (r := x.fmod y) (q := x.fdiv y) h1).mp ⟨rfl, rfl⟩
    omega
  · have e := (Int.fdiv_fmod_unique (a := x) (b := y) (r := x.fmod y) (q := x.fdiv y) h1).mp ⟨rfl, rfl⟩
    omega
theorem ok_divisor (W : Wd K mg) : ∃ fd, FnOk P w K mg base CX0 1 (He.ga K "divisor") fd ["one", "other"] (spDivisor K) ∧ Binds K fd ["one", "other"] [] := by
  obtain ⟨fd, F⟩ := W.F_divisor
  refine ⟨fd, F.ok scDivisor (fun vs H Q E h => ?_) (fun cdv A outer s H vs Q E hr h => ?_), FunD.bindsN F fun _ _ _ _ _ _ us hl => match us, hl with | [_, _], _ => rfl⟩
  · obtain ⟨a, b, rfl, _⟩ := h
    rfl
  · obtain ⟨a, b, rfl, q⟩ := h
    refine ⟨_, PSs.nox (pss_cons (ps_while PassesOwn.never (pt_cmpR op_ne (pv 1) pe_int (nomark _))
        (pss_one (ps_par (i := 0) (j := 1) rfl scDivisor.nd rfl rfl (by decide) rfl rfl (pa_cons (pv 1) (pa_cons (pe_op op_modN (pv 0) (pv 1)) pa_nil)) rfl)))
      (pss_one (ps_ret (pe_callB call_abs (by rfl) W.f_abs (by decide +kernel) (pa_cons (pv 0) pa_nil))))), ?_⟩
    simp -dsimp [tSeq, tAsg, tRet, tIfS, tIf, tTest, tVar, tCons, tNil, tC, tOp, tUn, rI, rI0, rU, tCB, tLst_A, tTup_A, gName, L2.start, CMul, CPow, CDiv, tDrop, tBM, tBM0, tNext, tPar, gSub, rSetL, rIxL, rIxT, tChain, tB, tNot, tNotV, tAnd, tOr, tAndV, tOrV, tFld, tCall, rIxLH, rIxTH, atI, ixN, upd_same, cxK, ex2, ex3, ex3b]
    refine while_by (fun σ H' => H' = H ∧ ∃ x y : Int, σ = [some (.int x), some (.int y)] ∧ Int.gcd x y = Int.gcd a b) (fun σ _ => intAt 1 σ) ⟨rfl, _, _, rfl, rfl⟩ ?_ ?_
    · rintro σ H1 ⟨rfl, x, y, rfl, g⟩
      by_cases hp : y = 0
      · subst hp
        simp -dsimp [tSeq, tAsg, tRet, tIfS, tIf, tTest, tVar, tCons, tNil, tC, tOp, tUn, rI, rI0, rU, tCB, tLst_A, tTup_A, gName, L2.start, CMul, CPow, CDiv, tDrop, tBM, tBM0, tNext, tPar, gSub, rSetL, rIxL, rIxT, tChain, tB, tNot, tNotV, tAnd, tOr, tAndV, tOrV, tFld, tCall, rIxLH, rIxTH, atI, ixN, upd_same, cxK, ex2, ex3, ex3b, rNe, scal]
        rw [Int.gcd_zero] at g
        have : (if x < 0 then -x else x) = (Int.gcd a b : Int) := by
          rw [← g]
          split <;> omega
        rw [this]
        exact q
      · simp -dsimp [tSeq, tAsg, tRet, tIfS, tIf, tTest, tVar, tCons, tNil, tC, tOp, tUn, rI, rI0, rU, tCB, tLst_A, tTup_A, gName, L2.start, CMul, CPow, CDiv, tDrop, tBM, tBM0, tNext, tPar, gSub, rSetL, rIxL, rIxT, tChain, tB, tNot, tNotV, tAnd, tOr, tAndV, tOrV, tFld, tCall, rIxLH, rIxTH, atI, ixN, upd_same, cxK, ex2, ex3, ex3b, rNe, scal, hp]
        refine ⟨?_, ?_⟩
        · rw [Int.fmod_def, Int.gcd_comm, Int.gcd_sub_mul_left_left, g]
        · simp -dsimp [tSeq, tAsg, tRet, tIfS, tIf, tTest, tVar, tCons, tNil, tC, tOp, tUn, rI, rI0, rU, tCB, tLst_A, tTup_A, gName, L2.start, CMul, CPow, CDiv, tDrop, tBM, tBM0, tNext, tPar, gSub, rSetL, rIxL, rIxT, tChain, tB, tNot, tNotV, tAnd, tOr, tAndV, tOrV, tFld, tCall, rIxLH, rIxTH, atI, ixN, upd_same, cxK, ex2, ex3, ex3b, intAt]
          exact fmod_lt x y hp
    · rintro σ H' Q Q' h ⟨v, e, e1, k, e3, q⟩
      exact ⟨v, e, e1, k, e3, h _ _ q⟩
/-- a share: its class, its own dict, its numbers -/
def shareO (C dx : Addr) (t b : Int) : HO := .ins C dx [("top", .int t), ("bottom", .int b)]
theorem scInit : FnScope ["self", "top", "bottom", "common"] ["self", "top", "bottom"] d_Share_init.scope := ⟨rfl, rfl, rfl, by decide +kernel, rfl, by decide +kernel, by decide +kernel⟩
def spInit (K : PySem.W.Frag) : Sp := fun vs H Q _ => ∃ (x dx : Addr) (a b : Int), vs = [.ref x, .int a, .int b] ∧ H x = some (.ins (He.ga K "Share") dx []) ∧ b ≠ 0 ∧ b.natAbs < big9 ∧ Q .non (upd H x (shareO (He.ga K "Share") dx (a.fdiv (side a b)) (b.fdiv (side a b))))
theorem ok_init (W : Wd K mg) : ∃ fd, FnOk P w K mg base CX0 2 (He.ma K (He.ga K "Share") "__init__") fd ["self", "top", "bottom"] (spInit K) ∧ FunD K d_Share_init.name d_Share_init.qual d_Share_init.params d_Share_init.body d_Share_init.scope (d_Share_init.dvs K) (d_Share_init.kws K) (He.fAd K d_Share_init.at_) fd := by
  obtain ⟨fd, F⟩ := W.F_Share_init
  obtain ⟨fdD, G, bG⟩ := ok_divisor (P := P) (w := w) (base := base) W
  have kD : PySem.W.keepIn K (.ref (He.ga K "divisor")) = true := by
    obtain ⟨fd, F⟩ := W.F_divisor
    exact F.kp
  refine ⟨fd, F.ok scInit (fun vs H Q E h => ?_) (fun cdv A outer s H vs Q E hr h => ?_), F⟩
  · obtain ⟨x, dx, a, b, rfl, _⟩ := h
    rfl
  · obtain ⟨x, dx, a, b, rfl, hx, hb, hbb, q⟩ := h
    refine ⟨_, PSs.nox (pss_cons (ps_if (pt_cmpR op_eq (pv 2) pe_int (nomark _)) pss_never pss_nil)
      (pss_cons (ps_set (i := 3) scInit.nd rfl (Or.inl rfl) pe_int)
      (pss_cons (ps_if (pt_cmpR op_ne (pv 2) pe_int (nomark _)) (pss_one (ps_set (i := 3) scInit.nd rfl (Or.inl rfl) (pe_ifExp (pt_cmpR op_gt (pv 2) pe_int (nomark _)) (pe_call G hr rfl W.g_divisor kD bG .nil pass0 (pa_cons (pv 1) (pa_cons (pv 2) pa_nil))) (pe_un un_neg (pe_call G hr rfl W.g_divisor kD bG .nil pass0 (pa_cons (pv 1) (pa_cons (pv 2) pa_nil))))))) pss_nil)
      (pss_cons (ps_fld (pv 0) (pe_op op_fdivX (pv 1) (pv 3)) rfl)
      (pss_one (ps_fld (pv 0) (pe_op op_fdivX (pv 2) (pv 3)) rfl)))))), ?_⟩
    have hg0 : 0 < Int.gcd a b := Int.gcd_pos_of_ne_zero_right a hb
    have hgb : (Int.gcd a b) < big9 := Nat.lt_of_le_of_lt (Int.gcd_le_natAbs_right a hb) hbb
    have n1 : ¬ (Int.gcd a b : Int) = 0 := by omega
    have n3 : ¬ Int.gcd a b = 0 := by omega
    have pf : ∀ (u v : V), putF "bottom" v (putF "top" u []) = [(("top" : Str), u), (("bottom" : Str), v)] := fun u v => by
      show (if ("top" : Str) = "bottom" then [(("top" : Str), v)] else (("top" : Str), u) :: putF "bottom" v []) = _
      rw [if_neg (by decide +kernel)]
      rfl
    have pl : ∀ u : V, (putF "top" u []).length < 1000 := fun u => by
      show 1 < 1000
      decide
    by_cases hb1 : b = 1
    · subst hb1
      have e2 : side a 1 = 1 := by
        show (if (1 : Int) > 0 then (Int.gcd a 1 : Int) else -(Int.gcd a 1 : Int)) = 1
        rw [if_pos (by decide), Int.gcd_one]
        rfl
      rw [e2] at q
      simp -dsimp [tSeq, tAsg, tRet, tIfS, tIf, tTest, tVar, tCons, tNil, tC, tOp, tUn, rI, rI0, rU, tCB, tLst_A, tTup_A, gName, L2.start, CMul, CPow, CDiv, tDrop, tBM, tBM0, tNext, tPar, gSub, rSetL, rIxL, rIxT, tChain, tB, tNot, tNotV, tAnd, tOr, tAndV, tOrV, tFld, tCall, rIxLH, rIxTH, atI, ixN, upd_same, cxK, ex2, ex3, ex3b, rEq, rNe, scal, hx, sFld, W.cls_Share, W.n_Share_top, W.n_Share_bottom, upd_upd, pf, pl]
      rw [Int.fdiv_one, Int.fdiv_one] at q
      exact ⟨hbb, q⟩
    · by_cases hb0 : b < 0
      · have e2 : side a b = -(Int.gcd a b : Int) := if_neg (by omega)
        have hb2 : ¬ 0 < b := by omega
        rw [e2] at q
        simp -dsimp [tSeq, tAsg, tRet, tIfS, tIf, tTest, tVar, tCons, tNil, tC, tOp, tUn, rI, rI0, rU, tCB, tLst_A, tTup_A, gName, L2.start, CMul, CPow, CDiv, tDrop, tBM, tBM0, tNext, tPar, gSub, rSetL, rIxL, rIxT, tChain, tB, tNot, tNotV, tAnd, tOr, tAndV, tOrV, tFld, tCall, rIxLH, rIxTH, atI, ixN, upd_same, cxK, ex2, ex3, ex3b, rEq, rNe, scal, hb, hb1, hb2, hx]
        refine ⟨a, b, rfl, ?_⟩
        simp -dsimp [tSeq, tAsg, tRet, tIfS, tIf, tTest, tVar, tCons, tNil, tC, tOp, tUn, rI, rI0, rU, tCB, tLst_A, tTup_A, gName, L2.start, CMul, CPow, CDiv, tDrop, tBM, tBM0, tNext, tPar, gSub, rSetL, rIxL, rIxT, tChain, tB, tNot, tNotV, tAnd, tOr, tAndV, tOrV, tFld, tCall, rIxLH, rIxTH, atI, ixN, upd_same, cxK, ex2, ex3, ex3b, sFld, hx, W.cls_Share, W.n_Share_top, W.n_Share_bottom, upd_upd, n1, n3, hgb, pf, pl]
        exact q
      · have e2 : side a b = (Int.gcd a b : Int) := if_pos (by omega)
        have hb2 : 0 < b := by omega
        rw [e2] at q
        simp -dsimp [tSeq, tAsg, tRet, tIfS, tIf, tTest, tVar, tCons, tNil, tC, tOp, tUn, rI, rI0, rU, tCB, tLst_A, tTup_A, gName, L2.start, CMul, CPow, CDiv, tDrop, tBM, tBM0, tNext, tPar, gSub, rSetL, rIxL, rIxT, tChain, tB, tNot, tNotV, tAnd, tOr, tAndV, tOrV, tFld, tCall, rIxLH, rIxTH, atI, ixN, upd_same, cxK, ex2, ex3, ex3b, rEq, rNe, scal, hb, hb1, hb2, hx]
        refine ⟨a, b, rfl, ?_⟩
        simp -dsimp [tSeq, tAsg, tRet, tIfS, tIf, tTest, tVar, tCons, tNil, tC, tOp, tUn, rI, rI0, rU, tCB, tLst_A, tTup_A, gName, L2.start, CMul, CPow, CDiv, tDrop, tBM, tBM0, tNext, tPar, gSub, rSetL, rIxL, rIxT, tChain, tB, tNot, tNotV, tAnd, tOr, tAndV, tOrV, tFld, tCall, rIxLH, rIxTH, atI, ixN, upd_same, cxK, ex2, ex3, ex3b, sFld, hx, W.cls_Share, W.n_Share_top, W.n_Share_bottom, upd_upd, n1, n3, hgb, pf, pl]
        exact q
end
/-! ### isinstance by kinds -/
def tyN (H : Hp) : V → Option String
  | .non => some "NoneType"
  | .bl _ => some "bool"
  | .int _ => some "int"
  | .str _ => some "str"
  | .ref a => (match H a with
    | some (.lst _) => some "list"
    | some (.tup _) => some "tuple"
    | some (.dK _) => some "dict"
    | _ => none)
  | _ => none
theorem tyN_ok {K : PySem.W.Frag} {H : Hp} {x : V} {t : String} (h : tyN H x = some t) : TyOf K H x (.type t) := by
  unfold tyN at h
  split at h
  · cases h; exact .non
  · cases h; exact .bl _
  · cases h; exact .int _
  · cases h; exact .str _
  · split at h
    · rename_i e
      cases h; exact .lst e
    · rename_i e
      cases h; exact .tup e
    · rename_i e
      cases h; exact .dK e
    · cases h
  · cases h
def rIs1 : List V → Hp → VK → Prop := fun xs H Q => ∃ (x : V) (T t : String) (b : Bool), xs = [x, .ty T] ∧ tyN H x = some t ∧ kitB t T = some b ∧ Q (.bl b) H
def rIs2 : List V → Hp → VK → Prop := fun xs H Q => ∃ (x : V) (tp : Addr) (T1 T2 t : String) (b1 b2 : Bool), xs = [x, .ref tp] ∧ H tp = some (.tup [.ty T1, .ty T2]) ∧ tyN H x = some t ∧ kitB t T1 = some b1 ∧ kitB t T2 = some b2 ∧ Q (.bl (b1 || b2)) H
section
variable {X : Cx}
theorem isi_1 : CallR X (.builtin "isinstance") rIs1 := by
  intro pins s σ H xs us Q I r h
  obtain ⟨x, T, t, b, e, ty, k, q⟩ := h
  exact call_isi pins s σ H xs us Q I r ⟨x, .ty T, .type t, .type T, b, e, .ty T, .base (tyN_ok ty), kit_ty k, q⟩
theorem isi_2 : CallR X (.builtin "isinstance") rIs2 := by
  intro pins s σ H xs us Q I r h
  obtain ⟨x, tp, T1, T2, t, b1, b2, e, hT, ty, k1, k2, q⟩ := h
  refine call_isiT pins s σ H xs us Q I r ⟨x, tp, _, .type t, [.type T1, .type T2], b1 || b2, e, hT, .cons (.ty T1) (.cons (.ty T2) .nil), .base (tyN_ok ty), ?_, q⟩
  refine kitAny_cons (kit_ty k1) (fun f => ?_) (fun f => by rw [f]; rfl)
  rw [f]
  refine kitAny_cons (kit_ty k2) (fun f => ?_) (fun f => by rw [f]; rfl)
  rw [f]
  exact kitAny_nil
/-- two lists of two truths -/
def rNe2 : R2 := fun x y H Q => ∃ (p q : Addr) (a b c d : Bool), x = .ref p ∧ y = .ref q ∧ H p = some (.lst [.bl a, .bl b]) ∧ H q = some (.lst [.bl c, .bl d]) ∧ Q (.bl (!(a == c && b == d))) H
theorem op_ne2 (hu : X.A.units + 64 < cLine) : OpR X (compareOp .NotEq) rNe2 := by
  intro pins s σ H x y v u Q I rx ry h
  obtain ⟨p, q, a, b, c, d, e1, e2, hp, hq, k⟩ := h
  refine op_neD hu pins s σ H x y v u Q I rx ry ⟨.list [.bool a, .bool b], .list [.bool c, .bool d], ?_, ?_, ?_, ?_, ?_⟩
  · rw [e1]
    exact .lst (SqL.of hp) (.cons (.bl _) (.cons (.bl _) .nil))
  · rw [e2]
    exact .lst (SqL.of hq) (.cons (.bl _) (.cons (.bl _) .nil))
  · cases a <;> cases b <;> decide +kernel
  · cases c <;> cases d <;> decide +kernel
  · have e : PyData.eqv (.list [.bool a, .bool b]) (.list [.bool c, .bool d]) = (a == c && b == d) := by
      show ((a == c) && ((b == d) && true)) = _
      rw [Bool.and_true]
    rw [e]
    exact k
theorem len_tupH : CallR X (.builtin "len") (fun xs H Q => ∃ p ys, xs = [.ref p] ∧ H p = some (.tup ys) ∧ Q (.int ys.length) H) := by
  intro pins s σ H xs us Q I r h
  obtain ⟨p, ys, e, hp, q⟩ := h
  exact call_len_seq pins s σ H xs us Q I r ⟨p, ys, e, .inr (SqT.of hp), q⟩
theorem len_lstH : CallR X (.builtin "len") (fun xs H Q => ∃ p ys, xs = [.ref p] ∧ H p = some (.lst ys) ∧ Q (.int ys.length) H) := by
  intro pins s σ H xs us Q I r h
  obtain ⟨p, ys, e, hp, q⟩ := h
  exact call_len_seq pins s σ H xs us Q I r ⟨p, ys, e, .inl (SqL.of hp), q⟩
end
theorem kb1 : kitB "int" "list" = some false := by decide +kernel
theorem kb2 : kitB "int" "tuple" = some false := by decide +kernel
theorem kb3 : kitB "int" "bool" = some false := by decide +kernel
theorem kb4 : kitB "int" "int" = some true := by decide +kernel
theorem kb5 : kitB "tuple" "list" = some false := by decide +kernel
theorem kb6 : kitB "tuple" "tuple" = some true := by decide +kernel
theorem walk_zipT {K : PySem.W.Frag} {a b : Addr} {xs ys : List V} {n : Nat} (hx : xs.length = n) (hy : ys.length = n) : Walk (RZ.ItzT K a b) n (fun H => SqT K H a xs ∧ SqT K H b ys) (YPair (fun i => xs[i]?) (fun i => ys[i]?)) where
  goes := fun i H hi h => ⟨xs, ys, xs[i], ys[i], h.1, h.2, List.getElem?_eq_getElem (by omega), List.getElem?_eq_getElem (by omega)⟩
  stops := fun H h => ⟨xs, ys, h.1, h.2, .inl (by omega)⟩
  yields := fun i H x H' hi h y => by
    obtain ⟨T, x', y', e1, e2, e3, f1, f2⟩ := y
    exact ⟨T, x', y', e1, e2, e3, f1 xs h.1, f2 ys h.2⟩
/-! -/
/-! ### shares made and told -/
def IsSh (K : PySem.W.Frag) (H : Hp) (x : Addr) (a b : Int) : Prop := ∃ dx, H x = some (shareO (He.ga K "Share") dx a b)
/-- a new share -/
def AllocS (K : PySem.W.Frag) (H : Hp) (a b : Int) (Q : V → Hp → Prop) (_ : Lk Q := ⟨⟩) : Prop := ∀ x H', H x = none → IsSh K H' x a b → Same H H' → Q (.ref x) H'
theorem IsSh.same {K : PySem.W.Frag} {H H' : Hp} {x : Addr} {a b : Int} (h : IsSh K H x a b) (s : Same H H') : IsSh K H' x a b := by
  obtain ⟨dx, e⟩ := h
  exact ⟨dx, s _ _ e⟩
theorem mk_ok {K : PySem.W.Frag} {H : Hp} {vs : List V} {a b : Int} {Q : V → Hp → Prop} {E : XK} (e : vs = [.int a, .int b]) (hb : b ≠ 0) (hbb : b.natAbs < big9) (h : AllocS K H (a.fdiv (side a b)) (b.fdiv (side a b)) Q) :
    ∀ x dx, H x = none → H dx = none → dx ≠ x → spInit K (.ref x :: vs) (upd (upd H dx (.own x)) x (.ins (He.ga K "Share") dx [])) (fun v H2 => v = .non ∧ Q (.ref x) H2) E := by
  intro x dx nx nd ne
  refine ⟨x, dx, a, b, by rw [e], upd_same, hb, hbb, rfl, h x _ nx ⟨dx, upd_same⟩ ?_⟩
  intro c o ec
  rw [upd_ne (ne_of_none ec nx), upd_ne (ne_of_none ec nx), upd_ne (ne_of_none ec nd)]
  exact ec
def rStrOwn (C : Addr) (sp : Sp) (E : XK) : List V → Hp → VK → Prop := fun xs H Q => ∃ (a dx : Addr) (fs : List (Str × V)), xs = [.ref a] ∧ H a = some (.ins C dx fs) ∧ sp [.ref a] H (fun z H' => ∃ y, z = .str y ∧ Q z H') E
section
variable {X : Cx} {CX : CXT} {n : Nat} {sp : Sp} {E : XK} {C g : Addr}
theorem call_strOwn (hs : PySem.W.findIn X.K (.ref C) "__str__" = some (some (.ref g))) (hf : PySem.W.isFn X.K (.ref g) = true) (F : FnR X.prog X.w X.K X.mg X.base CX n g sp) (hr : Room (n + 2) X.A) (hx : Passes CX X E) : CallR X (.type "str") (rStrOwn C sp E) := by
  intro pins s σ H xs us Q I r h
  obtain ⟨a, dx, fs, rfl, ha, q⟩ := h
  obtain ⟨u, rfl, ru⟩ := r.one
  cases (show u = Value.ref a from ru)
  obtain ⟨mA, O, _⟩ := ins_get I.hok ha
  obtain ⟨od, J, _⟩ := O.look
  have hr2 : Room n X.A.in1.in1 := (show Room (n + 1) X.A.in1 from Room.in1 hr).in1
  refine PySem.W.kso_call hr2.units0 I.kIn J hs hf (wpAny_mono (wpAny_call (SlX.run_at (us := [.ref a]) (ws := [.ref a]) F hr2 I.env0.in1.in1 hx I (.cons rfl .nil) q)) (fun w s' z => ?_) fun _ _ x => x)
  obtain ⟨z', H', I', rz, y, ey, qz⟩ := z
  subst ey
  obtain ⟨t, e⟩ := (show ∃ t, w = Value.str y t from rz)
  cases e
  exact ⟨.str y, H', I', ⟨t, rfl⟩, qz⟩
end
section
variable {K : PySem.W.Frag} {mg : Str → Option Value}
theorem Wd.isSh (W : Wd K mg) {H : Hp} {x : Addr} {a b : Int} (h : IsSh K H x a b) : TyOf K H (.ref x) (.ref (He.ga K "Share")) := by
  obtain ⟨dx, e⟩ := h
  exact .ins e W.cls_Share (He.eqO_ok (W.ex 0 rfl)) (He.eqO_ok (W.ex 1 rfl)) (of_decide_eq_true (W.ex 2 rfl)) (of_decide_eq_true (W.ex 3 rfl))
theorem Wd.kitS (W : Wd K mg) : PySem.W.kitOne K (.ref (He.ga K "Share")) (.ref (He.ga K "Share")) = some true := of_decide_eq_true (W.ex 4 rfl)
/-- isinstance(x, Share) of a share -/
def rIsS (K : PySem.W.Frag) : List V → Hp → VK → Prop := fun xs H Q => ∃ (x : Addr) (a b : Int), xs = [.ref x, .ref (He.ga K "Share")] ∧ IsSh K H x a b ∧ Q (.bl true) H
theorem isi_S {X : Cx} (W : Wd X.K X.mg) : CallR X (.builtin "isinstance") (rIsS X.K) := by
  intro pins s σ H xs us Q I r h
  obtain ⟨x, a, b, e, hx, q⟩ := h
  exact call_isi pins s σ H xs us Q I r ⟨.ref x, .ref (He.ga X.K "Share"), _, _, true, e, .own _, .base (W.isSh hx), W.kitS, q⟩
end
theorem vals_rev : ∀ {vs : List V} {us : List Value}, Vals vs us → Vals vs.reverse us.reverse
  | _, _, .nil => .nil
  | _, _, .cons r t => by
    rw [List.reverse_cons, List.reverse_cons]
    exact (vals_rev t).append (.cons r .nil)
section
variable {P : Program} {w : World} {K : PySem.W.Frag} {mg : Str → Option Value} {base : Heap} {fd : FuncData}
abbrev FInit (K : PySem.W.Frag) (fd : FuncData) : Prop := FunD K d_Share_init.name d_Share_init.qual d_Share_init.params d_Share_init.body d_Share_init.scope (d_Share_init.dvs K) (d_Share_init.kws K) (He.fAd K d_Share_init.at_) fd
abbrev psI : List Str := ["self", "top", "bottom"]
theorem bind3 (F : FInit K fd) : Binds K fd psI [] := by
  obtain ⟨ds, v, b⟩ := FunD.binds1 (ps := psI) F 3 1 (List.cons_ne_nil _ _) rfl fun T kV doc pm an cdv ct us its hu hi => match us, its, hu, hi with | [_, _, _], [_], _, _ => ⟨_, rfl, rfl⟩
  cases v
  exact b
theorem bind2 (F : FInit K fd) : ∃ ds, Vals [V.int 1] ds ∧ Binds K fd psI ds := by
  obtain ⟨ds, v, b⟩ := FunD.binds1 (ps := psI) F 2 0 (List.cons_ne_nil _ _) rfl fun T kV doc pm an cdv ct us its hu hi => match us, its, hu, hi with | [_, _], [_], _, _ => ⟨_, rfl, rfl⟩
  exact ⟨ds, v, b⟩
/-- Share(bottom = b, top = a) -/
theorem bindBT (F : FInit K fd) : KBn K fd psI 1 ["bottom", "top"] (fun us ws => us ++ ws.reverse) (fun vs zs => vs ++ zs.reverse) := by
  obtain ⟨oc, od, dV, kV, doc, pm, an, cdv, ct, osl, rfl, lk, hcd, hD, hK⟩ := F.ex
  rcases hD with ⟨e, _⟩ | ⟨_, T, o, its, m, rfl, lT, oT, rT⟩
  · exact absurd e (List.cons_ne_nil _ _)
  · refine ⟨fun s us ws X l1 l2 => ?_, fun {vs us zs ws} r1 r2 => ?_⟩
    · match us, ws, l1, l2 with
      | [u], [b, t], _, _ =>
        refine BindsTo.of_looks fun M => ?_
        obtain ⟨k, e1, e2⟩ : ∃ k, bindArgs (PySem.W.fnOf d_Share_init.name d_Share_init.qual d_Share_init.params d_Share_init.body d_Share_init.scope (.ref T) kV doc pm an cdv ct) ⟨[u], (["bottom", "top"] : List Str).zip [b, t]⟩ = seqItems? (.ref T) >>= k ∧ k (some its.toArray) = pure (psI.zip [u, t, b]) := by
          match its, rT with
          | [d], _ => exact ⟨_, rfl, rfl⟩
        rw [e1]
        exact looks_items X lT oT (.of_pure e2)
    · exact r1.append (vals_rev r2)
/-- Share(a, bottom = b) -/
theorem bindB (F : FInit K fd) : KBn K fd psI 2 ["bottom"] (fun us ws => us ++ ws) (fun vs zs => vs ++ zs) := by
  obtain ⟨oc, od, dV, kV, doc, pm, an, cdv, ct, osl, rfl, lk, hcd, hD, hK⟩ := F.ex
  rcases hD with ⟨e, _⟩ | ⟨_, T, o, its, m, rfl, lT, oT, rT⟩
  · exact absurd e (List.cons_ne_nil _ _)
  · refine ⟨fun s us ws X l1 l2 => ?_, fun {vs us zs ws} r1 r2 => r1.append r2⟩
    match us, ws, l1, l2 with
    | [u, t], [b], _, _ =>
      refine BindsTo.of_looks fun M => ?_
      obtain ⟨k, e1, e2⟩ : ∃ k, bindArgs (PySem.W.fnOf d_Share_init.name d_Share_init.qual d_Share_init.params d_Share_init.body d_Share_init.scope (.ref T) kV doc pm an cdv ct) ⟨[u, t], (["bottom"] : List Str).zip [b]⟩ = seqItems? (.ref T) >>= k ∧ k (some its.toArray) = pure (psI.zip [u, t, b]) := by
        match its, rT with
        | [d], _ => exact ⟨_, rfl, rfl⟩
      rw [e1]
      exact looks_items X lT oT (.of_pure e2)
theorem look_top (t b : V) : List.lookup ("top" : Str) [(("top" : Str), t), (("bottom" : Str), b)] = some t := rfl
theorem look_bot (t b : V) : List.lookup ("bottom" : Str) [(("top" : Str), t), (("bottom" : Str), b)] = some b := rfl
end
/-! ### the numbers -/
theorem side_facts (a b : Int) (hb : b ≠ 0) : side a b ∣ a ∧ side a b ∣ b ∧ side a b ≠ 0 := by
  have hg : 0 < Int.gcd a b := Int.gcd_pos_of_ne_zero_right a hb
  have h1 := Int.gcd_dvd_left a b
  have h2 := Int.gcd_dvd_right a b
  unfold side
  split
  · exact ⟨h1, h2, by omega⟩
  · exact ⟨Int.neg_dvd.mpr h1, Int.neg_dvd.mpr h2, by omega⟩
theorem side_neg (a b : Int) (hb : b ≠ 0) : side a (-b) = -side a b := by
  unfold side
  rw [Int.gcd_neg]
  by_cases h : b > 0
  · rw [if_pos h, if_neg (by omega)]
  · rw [if_neg h, if_pos (by omega), Int.neg_neg]
theorem side_one (a : Int) : side a 1 = 1 := by
  unfold side
  rw [if_pos (by decide), Int.gcd_one]
  rfl
theorem fdiv_le {a s : Int} (h : s ∣ a) (hs : s ≠ 0) : (a.fdiv s).natAbs ≤ a.natAbs := by
  obtain ⟨c, rfl⟩ := h
  rw [Int.fdiv_eq_ediv_of_dvd ⟨c, rfl⟩, Int.mul_ediv_cancel_left _ hs, Int.natAbs_mul]
  exact Nat.le_mul_of_pos_left _ (by omega)
theorem fdiv_flip {a b : Int} (hb : b ≠ 0) : a.fdiv (side a (-b)) = -(a.fdiv (side a b)) ∧ (-b).fdiv (side a (-b)) = b.fdiv (side a b) := by
  obtain ⟨h1, h2, h3⟩ := side_facts a b hb
  rw [side_neg a b hb]
  refine ⟨by rw [Int.fdiv_neg h3, if_pos h1], ?_⟩
  rw [Int.fdiv_neg h3, if_pos (Int.dvd_neg.mpr h2), Int.fdiv_eq_ediv_of_dvd (Int.dvd_neg.mpr h2), Int.fdiv_eq_ediv_of_dvd h2, Int.neg_ediv_of_dvd h2, Int.neg_neg]
theorem scaled {a p : Int} (h : a.natAbs < 1000000000000) (h0 : 0 ≤ p) (h1 : p < 12) : (a / 100 * (1 + p)).natAbs < 2000000000000 := by
  have e : (a / 100).natAbs ≤ 10000000001 := by omega
  rw [Int.natAbs_mul]
  have e2 : (1 + p).natAbs ≤ 12 := by omega
  have := Nat.mul_le_mul e e2
  omega
theorem big_of {n : Nat} (h : n < 10 ^ 60) : n < big9 := Nat.lt_of_lt_of_le h (by unfold big9; exact Nat.le_trans (by decide : (10 : Nat) ^ 60 ≤ 2 ^ 200) (Nat.pow_le_pow_right (by decide) (by decide)))
/-- a share is made of the ints vs -/
def MkS (K : PySem.W.Frag) (H : Hp) (vs : List V) (Q : V → Hp → Prop) (E : XK) (_ : Lk (Q, E) := ⟨⟩) : Prop :=
  ∀ x dx, H x = none → H dx = none → dx ≠ x → spInit K (.ref x :: vs) (upd (upd H dx (.own x)) x (.ins (He.ga K "Share") dx [])) (fun v H2 => v = .non ∧ Q (.ref x) H2) E
theorem MkS.of {K : PySem.W.Frag} {H : Hp} {vs : List V} {a b : Int} {Q : V → Hp → Prop} {E : XK} (e : vs = [.int a, .int b]) (hb : b ≠ 0) (hbb : b.natAbs < big9) (h : AllocS K H (a.fdiv (side a b)) (b.fdiv (side a b)) Q) : MkS K H vs Q E := mk_ok e hb hbb h
theorem tMake_S {K : PySem.W.Frag} {dvs : List V} {E : XK} {t : TA} {σ : List (Option V)} {H : Hp} {Q : V → Hp → Prop} : tMake (He.ga K "Share") (spInit K) dvs E t σ H Q = t σ H fun vs H1 => MkS K H1 (vs ++ dvs) Q E := rfl
theorem tMakeK_S {K : PySem.W.Frag} {n m : Nat} {E : XK} {t tk : TA} {σ : List (Option V)} {H : Hp} {Q : V → Hp → Prop} : tMakeK (He.ga K "Share") n m (spInit K) (fun vs zs => vs ++ zs.reverse) E t tk σ H Q = t σ H fun vs H1 => tk σ H1 fun zs H2 => vs.length = n ∧ zs.length = m ∧ MkS K H2 (vs ++ zs.reverse) Q E := rfl
theorem tMakeN_S {K : PySem.W.Frag} {n m : Nat} {E : XK} {t tk : TA} {σ : List (Option V)} {H : Hp} {Q : V → Hp → Prop} : tMakeN (He.ga K "Share") n m (spInit K) (fun vs zs => vs ++ zs) E t tk σ H Q = t σ H fun vs H1 => tk σ H1 fun zs H2 => vs.length = n ∧ zs.length = m ∧ MkS K H2 (vs ++ zs) Q E := rfl
/-- a loop over the list at a, from here -/
def ForW (K : PySem.W.Frag) (a : Addr) (g : TG) (tb : TS) (D : Ends) (σ : List (Option V)) (H : Hp) (_ : Lk (g, tb, D) := ⟨⟩) : Prop :=
  ∃ W : Nat → Nat → List (Option V) → Hp → Prop, (∃ m, W 0 m σ H) ∧ ∀ i m σ H, W i m σ H → ((Itl K a).stop i H ∧ D.nx σ H) ∨ ((Itl K a).go i H ∧ ∃ N : List (Option V) → Hp → Prop, (∀ σ' H', N σ' H' → ∃ m', m' < m ∧ W (i + 1) m' σ' H') ∧ ∀ x H', (Itl K a).yld i H x H' → g x σ H' fun σ2 H2 => tb { D with nx := N, ct := N, bk := D.nx } σ2 H2)
theorem tFor_iL {K : PySem.W.Frag} {tl : TE} {g : TG} {tb : TS} {D : Ends} {σ : List (Option V)} {H : Hp} : tFor (iList K tl) g tb D σ H = tl σ H fun x H1 => ∃ a, x = .ref a ∧ (∃ xs, SqL K H1 a xs) ∧ ForW K a g tb D σ H1 := rfl
/-! ### numbers: shares and ints -/
def bigH : Nat := 2 ^ 4499
theorem mul_h {a b : Int} (ha : a.natAbs < bigH) (hb : b.natAbs < bigH) : 2 * (a * b).natAbs < big9 := by
  rw [Int.natAbs_mul]
  have h := Nat.mul_lt_mul'' ha hb
  have e : 2 * (bigH * bigH) = big9 := by
    unfold bigH big9
    rw [← Nat.pow_add, Nat.mul_comm, ← Nat.pow_succ]
  omega
theorem h_lt_M {n : Nat} (h : n < bigH) : n < bigM := Nat.lt_of_lt_of_le h (by unfold bigH bigM; exact Nat.pow_le_pow_right (by decide) (by decide))
/-- v is c over d: a share, or an int -/
def Nu (K : PySem.W.Frag) (H : Hp) (v : V) (c d : Int) : Prop := (∃ y, v = .ref y ∧ IsSh K H y c d) ∨ (v = .int c ∧ d = 1)
theorem Nu.same {K : PySem.W.Frag} {H H' : Hp} {v : V} {c d : Int} (h : Nu K H v c d) (s : Same H H') : Nu K H' v c d := by
  rcases h with ⟨y, e, h⟩ | h
  · exact .inl ⟨y, e, h.same s⟩
  · exact .inr h
theorem tup2 {K : PySem.W.Frag} {p : Addr} {u v : V} {f g : TG} {σ : List (Option V)} {H : Hp} {Q : List (Option V) → Hp → Prop} (h : H p = some (.tup [u, v])) (k : f u σ H fun σ1 H1 => g v σ1 H1 Q) : gTup K 2 (gCons f (gCons g gNil)) (.ref p) σ H Q := by
  refine ⟨p, [u, v], rfl, SqT.of h, rfl, u, [v], rfl, ?_⟩
  refine Eq.mp ?_ k
  congr 1
  funext σ1 H1
  refine propext ⟨fun z => ⟨v, [], rfl, ?_⟩, fun ⟨v', r, e, z⟩ => ?_⟩
  · refine Eq.mp ?_ z
    congr 1
    funext σ2 H2
    exact propext ⟨fun z => ⟨rfl, z⟩, fun z => z.2⟩
  · cases e
    refine Eq.mp ?_ z
    congr 1
    funext σ2 H2
    exact propext ⟨fun z => z.2, fun z => ⟨rfl, z⟩⟩
section
/-- what follows for a new share in lowest terms -/
def Res (K : PySem.W.Frag) (H : Hp) (p q : Int) (Q : V → Hp → Prop) (_ : Lk Q := ⟨⟩) : Prop := ∀ z H', Same H H' → IsSh K H' z (p.fdiv (side p q)) (q.fdiv (side p q)) → Q (.ref z) H'
theorem MkS.res {K : PySem.W.Frag} {H0 H : Hp} {vs : List V} {a b : Int} {Q : V → Hp → Prop} {E : XK} (s : Same H0 H) (e : vs = [.int a, .int b]) (hb : b ≠ 0) (hbb : b.natAbs < big9) (h : Res K H0 a b Q) : MkS K H vs Q E :=
  MkS.of e hb hbb fun z H' _ i s' => h z H' (s.trans s') i
theorem one_fd (c : Int) : c.fdiv (side c 1) = c ∧ (1 : Int).fdiv (side c 1) = 1 := by
  rw [side_one, Int.fdiv_one, Int.fdiv_one]
  exact ⟨rfl, rfl⟩
end
/-! ### lowest terms -/
def Low (c d : Int) : Prop := 0 < d ∧ Int.gcd c d = 1
theorem side_low {c d : Int} (h : Low c d) : side c d = 1 := by
  unfold side
  rw [if_pos h.1, h.2]
  rfl
theorem lo_low {c d : Int} (h : Low c d) : c.fdiv (side c d) = c ∧ d.fdiv (side c d) = d := by
  rw [side_low h, Int.fdiv_one, Int.fdiv_one]
  exact ⟨rfl, rfl⟩
theorem lo_cross {x y : Int} (hy : y ≠ 0) : x.fdiv (side x y) * y = x * y.fdiv (side x y) := by
  obtain ⟨⟨k, hk⟩, ⟨m, hm⟩, h3⟩ := side_facts x y hy
  have e1 : x.fdiv (side x y) = k := by
    rw [Int.fdiv_eq_ediv_of_dvd ⟨k, hk⟩]
    exact Int.ediv_eq_of_eq_mul_right h3 hk
  have e2 : y.fdiv (side x y) = m := by
    rw [Int.fdiv_eq_ediv_of_dvd ⟨m, hm⟩]
    exact Int.ediv_eq_of_eq_mul_right h3 hm
  rw [e1, e2]
  calc k * y = k * (side x y * m) := by rw [← hm]
    _ = side x y * k * m := by rw [Int.mul_comm (side x y) k, Int.mul_assoc]
    _ = x * m := by rw [← hk]
theorem low_lo {x y : Int} (hy : y ≠ 0) : Low (x.fdiv (side x y)) (y.fdiv (side x y)) := by
  have hg : 0 < Int.gcd x y := Int.gcd_pos_of_ne_zero_right x hy
  have d1 := Int.gcd_dvd_left x y
  have d2 := Int.gcd_dvd_right x y
  have h3 : ((Int.gcd x y : Nat) : Int) ≠ 0 := by omega
  have key : Int.gcd (x / (Int.gcd x y : Int)) (y / (Int.gcd x y : Int)) = 1 := by
    rw [Int.gcd_ediv d1 d2]
    rw [Int.natAbs_natCast]
    exact Nat.div_self hg
  by_cases hp : y > 0
  · have e : side x y = (Int.gcd x y : Int) := if_pos hp
    rw [e, Int.fdiv_eq_ediv_of_dvd d1, Int.fdiv_eq_ediv_of_dvd d2]
    exact ⟨Int.ediv_pos_of_pos_of_dvd hp (by omega) d2, key⟩
  · have e : side x y = -(Int.gcd x y : Int) := if_neg hp
    have n1 : -((Int.gcd x y : Nat) : Int) ∣ x := Int.neg_dvd.mpr d1
    have n2 : -((Int.gcd x y : Nat) : Int) ∣ y := Int.neg_dvd.mpr d2
    rw [e, Int.fdiv_eq_ediv_of_dvd n1, Int.fdiv_eq_ediv_of_dvd n2, Int.ediv_neg, Int.ediv_neg]
    refine ⟨?_, by rw [Int.neg_gcd, Int.gcd_neg]; exact key⟩
    have : 0 < (-y) / (Int.gcd x y : Int) := Int.ediv_pos_of_pos_of_dvd (by omega) (by omega) (Int.dvd_neg.mpr d2)
    rw [Int.neg_ediv_of_dvd d2] at this
    exact this
/-- two pairs in lowest terms with one worth are one pair -/
theorem low_eq {a b c d : Int} (h1 : Low a b) (h2 : Low c d) (h : a * d = c * b) : a = c ∧ b = d := by
  have db : b ∣ d := by
    have z : b ∣ a * d := ⟨c, by rw [h, Int.mul_comm]⟩
    have g := Int.dvd_gcd_mul_iff_dvd_mul.mpr z
    rw [Int.gcd_comm, h1.2] at g
    simpa using g
  have dd : d ∣ b := by
    have z : d ∣ c * b := ⟨a, by rw [← h, Int.mul_comm]⟩
    have g := Int.dvd_gcd_mul_iff_dvd_mul.mpr z
    rw [Int.gcd_comm, h2.2] at g
    simpa using g
  have e : b = d := Int.dvd_antisymm (Int.le_of_lt h1.1) (Int.le_of_lt h2.1) db dd
  subst e
  exact ⟨Int.eq_of_mul_eq_mul_right (Int.ne_of_gt h1.1) h, rfl⟩
/-- lowest terms of x over y are c over d, where these are -/
theorem lo_eq {x y c d : Int} (hy : y ≠ 0) (h : Low c d) (e : x * d = c * y) : x.fdiv (side x y) = c ∧ y.fdiv (side x y) = d := by
  have l := low_lo (x := x) hy
  have cr := lo_cross (x := x) hy
  refine low_eq l h (Int.eq_of_mul_eq_mul_right hy ?_)
  calc x.fdiv (side x y) * d * y = x.fdiv (side x y) * y * d := by rw [Int.mul_right_comm]
    _ = x * y.fdiv (side x y) * d := by rw [cr]
    _ = x * d * y.fdiv (side x y) := by rw [Int.mul_right_comm]
    _ = c * y * y.fdiv (side x y) := by rw [e]
    _ = c * y.fdiv (side x y) * y := by rw [Int.mul_right_comm]
/-! ### numbers and other things -/
def rIsG (K : PySem.W.Frag) : List V → Hp → VK → Prop := fun xs H Q => ∃ (x c : V) (t u : Value) (b : Bool), xs = [x, c] ∧ ClsV c u ∧ TyOf K H x t ∧ PySem.W.kitOne K t u = some b ∧ Q (.bl b) H
section
variable {X : Cx}
theorem isi_G : CallR X (.builtin "isinstance") (rIsG X.K) := by
  intro pins s σ H xs us Q I r h
  obtain ⟨x, c, t, u, b, e, cv, ty, k, q⟩ := h
  exact call_isi pins s σ H xs us Q I r ⟨x, c, t, u, b, e, cv, .base ty, k, q⟩
end
section
variable {K : PySem.W.Frag} {mg : Str → Option Value}
theorem Wd.knS (W : Wd K mg) : NuX.KN K (.ref (He.ga K "Share")) true := NuX.knB_ok (W.ex 8 rfl)
theorem Wd.knT (W : Wd K mg) : NuX.KN K (.ref (He.ga K "Term")) false := NuX.knB_ok (W.ex 9 rfl)
theorem Wd.knI (W : Wd K mg) : NuX.KN K (.type "int") true := NuX.knB_ok (W.ex 10 rfl)
theorem Wd.cmp (W : Wd K mg) : CmX.CmpC K (He.ga K "Share") := CmX.cmpB_ok (W.ex 7 rfl)
/-- a number: its kind, whether it is a share -/
theorem Wd.nuTy (W : Wd K mg) {H : Hp} {v : V} {c d : Int} (h : Nu K H v c d) : ∃ t b, TyOf K H v t ∧ NuX.KN K t true ∧ PySem.W.kitOne K t (.ref (He.ga K "Share")) = some b ∧ CmX.Beside K (He.ga K "Share") t ∧
    ((b = true ∧ ∃ y, v = .ref y ∧ IsSh K H y c d) ∨ (b = false ∧ v = .int c ∧ d = 1)) := by
  rcases h with ⟨y, e, h⟩ | ⟨e, e2⟩
  · subst e
    exact ⟨_, true, W.isSh h, W.knS, W.kitS, .inl rfl, .inl ⟨rfl, y, rfl, h⟩⟩
  · subst e
    exact ⟨_, false, .int c, W.knI, of_decide_eq_true (W.ex 21 rfl), .inr (W.cmp.no "int" (by decide)).1, .inr ⟨rfl, rfl, e2⟩⟩
end
section
variable {P : Program} {w : World} {K : PySem.W.Frag} {mg : Str → Option Value} {base : Heap}
theorem scIsInt : FnScope ["thing"] ["thing"] d_is_integer.scope := ⟨rfl, rfl, rfl, by decide +kernel, rfl, by decide +kernel, by decide +kernel⟩
def spIsInt (K : PySem.W.Frag) : Sp := fun vs H Q _ => ∃ (v : V) (t : Value) (b : Bool), vs = [v] ∧ TyOf K H v t ∧ NuX.KI K t b ∧ Q (.bl b) H
theorem ok_isInt (W : Wd K mg) : ∃ fd, FnOk P w K mg base CX0 1 (He.ga K "is_integer") fd ["thing"] (spIsInt K) ∧ Binds K fd ["thing"] [] := by
  obtain ⟨fd, F⟩ := W.F_is_integer
  refine ⟨fd, F.ok scIsInt (fun vs H Q E h => ?_) (fun cdv A outer s H vs Q E hr h => ?_), FunD.bindsN F fun _ _ _ _ _ _ us hl => match us, hl with | [_], _ => rfl⟩
  · obtain ⟨v, t, b, rfl, _⟩ := h
    rfl
  · obtain ⟨v, t, b, rfl, ty, ⟨bi, bb, k1, k2, rfl⟩, q⟩ := h
    refine ⟨_, PSs.nox (pss_one (ps_ret (pe_and (pe_callB isi_G (by rfl) W.f_isinstance boot_isinstance (pa_cons (pv 0) (pa_cons (pe_bltn (v := .ty "int") (by rfl) W.f_int (by decide +kernel) rfl) pa_nil)))
      (pe_one (pe_not (pe_callB isi_G (by rfl) W.f_isinstance boot_isinstance (pa_cons (pv 0) (pa_cons (pe_bltn (v := .ty "bool") (by rfl) W.f_bool (by decide +kernel) rfl) pa_nil)))))))), ?_⟩
    simp -dsimp [tSeq, tAsg, tRet, tIfS, tIf, tTest, tVar, tCons, tNil, tC, tOp, tUn, rI, rI0, rU, tCB, tLst_A, tTup_A, gName, L2.start, CMul, CPow, CDiv, tDrop, tBM, tBM0, tNext, tPar, gSub, rSetL, rIxL, rIxT, tChain, tB, tNot, tNotV, tAnd, tOr, tAndV, tOrV, tFld, tCall, rIxLH, rIxTH, atI, ixN, upd_same, cxK, ex2, ex3, ex3b, rIs1, rIs2, rNe2, tyN, kb1, kb2, kb3, kb4, kb5, kb6, rEq, rNe, scal, tMake_S, tMakeK_S, tMakeN_S]
    refine ⟨_, _, t, _, bi, rfl, .ty "int", ty, k1, ?_⟩
    cases bi with
    | false => exact .inl ⟨rfl, q⟩
    | true =>
      refine .inr ⟨rfl, _, _, t, _, bb, rfl, .ty "bool", ty, k2, ?_⟩
      cases bb with
      | false => exact .inl ⟨rfl, q⟩
      | true => exact .inr ⟨rfl, q⟩
theorem scIsNum : FnScope ["thing"] ["thing"] d_is_number.scope := ⟨rfl, rfl, rfl, by decide +kernel, rfl, by decide +kernel, by decide +kernel⟩
def spIsNum (K : PySem.W.Frag) : Sp := fun vs H Q _ => ∃ (v : V) (t : Value) (b : Bool), vs = [v] ∧ TyOf K H v t ∧ NuX.KN K t b ∧ Q (.bl b) H
theorem ok_isNum (W : Wd K mg) : ∃ fd, FnOk P w K mg base CX0 2 (He.ga K "is_number") fd ["thing"] (spIsNum K) ∧ Binds K fd ["thing"] [] := by
  obtain ⟨fdI, GI, bI⟩ := ok_isInt (P := P) (w := w) (base := base) W
  have kI : PySem.W.keepIn K (.ref (He.ga K "is_integer")) = true := by obtain ⟨fd, F⟩ := W.F_is_integer; exact F.kp
  obtain ⟨fd, F⟩ := W.F_is_number
  refine ⟨fd, F.ok scIsNum (fun vs H Q E h => ?_) (fun cdv A outer s H vs Q E hr h => ?_), FunD.bindsN F fun _ _ _ _ _ _ us hl => match us, hl with | [_], _ => rfl⟩
  · obtain ⟨v, t, b, rfl, _⟩ := h
    rfl
  · obtain ⟨v, t, b, rfl, ty, ⟨bs, k1, kk⟩, q⟩ := h
    refine ⟨_, PSs.nox (pss_one (ps_ret (pe_or (pe_callB isi_G (by rfl) W.f_isinstance boot_isinstance (pa_cons (pv 0) (pa_cons (pe_glob (v := .ref (He.ga K "Share")) rfl W.g_Share rfl) pa_nil)))
      (pe_one (pe_call GI hr rfl W.g_is_integer kI bI .nil pass0 (pa_cons (pv 0) pa_nil)))))), ?_⟩
    simp -dsimp [tSeq, tAsg, tRet, tIfS, tIf, tTest, tVar, tCons, tNil, tC, tOp, tUn, rI, rI0, rU, tCB, tLst_A, tTup_A, gName, L2.start, CMul, CPow, CDiv, tDrop, tBM, tBM0, tNext, tPar, gSub, rSetL, rIxL, rIxT, tChain, tB, tNot, tNotV, tAnd, tOr, tAndV, tOrV, tFld, tCall, rIxLH, rIxTH, atI, ixN, upd_same, cxK, ex2, ex3, ex3b, rIs1, rIs2, rNe2, tyN, kb1, kb2, kb3, kb4, kb5, kb6, rEq, rNe, scal, tMake_S, tMakeK_S, tMakeN_S]
    refine ⟨_, _, t, _, bs, rfl, .own _, ty, k1, ?_⟩
    rcases kk with ⟨rfl, rfl⟩ | ⟨rfl, kk⟩
    · exact .inr ⟨rfl, q⟩
    · exact .inl ⟨rfl, _, t, b, rfl, ty, kk, q⟩
theorem scFrac : FnScope ["number"] ["number"] d_fraction.scope := ⟨rfl, rfl, rfl, by decide +kernel, rfl, by decide +kernel, by decide +kernel⟩
def spFrac (K : PySem.W.Frag) : Sp := fun vs H Q _ => ∃ (v : V) (c d : Int), vs = [v] ∧ Nu K H v c d ∧ ∀ p H', H p = none → H' p = some (.tup [.int c, .int d]) → Same H H' → Q (.ref p) H'
theorem ok_frac (W : Wd K mg) : ∃ fd, FnOk P w K mg base CX0 1 (He.ga K "fraction") fd ["number"] (spFrac K) ∧ Binds K fd ["number"] [] := by
  obtain ⟨fd, F⟩ := W.F_fraction
  refine ⟨fd, F.ok scFrac (fun vs H Q E h => ?_) (fun cdv A outer s H vs Q E hr h => ?_), FunD.bindsN F fun _ _ _ _ _ _ us hl => match us, hl with | [_], _ => rfl⟩
  · obtain ⟨v, c, d, rfl, _⟩ := h
    rfl
  · obtain ⟨v, c, d, rfl, h, q⟩ := h
    refine ⟨_, PSs.nox (pss_cons (ps_if (pt_val (pe_callB isi_G (by rfl) W.f_isinstance boot_isinstance (pa_cons (pv 0) (pa_cons (pe_glob (v := .ref (He.ga K "Share")) rfl W.g_Share rfl) pa_nil))))
        (pss_one (ps_ret (pe_tup (pa_cons (pe_fld (pv 0) rfl) (pa_cons (pe_fld (pv 0) rfl) pa_nil))))) pss_nil)
      (pss_one (ps_ret (pe_tup (pa_cons (pv 0) (pa_cons pe_int pa_nil)))))), ?_⟩
    obtain ⟨t, b, ty, kn, k, _, hb⟩ := W.nuTy h
    simp -dsimp [tSeq, tAsg, tRet, tIfS, tIf, tTest, tVar, tCons, tNil, tC, tOp, tUn, rI, rI0, rU, tCB, tLst_A, tTup_A, gName, L2.start, CMul, CPow, CDiv, tDrop, tBM, tBM0, tNext, tPar, gSub, rSetL, rIxL, rIxT, tChain, tB, tNot, tNotV, tAnd, tOr, tAndV, tOrV, tFld, tCall, rIxLH, rIxTH, atI, ixN, upd_same, cxK, ex2, ex3, ex3b, rIs1, rIs2, rNe2, tyN, kb1, kb2, kb3, kb4, kb5, kb6, rEq, rNe, scal, tMake_S, tMakeK_S, tMakeN_S]
    refine ⟨_, _, t, _, b, rfl, .own _, ty, k, ?_⟩
    rcases hb with ⟨rfl, y, rfl, hy⟩ | ⟨rfl, rfl, rfl⟩
    · obtain ⟨dx, hd⟩ := id hy
      simp -dsimp [tSeq, tAsg, tRet, tIfS, tIf, tTest, tVar, tCons, tNil, tC, tOp, tUn, rI, rI0, rU, tCB, tLst_A, tTup_A, gName, L2.start, CMul, CPow, CDiv, tDrop, tBM, tBM0, tNext, tPar, gSub, rSetL, rIxL, rIxT, tChain, tB, tNot, tNotV, tAnd, tOr, tAndV, tOrV, tFld, tCall, rIxLH, rIxTH, atI, ixN, upd_same, cxK, ex2, ex3, ex3b, rIs1, rIs2, rNe2, tyN, kb1, kb2, kb3, kb4, kb5, kb6, rEq, rNe, scal, tMake_S, tMakeK_S, tMakeN_S, hd, shareO, W.cls_Share, W.n_Share_top, W.n_Share_bottom, look_top, look_bot]
      exact ⟨le2, Alloc.of q⟩
    · simp -dsimp [tSeq, tAsg, tRet, tIfS, tIf, tTest, tVar, tCons, tNil, tC, tOp, tUn, rI, rI0, rU, tCB, tLst_A, tTup_A, gName, L2.start, CMul, CPow, CDiv, tDrop, tBM, tBM0, tNext, tPar, gSub, rSetL, rIxL, rIxT, tChain, tB, tNot, tNotV, tAnd, tOr, tAndV, tOrV, tFld, tCall, rIxLH, rIxTH, atI, ixN, upd_same, cxK, ex2, ex3, ex3b, rIs1, rIs2, rNe2, tyN, kb1, kb2, kb3, kb4, kb5, kb6, rEq, rNe, scal, tMake_S, tMakeK_S, tMakeN_S]
      exact ⟨le2, Alloc.of q⟩
theorem scShareOf : FnScope ["number"] ["number"] d_share_of.scope := ⟨rfl, rfl, rfl, by decide +kernel, rfl, by decide +kernel, by decide +kernel⟩
def spShareOf (K : PySem.W.Frag) : Sp := fun vs H Q _ => ∃ (v : V) (c d : Int), vs = [v] ∧ Nu K H v c d ∧ ∀ z H', Same H H' → IsSh K H' z c d → Q (.ref z) H'
theorem ok_shareOf (W : Wd K mg) : ∃ fd, FnOk P w K mg base CX0 4 (He.ga K "share_of") fd ["number"] (spShareOf K) ∧ Binds K fd ["number"] [] := by
  obtain ⟨fdH, GH, FH⟩ := ok_init (P := P) (w := w) (base := base) W
  obtain ⟨ds1, v1, b1⟩ := bind2 FH
  obtain ⟨fd, F⟩ := W.F_share_of
  refine ⟨fd, F.ok scShareOf (fun vs H Q E h => ?_) (fun cdv A outer s H vs Q E hr h => ?_), FunD.bindsN F fun _ _ _ _ _ _ us hl => match us, hl with | [_], _ => rfl⟩
  · obtain ⟨v, c, d, rfl, _⟩ := h
    rfl
  · obtain ⟨v, c, d, rfl, h, q⟩ := h
    refine ⟨_, PSs.nox (pss_cons (ps_if (pt_val (pe_callB isi_G (by rfl) W.f_isinstance boot_isinstance (pa_cons (pv 0) (pa_cons (pe_glob (v := .ref (He.ga K "Share")) rfl W.g_Share rfl) pa_nil))))
        (pss_one (ps_ret (pv 0))) pss_nil)
      (pss_one (ps_ret (pe_make W.mkr_Share GH hr rfl W.g_Share b1 v1 pass0 (pa_cons (pv 0) pa_nil))))), ?_⟩
    obtain ⟨t, b, ty, kn, k, _, hb⟩ := W.nuTy h
    simp -dsimp [tSeq, tAsg, tRet, tIfS, tIf, tTest, tVar, tCons, tNil, tC, tOp, tUn, rI, rI0, rU, tCB, tLst_A, tTup_A, gName, L2.start, CMul, CPow, CDiv, tDrop, tBM, tBM0, tNext, tPar, gSub, rSetL, rIxL, rIxT, tChain, tB, tNot, tNotV, tAnd, tOr, tAndV, tOrV, tFld, tCall, rIxLH, rIxTH, atI, ixN, upd_same, cxK, ex2, ex3, ex3b, rIs1, rIs2, rNe2, tyN, kb1, kb2, kb3, kb4, kb5, kb6, rEq, rNe, scal, tMake_S, tMakeK_S, tMakeN_S]
    refine ⟨_, _, t, _, b, rfl, .own _, ty, k, ?_⟩
    rcases hb with ⟨rfl, y, rfl, hy⟩ | ⟨rfl, rfl, rfl⟩
    · exact .inr ⟨rfl, q y H (Same.refl _) hy⟩
    · refine .inl ⟨rfl, ?_⟩
      refine MkS.of rfl (by decide) (by decide +kernel) fun z H' _ i s' => ?_
      rw [(one_fd c).1, (one_fd c).2] at i
      exact q z H' s' i
def Sm (a b c d : Int) : Prop := a.natAbs < bigH ∧ b.natAbs < bigH ∧ c.natAbs < bigH ∧ d.natAbs < bigH
theorem scExcess : FnScope ["share", "number", "top", "bottom"] ["share", "number"] d_excess.scope := ⟨rfl, rfl, rfl, by decide +kernel, rfl, by decide +kernel, by decide +kernel⟩
def spExcess (K : PySem.W.Frag) : Sp := fun vs H Q _ => ∃ (x : Addr) (v : V) (a b c d : Int), vs = [.ref x, v] ∧ IsSh K H x a b ∧ Nu K H v c d ∧ Sm a b c d ∧ ∀ H', Same H H' → Q (.int (a * d - c * b)) H'
theorem ok_excess (W : Wd K mg) : ∃ fd, FnOk P w K mg base CX0 2 (He.ga K "excess") fd ["share", "number"] (spExcess K) ∧ Binds K fd ["share", "number"] [] := by
  obtain ⟨fdF, GF, bF⟩ := ok_frac (P := P) (w := w) (base := base) W
  have kF : PySem.W.keepIn K (.ref (He.ga K "fraction")) = true := by obtain ⟨fd, F⟩ := W.F_fraction; exact F.kp
  obtain ⟨fd, F⟩ := W.F_excess
  refine ⟨fd, F.ok scExcess (fun vs H Q E h => ?_) (fun cdv A outer s H vs Q E hr h => ?_), FunD.bindsN F fun _ _ _ _ _ _ us hl => match us, hl with | [_, _], _ => rfl⟩
  · obtain ⟨x, v, a, b, c, d, rfl, _⟩ := h
    rfl
  · obtain ⟨x, v, a, b, c, d, rfl, hx, hv, ⟨ha, hb, hc, hd⟩, q⟩ := h
    refine ⟨_, PSs.nox (pss_cons (ps_asg (pe_call GF hr rfl W.g_fraction kF bF .nil pass0 (pa_cons (pv 1) pa_nil)) (pg_tup rfl (pgs_cons (pg_name (i := 2) scExcess.nd rfl (Or.inl rfl)) (pgs_cons (pg_name (i := 3) scExcess.nd rfl (Or.inl rfl)) pgs_nil))))
      (pss_one (ps_ret (pe_op op_sub (pe_op op_mulX9 (pe_fld (pv 0) rfl) (pv 3)) (pe_op op_mulX9 (pv 2) (pe_fld (pv 0) rfl)))))), ?_⟩
    simp -dsimp [tSeq, tAsg, tRet, tIfS, tIf, tTest, tVar, tCons, tNil, tC, tOp, tUn, rI, rI0, rU, tCB, tLst_A, tTup_A, gName, L2.start, CMul, CPow, CDiv, tDrop, tBM, tBM0, tNext, tPar, gSub, rSetL, rIxL, rIxT, tChain, tB, tNot, tNotV, tAnd, tOr, tAndV, tOrV, tFld, tCall, rIxLH, rIxTH, atI, ixN, upd_same, cxK, ex2, ex3, ex3b, rIs1, rIs2, rNe2, tyN, kb1, kb2, kb3, kb4, kb5, kb6, rEq, rNe, scal, tMake_S, tMakeK_S, tMakeN_S]
    refine ⟨v, c, d, rfl, hv, fun p H1 np hp s1 => tup2 hp ?_⟩
    obtain ⟨dx, hx1⟩ := hx.same s1
    simp -dsimp [tSeq, tAsg, tRet, tIfS, tIf, tTest, tVar, tCons, tNil, tC, tOp, tUn, rI, rI0, rU, tCB, tLst_A, tTup_A, gName, L2.start, CMul, CPow, CDiv, tDrop, tBM, tBM0, tNext, tPar, gSub, rSetL, rIxL, rIxT, tChain, tB, tNot, tNotV, tAnd, tOr, tAndV, tOrV, tFld, tCall, rIxLH, rIxTH, atI, ixN, upd_same, cxK, ex2, ex3, ex3b, rIs1, rIs2, rNe2, tyN, kb1, kb2, kb3, kb4, kb5, kb6, rEq, rNe, scal, tMake_S, tMakeK_S, tMakeN_S, hx1, shareO, W.cls_Share, W.n_Share_top, W.n_Share_bottom, look_top, look_bot, h_lt_M ha, h_lt_M hb, h_lt_M hc, h_lt_M hd]
    exact q H1 s1
/-- what an own comparison promises of a number -/
def spCmp (K : PySem.W.Frag) (f : Int → Bool) : Sp := fun vs H Q _ => ∃ (x : Addr) (v : V) (a b c d : Int), vs = [.ref x, v] ∧ IsSh K H x a b ∧ Nu K H v c d ∧ Sm a b c d ∧ ∀ H', Same H H' → Q (.bl (f (a * d - c * b))) H'
theorem spCmp_len {K : PySem.W.Frag} {f : Int → Bool} {vs : List V} {H : Hp} {Q : VK} {E : XK} (h : spCmp K f vs H Q E) : vs.length = 2 := by
  obtain ⟨x, v, a, b, c, d, rfl, _⟩ := h
  rfl
/-- .. and __eq__ of other things -/
def spEqS (K : PySem.W.Frag) : Sp := fun vs H Q E => spCmp K (fun z => decide (z = 0)) vs H Q E ∨ ∃ (x : Addr) (a b : Int) (v : V) (t : Value), vs = [.ref x, v] ∧ IsSh K H x a b ∧ TyOf K H v t ∧ NuX.KN K t false ∧ Q (.bl false) H
def sc2 (sc : Scope) : Prop := FnScope ["self", "other"] ["self", "other"] sc
theorem sc_lt : FnScope ["self", "other"] ["self", "other"] d_Share_lt.scope := ⟨rfl, rfl, rfl, by decide +kernel, rfl, by decide +kernel, by decide +kernel⟩
theorem ok_lt (W : Wd K mg) : ∃ fd, FnOk P w K mg base CX0 3 (He.ma K (He.ga K "Share") "__lt__") fd ["self", "other"] (spCmp K (fun z => decide (z < 0))) ∧ Binds K fd ["self", "other"] [] := by
  obtain ⟨fdN, GN, bN⟩ := ok_isNum (P := P) (w := w) (base := base) W
  obtain ⟨fdX, GX, bX⟩ := ok_excess (P := P) (w := w) (base := base) W
  have kN : PySem.W.keepIn K (.ref (He.ga K "is_number")) = true := by obtain ⟨fd, F⟩ := W.F_is_number; exact F.kp
  have kX : PySem.W.keepIn K (.ref (He.ga K "excess")) = true := by obtain ⟨fd, F⟩ := W.F_excess; exact F.kp
  obtain ⟨fd, F⟩ := W.F_Share_lt
  refine ⟨fd, F.ok sc_lt (fun vs H Q E h => spCmp_len h) (fun cdv A outer s H vs Q E hr h => ?_), FunD.bindsN F fun _ _ _ _ _ _ us hl => match us, hl with | [_, _], _ => rfl⟩
  obtain ⟨x, v, a, b, c, d, rfl, hx, hv, hs, q⟩ := h
  refine ⟨_, PSs.nox (pss_cons (ps_if (pt_not (pt_val (pe_call GN hr rfl W.g_is_number kN bN .nil pass0 (pa_cons (pv 1) pa_nil)))) pss_never pss_nil)
    (pss_one (ps_ret (pe_cmpR op_lt (pe_call GX hr rfl W.g_excess kX bX .nil pass0 (pa_cons (pv 0) (pa_cons (pv 1) pa_nil))) pe_int (nomark _))))), ?_⟩
  obtain ⟨t, bb, ty, kn, k, _, _⟩ := W.nuTy hv
  simp -dsimp [tSeq, tAsg, tRet, tIfS, tIf, tTest, tVar, tCons, tNil, tC, tOp, tUn, rI, rI0, rU, tCB, tLst_A, tTup_A, gName, L2.start, CMul, CPow, CDiv, tDrop, tBM, tBM0, tNext, tPar, gSub, rSetL, rIxL, rIxT, tChain, tB, tNot, tNotV, tAnd, tOr, tAndV, tOrV, tFld, tCall, rIxLH, rIxTH, atI, ixN, upd_same, cxK, ex2, ex3, ex3b, rIs1, rIs2, rNe2, tyN, kb1, kb2, kb3, kb4, kb5, kb6, rEq, rNe, scal, tMake_S, tMakeK_S, tMakeN_S]
  exact ⟨_, t, true, rfl, ty, kn, .inr ⟨rfl, _, _, a, b, c, d, rfl, hx, hv, hs, fun H' s' => ⟨_, rfl, q H' s'⟩⟩⟩
theorem sc_le : FnScope ["self", "other"] ["self", "other"] d_Share_le.scope := ⟨rfl, rfl, rfl, by decide +kernel, rfl, by decide +kernel, by decide +kernel⟩
theorem ok_le (W : Wd K mg) : ∃ fd, FnOk P w K mg base CX0 3 (He.ma K (He.ga K "Share") "__le__") fd ["self", "other"] (spCmp K (fun z => decide (z ≤ 0))) ∧ Binds K fd ["self", "other"] [] := by
  obtain ⟨fdN, GN, bN⟩ := ok_isNum (P := P) (w := w) (base := base) W
  obtain ⟨fdX, GX, bX⟩ := ok_excess (P := P) (w := w) (base := base) W
  have kN : PySem.W.keepIn K (.ref (He.ga K "is_number")) = true := by obtain ⟨fd, F⟩ := W.F_is_number; exact F.kp
  have kX : PySem.W.keepIn K (.ref (He.ga K "excess")) = true := by obtain ⟨fd, F⟩ := W.F_excess; exact F.kp
  obtain ⟨fd, F⟩ := W.F_Share_le
  refine ⟨fd, F.ok sc_le (fun vs H Q E h => spCmp_len h) (fun cdv A outer s H vs Q E hr h => ?_), FunD.bindsN F fun _ _ _ _ _ _ us hl => match us, hl with | [_, _], _ => rfl⟩
  obtain ⟨x, v, a, b, c, d, rfl, hx, hv, hs, q⟩ := h
  refine ⟨_, PSs.nox (pss_cons (ps_if (pt_not (pt_val (pe_call GN hr rfl W.g_is_number kN bN .nil pass0 (pa_cons (pv 1) pa_nil)))) pss_never pss_nil)
    (pss_one (ps_ret (pe_cmpR op_le (pe_call GX hr rfl W.g_excess kX bX .nil pass0 (pa_cons (pv 0) (pa_cons (pv 1) pa_nil))) pe_int (nomark _))))), ?_⟩
  obtain ⟨t, bb, ty, kn, k, _, _⟩ := W.nuTy hv
  simp -dsimp [tSeq, tAsg, tRet, tIfS, tIf, tTest, tVar, tCons, tNil, tC, tOp, tUn, rI, rI0, rU, tCB, tLst_A, tTup_A, gName, L2.start, CMul, CPow, CDiv, tDrop, tBM, tBM0, tNext, tPar, gSub, rSetL, rIxL, rIxT, tChain, tB, tNot, tNotV, tAnd, tOr, tAndV, tOrV, tFld, tCall, rIxLH, rIxTH, atI, ixN, upd_same, cxK, ex2, ex3, ex3b, rIs1, rIs2, rNe2, tyN, kb1, kb2, kb3, kb4, kb5, kb6, rEq, rNe, scal, tMake_S, tMakeK_S, tMakeN_S]
  exact ⟨_, t, true, rfl, ty, kn, .inr ⟨rfl, _, _, a, b, c, d, rfl, hx, hv, hs, fun H' s' => ⟨_, rfl, q H' s'⟩⟩⟩
theorem sc_gt : FnScope ["self", "other"] ["self", "other"] d_Share_gt.scope := ⟨rfl, rfl, rfl, by decide +kernel, rfl, by decide +kernel, by decide +kernel⟩
theorem ok_gt (W : Wd K mg) : ∃ fd, FnOk P w K mg base CX0 3 (He.ma K (He.ga K "Share") "__gt__") fd ["self", "other"] (spCmp K (fun z => decide (0 < z))) ∧ Binds K fd ["self", "other"] [] := by
  obtain ⟨fdN, GN, bN⟩ := ok_isNum (P := P) (w := w) (base := base) W
  obtain ⟨fdX, GX, bX⟩ := ok_excess (P := P) (w := w) (base := base) W
  have kN : PySem.W.keepIn K (.ref (He.ga K "is_number")) = true := by obtain ⟨fd, F⟩ := W.F_is_number; exact F.kp
  have kX : PySem.W.keepIn K (.ref (He.ga K "excess")) = true := by obtain ⟨fd, F⟩ := W.F_excess; exact F.kp
  obtain ⟨fd, F⟩ := W.F_Share_gt
  refine ⟨fd, F.ok sc_gt (fun vs H Q E h => spCmp_len h) (fun cdv A outer s H vs Q E hr h => ?_), FunD.bindsN F fun _ _ _ _ _ _ us hl => match us, hl with | [_, _], _ => rfl⟩
  obtain ⟨x, v, a, b, c, d, rfl, hx, hv, hs, q⟩ := h
  refine ⟨_, PSs.nox (pss_cons (ps_if (pt_not (pt_val (pe_call GN hr rfl W.g_is_number kN bN .nil pass0 (pa_cons (pv 1) pa_nil)))) pss_never pss_nil)
    (pss_one (ps_ret (pe_cmpR op_gt (pe_call GX hr rfl W.g_excess kX bX .nil pass0 (pa_cons (pv 0) (pa_cons (pv 1) pa_nil))) pe_int (nomark _))))), ?_⟩
  obtain ⟨t, bb, ty, kn, k, _, _⟩ := W.nuTy hv
  simp -dsimp [tSeq, tAsg, tRet, tIfS, tIf, tTest, tVar, tCons, tNil, tC, tOp, tUn, rI, rI0, rU, tCB, tLst_A, tTup_A, gName, L2.start, CMul, CPow, CDiv, tDrop, tBM, tBM0, tNext, tPar, gSub, rSetL, rIxL, rIxT, tChain, tB, tNot, tNotV, tAnd, tOr, tAndV, tOrV, tFld, tCall, rIxLH, rIxTH, atI, ixN, upd_same, cxK, ex2, ex3, ex3b, rIs1, rIs2, rNe2, tyN, kb1, kb2, kb3, kb4, kb5, kb6, rEq, rNe, scal, tMake_S, tMakeK_S, tMakeN_S]
  exact ⟨_, t, true, rfl, ty, kn, .inr ⟨rfl, _, _, a, b, c, d, rfl, hx, hv, hs, fun H' s' => ⟨_, rfl, q H' s'⟩⟩⟩
theorem sc_ge : FnScope ["self", "other"] ["self", "other"] d_Share_ge.scope := ⟨rfl, rfl, rfl, by decide +kernel, rfl, by decide +kernel, by decide +kernel⟩
theorem ok_ge (W : Wd K mg) : ∃ fd, FnOk P w K mg base CX0 3 (He.ma K (He.ga K "Share") "__ge__") fd ["self", "other"] (spCmp K (fun z => decide (0 ≤ z))) ∧ Binds K fd ["self", "other"] [] := by
  obtain ⟨fdN, GN, bN⟩ := ok_isNum (P := P) (w := w) (base := base) W
  obtain ⟨fdX, GX, bX⟩ := ok_excess (P := P) (w := w) (base := base) W
  have kN : PySem.W.keepIn K (.ref (He.ga K "is_number")) = true := by obtain ⟨fd, F⟩ := W.F_is_number; exact F.kp
  have kX : PySem.W.keepIn K (.ref (He.ga K "excess")) = true := by obtain ⟨fd, F⟩ := W.F_excess; exact F.kp
  obtain ⟨fd, F⟩ := W.F_Share_ge
  refine ⟨fd, F.ok sc_ge (fun vs H Q E h => spCmp_len h) (fun cdv A outer s H vs Q E hr h => ?_), FunD.bindsN F fun _ _ _ _ _ _ us hl => match us, hl with | [_, _], _ => rfl⟩
  obtain ⟨x, v, a, b, c, d, rfl, hx, hv, hs, q⟩ := h
  refine ⟨_, PSs.nox (pss_cons (ps_if (pt_not (pt_val (pe_call GN hr rfl W.g_is_number kN bN .nil pass0 (pa_cons (pv 1) pa_nil)))) pss_never pss_nil)
    (pss_one (ps_ret (pe_cmpR op_ge (pe_call GX hr rfl W.g_excess kX bX .nil pass0 (pa_cons (pv 0) (pa_cons (pv 1) pa_nil))) pe_int (nomark _))))), ?_⟩
  obtain ⟨t, bb, ty, kn, k, _, _⟩ := W.nuTy hv
  simp -dsimp [tSeq, tAsg, tRet, tIfS, tIf, tTest, tVar, tCons, tNil, tC, tOp, tUn, rI, rI0, rU, tCB, tLst_A, tTup_A, gName, L2.start, CMul, CPow, CDiv, tDrop, tBM, tBM0, tNext, tPar, gSub, rSetL, rIxL, rIxT, tChain, tB, tNot, tNotV, tAnd, tOr, tAndV, tOrV, tFld, tCall, rIxLH, rIxTH, atI, ixN, upd_same, cxK, ex2, ex3, ex3b, rIs1, rIs2, rNe2, tyN, kb1, kb2, kb3, kb4, kb5, kb6, rEq, rNe, scal, tMake_S, tMakeK_S, tMakeN_S]
  exact ⟨_, t, true, rfl, ty, kn, .inr ⟨rfl, _, _, a, b, c, d, rfl, hx, hv, hs, fun H' s' => ⟨_, rfl, q H' s'⟩⟩⟩
theorem sc_eq : FnScope ["self", "other"] ["self", "other"] d_Share_eq.scope := ⟨rfl, rfl, rfl, by decide +kernel, rfl, by decide +kernel, by decide +kernel⟩
theorem ok_eq (W : Wd K mg) : ∃ fd, FnOk P w K mg base CX0 3 (He.ma K (He.ga K "Share") "__eq__") fd ["self", "other"] (spEqS K) ∧ Binds K fd ["self", "other"] [] := by
  obtain ⟨fdN, GN, bN⟩ := ok_isNum (P := P) (w := w) (base := base) W
  obtain ⟨fdX, GX, bX⟩ := ok_excess (P := P) (w := w) (base := base) W
  have kN : PySem.W.keepIn K (.ref (He.ga K "is_number")) = true := by obtain ⟨fd, F⟩ := W.F_is_number; exact F.kp
  have kX : PySem.W.keepIn K (.ref (He.ga K "excess")) = true := by obtain ⟨fd, F⟩ := W.F_excess; exact F.kp
  obtain ⟨fd, F⟩ := W.F_Share_eq
  refine ⟨fd, F.ok sc_eq (fun vs H Q E h => ?_) (fun cdv A outer s H vs Q E hr h => ?_), FunD.bindsN F fun _ _ _ _ _ _ us hl => match us, hl with | [_, _], _ => rfl⟩
  · rcases h with h | ⟨x, a, b, v, t, rfl, _⟩
    · exact spCmp_len h
    · rfl
  · refine ⟨_, PSs.nox (pss_cons (ps_if (pt_not (pt_val (pe_call GN hr rfl W.g_is_number kN bN .nil pass0 (pa_cons (pv 1) pa_nil)))) (pss_one (ps_ret pe_bl)) pss_nil)
      (pss_one (ps_ret (pe_cmpR op_eq (pe_call GX hr rfl W.g_excess kX bX .nil pass0 (pa_cons (pv 0) (pa_cons (pv 1) pa_nil))) pe_int (nomark _))))), ?_⟩
    rcases h with ⟨x, v, a, b, c, d, rfl, hx, hv, hs, q⟩ | ⟨x, a, b, v, t, rfl, hx, ty, kn, q⟩
    · obtain ⟨t, bb, ty, kn, k, _, _⟩ := W.nuTy hv
      simp -dsimp [tSeq, tAsg, tRet, tIfS, tIf, tTest, tVar, tCons, tNil, tC, tOp, tUn, rI, rI0, rU, tCB, tLst_A, tTup_A, gName, L2.start, CMul, CPow, CDiv, tDrop, tBM, tBM0, tNext, tPar, gSub, rSetL, rIxL, rIxT, tChain, tB, tNot, tNotV, tAnd, tOr, tAndV, tOrV, tFld, tCall, rIxLH, rIxTH, atI, ixN, upd_same, cxK, ex2, ex3, ex3b, rIs1, rIs2, rNe2, tyN, kb1, kb2, kb3, kb4, kb5, kb6, rEq, rNe, scal, tMake_S, tMakeK_S, tMakeN_S]
      refine ⟨_, t, true, rfl, ty, kn, .inr ⟨rfl, _, _, a, b, c, d, rfl, hx, hv, hs, fun H' s' => ?_⟩⟩
      have e : decide (V.int (a * d - c * b) = V.int 0) = decide (a * d - c * b = 0) := by simp only [V.int.injEq]
      refine ⟨rfl, ?_⟩
      show Q (.bl (decide (V.int (a * d - c * b) = V.int 0))) H'
      rw [e]
      exact q H' s'
    · simp -dsimp [tSeq, tAsg, tRet, tIfS, tIf, tTest, tVar, tCons, tNil, tC, tOp, tUn, rI, rI0, rU, tCB, tLst_A, tTup_A, gName, L2.start, CMul, CPow, CDiv, tDrop, tBM, tBM0, tNext, tPar, gSub, rSetL, rIxL, rIxT, tChain, tB, tNot, tNotV, tAnd, tOr, tAndV, tOrV, tFld, tCall, rIxLH, rIxTH, atI, ixN, upd_same, cxK, ex2, ex3, ex3b, rIs1, rIs2, rNe2, tyN, kb1, kb2, kb3, kb4, kb5, kb6, rEq, rNe, scal, tMake_S, tMakeK_S, tMakeN_S]
      exact ⟨_, t, false, rfl, ty, kn, .inl ⟨rfl, q⟩⟩
end
/-! ### terms made -/
def tNo : TE := fun _ _ _ => False
theorem pe_no {X : Cx} {e : Expr} : PE X e tNo := ⟨fun _ _ _ _ _ _ h => h.elim⟩
def termO (C dx : Addr) (n t : V) : HO := .ins C dx [("number", n), ("times", t)]
section
variable {P : Program} {w : World} {K : PySem.W.Frag} {mg : Str → Option Value} {base : Heap}
theorem scTInit : FnScope ["self", "number", "times"] ["self", "number", "times"] d_Term_init.scope := ⟨rfl, rfl, rfl, by decide +kernel, rfl, by decide +kernel, by decide +kernel⟩
def spTInit (K : PySem.W.Frag) : Sp := fun vs H Q _ => ∃ (x dx : Addr) (n t : V), vs = [.ref x, n, t] ∧ H x = some (.ins (He.ga K "Term") dx []) ∧ Q .non (upd H x (termO (He.ga K "Term") dx n t))
theorem ok_tinit (W : Wd K mg) : ∃ fd, FnOk P w K mg base CX0 1 (He.ma K (He.ga K "Term") "__init__") fd ["self", "number", "times"] (spTInit K) ∧ Binds K fd ["self", "number", "times"] [] := by
  obtain ⟨fd, F⟩ := W.F_Term_init
  refine ⟨fd, F.ok scTInit (fun vs H Q E h => ?_) (fun cdv A outer s H vs Q E hr h => ?_), FunD.bindsN F fun _ _ _ _ _ _ us hl => match us, hl with | [_, _, _], _ => rfl⟩
  · obtain ⟨x, dx, n, t, rfl, _⟩ := h
    rfl
  · obtain ⟨x, dx, n, t, rfl, hx, q⟩ := h
    refine ⟨_, PSs.nox (pss_cons (ps_fld (pv 0) (pv 1) rfl) (pss_one (ps_fld (pv 0) (pv 2) rfl))), ?_⟩
    have pf : ∀ (u v : V), putF "times" v (putF "number" u []) = [(("number" : Str), u), (("times" : Str), v)] := fun u v => by
      show (if ("number" : Str) = "times" then [(("number" : Str), v)] else (("number" : Str), u) :: putF "times" v []) = _
      rw [if_neg (by decide +kernel)]
      rfl
    have pl : ∀ u : V, (putF "number" u []).length < 1000 := fun u => by
      show 1 < 1000
      decide
    simp -dsimp [tSeq, tAsg, tRet, tIfS, tIf, tTest, tVar, tCons, tNil, tC, tOp, tUn, rI, rI0, rU, tCB, tLst_A, tTup_A, gName, L2.start, CMul, CPow, CDiv, tDrop, tBM, tBM0, tNext, tPar, gSub, rSetL, rIxL, rIxT, tChain, tB, tNot, tNotV, tAnd, tOr, tAndV, tOrV, tFld, tCall, rIxLH, rIxTH, atI, ixN, upd_same, cxK, ex2, ex3, ex3b, rIs1, rIs2, rNe2, tyN, kb1, kb2, kb3, kb4, kb5, kb6, rEq, rNe, scal, tMake_S, tMakeK_S, tMakeN_S, sFld, hx, W.cls_Term, W.n_Term_number, W.n_Term_times, upd_upd, pf, pl]
    exact q
/-- a term is made of n and t -/
def MkT (K : PySem.W.Frag) (H : Hp) (vs : List V) (Q : V → Hp → Prop) (E : XK) (_ : Lk (Q, E) := ⟨⟩) : Prop :=
  ∀ x dx, H x = none → H dx = none → dx ≠ x → spTInit K (.ref x :: vs) (upd (upd H dx (.own x)) x (.ins (He.ga K "Term") dx [])) (fun v H2 => v = .non ∧ Q (.ref x) H2) E
theorem MkT.of {H : Hp} {vs : List V} {n t : V} {Q : V → Hp → Prop} {E : XK} (e : vs = [n, t]) (h : ∀ x dx H', H x = none → H' x = some (termO (He.ga K "Term") dx n t) → Same H H' → Q (.ref x) H') : MkT K H vs Q E := by
  intro x dx nx nd ne
  refine ⟨x, dx, n, t, by rw [e], upd_same, rfl, h x dx _ nx upd_same ?_⟩
  intro c o ec
  rw [upd_ne (ne_of_none ec nx), upd_ne (ne_of_none ec nx), upd_ne (ne_of_none ec nd)]
  exact ec
theorem tMake_T {E : XK} {t : TA} {σ : List (Option V)} {H : Hp} {Q : V → Hp → Prop} : tMake (He.ga K "Term") (spTInit K) [] E t σ H Q = t σ H fun vs H1 => MkT K H1 vs Q E := by
  show (t σ H fun vs H1 => MkT K H1 (vs ++ []) Q E) = _
  simp only [List.append_nil]
/-- a share: its two numbers as a pair -/
abbrev IsS (K : PySem.W.Frag) (H : Hp) (x : Addr) (p : Int × Int) : Prop := IsSh K H x p.1 p.2
/-- a term: its number and its multiples -/
def IsTm (K : PySem.W.Frag) (H : Hp) (x : Addr) (n t0 t1 t2 : Int × Int) : Prop := ∃ dx a tp a0 a1 a2, H x = some (termO (He.ga K "Term") dx (.ref a) (.ref tp)) ∧ IsS K H a n ∧ H tp = some (.tup [.ref a0, .ref a1, .ref a2]) ∧ IsS K H a0 t0 ∧ IsS K H a1 t1 ∧ IsS K H a2 t2
theorem IsTm.same {H H' : Hp} {x : Addr} {n t0 t1 t2 : Int × Int} (h : IsTm K H x n t0 t1 t2) (s : Same H H') : IsTm K H' x n t0 t1 t2 := by
  obtain ⟨dx, a, tp, a0, a1, a2, h1, h2, h3, h4, h5, h6⟩ := h
  exact ⟨dx, a, tp, a0, a1, a2, s _ _ h1, h2.same s, s _ _ h3, h4.same s, h5.same s, h6.same s⟩
theorem le3' : 3 ≤ sizeLine := by decide
theorem scConst : FnScope ["number"] ["number"] d_Term_constant.scope := ⟨rfl, rfl, rfl, by decide +kernel, rfl, by decide +kernel, by decide +kernel⟩
def spConst (K : PySem.W.Frag) : Sp := fun vs H Q _ => ∃ (v : V) (c d : Int), vs = [v] ∧ Nu K H v c d ∧ ∀ z H', Same H H' → IsTm K H' z (c, d) (0, 1) (0, 1) (0, 1) → Q (.ref z) H'
theorem zero_fd : (0 : Int).fdiv (side 0 1) = 0 ∧ (1 : Int).fdiv (side 0 1) = 1 := one_fd 0
theorem MkS.zero {H : Hp} {Q : V → Hp → Prop} {E : XK} (h : ∀ z H', Same H H' → IsSh K H' z 0 1 → Q (.ref z) H') : MkS K H [.int 0, .int 1] Q E := MkS.of rfl (by decide) (by decide +kernel) fun z H' _ i s' => h z H' s' (by
  rw [zero_fd.1, zero_fd.2] at i
  exact i)
theorem ok_const (W : Wd K mg) : ∃ fd, FnOk P w K mg base CX0 5 (He5.wf K (He.ga K "Term") "staticmethod" "constant") fd ["number"] (spConst K) ∧ Binds K fd ["number"] [] := by
  obtain ⟨fdH, GH, FH⟩ := ok_init (P := P) (w := w) (base := base) W
  obtain ⟨ds1, v1, b1⟩ := bind2 FH
  obtain ⟨fdO, GO, bO⟩ := ok_shareOf (P := P) (w := w) (base := base) W
  obtain ⟨fdT, GT, bT⟩ := ok_tinit (P := P) (w := w) (base := base) W
  have kO : PySem.W.keepIn K (.ref (He.ga K "share_of")) = true := by obtain ⟨fd, F⟩ := W.F_share_of; exact F.kp
  obtain ⟨fd, F⟩ := W.F_Term_constant
  refine ⟨fd, F.ok scConst (fun vs H Q E h => ?_) (fun cdv A outer s H vs Q E hr h => ?_), FunD.bindsN F fun _ _ _ _ _ _ us hl => match us, hl with | [_], _ => rfl⟩
  · obtain ⟨v, c, d, rfl, _⟩ := h
    rfl
  · obtain ⟨v, c, d, rfl, h, q⟩ := h
    have r3 : Room 3 _ := hr.mono (by decide)
    have r2 : Room 2 _ := hr.mono (by decide)
    refine ⟨_, PSs.nox (pss_one (ps_ret (pe_make W.mkr_Term GT r2 rfl W.g_Term bT .nil pass0 (pa_cons (pe_call GO hr rfl W.g_share_of kO bO .nil pass0 (pa_cons (pv 0) pa_nil))
      (pa_cons (pe_tup (pa_cons (pe_make W.mkr_Share GH r3 rfl W.g_Share b1 v1 pass0 (pa_cons pe_int pa_nil)) (pa_cons (pe_make W.mkr_Share GH r3 rfl W.g_Share b1 v1 pass0 (pa_cons pe_int pa_nil)) (pa_cons (pe_make W.mkr_Share GH r3 rfl W.g_Share b1 v1 pass0 (pa_cons pe_int pa_nil)) pa_nil)))) pa_nil))))), ?_⟩
    simp -dsimp [tSeq, tAsg, tRet, tIfS, tIf, tTest, tVar, tCons, tNil, tC, tOp, tUn, rI, rI0, rU, tCB, tLst_A, tTup_A, gName, L2.start, CMul, CPow, CDiv, tDrop, tBM, tBM0, tNext, tPar, gSub, rSetL, rIxL, rIxT, tChain, tB, tNot, tNotV, tAnd, tOr, tAndV, tOrV, tFld, tCall, rIxLH, rIxTH, atI, ixN, upd_same, cxK, ex2, ex3, ex3b, rIs1, rIs2, rNe2, tyN, kb1, kb2, kb3, kb4, kb5, kb6, rEq, rNe, scal, tMake_S, tMakeK_S, tMakeN_S, tMake_T]
    refine ⟨v, c, d, rfl, h, fun a H1 s1 i1 => ?_⟩
    refine MkS.zero fun a0 H2 s2 i2 => MkS.zero fun a1 H3 s3 i3 => MkS.zero fun a2 H4 s4 i4 => ⟨le3', Alloc.of fun tp H5 n5 e5 s5 => MkT.of rfl fun x dx H6 n6 e6 s6 => ?_⟩
    have s56 := s5.trans s6
    exact q x H6 ((((s1.trans s2).trans s3).trans s4).trans s56) ⟨dx, a, tp, a0, a1, a2, e6, i1.same (((s2.trans s3).trans s4).trans s56), s6 _ _ e5, i2.same ((s3.trans s4).trans s56), i3.same (s4.trans s56), i4.same s56⟩
theorem Wd.isTm (W : Wd K mg) {H : Hp} {x : Addr} {n t0 t1 t2 : Int × Int} (h : IsTm K H x n t0 t1 t2) : TyOf K H (.ref x) (.ref (He.ga K "Term")) := by
  obtain ⟨dx, a, tp, a0, a1, a2, h1, _⟩ := h
  exact .ins h1 W.cls_Term (He.eqO_ok (W.ex 5 rfl)) (He.eqO_ok (W.ex 1 rfl)) (of_decide_eq_true (W.ex 2 rfl)) (of_decide_eq_true (W.ex 6 rfl))
theorem scTEq : FnScope ["self", "other"] ["self", "other"] d_Term_eq.scope := ⟨rfl, rfl, rfl, by decide +kernel, rfl, by decide +kernel, by decide +kernel⟩
/-- term == x, x a thing that is no term -/
def spTEqNo (K : PySem.W.Frag) : Sp := fun vs H Q _ => ∃ (x : Addr) (v : V) (t : Value), vs = [.ref x, v] ∧ TyOf K H v t ∧ PySem.W.kitOne K t (.ref (He.ga K "Term")) = some false ∧ Q (.bl false) H
theorem ok_teqNo (W : Wd K mg) : ∃ fd, FnOk P w K mg base CX0 1 (He.ma K (He.ga K "Term") "__eq__") fd ["self", "other"] (spTEqNo K) ∧ Binds K fd ["self", "other"] [] := by
  obtain ⟨fd, F⟩ := W.F_Term_eq
  refine ⟨fd, F.ok scTEq (fun vs H Q E h => ?_) (fun cdv A outer s H vs Q E hr h => ?_), FunD.bindsN F fun _ _ _ _ _ _ us hl => match us, hl with | [_, _], _ => rfl⟩
  · obtain ⟨x, v, t, rfl, _⟩ := h
    rfl
  · obtain ⟨x, v, t, rfl, ty, k, q⟩ := h
    refine ⟨_, PSs.nox (pss_one (ps_ret (pe_and (pe_callB isi_G (by rfl) W.f_isinstance boot_isinstance (pa_cons (pv 1) (pa_cons (pe_glob (v := .ref (He.ga K "Term")) rfl W.g_Term rfl) pa_nil))) pe_no))), ?_⟩
    simp -dsimp [tSeq, tAsg, tRet, tIfS, tIf, tTest, tVar, tCons, tNil, tC, tOp, tUn, rI, rI0, rU, tCB, tLst_A, tTup_A, gName, L2.start, CMul, CPow, CDiv, tDrop, tBM, tBM0, tNext, tPar, gSub, rSetL, rIxL, rIxT, tChain, tB, tNot, tNotV, tAnd, tOr, tAndV, tOrV, tFld, tCall, rIxLH, rIxTH, atI, ixN, upd_same, cxK, ex2, ex3, ex3b, rIs1, rIs2, rNe2, tyN, kb1, kb2, kb3, kb4, kb5, kb6, rEq, rNe, scal, tMake_S, tMakeK_S, tMakeN_S, tNo]
    exact ⟨_, _, t, _, false, rfl, .own _, ty, k, rfl, q⟩
end
theorem low_one (c : Int) : Low c 1 := ⟨by decide, Int.gcd_one⟩
/-! ### shares' operators -/
section
variable {P : Program} {w : World} {K : PySem.W.Frag} {mg : Str → Option Value} {base : Heap}
/-- what an own def for an operator promises: f over g of the two numbers' parts -/
def spBin (K : PySem.W.Frag) (f g : Int → Int → Int → Int → Int) : Sp := fun vs H Q _ => ∃ (x : Addr) (v : V) (a b c d : Int), vs = [.ref x, v] ∧ IsSh K H x a b ∧ Nu K H v c d ∧ Sm a b c d ∧ g a b c d ≠ 0 ∧ Res K H (f a b c d) (g a b c d) Q
theorem spBin_len {K : PySem.W.Frag} {f g : Int → Int → Int → Int → Int} {vs : List V} {H : Hp} {Q : VK} {E : XK} (h : spBin K f g vs H Q E) : vs.length = 2 := by
  obtain ⟨x, v, a, b, c, d, rfl, _⟩ := h
  rfl
def fAdd (a b c d : Int) : Int := a * d + c * b
def fSub (a b c d : Int) : Int := a * d - c * b
def fMul (a _b c _d : Int) : Int := a * c
def gMul (_a b _c d : Int) : Int := b * d
theorem gMul9 {a b c d : Int} (h : Sm a b c d) : (b * d).natAbs < big9 := by
  have := mul_h h.2.1 h.2.2.2
  omega
theorem scAdd : FnScope ["self", "other", "top", "bottom"] ["self", "other"] d_Share_add.scope := ⟨rfl, rfl, rfl, by decide +kernel, rfl, by decide +kernel, by decide +kernel⟩
theorem ok_add (W : Wd K mg) : ∃ fd, FnOk P w K mg base CX0 4 (He.ma K (He.ga K "Share") "__add__") fd ["self", "other"] (spBin K fAdd gMul) ∧ Binds K fd ["self", "other"] [] := by
  obtain ⟨fdH, GH, FH⟩ := ok_init (P := P) (w := w) (base := base) W
  obtain ⟨fdN, GN, bN⟩ := ok_isNum (P := P) (w := w) (base := base) W
  obtain ⟨fdF, GF, bF⟩ := ok_frac (P := P) (w := w) (base := base) W
  have kN : PySem.W.keepIn K (.ref (He.ga K "is_number")) = true := by obtain ⟨fd, F⟩ := W.F_is_number; exact F.kp
  have kF : PySem.W.keepIn K (.ref (He.ga K "fraction")) = true := by obtain ⟨fd, F⟩ := W.F_fraction; exact F.kp
  obtain ⟨fd, F⟩ := W.F_Share_add
  refine ⟨fd, F.ok scAdd (fun vs H Q E h => spBin_len h) (fun cdv A outer s H vs Q E hr h => ?_), FunD.bindsN F fun _ _ _ _ _ _ us hl => match us, hl with | [_, _], _ => rfl⟩
  obtain ⟨x, v, a, b, c, d, rfl, hx, hv, hs, hz, q⟩ := h
  have hs' := hs
  obtain ⟨ha, hb, hc, hd⟩ := hs'
  have r1 : Room 1 _ := hr.mono (by decide)
  have r2 : Room 2 _ := hr.mono (by decide)
  refine ⟨_, PSs.nox (pss_cons (ps_if (pt_not (pt_val (pe_call GN r2 rfl W.g_is_number kN bN .nil pass0 (pa_cons (pv 1) pa_nil)))) pss_never pss_nil)
    (pss_cons (ps_asg (pe_call GF r1 rfl W.g_fraction kF bF .nil pass0 (pa_cons (pv 1) pa_nil)) (pg_tup rfl (pgs_cons (pg_name (i := 2) scAdd.nd rfl (Or.inl rfl)) (pgs_cons (pg_name (i := 3) scAdd.nd rfl (Or.inl rfl)) pgs_nil))))
    (pss_one (ps_ret (pe_make W.mkr_Share GH hr rfl W.g_Share (bind3 FH) .nil pass0 (pa_cons (pe_op op_add (pe_op op_mulX9 (pe_fld (pv 0) rfl) (pv 3)) (pe_op op_mulX9 (pv 2) (pe_fld (pv 0) rfl))) (pa_cons (pe_op op_mulX9 (pe_fld (pv 0) rfl) (pv 3)) pa_nil))))))), ?_⟩
  obtain ⟨tt, bb, ty, kn, kk, _, _⟩ := W.nuTy hv
  simp -dsimp [tSeq, tAsg, tRet, tIfS, tIf, tTest, tVar, tCons, tNil, tC, tOp, tUn, rI, rI0, rU, tCB, tLst_A, tTup_A, gName, L2.start, CMul, CPow, CDiv, tDrop, tBM, tBM0, tNext, tPar, gSub, rSetL, rIxL, rIxT, tChain, tB, tNot, tNotV, tAnd, tOr, tAndV, tOrV, tFld, tCall, rIxLH, rIxTH, atI, ixN, upd_same, cxK, ex2, ex3, ex3b, rIs1, rIs2, rNe2, tyN, kb1, kb2, kb3, kb4, kb5, kb6, rEq, rNe, scal, tMake_S, tMakeK_S, tMakeN_S]
  refine ⟨_, tt, true, rfl, ty, kn, .inr ⟨rfl, v, c, d, rfl, hv, fun p H1 np hp s1 => tup2 hp ?_⟩⟩
  obtain ⟨dx, hx1⟩ := hx.same s1
  simp -dsimp [tSeq, tAsg, tRet, tIfS, tIf, tTest, tVar, tCons, tNil, tC, tOp, tUn, rI, rI0, rU, tCB, tLst_A, tTup_A, gName, L2.start, CMul, CPow, CDiv, tDrop, tBM, tBM0, tNext, tPar, gSub, rSetL, rIxL, rIxT, tChain, tB, tNot, tNotV, tAnd, tOr, tAndV, tOrV, tFld, tCall, rIxLH, rIxTH, atI, ixN, upd_same, cxK, ex2, ex3, ex3b, rIs1, rIs2, rNe2, tyN, kb1, kb2, kb3, kb4, kb5, kb6, rEq, rNe, scal, tMake_S, tMakeK_S, tMakeN_S, hx1, shareO, W.cls_Share, W.n_Share_top, W.n_Share_bottom, look_top, look_bot, h_lt_M ha, h_lt_M hb, h_lt_M hc, h_lt_M hd]
  exact MkS.res s1 rfl hz (gMul9 hs) q
end
section
variable {P : Program} {w : World} {K : PySem.W.Frag} {mg : Str → Option Value} {base : Heap}
abbrev aS (K : PySem.W.Frag) (m : Str) : Addr := He.ma K (He.ga K "Share") m
abbrev aT (K : PySem.W.Frag) (m : Str) : Addr := He.ma K (He.ga K "Term") m
theorem Wd.opAdd (W : Wd K mg) : OpAt K (He.ga K "Share") "add" (aS K "__add__") (aS K "__radd__") :=
  ⟨W.e_firstShare, W.m_Share_add.at_, W.m_Share_add.fn, W.m_Share_radd.at_, W.m_Share_radd.fn, of_decide_eq_true W.e_notIntShare, of_decide_eq_true W.e_intNotShare, W.e_mro2Share, W.e_opShareadd, PySem.F.fills_int_add, OpX.dec_add⟩
theorem Wd.opSub (W : Wd K mg) : OpAt K (He.ga K "Share") "sub" (aS K "__sub__") (aS K "__rsub__") :=
  ⟨W.e_firstShare, W.m_Share_sub.at_, W.m_Share_sub.fn, W.m_Share_rsub.at_, W.m_Share_rsub.fn, of_decide_eq_true W.e_notIntShare, of_decide_eq_true W.e_intNotShare, W.e_mro2Share, W.e_opSharesub, PySem.F.fills_int_sub, OpX.dec_sub⟩
theorem Wd.opMul (W : Wd K mg) : OpAt K (He.ga K "Share") "mul" (aS K "__mul__") (aS K "__rmul__") :=
  ⟨W.e_firstShare, W.m_Share_mul.at_, W.m_Share_mul.fn, W.m_Share_rmul.at_, W.m_Share_rmul.fn, of_decide_eq_true W.e_notIntShare, of_decide_eq_true W.e_intNotShare, W.e_mro2Share, W.e_opSharemul, PySem.F.fills_int_mul, OpX.dec_mul⟩
theorem Wd.tpAdd (W : Wd K mg) : OpAt K (He.ga K "Term") "add" (aT K "__add__") (aT K "__radd__") :=
  ⟨W.e_firstTerm, W.m_Term_add.at_, W.m_Term_add.fn, W.m_Term_radd.at_, W.m_Term_radd.fn, of_decide_eq_true W.e_notIntTerm, of_decide_eq_true W.e_intNotTerm, W.e_mro2Term, W.e_opTermadd, PySem.F.fills_int_add, OpX.dec_add⟩
theorem Wd.tpSub (W : Wd K mg) : OpAt K (He.ga K "Term") "sub" (aT K "__sub__") (aT K "__rsub__") :=
  ⟨W.e_firstTerm, W.m_Term_sub.at_, W.m_Term_sub.fn, W.m_Term_rsub.at_, W.m_Term_rsub.fn, of_decide_eq_true W.e_notIntTerm, of_decide_eq_true W.e_intNotTerm, W.e_mro2Term, W.e_opTermsub, PySem.F.fills_int_sub, OpX.dec_sub⟩
theorem Wd.tpMul (W : Wd K mg) : OpAt K (He.ga K "Term") "mul" (aT K "__mul__") (aT K "__rmul__") :=
  ⟨W.e_firstTerm, W.m_Term_mul.at_, W.m_Term_mul.fn, W.m_Term_rmul.at_, W.m_Term_rmul.fn, of_decide_eq_true W.e_notIntTerm, of_decide_eq_true W.e_intNotTerm, W.e_mro2Term, W.e_opTermmul, PySem.F.fills_int_mul, OpX.dec_mul⟩
theorem Wd.neST (W : Wd K mg) : He.ga K "Share" ≠ He.ga K "Term" := fun e => by
  have h1 := of_decide_eq_true (W.ex 18 rfl)
  have h2 := of_decide_eq_true (W.ex 30 rfl)
  rw [e] at h1
  rw [h1] at h2
  cases h2
theorem Nu.ins {H : Hp} {v : V} {c d : Int} (h : Nu K H v c d) : (∃ (b dy : Addr) (gs : List (Str × V)), v = .ref b ∧ H b = some (.ins (He.ga K "Share") dy gs)) ∨ ∃ i : Int, v = .int i := by
  rcases h with ⟨y, e, dx, h⟩ | ⟨e, _⟩
  · exact .inl ⟨y, dx, _, e, h⟩
  · exact .inr ⟨c, e⟩
theorem scTwo {sc : Scope} {vs ps : List Str} (h : FnScope vs ps sc) : FnScope vs ps sc := h
theorem scRadd : FnScope ["self", "other"] ["self", "other"] d_Share_radd.scope := ⟨rfl, rfl, rfl, by decide +kernel, rfl, by decide +kernel, by decide +kernel⟩
theorem ok_radd (W : Wd K mg) : ∃ fd, FnOk P w K mg base CX0 5 (aS K "__radd__") fd ["self", "other"] (spBin K fAdd gMul) ∧ Binds K fd ["self", "other"] [] := by
  obtain ⟨fdA, GA, bA⟩ := ok_add (P := P) (w := w) (base := base) W
  obtain ⟨fdN, GN, bN⟩ := ok_isNum (P := P) (w := w) (base := base) W
  have kN : PySem.W.keepIn K (.ref (He.ga K "is_number")) = true := by obtain ⟨fd, F⟩ := W.F_is_number; exact F.kp
  obtain ⟨fd, F⟩ := W.F_Share_radd
  refine ⟨fd, F.ok scRadd (fun vs H Q E h => spBin_len h) (fun cdv A outer s H vs Q E hr h => ?_), FunD.bindsN F fun _ _ _ _ _ _ us hl => match us, hl with | [_, _], _ => rfl⟩
  obtain ⟨x, v, a, b, c, d, rfl, hx, hv, hs, hz, q⟩ := h
  have r2 : Room 2 _ := hr.mono (by decide)
  refine ⟨_, PSs.nox (pss_cons (ps_if (pt_not (pt_val (pe_call GN r2 rfl W.g_is_number kN bN .nil pass0 (pa_cons (pv 1) pa_nil)))) pss_never pss_nil)
    (pss_one (ps_ret (pe_op (op_L W.opAdd (FnOk.raw GA bA .nil) hr pass0) (pv 0) (pv 1))))), ?_⟩
  obtain ⟨tt, bb, ty, kn, kk, _, _⟩ := W.nuTy hv
  simp -dsimp [tSeq, tAsg, tRet, tIfS, tIf, tTest, tVar, tCons, tNil, tC, tOp, tUn, rI, rI0, rU, tCB, tLst_A, tTup_A, gName, L2.start, CMul, CPow, CDiv, tDrop, tBM, tBM0, tNext, tPar, gSub, rSetL, rIxL, rIxT, tChain, tB, tNot, tNotV, tAnd, tOr, tAndV, tOrV, tFld, tCall, rIxLH, rIxTH, atI, ixN, upd_same, cxK, ex2, ex3, ex3b, rIs1, rIs2, rNe2, tyN, kb1, kb2, kb3, kb4, kb5, kb6, rEq, rNe, scal, tMake_S, tMakeK_S, tMakeN_S]
  obtain ⟨dx, hd⟩ := id hx
  exact ⟨_, tt, true, rfl, ty, kn, .inr ⟨rfl, x, dx, _, rfl, hd, hv.ins, x, v, a, b, c, d, rfl, hx, hv, hs, hz, q⟩⟩
theorem scSub : FnScope ["self", "other"] ["self", "other"] d_Share_sub.scope := ⟨rfl, rfl, rfl, by decide +kernel, rfl, by decide +kernel, by decide +kernel⟩
theorem ok_sub (W : Wd K mg) : ∃ fd, FnOk P w K mg base CX0 4 (aS K "__sub__") fd ["self", "other"] (spBin K fSub gMul) ∧ Binds K fd ["self", "other"] [] := by
  obtain ⟨fdH, GH, FH⟩ := ok_init (P := P) (w := w) (base := base) W
  obtain ⟨fdN, GN, bN⟩ := ok_isNum (P := P) (w := w) (base := base) W
  obtain ⟨fdF, GF, bF⟩ := ok_frac (P := P) (w := w) (base := base) W
  obtain ⟨fdX, GX, bX⟩ := ok_excess (P := P) (w := w) (base := base) W
  have kN : PySem.W.keepIn K (.ref (He.ga K "is_number")) = true := by obtain ⟨fd, F⟩ := W.F_is_number; exact F.kp
  have kF : PySem.W.keepIn K (.ref (He.ga K "fraction")) = true := by obtain ⟨fd, F⟩ := W.F_fraction; exact F.kp
  have kX : PySem.W.keepIn K (.ref (He.ga K "excess")) = true := by obtain ⟨fd, F⟩ := W.F_excess; exact F.kp
  obtain ⟨fd, F⟩ := W.F_Share_sub
  refine ⟨fd, F.ok scSub (fun vs H Q E h => spBin_len h) (fun cdv A outer s H vs Q E hr h => ?_), FunD.bindsN F fun _ _ _ _ _ _ us hl => match us, hl with | [_, _], _ => rfl⟩
  obtain ⟨x, v, a, b, c, d, rfl, hx, hv, hs, hz, q⟩ := h
  have hs' := hs
  obtain ⟨ha, hb, hc, hd⟩ := hs'
  have r1 : Room 1 _ := hr.mono (by decide)
  have r2 : Room 2 _ := hr.mono (by decide)
  refine ⟨_, PSs.nox (pss_cons (ps_if (pt_not (pt_val (pe_call GN r2 rfl W.g_is_number kN bN .nil pass0 (pa_cons (pv 1) pa_nil)))) pss_never pss_nil)
    (pss_one (ps_ret (pe_make W.mkr_Share GH hr rfl W.g_Share (bind3 FH) .nil pass0 (pa_cons (pe_call GX r2 rfl W.g_excess kX bX .nil pass0 (pa_cons (pv 0) (pa_cons (pv 1) pa_nil)))
      (pa_cons (pe_op op_mulX9 (pe_fld (pv 0) rfl) (pe_ix ix_tupH (pe_call GF r1 rfl W.g_fraction kF bF .nil pass0 (pa_cons (pv 1) pa_nil)) pe_int (fun _ _ => rfl))) pa_nil)))))), ?_⟩
  obtain ⟨tt, bb, ty, kn, kk, _, _⟩ := W.nuTy hv
  simp -dsimp [tSeq, tAsg, tRet, tIfS, tIf, tTest, tVar, tCons, tNil, tC, tOp, tUn, rI, rI0, rU, tCB, tLst_A, tTup_A, gName, L2.start, CMul, CPow, CDiv, tDrop, tBM, tBM0, tNext, tPar, gSub, rSetL, rIxL, rIxT, tChain, tB, tNot, tNotV, tAnd, tOr, tAndV, tOrV, tFld, tCall, rIxLH, rIxTH, atI, ixN, upd_same, cxK, ex2, ex3, ex3b, rIs1, rIs2, rNe2, tyN, kb1, kb2, kb3, kb4, kb5, kb6, rEq, rNe, scal, tMake_S, tMakeK_S, tMakeN_S]
  refine ⟨_, tt, true, rfl, ty, kn, .inr ⟨rfl, x, v, a, b, c, d, rfl, hx, hv, hs, fun H1 s1 => ?_⟩⟩
  obtain ⟨dx, hx1⟩ := hx.same s1
  simp -dsimp [tSeq, tAsg, tRet, tIfS, tIf, tTest, tVar, tCons, tNil, tC, tOp, tUn, rI, rI0, rU, tCB, tLst_A, tTup_A, gName, L2.start, CMul, CPow, CDiv, tDrop, tBM, tBM0, tNext, tPar, gSub, rSetL, rIxL, rIxT, tChain, tB, tNot, tNotV, tAnd, tOr, tAndV, tOrV, tFld, tCall, rIxLH, rIxTH, atI, ixN, upd_same, cxK, ex2, ex3, ex3b, rIs1, rIs2, rNe2, tyN, kb1, kb2, kb3, kb4, kb5, kb6, rEq, rNe, scal, tMake_S, tMakeK_S, tMakeN_S, hx1, shareO, W.cls_Share, W.n_Share_top, W.n_Share_bottom, look_top, look_bot]
  refine ⟨v, c, d, rfl, hv.same s1, fun p H2 np hp s2 => ?_⟩
  simp -dsimp [tSeq, tAsg, tRet, tIfS, tIf, tTest, tVar, tCons, tNil, tC, tOp, tUn, rI, rI0, rU, tCB, tLst_A, tTup_A, gName, L2.start, CMul, CPow, CDiv, tDrop, tBM, tBM0, tNext, tPar, gSub, rSetL, rIxL, rIxT, tChain, tB, tNot, tNotV, tAnd, tOr, tAndV, tOrV, tFld, tCall, rIxLH, rIxTH, atI, ixN, upd_same, cxK, ex2, ex3, ex3b, rIs1, rIs2, rNe2, tyN, kb1, kb2, kb3, kb4, kb5, kb6, rEq, rNe, scal, tMake_S, tMakeK_S, tMakeN_S, hp, h_lt_M hb, h_lt_M hd]
  exact MkS.res (s1.trans s2) rfl hz (gMul9 hs) q
def fRsub (a b c d : Int) : Int := c * b - a * d
def gRev (_a b _c d : Int) : Int := d * b
theorem scRsub : FnScope ["self", "other"] ["self", "other"] d_Share_rsub.scope := ⟨rfl, rfl, rfl, by decide +kernel, rfl, by decide +kernel, by decide +kernel⟩
theorem Res.same {H H' : Hp} {p q : Int} {Q : V → Hp → Prop} (s : Same H H') (h : Res K H p q Q) : Res K H' p q Q := fun z H2 s2 i => h z H2 (s.trans s2) i
theorem ok_rsub (W : Wd K mg) : ∃ fd, FnOk P w K mg base CX0 5 (aS K "__rsub__") fd ["self", "other"] (spBin K fRsub gRev) ∧ Binds K fd ["self", "other"] [] := by
  obtain ⟨fdA, GA, bA⟩ := ok_sub (P := P) (w := w) (base := base) W
  obtain ⟨fdN, GN, bN⟩ := ok_isNum (P := P) (w := w) (base := base) W
  obtain ⟨fdS, GS, bS⟩ := ok_shareOf (P := P) (w := w) (base := base) W
  have kN : PySem.W.keepIn K (.ref (He.ga K "is_number")) = true := by obtain ⟨fd, F⟩ := W.F_is_number; exact F.kp
  have kS : PySem.W.keepIn K (.ref (He.ga K "share_of")) = true := by obtain ⟨fd, F⟩ := W.F_share_of; exact F.kp
  obtain ⟨fd, F⟩ := W.F_Share_rsub
  refine ⟨fd, F.ok scRsub (fun vs H Q E h => spBin_len h) (fun cdv A outer s H vs Q E hr h => ?_), FunD.bindsN F fun _ _ _ _ _ _ us hl => match us, hl with | [_, _], _ => rfl⟩
  obtain ⟨x, v, a, b, c, d, rfl, hx, hv, hs, hz, q⟩ := h
  obtain ⟨ha, hb, hc, hd⟩ := hs
  have r2 : Room 2 _ := hr.mono (by decide)
  refine ⟨_, PSs.nox (pss_cons (ps_if (pt_not (pt_val (pe_call GN r2 rfl W.g_is_number kN bN .nil pass0 (pa_cons (pv 1) pa_nil)))) pss_never pss_nil)
    (pss_one (ps_ret (pe_op (op_L W.opSub (FnOk.raw GA bA .nil) hr pass0) (pe_call GS hr rfl W.g_share_of kS bS .nil pass0 (pa_cons (pv 1) pa_nil)) (pv 0))))), ?_⟩
  obtain ⟨tt, bb, ty, kn, kk, _, _⟩ := W.nuTy hv
  simp -dsimp [tSeq, tAsg, tRet, tIfS, tIf, tTest, tVar, tCons, tNil, tC, tOp, tUn, rI, rI0, rU, tCB, tLst_A, tTup_A, gName, L2.start, CMul, CPow, CDiv, tDrop, tBM, tBM0, tNext, tPar, gSub, rSetL, rIxL, rIxT, tChain, tB, tNot, tNotV, tAnd, tOr, tAndV, tOrV, tFld, tCall, rIxLH, rIxTH, atI, ixN, upd_same, cxK, ex2, ex3, ex3b, rIs1, rIs2, rNe2, tyN, kb1, kb2, kb3, kb4, kb5, kb6, rEq, rNe, scal, tMake_S, tMakeK_S, tMakeN_S]
  refine ⟨_, tt, true, rfl, ty, kn, .inr ⟨rfl, v, c, d, rfl, hv, fun z H1 s1 hz1 => ?_⟩⟩
  have hx1 := hx.same s1
  obtain ⟨dz, hzd⟩ := id hz1
  simp -dsimp [tSeq, tAsg, tRet, tIfS, tIf, tTest, tVar, tCons, tNil, tC, tOp, tUn, rI, rI0, rU, tCB, tLst_A, tTup_A, gName, L2.start, CMul, CPow, CDiv, tDrop, tBM, tBM0, tNext, tPar, gSub, rSetL, rIxL, rIxT, tChain, tB, tNot, tNotV, tAnd, tOr, tAndV, tOrV, tFld, tCall, rIxLH, rIxTH, atI, ixN, upd_same, cxK, ex2, ex3, ex3b, rIs1, rIs2, rNe2, tyN, kb1, kb2, kb3, kb4, kb5, kb6, rEq, rNe, scal, tMake_S, tMakeK_S, tMakeN_S]
  exact ⟨z, dz, _, rfl, hzd, (Nu.ins (.inl ⟨x, rfl, hx1⟩)), z, .ref x, c, d, a, b, rfl, hz1, .inl ⟨x, rfl, hx1⟩, ⟨hc, hd, ha, hb⟩, hz, q.same s1⟩
theorem scMul : FnScope ["self", "other", "top", "bottom"] ["self", "other"] d_Share_mul.scope := ⟨rfl, rfl, rfl, by decide +kernel, rfl, by decide +kernel, by decide +kernel⟩
theorem ok_mul (W : Wd K mg) : ∃ fd, FnOk P w K mg base CX0 4 (aS K "__mul__") fd ["self", "other"] (spBin K fMul gMul) ∧ Binds K fd ["self", "other"] [] := by
  obtain ⟨fdH, GH, FH⟩ := ok_init (P := P) (w := w) (base := base) W
  obtain ⟨fdN, GN, bN⟩ := ok_isNum (P := P) (w := w) (base := base) W
  obtain ⟨fdF, GF, bF⟩ := ok_frac (P := P) (w := w) (base := base) W
  have kN : PySem.W.keepIn K (.ref (He.ga K "is_number")) = true := by obtain ⟨fd, F⟩ := W.F_is_number; exact F.kp
  have kF : PySem.W.keepIn K (.ref (He.ga K "fraction")) = true := by obtain ⟨fd, F⟩ := W.F_fraction; exact F.kp
  obtain ⟨fd, F⟩ := W.F_Share_mul
  refine ⟨fd, F.ok scMul (fun vs H Q E h => spBin_len h) (fun cdv A outer s H vs Q E hr h => ?_), FunD.bindsN F fun _ _ _ _ _ _ us hl => match us, hl with | [_, _], _ => rfl⟩
  obtain ⟨x, v, a, b, c, d, rfl, hx, hv, hs, hz, q⟩ := h
  have hs' := hs
  obtain ⟨ha, hb, hc, hd⟩ := hs'
  have r1 : Room 1 _ := hr.mono (by decide)
  have r2 : Room 2 _ := hr.mono (by decide)
  refine ⟨_, PSs.nox (pss_cons (ps_if (pt_not (pt_val (pe_call GN r2 rfl W.g_is_number kN bN .nil pass0 (pa_cons (pv 1) pa_nil)))) pss_never pss_nil)
    (pss_cons (ps_asg (pe_call GF r1 rfl W.g_fraction kF bF .nil pass0 (pa_cons (pv 1) pa_nil)) (pg_tup rfl (pgs_cons (pg_name (i := 2) scMul.nd rfl (Or.inl rfl)) (pgs_cons (pg_name (i := 3) scMul.nd rfl (Or.inl rfl)) pgs_nil))))
    (pss_one (ps_ret (pe_make W.mkr_Share GH hr rfl W.g_Share (bind3 FH) .nil pass0 (pa_cons (pe_op op_mulX9 (pe_fld (pv 0) rfl) (pv 2)) (pa_cons (pe_op op_mulX9 (pe_fld (pv 0) rfl) (pv 3)) pa_nil))))))), ?_⟩
  obtain ⟨tt, bb, ty, kn, kk, _, _⟩ := W.nuTy hv
  simp -dsimp [tSeq, tAsg, tRet, tIfS, tIf, tTest, tVar, tCons, tNil, tC, tOp, tUn, rI, rI0, rU, tCB, tLst_A, tTup_A, gName, L2.start, CMul, CPow, CDiv, tDrop, tBM, tBM0, tNext, tPar, gSub, rSetL, rIxL, rIxT, tChain, tB, tNot, tNotV, tAnd, tOr, tAndV, tOrV, tFld, tCall, rIxLH, rIxTH, atI, ixN, upd_same, cxK, ex2, ex3, ex3b, rIs1, rIs2, rNe2, tyN, kb1, kb2, kb3, kb4, kb5, kb6, rEq, rNe, scal, tMake_S, tMakeK_S, tMakeN_S]
  refine ⟨_, tt, true, rfl, ty, kn, .inr ⟨rfl, v, c, d, rfl, hv, fun p H1 np hp s1 => tup2 hp ?_⟩⟩
  obtain ⟨dx, hx1⟩ := hx.same s1
  simp -dsimp [tSeq, tAsg, tRet, tIfS, tIf, tTest, tVar, tCons, tNil, tC, tOp, tUn, rI, rI0, rU, tCB, tLst_A, tTup_A, gName, L2.start, CMul, CPow, CDiv, tDrop, tBM, tBM0, tNext, tPar, gSub, rSetL, rIxL, rIxT, tChain, tB, tNot, tNotV, tAnd, tOr, tAndV, tOrV, tFld, tCall, rIxLH, rIxTH, atI, ixN, upd_same, cxK, ex2, ex3, ex3b, rIs1, rIs2, rNe2, tyN, kb1, kb2, kb3, kb4, kb5, kb6, rEq, rNe, scal, tMake_S, tMakeK_S, tMakeN_S, hx1, shareO, W.cls_Share, W.n_Share_top, W.n_Share_bottom, look_top, look_bot, h_lt_M ha, h_lt_M hb, h_lt_M hc, h_lt_M hd]
  exact MkS.res s1 rfl hz (gMul9 hs) q
theorem scRmul : FnScope ["self", "other"] ["self", "other"] d_Share_rmul.scope := ⟨rfl, rfl, rfl, by decide +kernel, rfl, by decide +kernel, by decide +kernel⟩
theorem ok_rmul (W : Wd K mg) : ∃ fd, FnOk P w K mg base CX0 5 (aS K "__rmul__") fd ["self", "other"] (spBin K fMul gMul) ∧ Binds K fd ["self", "other"] [] := by
  obtain ⟨fdA, GA, bA⟩ := ok_mul (P := P) (w := w) (base := base) W
  obtain ⟨fdN, GN, bN⟩ := ok_isNum (P := P) (w := w) (base := base) W
  have kN : PySem.W.keepIn K (.ref (He.ga K "is_number")) = true := by obtain ⟨fd, F⟩ := W.F_is_number; exact F.kp
  obtain ⟨fd, F⟩ := W.F_Share_rmul
  refine ⟨fd, F.ok scRmul (fun vs H Q E h => spBin_len h) (fun cdv A outer s H vs Q E hr h => ?_), FunD.bindsN F fun _ _ _ _ _ _ us hl => match us, hl with | [_, _], _ => rfl⟩
  obtain ⟨x, v, a, b, c, d, rfl, hx, hv, hs, hz, q⟩ := h
  have r2 : Room 2 _ := hr.mono (by decide)
  refine ⟨_, PSs.nox (pss_cons (ps_if (pt_not (pt_val (pe_call GN r2 rfl W.g_is_number kN bN .nil pass0 (pa_cons (pv 1) pa_nil)))) pss_never pss_nil)
    (pss_one (ps_ret (pe_op (op_L W.opMul (FnOk.raw GA bA .nil) hr pass0) (pv 0) (pv 1))))), ?_⟩
  obtain ⟨tt, bb, ty, kn, kk, _, _⟩ := W.nuTy hv
  simp -dsimp [tSeq, tAsg, tRet, tIfS, tIf, tTest, tVar, tCons, tNil, tC, tOp, tUn, rI, rI0, rU, tCB, tLst_A, tTup_A, gName, L2.start, CMul, CPow, CDiv, tDrop, tBM, tBM0, tNext, tPar, gSub, rSetL, rIxL, rIxT, tChain, tB, tNot, tNotV, tAnd, tOr, tAndV, tOrV, tFld, tCall, rIxLH, rIxTH, atI, ixN, upd_same, cxK, ex2, ex3, ex3b, rIs1, rIs2, rNe2, tyN, kb1, kb2, kb3, kb4, kb5, kb6, rEq, rNe, scal, tMake_S, tMakeK_S, tMakeN_S]
  obtain ⟨dx, hd⟩ := id hx
  exact ⟨_, tt, true, rfl, ty, kn, .inr ⟨rfl, x, dx, _, rfl, hd, hv.ins, x, v, a, b, c, d, rfl, hx, hv, hs, hz, q⟩⟩
end
section
variable {P : Program} {w : World} {K : PySem.W.Frag} {mg : Str → Option Value} {base : Heap}
theorem scNeg : FnScope ["self"] ["self"] d_Share_neg.scope := ⟨rfl, rfl, rfl, by decide +kernel, rfl, by decide +kernel, by decide +kernel⟩
/-- what -x and abs(x) promise -/
def spUn (K : PySem.W.Frag) (f : Int → Int) : Sp := fun vs H Q _ => ∃ (x : Addr) (a b : Int), vs = [.ref x] ∧ IsSh K H x a b ∧ b ≠ 0 ∧ b.natAbs < big9 ∧ Res K H (f a) b Q
def fNeg (a : Int) : Int := -a
def fAbs (a : Int) : Int := if a < 0 then -a else a
theorem ok_neg (W : Wd K mg) : ∃ fd, FnOk P w K mg base CX0 4 (aS K "__neg__") fd ["self"] (spUn K fNeg) ∧ Binds K fd ["self"] [] := by
  obtain ⟨fdH, GH, FH⟩ := ok_init (P := P) (w := w) (base := base) W
  obtain ⟨fd, F⟩ := W.F_Share_neg
  refine ⟨fd, F.ok scNeg (fun vs H Q E h => ?_) (fun cdv A outer s H vs Q E hr h => ?_), FunD.bindsN F fun _ _ _ _ _ _ us hl => match us, hl with | [_], _ => rfl⟩
  · obtain ⟨x, a, b, rfl, _⟩ := h
    rfl
  · obtain ⟨x, a, b, rfl, hx, hb, hbb, q⟩ := h
    refine ⟨_, PSs.nox (pss_one (ps_ret (pe_make W.mkr_Share GH hr rfl W.g_Share (bind3 FH) .nil pass0 (pa_cons (pe_un un_neg (pe_fld (pv 0) rfl)) (pa_cons (pe_fld (pv 0) rfl) pa_nil))))), ?_⟩
    obtain ⟨dx, hd⟩ := id hx
    simp -dsimp [tSeq, tAsg, tRet, tIfS, tIf, tTest, tVar, tCons, tNil, tC, tOp, tUn, rI, rI0, rU, tCB, tLst_A, tTup_A, gName, L2.start, CMul, CPow, CDiv, tDrop, tBM, tBM0, tNext, tPar, gSub, rSetL, rIxL, rIxT, tChain, tB, tNot, tNotV, tAnd, tOr, tAndV, tOrV, tFld, tCall, rIxLH, rIxTH, atI, ixN, upd_same, cxK, ex2, ex3, ex3b, rIs1, rIs2, rNe2, tyN, kb1, kb2, kb3, kb4, kb5, kb6, rEq, rNe, scal, tMake_S, tMakeK_S, tMakeN_S, hd, shareO, W.cls_Share, W.n_Share_top, W.n_Share_bottom, look_top, look_bot]
    exact MkS.res (Same.refl _) rfl hb hbb q
end
/-! ### the six comparisons -/
section
variable {P : Program} {w : World} {K : PySem.W.Frag} {mg : Str → Option Value} {base : Heap}
def spNum2 (K : PySem.W.Frag) (f : Int → Bool) : R2 := fun x y H Q => ∃ (a b c d : Int), Nu K H x a b ∧ Nu K H y c d ∧ Sm a b c d ∧ ((∃ z, x = .ref z) ∨ ∃ z, y = .ref z) ∧ ∀ H', Same H H' → Q (.bl (f (a * d - c * b))) H'
theorem sm_swap {a b c d : Int} (h : Sm a b c d) : Sm c d a b := ⟨h.2.2.1, h.2.2.2, h.1, h.2.1⟩
theorem sub_flip (a b c d : Int) : c * b - a * d = -(a * d - c * b) := by omega
section
variable {X : Cx} {fd : FuncData} {ps : List Str}
theorem op_num {op : CmpOp} {f g : Int → Bool} {af ag : Addr} (W : Wd X.K X.mg) (hc : ∀ a b, compareOp op a b = richCompare op a b) (dc : CmX.DcI op) (hfg : ∀ z, g (-z) = f z)
    (hs : PySem.W.findIn X.K (.ref (He.ga X.K "Share")) (cmpInfo op).2.1 = some (some (.ref af))) (hf : PySem.W.isFn X.K (.ref af) = true) (hs2 : PySem.W.findIn X.K (.ref (He.ga X.K "Share")) (cmpInfo op).2.2 = some (some (.ref ag))) (hg : PySem.W.isFn X.K (.ref ag) = true)
    (F : FnR X.prog X.w X.K X.mg X.base CX0 3 af (spCmp X.K f)) (G : FnR X.prog X.w X.K X.mg X.base CX0 3 ag (spCmp X.K g)) (hr : Room 3 X.A) (hu : X.A.units < cLine) : OpR X (compareOp op) (spNum2 X.K f) := by
  intro pins s σ H x y v u Q I rx ry h
  obtain ⟨a, b, c, d, hx, hy, sm, hz, q⟩ := h
  rcases hx with ⟨zx, rfl, ix⟩ | ⟨rfl, rfl⟩
  · obtain ⟨t, bb, ty, kn, k, bs, _⟩ := W.nuTy hy
    obtain ⟨dx, hd⟩ := id ix
    exact CmX.op_cmpL (E := E0) hc hs hf F hr hu pass0 pins s σ H _ y v u Q I rx ry ⟨zx, dx, _, t, rfl, hd, ty, bs, zx, y, a, b, c, d, rfl, ix, hy, sm, q⟩
  · obtain ⟨zy, rfl⟩ : ∃ z, y = .ref z := by
      rcases hz with ⟨z, e⟩ | e
      · cases e
      · exact e
    have iy : IsSh X.K H zy c d := by
      rcases hy with ⟨z, e, i⟩ | ⟨e, _⟩
      · cases e
        exact i
      · cases e
    obtain ⟨dy, hd⟩ := id iy
    refine CmX.op_cmpI (E := E0) hc W.cmp dc hs2 hg G hr hu pass0 pins s σ H _ _ v u Q I rx ry ⟨a, zy, dy, _, rfl, rfl, hd, zy, .int a, c, d, a, 1, rfl, iy, .inr ⟨rfl, rfl⟩, sm_swap sm, fun H' s' => ?_⟩
    have e := hfg (a * d - c * 1)
    rw [← sub_flip] at e
    rw [e]
    exact q H' s'
end
theorem raw0 {CX : CXT} {k : Nat} {f : Addr} {fd : FuncData} {ps : List Str} {sp : Sp} (F : FnOk P w K mg base CX k f fd ps sp) (hb : Binds K fd ps []) : FnR P w K mg base CX k f sp :=
  (FnOk.raw F hb .nil).imp fun vs H Q E h => by
    rw [List.append_nil]
    exact h
theorem Wd.opEq {X : Cx} (W : Wd X.K X.mg) (hr : Room 3 X.A) : OpR X (compareOp .Eq) (spNum2 X.K fun z => decide (z = 0)) := by
  obtain ⟨f1, G1, b1⟩ := ok_eq (P := X.prog) (w := X.w) (base := X.base) W
  have G := (raw0 G1 b1).imp (sp' := spCmp X.K fun z => decide (z = 0)) fun vs H Q E h => .inl h
  exact op_num (f := fun z => decide (z = 0)) (g := fun z => decide (z = 0)) W (fun _ _ => rfl) CmX.dc_eq (fun z => by
    have e : (-z = 0) = (z = 0) := propext ⟨fun h => by omega, fun h => by omega⟩
    simp only [e]) W.m_Share_eq.at_ W.m_Share_eq.fn W.m_Share_eq.at_ W.m_Share_eq.fn G G hr hr.units0
theorem Wd.opNe {X : Cx} (W : Wd X.K X.mg) (hr : Room 4 X.A) : OpR X (compareOp .NotEq) (spNum2 X.K fun z => !decide (z = 0)) := by
  obtain ⟨f1, G1, b1⟩ := ok_eq (P := X.prog) (w := X.w) (base := X.base) W
  have G := (raw0 G1 b1).imp (sp' := spCmp X.K fun z => decide (z = 0)) fun vs H Q E h => .inl h
  intro pins s σ H x y v u Q I rx ry h
  obtain ⟨a, b, c, d, hx, hy, sm, hz, q⟩ := h
  rcases hx with ⟨zx, rfl, ix⟩ | ⟨rfl, rfl⟩
  · obtain ⟨t, bb, ty, kn, k, bs, _⟩ := W.nuTy hy
    obtain ⟨dx, hd⟩ := id ix
    exact CmX.op_neL (E := E0) W.cmp W.m_Share_eq.at_ W.m_Share_eq.fn G hr (hu_of hr) pass0 pins s σ H _ y v u Q I rx ry ⟨zx, dx, _, t, rfl, hd, ty, bs, zx, y, a, b, c, d, rfl, ix, hy, sm, fun H' s' => ⟨_, rfl, q H' s'⟩⟩
  · obtain ⟨zy, rfl⟩ : ∃ z, y = .ref z := by
      rcases hz with ⟨z, e⟩ | e
      · cases e
      · exact e
    have iy : IsSh X.K H zy c d := by
      rcases hy with ⟨z, e, i⟩ | ⟨e, _⟩
      · cases e
        exact i
      · cases e
    obtain ⟨dy, hd⟩ := id iy
    refine CmX.op_neI (E := E0) W.cmp W.m_Share_eq.at_ W.m_Share_eq.fn G hr (hu_of hr) pass0 pins s σ H _ _ v u Q I rx ry ⟨a, zy, dy, _, rfl, rfl, hd, zy, .int a, c, d, a, 1, rfl, iy, .inr ⟨rfl, rfl⟩, sm_swap sm, fun H' s' => ⟨_, rfl, ?_⟩⟩
    have e : decide (c * 1 - a * d = 0) = decide (a * d - c * 1 = 0) := by
      have e : (c * 1 - a * d = 0) = (a * d - c * 1 = 0) := propext ⟨fun h => by omega, fun h => by omega⟩
      simp only [e]
    show Q (.bl !decide (c * 1 - a * d = 0)) H'
    rw [e]
    exact q H' s'
end
/-! ### tuples of three shares compared -/
def eqP (p q : Int × Int) : Bool := decide (p.1 * q.2 - q.1 * p.2 = 0)
def SmP (p q : Int × Int) : Prop := Sm p.1 p.2 q.1 q.2
def rT3 (K : PySem.W.Frag) : R2 := fun x y H Q => ∃ (p q a0 a1 a2 b0 b1 b2 : Addr) (m0 m1 m2 n0 n1 n2 : Int × Int), x = .ref p ∧ y = .ref q ∧ H p = some (.tup [.ref a0, .ref a1, .ref a2]) ∧ H q = some (.tup [.ref b0, .ref b1, .ref b2]) ∧
  IsS K H a0 m0 ∧ IsS K H a1 m1 ∧ IsS K H a2 m2 ∧ IsS K H b0 n0 ∧ IsS K H b1 n1 ∧ IsS K H b2 n2 ∧ SmP m0 n0 ∧ SmP m1 n1 ∧ SmP m2 n2 ∧ ∀ H', Same H H' → Q (.bl (eqP m0 n0 && (eqP m1 n1 && eqP m2 n2))) H'
theorem isS_one {K : PySem.W.Frag} {H : Hp} {a : Addr} {m n : Int × Int} (h : IsS K H a m) (k : IsS K H a n) : m = n := by
  obtain ⟨dx, h⟩ := h
  obtain ⟨dy, k⟩ := k
  rw [h] at k
  simp [shareO] at k
  exact Prod.ext k.2.1 k.2.2
theorem eqP_self (m : Int × Int) : eqP m m = true := by
  unfold eqP
  rw [Int.sub_self]
  rfl
section
variable {X : Cx}
theorem Wd.eq1S (W : Wd X.K X.mg) : T3X.Eq1 X 3 (He.ga X.K "Share") (spCmp X.K fun z => decide (z = 0)) E0 := by
  obtain ⟨f1, G1, b1⟩ := ok_eq (P := X.prog) (w := X.w) (base := X.base) W
  exact T3X.eq1_own (sp := spCmp X.K fun z => decide (z = 0)) W.m_Share_eq.at_ W.m_Share_eq.fn ((FnOk.raw G1 b1 .nil).imp fun vs H Q E h => by rw [List.append_nil]; exact .inl h) pass0
theorem Wd.eqShare (W : Wd X.K X.mg) {A : Around} {pins : List (Addr × Obj)} {s : Shared} {σ : L2.St} {H : Hp} {a b : Addr} {m n : Int × Int} {Q : Bool → Hp → Prop} (hr : Room 3 A) (e0 : Env0 X.prog X.w X.K X.mg X.base A X.stack s H) (I : Inv X pins σ H s) (ha : IsS X.K H a m) (hb : IsS X.K H b n) (sm : SmP m n)
    (q : ∀ H', Same H H' → Q (eqP m n) H') : wpAny (model X.prog X.w) A (eqBool (.ref a) (.ref b)) (fun r s' => ∃ H', Inv X pins σ H' s' ∧ Q r H') X.xe s := by
  obtain ⟨da, ha'⟩ := id ha
  obtain ⟨db, hb'⟩ := id hb
  refine W.eq1S A pins s σ H a b da db _ _ Q hr hr.units0 e0 I ha' hb' (fun e => ?_) ⟨a, .ref b, m.1, m.2, n.1, n.2, rfl, ha, .inl ⟨b, rfl, hb⟩, sm, fun H' s' => ⟨_, rfl, q H' s'⟩⟩
  subst e
  rw [isS_one ha hb] at q
  have := q H (Same.refl _)
  rw [eqP_self] at this
  exact this
theorem Wd.opEqT (W : Wd X.K X.mg) (hr : Room 4 X.A) : OpR X (compareOp .Eq) (rT3 X.K) := by
  intro pins s σ H x y v u Q I rx ry h
  obtain ⟨p, q, a0, a1, a2, b0, b1, b2, m0, m1, m2, n0, n1, n2, rfl, rfl, hp, hq, h0, h1, h2, k0, k1, k2, s0, s1, s2, k⟩ := h
  cases (show v = Value.ref p from rx)
  cases (show u = Value.ref q from ry)
  obtain ⟨its, rv, ⟨⟨cls, dd, data, sl⟩, ho, hc, n, hd⟩, _⟩ := I.tuple (SqT.of hp)
  obtain ⟨its2, rv2, ⟨⟨cls2, dd2, data2, sl2⟩, ho2, hc2, n2', hd2⟩, _⟩ := I.tuple (SqT.of hq)
  simp only at hc hd hc2 hd2
  subst hc hd hc2 hd2
  have e1 : its = [.ref a0, .ref a1, .ref a2] := by
    cases rv with
    | cons r1 rv =>
      cases rv with
      | cons r2 rv =>
        cases rv with
        | cons r3 rv =>
          cases rv
          cases r1
          cases r2
          cases r3
          rfl
  have e2 : its2 = [.ref b0, .ref b1, .ref b2] := by
    cases rv2 with
    | cons r1 rv =>
      cases rv with
      | cons r2 rv =>
        cases rv with
        | cons r3 rv =>
          cases rv
          cases r1
          cases r2
          cases r3
          rfl
  subst e1 e2
  have hu : X.A.units < cLine := hr.units0
  refine wpAny_richCompare_same_room (op := .Eq) ⟨_, ho, rfl⟩ ⟨_, ho2, rfl⟩ F.slot_tuple_eq (GQ.call_here F.slot_tuple_eq ⟨_, ho, rfl⟩ F.entry_tuple_eq (F.args_tuple_eq_2 _ _) ?_) hu
  refine wpAny_mono (T3X.tup3 (R := wants (fun v s' => v ≠ .notImplemented ∧ EP X pins σ Q v s') X.xe) ho ho2 ?_) (fun fin s' z => ?_) fun _ _ x => x
  · have fin : ∀ (r : Bool) (s' : Shared) (H' : Hp), Inv X pins σ H' s' → Q (.bl r) H' → wants (fun v s' => v ≠ .notImplemented ∧ EP X pins σ Q v s') X.xe (.ok (.ret (.bool r))) s' := fun r s' H' I' q => ⟨(fun x => nomatch x), .bl r, H', I', rfl, q⟩
    have r3 : Room 3 X.A.in1 := hr.in1
    refine wpAny_mono (W.eqShare (Q := fun r H' => Same H H' ∧ r = eqP m0 n0) r3 I.env0.in1 I h0 k0 s0 fun H' s' => ⟨s', rfl⟩) (fun r t1 z => ?_) fun _ _ x => x
    obtain ⟨H1, I1, u1, er⟩ := z
    rw [er]
    cases hA : eqP m0 n0 with
    | false =>
      have kk := k H1 u1
      rw [hA, Bool.false_and] at kk
      exact fin _ _ _ I1 kk
    | true =>
      rw [if_pos rfl]
      refine wpAny_mono (W.eqShare (Q := fun r H' => Same H1 H' ∧ r = eqP m1 n1) r3 I1.env0.in1 I1 (h1.same u1) (k1.same u1) s1 fun H' s' => ⟨s', rfl⟩) (fun r t2 z => ?_) fun _ _ x => x
      obtain ⟨H2, I2, u2, er⟩ := z
      rw [er]
      cases hB : eqP m1 n1 with
      | false =>
        have kk := k H2 (u1.trans u2)
        rw [hA, hB, Bool.false_and, Bool.and_false] at kk
        exact fin _ _ _ I2 kk
      | true =>
        rw [if_pos rfl]
        refine wpAny_mono (W.eqShare (Q := fun r H' => Same H2 H' ∧ r = eqP m2 n2) r3 I2.env0.in1 I2 (h2.same (u1.trans u2)) (k2.same (u1.trans u2)) s2 fun H' s' => ⟨s', rfl⟩) (fun r t3 z => ?_) fun _ _ x => x
        obtain ⟨H3, I3, u3, er⟩ := z
        have kk := k H3 ((u1.trans u2).trans u3)
        rw [hA, hB, Bool.true_and, Bool.true_and] at kk
        rw [er]
        exact fin _ _ _ I3 kk
  · obtain ⟨v, rfl, z⟩ := z
    exact z
end
/-! ### terms compared -/
section
variable {P : Program} {w : World} {K : PySem.W.Frag} {mg : Str → Option Value} {base : Heap}
def eqT (m t0 t1 t2 n u0 u1 u2 : Int × Int) : Bool := eqP m n && (eqP t0 u0 && (eqP t1 u1 && eqP t2 u2))
theorem look_num (n t : V) : List.lookup ("number" : Str) [(("number" : Str), n), (("times" : Str), t)] = some n := rfl
theorem look_tim (n t : V) : List.lookup ("times" : Str) [(("number" : Str), n), (("times" : Str), t)] = some t := rfl
/-- term == v -/
def spTEq (K : PySem.W.Frag) : Sp := fun vs H Q _ => ∃ (x : Addr) (v : V), vs = [.ref x, v] ∧ ((∃ t, TyOf K H v t ∧ PySem.W.kitOne K t (.ref (He.ga K "Term")) = some false ∧ Q (.bl false) H) ∨
  ∃ (y : Addr) (m t0 t1 t2 n u0 u1 u2 : Int × Int), v = .ref y ∧ IsTm K H x m t0 t1 t2 ∧ IsTm K H y n u0 u1 u2 ∧ SmP m n ∧ SmP t0 u0 ∧ SmP t1 u1 ∧ SmP t2 u2 ∧ ∀ H', Same H H' → Q (.bl (eqT m t0 t1 t2 n u0 u1 u2)) H')
theorem ok_teq (W : Wd K mg) : ∃ fd, FnOk P w K mg base CX0 5 (He.ma K (He.ga K "Term") "__eq__") fd ["self", "other"] (spTEq K) ∧ Binds K fd ["self", "other"] [] := by
  obtain ⟨fd, F⟩ := W.F_Term_eq
  refine ⟨fd, F.ok scTEq (fun vs H Q E h => ?_) (fun cdv A outer s H vs Q E hr h => ?_), FunD.bindsN F fun _ _ _ _ _ _ us hl => match us, hl with | [_, _], _ => rfl⟩
  · obtain ⟨x, v, rfl, _⟩ := h
    rfl
  · obtain ⟨x, v, rfl, h⟩ := h
    have r3 : Room 3 _ := hr.mono (by decide)
    refine ⟨_, PSs.nox (pss_one (ps_ret (pe_and (pe_callB isi_G (by rfl) W.f_isinstance boot_isinstance (pa_cons (pv 1) (pa_cons (pe_glob (v := .ref (He.ga K "Term")) rfl W.g_Term rfl) pa_nil)))
      (pe_and (pe_cmpR (W.opEq r3) (pe_fld (pv 0) rfl) (pe_fld (pv 1) rfl) (nomark _)) (pe_one (pe_cmpR (W.opEqT hr) (pe_fld (pv 0) rfl) (pe_fld (pv 1) rfl) (nomark _))))))), ?_⟩
    simp -dsimp [tSeq, tAsg, tRet, tIfS, tIf, tTest, tVar, tCons, tNil, tC, tOp, tUn, rI, rI0, rU, tCB, tLst_A, tTup_A, gName, L2.start, CMul, CPow, CDiv, tDrop, tBM, tBM0, tNext, tPar, gSub, rSetL, rIxL, rIxT, tChain, tB, tNot, tNotV, tAnd, tOr, tAndV, tOrV, tFld, tCall, rIxLH, rIxTH, atI, ixN, upd_same, cxK, ex2, ex3, ex3b, rIs1, rIs2, rNe2, tyN, kb1, kb2, kb3, kb4, kb5, kb6, rEq, rNe, scal, tMake_S, tMakeK_S, tMakeN_S]
    rcases h with ⟨t, ty, k, q⟩ | ⟨y, m, t0, t1, t2, n, u0, u1, u2, rfl, hx, hy, s0, s1, s2, s3, q⟩
    · exact ⟨_, _, t, _, false, rfl, .own _, ty, k, .inl ⟨rfl, q⟩⟩
    · refine ⟨_, _, _, _, true, rfl, .own _, W.isTm hy, of_decide_eq_true (W.ex 30 rfl), .inr ⟨rfl, ?_⟩⟩
      obtain ⟨dx, a, tp, a0, a1, a2, e1, e2, e3, e4, e5, e6⟩ := id hx
      obtain ⟨dy, b, tq, b0, b1, b2, f1, f2, f3, f4, f5, f6⟩ := id hy
      simp -dsimp [tSeq, tAsg, tRet, tIfS, tIf, tTest, tVar, tCons, tNil, tC, tOp, tUn, rI, rI0, rU, tCB, tLst_A, tTup_A, gName, L2.start, CMul, CPow, CDiv, tDrop, tBM, tBM0, tNext, tPar, gSub, rSetL, rIxL, rIxT, tChain, tB, tNot, tNotV, tAnd, tOr, tAndV, tOrV, tFld, tCall, rIxLH, rIxTH, atI, ixN, upd_same, cxK, ex2, ex3, ex3b, rIs1, rIs2, rNe2, tyN, kb1, kb2, kb3, kb4, kb5, kb6, rEq, rNe, scal, tMake_S, tMakeK_S, tMakeN_S, e1, f1, termO, W.cls_Term, W.n_Term_number, W.n_Term_times, look_num, look_tim]
      refine ⟨m.1, m.2, n.1, n.2, .inl ⟨a, rfl, e2⟩, .inl ⟨b, rfl, f2⟩, s0, .inl ⟨a, rfl⟩, fun H1 s' => ?_⟩
      cases hA : eqP m n with
      | false =>
        have k := q H1 s'
        unfold eqT at k
        rw [hA, Bool.false_and] at k
        exact .inl ⟨congrArg V.bl hA, k⟩
      | true =>
        refine .inr ⟨congrArg V.bl hA, _, dx, _, s' _ _ e1, W.cls_Term, W.n_Term_times, _, rfl, _, dy, _, s' _ _ f1, W.cls_Term, W.n_Term_times, _, rfl, tp, tq, a0, a1, a2, b0, b1, b2, t0, t1, t2, u0, u1, u2, rfl, rfl, s' _ _ e3, s' _ _ f3, e4.same s', e5.same s', e6.same s', f4.same s', f5.same s', f6.same s', s1, s2, s3, fun H2 s2' => ?_⟩
        have k := q H2 (s'.trans s2')
        unfold eqT at k
        rw [hA, Bool.true_and] at k
        exact k
end
section
variable {X : Cx}
theorem Wd.cmpT (W : Wd X.K X.mg) : CmX.CmpC X.K (He.ga X.K "Term") := CmX.cmpB_ok (W.ex 22 rfl)
/-- what is compared with a term -/
def TmOr (K : PySem.W.Frag) (H : Hp) (x : Addr) (v : V) (R : Bool → Hp → Prop) : Prop := (∃ t, TyOf K H v t ∧ PySem.W.kitOne K t (.ref (He.ga K "Term")) = some false ∧ CmX.Beside K (He.ga K "Term") t ∧ R false H) ∨
  ∃ (y : Addr) (m t0 t1 t2 n u0 u1 u2 : Int × Int), v = .ref y ∧ IsTm K H x m t0 t1 t2 ∧ IsTm K H y n u0 u1 u2 ∧ SmP m n ∧ SmP t0 u0 ∧ SmP t1 u1 ∧ SmP t2 u2 ∧ ∀ H', Same H H' → R (eqT m t0 t1 t2 n u0 u1 u2) H'
def rTE (K : PySem.W.Frag) (f : Bool → Bool) : R2 := fun x y H Q => ∃ (z : Addr) (m t0 t1 t2 : Int × Int), x = .ref z ∧ IsTm K H z m t0 t1 t2 ∧ TmOr K H z y (fun b H' => Q (.bl (f b)) H')
theorem TmOr.sp {K : PySem.W.Frag} {H : Hp} {x : Addr} {v : V} {R : Bool → Hp → Prop} {Q : VK} {E : XK} (h : TmOr K H x v R) (k : ∀ b H', R b H' → Q (.bl b) H') : spTEq K [.ref x, v] H Q E := by
  rcases h with ⟨t, ty, kt, _, r⟩ | ⟨y, m, t0, t1, t2, n, u0, u1, u2, e, hx, hy, s0, s1, s2, s3, r⟩
  · exact ⟨x, v, rfl, .inl ⟨t, ty, kt, k _ _ r⟩⟩
  · exact ⟨x, v, rfl, .inr ⟨y, m, t0, t1, t2, n, u0, u1, u2, e, hx, hy, s0, s1, s2, s3, fun H' s' => k _ _ (r H' s')⟩⟩
theorem TmOr.ty {K : PySem.W.Frag} {mg : Str → Option Value} (W : Wd K mg) {H : Hp} {x : Addr} {v : V} {R : Bool → Hp → Prop} (h : TmOr K H x v R) : ∃ t, TyOf K H v t ∧ CmX.Beside K (He.ga K "Term") t := by
  rcases h with ⟨t, ty, kt, b, r⟩ | ⟨y, m, t0, t1, t2, n, u0, u1, u2, rfl, hx, hy, s0, s1, s2, s3, r⟩
  · exact ⟨t, ty, b⟩
  · exact ⟨_, W.isTm hy, .inl rfl⟩
theorem Wd.opTEq (W : Wd X.K X.mg) (hr : Room 5 X.A) : OpR X (compareOp .Eq) (rTE X.K id) := by
  obtain ⟨f1, G1, b1⟩ := ok_teq (P := X.prog) (w := X.w) (base := X.base) W
  intro pins s σ H x y v u Q I rx ry h
  obtain ⟨z, m, t0, t1, t2, rfl, hz, h⟩ := h
  obtain ⟨t, ty, bs⟩ := h.ty W
  obtain ⟨dx, a, tp, a0, a1, a2, e1, _⟩ := id hz
  exact CmX.op_cmpL (E := E0) (fun _ _ => rfl) W.m_Term_eq.at_ W.m_Term_eq.fn (raw0 G1 b1) hr hr.units0 pass0 pins s σ H _ y v u Q I rx ry ⟨z, dx, _, t, rfl, e1, ty, bs, h.sp fun b H' r => r⟩
theorem Wd.opTNe (W : Wd X.K X.mg) (hr : Room 6 X.A) : OpR X (compareOp .NotEq) (rTE X.K not) := by
  obtain ⟨f1, G1, b1⟩ := ok_teq (P := X.prog) (w := X.w) (base := X.base) W
  intro pins s σ H x y v u Q I rx ry h
  obtain ⟨z, m, t0, t1, t2, rfl, hz, h⟩ := h
  obtain ⟨t, ty, bs⟩ := h.ty W
  obtain ⟨dx, a, tp, a0, a1, a2, e1, _⟩ := id hz
  exact CmX.op_neL (E := E0) W.cmpT W.m_Term_eq.at_ W.m_Term_eq.fn (raw0 G1 b1) hr (hu_of hr) pass0 pins s σ H _ y v u Q I rx ry ⟨z, dx, _, t, rfl, e1, ty, bs, h.sp fun b H' r => ⟨b, rfl, r⟩⟩
end
/-! ### Term.unknown -/
section
variable {P : Program} {w : World} {K : PySem.W.Frag} {mg : Str → Option Value} {base : Heap} {fd : FuncData}
theorem Wd.g_UNKNOWNS (W : Wd K mg) : ∃ t, mg "UNKNOWNS" = some (.int 3 t) := by
  obtain ⟨h0, X, G⟩ := W.X
  exact He.int_ok X G (W.c.fact 63 rfl)
theorem Wd.sm_constant (W : Wd K mg) : StX.SMet K (He.ga K "Term") "constant" (He.ma K (He.ga K "Term") "constant") (He5.wf K (He.ga K "Term") "staticmethod" "constant") := StX.smB_ok (W.ex 17 rfl)
theorem Wd.sm_unknown (W : Wd K mg) : StX.SMet K (He.ga K "Term") "unknown" (He.ma K (He.ga K "Term") "unknown") (He5.wf K (He.ga K "Term") "staticmethod" "unknown") := StX.smB_ok (W.ex 28 rfl)
theorem ok_nounknown (W : Wd K mg) (hP : SupX.PrgOk P) : ∃ fd, FnOk P w K mg base CX0 1 (He.ma K (He.ga K "NoUnknown") "__init__") fd ["self", "k"] (SupX.spExc (He.ga K "NoUnknown") "k") ∧ Binds K fd ["self", "k"] [] := by
  obtain ⟨cc, cda, T⟩ := SupX.supC_of hP (W.sup 0 rfl) (W.ex 23 rfl) (W.ex 24 rfl)
  exact SupX.exc_init T (NdefX.nscope_by (by decide +kernel)) W.n_NoUnknown_k (by decide +kernel) (fun _ _ _ _ us hl => match us, hl with | [_, _], _ => rfl) rfl rfl (fun env h => rfl) (fun env h => rfl) (fun env h => by unfold interactive; rw [h]; rfl) (fun env h => rfl) rfl rfl
theorem scUnk : FnScope ["k", "at"] ["k"] d_Term_unknown.scope := ⟨rfl, rfl, rfl, by decide +kernel, rfl, by decide +kernel, by decide +kernel⟩
/-- 1 at k, else 0 -/
def dl (k i : Int) : Int × Int := (if i = k then 1 else 0, 1)
def spUnk (K : PySem.W.Frag) : Sp := fun vs H Q _ => ∃ (k : Int), vs = [.int k] ∧ 0 ≤ k ∧ k < 3 ∧ ∀ z H', Same H H' → IsTm K H' z (0, 1) (dl k 0) (dl k 1) (dl k 2) → Q (.ref z) H'
theorem MkS.one {H : Hp} {b : Int} {Q : V → Hp → Prop} {E : XK} (h : ∀ z H', H z = none → Same H H' → IsSh K H' z b 1 → Q (.ref z) H') : MkS K H [.int b, .int 1] Q E := MkS.of rfl (by decide) (by decide +kernel) fun z H' n i s' => h z H' n s' (by
  rw [(one_fd b).1, (one_fd b).2] at i
  exact i)
theorem ok_unk (W : Wd K mg) : ∃ fd, FnOk P w K mg base CX0 5 (He5.wf K (He.ga K "Term") "staticmethod" "unknown") fd ["k"] (spUnk K) ∧ Binds K fd ["k"] [] := by
  obtain ⟨fdH, GH, FH⟩ := ok_init (P := P) (w := w) (base := base) W
  obtain ⟨ds1, v1, b1⟩ := bind2 FH
  obtain ⟨fdT, GT, bT⟩ := ok_tinit (P := P) (w := w) (base := base) W
  obtain ⟨fdI, GI, bI⟩ := ok_isInt (P := P) (w := w) (base := base) W
  have kI : PySem.W.keepIn K (.ref (He.ga K "is_integer")) = true := by obtain ⟨fd, F⟩ := W.F_is_integer; exact F.kp
  obtain ⟨tu, mU⟩ := W.g_UNKNOWNS
  obtain ⟨fd, F⟩ := W.F_Term_unknown
  refine ⟨fd, F.ok scUnk (fun vs H Q E h => ?_) (fun cdv A outer s H vs Q E hr h => ?_), FunD.bindsN F fun _ _ _ _ _ _ us hl => match us, hl with | [_], _ => rfl⟩
  · obtain ⟨k, rfl, _⟩ := h
    rfl
  · obtain ⟨k, rfl, k0, k1, q⟩ := h
    have r3 : Room 3 _ := hr.mono (by decide)
    have r2 : Room 2 _ := hr.mono (by decide)
    have r1 : Room 1 _ := hr.mono (by decide)
    refine ⟨_, PSs.nox (pss_cons (ps_if (PW.pt (pw_or (pt_not (pt_val (pe_call GI r1 rfl W.g_is_integer kI bI .nil pass0 (pa_cons (pv 0) pa_nil)))) (pw_or (pt_cmpR op_lt (pv 0) pe_int (nomark _)) (pw_or1 (pt_cmpR op_ge (pv 0) (pe_glob (v := .int 3) rfl mU ⟨_, rfl⟩) (nomark _)))))) pss_never pss_nil)
      (pss_one (ps_ret (pe_make W.mkr_Term GT r2 rfl W.g_Term bT .nil pass0 (pa_cons (pe_make W.mkr_Share GH r3 rfl W.g_Share b1 v1 pass0 (pa_cons pe_int pa_nil)) (pa_cons (pe_callTy call_tuple_of (by rfl) W.f_tuple (by decide +kernel) (pa_cons
        (pe_lc (own := [("at", 1)]) (g := gName 1) (tt := tYes) rfl scUnk.nd (pi_range1 rfl W.f_range (pa_cons (pe_glob (v := .int 3) rfl mU ⟨_, rfl⟩) pa_nil)) (blkOk_by (N := ["k", "at"]) (sc := defScope s_Term_unknown) (by decide +kernel))
          (fun _ _ _ _ _ => pg_name (i := 1) scUnk.nd rfl (Or.inl rfl)) (fun _ _ _ _ _ => pts_nil)
          (fun _ _ _ _ _ => pe_make W.mkr_Share GH r3 rfl W.g_Share b1 v1 pass0 (pa_cons (pe_ifExp (pt_cmpR op_eq (pv 1) (pv 0) (nomark _)) pe_int pe_int) pa_nil))) pa_nil)) pa_nil)))))), ?_⟩
    simp -dsimp [tSeq, tAsg, tRet, tIfS, tIf, tTest, tVar, tCons, tNil, tC, tOp, tUn, rI, rI0, rU, tCB, tLst_A, tTup_A, gName, L2.start, CMul, CPow, CDiv, tDrop, tBM, tBM0, tNext, tPar, gSub, rSetL, rIxL, rIxT, tChain, tB, tNot, tNotV, tAnd, tOr, tAndV, tOrV, tFld, tCall, rIxLH, rIxTH, atI, ixN, upd_same, cxK, ex2, ex3, ex3b, rIs1, rIs2, rNe2, tyN, kb1, kb2, kb3, kb4, kb5, kb6, rEq, rNe, scal, tMake_S, tMakeK_S, tMakeN_S, tMake_T]
    refine ⟨.int k, .type "int", true, rfl, .int k, ⟨true, false, kit_ty kb4, kit_ty kb3, rfl⟩, .inr ⟨rfl, ?_⟩⟩
    rw [if_neg (by omega), if_neg (by omega)]
    refine MkS.zero fun z1 H1 s1 i1 => ⟨3, rfl, by decide, by decide, fun D hD => ?_⟩
    have nD : ∀ {b : Addr} {o : HO}, H1 b = some o → b ≠ D := fun e => ne_of_none e hD
    refine lc_it (walk_range (lo := 0) (n := 3)) (fun i H' => Same H1 H' ∧ ∃ ss : List Addr, ss.length = i ∧ H' D = some (.lst (ss.map V.ref)) ∧ ∀ (j : Nat) (a : Addr), ss[j]? = some a → IsS K H' a (dl k j)) ⟨same_upd hD, [], rfl, upd_same, fun j a e => by simp at e⟩ (fun _ _ _ _ => True.intro) ?_ ?_
    · rintro i x H' H'' hi ⟨sm, ss, hl, hD', hs⟩ ⟨rfl, rfl⟩
      refine ⟨rfl, ?_⟩
      simp only [tYes, if_true]
      simp -dsimp [tSeq, tAsg, tRet, tIfS, tIf, tTest, tVar, tCons, tNil, tC, tOp, tUn, rI, rI0, rU, tCB, tLst_A, tTup_A, gName, L2.start, CMul, CPow, CDiv, tDrop, tBM, tBM0, tNext, tPar, gSub, rSetL, rIxL, rIxT, tChain, tB, tNot, tNotV, tAnd, tOr, tAndV, tOrV, tFld, tCall, rIxLH, rIxTH, atI, ixN, upd_same, cxK, ex2, ex3, ex3b, rIs1, rIs2, rNe2, tyN, kb1, kb2, kb3, kb4, kb5, kb6, rEq, rNe, scal, tMake_S, tMakeK_S, tMakeN_S, gName, wipe]
      have dD : H'' D = some (.lst (ss.map V.ref)) := hD'
      have fin : ∀ b : Int, dl k i = (b, 1) → MkS K H'' [V.int b, V.int 1] (fun y H4 => ∃ acc, H4 D = some (HO.lst acc) ∧ acc.length < sizeLine ∧ Same H1 (upd H4 D (HO.lst (acc ++ [y]))) ∧ ∃ ss : List Addr, ss.length = i + 1 ∧ acc ++ [y] = List.map V.ref ss ∧ ∀ (j : Nat) (a : Addr), ss[j]? = some a → IsS K (upd H4 D (HO.lst (acc ++ [y]))) a (dl k ↑j)) E0 := by
        intro b e
        refine MkS.one fun a H4 na s4 ia => ⟨ss.map V.ref, s4 _ _ dD, ?_, fun c o ec => ?_, ss ++ [a], by simp [hl], by simp, fun j c hj => ?_⟩
        · rw [List.length_map]
          exact small1000 (by omega)
        · rw [upd_ne (nD ec)]
          exact s4 _ _ (sm _ _ ec)
        · have hc : IsS K H4 c (dl k j) := by
            by_cases hji : j < ss.length
            · rw [List.getElem?_append_left hji] at hj
              exact (hs j c hj).same s4
            · rw [List.getElem?_append_right (by omega)] at hj
              have ej : j - ss.length = 0 := by
                rcases Nat.eq_zero_or_pos (j - ss.length) with h | h
                · exact h
                · rw [List.getElem?_eq_none (by simp; omega)] at hj
                  cases hj
              rw [ej] at hj
              cases hj
              have : j = i := by omega
              subst this
              rw [e]
              exact ia
          obtain ⟨dc, hc⟩ := hc
          refine ⟨dc, ?_⟩
          rw [upd_ne]
          · exact hc
          · intro ecD
            subst ecD
            rw [s4 _ _ dD] at hc
            cases hc
      split
      · rename_i hik
        exact fin 1 (by unfold dl; rw [if_pos hik])
      · rename_i hik
        exact fin 0 (by unfold dl; rw [if_neg hik])
    · rintro H' ⟨sm, ss, hl, hD', hs⟩
      match ss, hl with
      | [a0, a1, a2], _ =>
        have h0 := hs 0 a0 rfl
        have h1 := hs 1 a1 rfl
        have h2 := hs 2 a2 rfl
        refine ⟨D, rfl, _, .inl ⟨SqL.of hD', fun l hl => MkT.of rfl fun x dx H4 n4 e4 s4 => ?_⟩⟩
        have sl := same_upd hl (o := HO.tup ([a0, a1, a2].map V.ref))
        exact q x H4 (((s1.trans sm).trans sl).trans s4) ⟨dx, z1, l, a0, a1, a2, e4, (((show IsS K H1 z1 (0, 1) from i1).same sm).same sl).same s4, s4 _ _ upd_same, (h0.same sl).same s4, (h1.same sl).same s4, (h2.same sl).same s4⟩
end
/-! ### comprehensions whose items keep what is there -/
/-- all but what stands at l is kept -/
def SameN (l : Addr) (H H' : Hp) : Prop := ∀ b o, b ≠ l → H b = some o → H' b = some o
theorem SameN.of {l : Addr} {H H' : Hp} (h : Same H H') : SameN l H H' := fun b o _ e => h b o e
theorem SameN.trans {l : Addr} {H1 H2 H3 : Hp} (h : SameN l H1 H2) (k : SameN l H2 H3) : SameN l H1 H3 := fun b o n e => k b o n (h b o n e)
theorem SameN.upd {l : Addr} {H : Hp} {o : HO} : SameN l H (upd H l o) := fun b u n e => by rw [upd_ne n]; exact e
/-- what a list at D doesn't matter to -/
def Mono (P : V → Hp → Prop) : Prop := ∀ (D : Addr) (xs : List V) (v : V) (H H' : Hp), H D = some (.lst xs) → SameN D H H' → P v H → P v H'
/-- one item more -/
theorem lc_step {P : Nat → V → Hp → Prop} {D : Addr} {H H' : Hp} {i : Nat} {vs : List V} {R : Hp → Prop} (mono : ∀ j, Mono (P j)) (sm : Same H H') (hD : H D = none) (hl : vs.length = i) (hi : i < 1000) (dD : H' D = some (.lst vs)) (hs : ∀ (j : Nat) (v : V), vs[j]? = some v → P j v H')
    (k : ∀ H2, (Same H H2 ∧ ∃ vs : List V, vs.length = i + 1 ∧ H2 D = some (.lst vs) ∧ ∀ (j : Nat) (v : V), vs[j]? = some v → P j v H2) → R H2) (y : V) (H4 : Hp) (s4 : Same H' H4) (py : P i y H4) : ∃ acc, H4 D = some (.lst acc) ∧ acc.length < sizeLine ∧ R (upd H4 D (.lst (acc ++ [y]))) := by
  have d4 := s4 _ _ dD
  refine ⟨vs, d4, small1000 (by omega), k _ ⟨fun b o e => ?_, vs ++ [y], by simp [hl], upd_same, fun j v hj => ?_⟩⟩
  · rw [upd_ne (ne_of_none e hD)]
    exact s4 _ _ (sm _ _ e)
  · by_cases hji : j < vs.length
    · rw [List.getElem?_append_left hji] at hj
      exact mono j D vs v _ _ d4 .upd (mono j D vs v _ _ dD (.of s4) (hs j v hj))
    · rw [List.getElem?_append_right (by omega)] at hj
      have ej : j - vs.length = 0 := by
        rcases Nat.eq_zero_or_pos (j - vs.length) with h | h
        · exact h
        · rw [List.getElem?_eq_none (by simp; omega)] at hj
          cases hj
      rw [ej] at hj
      cases hj
      have : j = i := by omega
      subst this
      exact mono j D vs _ _ _ d4 .upd py
theorem lc_rng {n i0 : Nat} {te : TE} {σ : List (Option V)} {H : Hp} {Q : V → Hp → Prop} (P : Nat → V → Hp → Prop) (hn : n < 1000) (mono : ∀ j, Mono (P j)) (hw : ∀ x : V, wipe ((wipe σ [i0]).set i0 (some x)) [i0] = wipe σ [i0])
    (he : ∀ (j : Nat) (H' : Hp) (R : V → Hp → Prop), j < n → Same H H' → (∀ y H4, Same H' H4 → P j y H4 → R y H4) → te ((wipe σ [i0]).set i0 (some (.int (j : Int)))) H' R)
    (hq : ∀ (D : Addr) (H' : Hp) (vs : List V), Same H H' → vs.length = n → H' D = some (.lst vs) → (∀ (j : Nat) (v : V), vs[j]? = some v → P j v H') → Q (.ref D) H') : tLc (iRng1 (tCons (tC (V.int (n : Int))) tNil)) (gName i0) tYes te [i0] σ H Q := by
  refine ⟨(n : Int), rfl, by omega, by omega, fun D hD => ?_⟩
  rw [Int.toNat_natCast]
  refine lc_it (walk_range (lo := 0) (n := n)) (fun i H' => Same H H' ∧ ∃ vs : List V, vs.length = i ∧ H' D = some (.lst vs) ∧ ∀ (j : Nat) (v : V), vs[j]? = some v → P j v H') ⟨same_upd hD, [], rfl, upd_same, fun j a e => by simp at e⟩ (fun _ _ _ _ => True.intro) ?_ ?_
  · rintro i x H' H'' hi ⟨sm, vs, hl, dD, hs⟩ ⟨rfl, rfl⟩
    refine ⟨hw _, ?_⟩
    simp only [tYes, if_true]
    rw [Int.zero_add]
    exact he i H'' _ hi sm (lc_step mono sm hD hl (by omega) dD hs fun _ h => h)
  · rintro H' ⟨sm, vs, hl, dD, hs⟩
    exact hq D H' vs sm hl dD hs
/-- over the list at a -/
theorem lc_lst {K : PySem.W.Frag} {i0 : Nat} {tl : TE} {te : TE} {σ : List (Option V)} {H : Hp} {Q : V → Hp → Prop} (a : Addr) (xs : List V) (P : Nat → V → Hp → Prop) (hn : xs.length < 1000) (mono : ∀ j, Mono (P j)) (hw : ∀ x : V, wipe ((wipe σ [i0]).set i0 (some x)) [i0] = wipe σ [i0])
    (ha : H a = some (.lst xs)) (htl : ∀ R : V → Hp → Prop, R (.ref a) H → tl σ H R)
    (he : ∀ (j : Nat) (x : V) (H' : Hp) (R : V → Hp → Prop), xs[j]? = some x → Same H H' → (∀ y H4, Same H' H4 → P j y H4 → R y H4) → te ((wipe σ [i0]).set i0 (some x)) H' R)
    (hq : ∀ (D : Addr) (H' : Hp) (vs : List V), Same H H' → vs.length = xs.length → H' D = some (.lst vs) → (∀ (j : Nat) (v : V), vs[j]? = some v → P j v H') → Q (.ref D) H') : tLc (iList K tl) (gName i0) tYes te [i0] σ H Q := by
  refine htl _ ⟨a, rfl, ⟨xs, SqL.of ha⟩, fun D hD => ?_⟩
  refine lc_it (walk_list (K := K) (a := a) (xs := xs)) (fun i H' => Same H H' ∧ ∃ vs : List V, vs.length = i ∧ H' D = some (.lst vs) ∧ ∀ (j : Nat) (v : V), vs[j]? = some v → P j v H') ⟨same_upd hD, [], rfl, upd_same, fun j a e => by simp at e⟩ (fun _ _ _ h => SqL.of (h.1 _ _ ha)) ?_ ?_
  · rintro i x H' H'' hi ⟨sm, vs, hl, dD, hs⟩ ⟨rfl, fx⟩
    refine ⟨hw _, ?_⟩
    simp only [tYes, if_true]
    exact he i x _ _ fx sm (lc_step mono sm hD hl (by omega) dD hs fun _ h => h)
  · rintro H' ⟨sm, vs, hl, dD, hs⟩
    exact hq D H' vs sm hl dD hs
/-- over two tuples side by side -/
theorem lc_zip2 {K : PySem.W.Frag} {i0 i1 : Nat} {ta : TA} {te : TE} {σ : List (Option V)} {H : Hp} {Q : V → Hp → Prop} (a b : Addr) (xs ys : List V) (P : Nat → V → Hp → Prop) (hl : xs.length = ys.length) (hn : xs.length < 1000) (mono : ∀ j, Mono (P j))
    (hw : ∀ x y : V, wipe (((wipe σ [i0, i1]).set i0 (some x)).set i1 (some y)) [i0, i1] = wipe σ [i0, i1]) (ha : H a = some (.tup xs)) (hb : H b = some (.tup ys)) (hta : ∀ R : List V → Hp → Prop, R [.ref a, .ref b] H → ta σ H R)
    (he : ∀ (j : Nat) (x y : V) (H' : Hp) (R : V → Hp → Prop), xs[j]? = some x → ys[j]? = some y → Same H H' → (∀ v H4, Same H' H4 → P j v H4 → R v H4) → te (((wipe σ [i0, i1]).set i0 (some x)).set i1 (some y)) H' R)
    (hq : ∀ (D : Addr) (H' : Hp) (vs : List V), Same H H' → vs.length = xs.length → H' D = some (.lst vs) → (∀ (j : Nat) (v : V), vs[j]? = some v → P j v H') → Q (.ref D) H') : tLc (RZ.iZipA K ta) (gTup K 2 (gCons (gName i0) (gCons (gName i1) gNil))) tYes te [i0, i1] σ H Q := by
  refine hta _ ⟨a, b, xs, ys, rfl, .inr ⟨SqT.of ha, SqT.of hb, fun D hD => ?_⟩⟩
  refine lc_it (walk_zipT (K := K) (a := a) (b := b) (xs := xs) (ys := ys) (n := xs.length) rfl hl.symm) (fun i H' => Same H H' ∧ ∃ vs : List V, vs.length = i ∧ H' D = some (.lst vs) ∧ ∀ (j : Nat) (v : V), vs[j]? = some v → P j v H') ⟨same_upd hD, [], rfl, upd_same, fun j a e => by simp at e⟩ (fun _ _ _ h => ⟨SqT.of (h.1 _ _ ha), SqT.of (h.1 _ _ hb)⟩) ?_ ?_
  · rintro i x H' H'' hi ⟨sm, vs, hl, dD, hs⟩ ⟨T, x', y', rfl, hT, rfl, fx, fy⟩
    refine ⟨T, _, rfl, SqT.of upd_same, rfl, _, _, rfl, _, _, rfl, rfl, hw _ _, ?_⟩
    simp only [tYes, if_true]
    have sT : Same H' (upd H' T (HO.tup [x', y'])) := same_upd hT
    exact he i x' y' _ _ fx fy (sm.trans sT) fun v H4 s4 p => lc_step mono sm hD hl (by omega) dD hs (fun _ h => h) v H4 (sT.trans s4) p
  · rintro H' ⟨sm, vs, hl, dD, hs⟩
    exact hq D H' vs sm hl dD hs
/-- over the tuple at a -/
theorem lc_tup {K : PySem.W.Frag} {i0 : Nat} {tl : TE} {te : TE} {σ : List (Option V)} {H : Hp} {Q : V → Hp → Prop} (a : Addr) (xs : List V) (P : Nat → V → Hp → Prop) (hn : xs.length < 1000) (mono : ∀ j, Mono (P j)) (hw : ∀ x : V, wipe ((wipe σ [i0]).set i0 (some x)) [i0] = wipe σ [i0])
    (ha : H a = some (.tup xs)) (htl : ∀ R : V → Hp → Prop, R (.ref a) H → tl σ H R)
    (he : ∀ (j : Nat) (x : V) (H' : Hp) (R : V → Hp → Prop), xs[j]? = some x → Same H H' → (∀ y H4, Same H' H4 → P j y H4 → R y H4) → te ((wipe σ [i0]).set i0 (some x)) H' R)
    (hq : ∀ (D : Addr) (H' : Hp) (vs : List V), Same H H' → vs.length = xs.length → H' D = some (.lst vs) → (∀ (j : Nat) (v : V), vs[j]? = some v → P j v H') → Q (.ref D) H') : tLc (iTup K tl) (gName i0) tYes te [i0] σ H Q := by
  refine htl _ ⟨a, rfl, ⟨xs, SqT.of ha⟩, fun D hD => ?_⟩
  refine lc_it (walk_tup (K := K) (a := a) (xs := xs)) (fun i H' => Same H H' ∧ ∃ vs : List V, vs.length = i ∧ H' D = some (.lst vs) ∧ ∀ (j : Nat) (v : V), vs[j]? = some v → P j v H') ⟨same_upd hD, [], rfl, upd_same, fun j a e => by simp at e⟩ (fun _ _ _ h => SqT.of (h.1 _ _ ha)) ?_ ?_
  · rintro i x H' H'' hi ⟨sm, vs, hl, dD, hs⟩ ⟨rfl, fx⟩
    refine ⟨hw _, ?_⟩
    simp only [tYes, if_true]
    exact he i x _ _ fx sm (lc_step mono sm hD hl (by omega) dD hs fun _ h => h)
  · rintro H' ⟨sm, vs, hl, dD, hs⟩
    exact hq D H' vs sm hl dD hs
/-! ### numbers as pairs -/
theorem h_of {n : Nat} (h : n < 10 ^ 60) : n < bigH := Nat.lt_of_lt_of_le h (by unfold bigH; exact Nat.le_trans (by decide : (10 : Nat) ^ 60 ≤ 2 ^ 200) (Nat.pow_le_pow_right (by decide) (by decide)))
def lo (x y : Int) : Int × Int := (x.fdiv (side x y), y.fdiv (side x y))
def pAdd (p q : Int × Int) : Int × Int := lo (fAdd p.1 p.2 q.1 q.2) (gMul p.1 p.2 q.1 q.2)
def pSub (p q : Int × Int) : Int × Int := lo (fSub p.1 p.2 q.1 q.2) (gMul p.1 p.2 q.1 q.2)
def pMul (p q : Int × Int) : Int × Int := lo (fMul p.1 p.2 q.1 q.2) (gMul p.1 p.2 q.1 q.2)
/-- two numbers that may be reckoned with -/
def Ok2 (p q : Int × Int) : Prop := SmP p q ∧ p.2 ≠ 0 ∧ q.2 ≠ 0
theorem Ok2.nz {p q : Int × Int} (h : Ok2 p q) : gMul p.1 p.2 q.1 q.2 ≠ 0 := Int.mul_ne_zero h.2.1 h.2.2
theorem Ok2.swap {p q : Int × Int} (h : Ok2 p q) : Ok2 q p := ⟨sm_swap h.1, h.2.2, h.2.1⟩
/-- x op y, x a share -/
def rS (K : PySem.W.Frag) (f : Int × Int → Int × Int → Int × Int) : R2 := fun x y H Q => ∃ (z : Addr) (p q : Int × Int), x = .ref z ∧ IsS K H z p ∧ Nu K H y q.1 q.2 ∧ Ok2 p q ∧ ∀ (z' : Addr) (H' : Hp), Same H H' → IsS K H' z' (f p q) → Q (.ref z') H'
section
variable {X : Cx}
theorem Wd.sAdd (W : Wd X.K X.mg) (hr : Room 4 X.A) : OpR X (binaryOp .Add) (rS X.K pAdd) := by
  obtain ⟨f1, G1, b1⟩ := ok_add (P := X.prog) (w := X.w) (base := X.base) W
  intro pins s σ H x y v u Q I rx ry h
  obtain ⟨z, p, q, rfl, hz, hy, ok, k⟩ := h
  obtain ⟨dx, hd⟩ := id hz
  exact op_L W.opAdd (raw0 G1 b1) hr pass0 pins s σ H _ _ v u Q I rx ry ⟨z, dx, _, rfl, hd, hy.ins, z, y, p.1, p.2, q.1, q.2, rfl, hz, hy, ok.1, ok.nz, fun z' H' s' i => k z' H' s' i⟩
theorem Wd.sSub (W : Wd X.K X.mg) (hr : Room 4 X.A) : OpR X (binaryOp .Sub) (rS X.K pSub) := by
  obtain ⟨f1, G1, b1⟩ := ok_sub (P := X.prog) (w := X.w) (base := X.base) W
  intro pins s σ H x y v u Q I rx ry h
  obtain ⟨z, p, q, rfl, hz, hy, ok, k⟩ := h
  obtain ⟨dx, hd⟩ := id hz
  exact op_L W.opSub (raw0 G1 b1) hr pass0 pins s σ H _ _ v u Q I rx ry ⟨z, dx, _, rfl, hd, hy.ins, z, y, p.1, p.2, q.1, q.2, rfl, hz, hy, ok.1, ok.nz, fun z' H' s' i => k z' H' s' i⟩
theorem Wd.sMul (W : Wd X.K X.mg) (hr : Room 4 X.A) : OpR X (binaryOp .Mult) (rS X.K pMul) := by
  obtain ⟨f1, G1, b1⟩ := ok_mul (P := X.prog) (w := X.w) (base := X.base) W
  intro pins s σ H x y v u Q I rx ry h
  obtain ⟨z, p, q, rfl, hz, hy, ok, k⟩ := h
  obtain ⟨dx, hd⟩ := id hz
  exact op_L W.opMul (raw0 G1 b1) hr pass0 pins s σ H _ _ v u Q I rx ry ⟨z, dx, _, rfl, hd, hy.ins, z, y, p.1, p.2, q.1, q.2, rfl, hz, hy, ok.1, ok.nz, fun z' H' s' i => k z' H' s' i⟩
end
/-- three shares -/
def three (p0 p1 p2 : Int × Int) (j : Nat) : Int × Int := match j with
  | 0 => p0
  | 1 => p1
  | _ => p2
def IsAt (K : PySem.W.Frag) (g : Nat → Int × Int) (j : Nat) (v : V) (H : Hp) : Prop := ∃ y, v = .ref y ∧ IsS K H y (g j)
theorem mono_S (K : PySem.W.Frag) (g : Nat → Int × Int) (j : Nat) : Mono (IsAt K g j) := fun D xs v H H' hD s ⟨y, e, dx, h⟩ => ⟨y, e, dx, s _ _ (fun e' => by rw [e', hD] at h; cases h) h⟩
/-! ### what is a term of; sums and differences of terms -/
/-- a term or a number, as a term -/
def TN (K : PySem.W.Frag) (H : Hp) (v : V) (n u0 u1 u2 : Int × Int) : Prop := (∃ y, v = .ref y ∧ IsTm K H y n u0 u1 u2) ∨ (Nu K H v n.1 n.2 ∧ u0 = (0, 1) ∧ u1 = (0, 1) ∧ u2 = (0, 1))
theorem TN.same {K : PySem.W.Frag} {H H' : Hp} {v : V} {n u0 u1 u2 : Int × Int} (h : TN K H v n u0 u1 u2) (s : Same H H') : TN K H' v n u0 u1 u2 := by
  rcases h with ⟨y, e, h⟩ | ⟨h, e⟩
  · exact .inl ⟨y, e, h.same s⟩
  · exact .inr ⟨h.same s, e⟩
section
variable {P : Program} {w : World} {K : PySem.W.Frag} {mg : Str → Option Value} {base : Heap} {fd : FuncData}
theorem Wd.nuTm (W : Wd K mg) {H : Hp} {v : V} {c d : Int} (h : Nu K H v c d) : ∃ t, TyOf K H v t ∧ NuX.KN K t true ∧ PySem.W.kitOne K t (.ref (He.ga K "Term")) = some false ∧ CmX.Beside K (He.ga K "Term") t := by
  rcases h with ⟨z, rfl, h⟩ | ⟨rfl, _⟩
  · exact ⟨_, W.isSh h, W.knS, of_decide_eq_true (W.ex 18 rfl), .inr (of_decide_eq_true (W.ex 20 rfl))⟩
  · have kT := List.all_eq_true.mp (W.ex 29 rfl)
    have cT : CmX.CmpC K (He.ga K "Term") := CmX.cmpB_ok (W.ex 22 rfl)
    exact ⟨_, .int _, W.knI, of_decide_eq_true (kT "int" (by decide)), .inr (cT.no "int" (by decide)).1⟩
def spTermOf (K : PySem.W.Frag) : Sp := fun vs H Q _ => ∃ (v : V) (n u0 u1 u2 : Int × Int), vs = [v] ∧ TN K H v n u0 u1 u2 ∧ ∀ z H', Same H H' → IsTm K H' z n u0 u1 u2 → Q (.ref z) H'
/-- a term and a term or number -/
def spT2 (K : PySem.W.Frag) (f : Int × Int → Int × Int → Int × Int) : Sp := fun vs H Q _ => ∃ (x : Addr) (v : V) (m t0 t1 t2 n u0 u1 u2 : Int × Int), vs = [.ref x, v] ∧ IsTm K H x m t0 t1 t2 ∧ TN K H v n u0 u1 u2 ∧ Ok2 m n ∧ Ok2 t0 u0 ∧ Ok2 t1 u1 ∧ Ok2 t2 u2 ∧ ∀ z H', Same H H' → IsTm K H' z (f m n) (f t0 u0) (f t1 u1) (f t2 u2) → Q (.ref z) H'
theorem spT2_len {K : PySem.W.Frag} {f : Int × Int → Int × Int → Int × Int} {vs : List V} {H : Hp} {Q : VK} {E : XK} (h : spT2 K f vs H Q E) : vs.length = 2 := by
  obtain ⟨x, v, _, _, _, _, _, _, _, _, rfl, _⟩ := h
  rfl
theorem scTermOf : FnScope ["thing"] ["thing"] d_term_of.scope := ⟨rfl, rfl, rfl, by decide +kernel, rfl, by decide +kernel, by decide +kernel⟩
theorem ok_termOf (W : Wd K mg) : ∃ fd, FnOk P w K mg base CX0 6 (He.ga K "term_of") fd ["thing"] (spTermOf K) ∧ Binds K fd ["thing"] [] := by
  obtain ⟨fd_isNum, G_isNum, b_isNum⟩ := ok_isNum (P := P) (w := w) (base := base) W
  have k_isNum : PySem.W.keepIn K (.ref (He.ga K "is_number")) = true := by obtain ⟨fd, F⟩ := W.F_is_number; exact F.kp
  obtain ⟨fd_const, G_const, b_const⟩ := ok_const (P := P) (w := w) (base := base) W
  obtain ⟨fd, F⟩ := W.F_term_of
  refine ⟨fd, F.ok scTermOf (fun vs H Q E h => ?_) (fun cdv A outer s H vs Q E hr h => ?_), FunD.bindsN F fun _ _ _ _ _ _ us hl => match us, hl with | [_], _ => rfl⟩
  · obtain ⟨v, n, u0, u1, u2, rfl, _⟩ := h
    rfl
  · obtain ⟨v, n, u0, u1, u2, rfl, h, q⟩ := h
    have r1 : Room 1 _ := hr.mono (by decide)
    have r2 : Room 2 _ := hr.mono (by decide)
    have r3 : Room 3 _ := hr.mono (by decide)
    have r4 : Room 4 _ := hr.mono (by decide)
    have r5 : Room 5 _ := hr.mono (by decide)
    refine ⟨_, PSs.nox (pss_cons (ps_if (pt_val (pe_callB isi_G (by rfl) W.f_isinstance boot_isinstance (pa_cons (pv 0) (pa_cons (pe_glob (v := .ref (He.ga K "Term")) rfl W.g_Term rfl) pa_nil)))) (pss_one (ps_ret (pv 0))) pss_nil)
    (pss_cons (ps_if (pt_val (pe_call G_isNum r2 rfl W.g_is_number k_isNum b_isNum .nil pass0 (pa_cons (pv 0) pa_nil))) (pss_one (ps_ret (StX.pe_smeth (pe_glob (v := .ref (He.ga K "Term")) rfl W.g_Term rfl) W.sm_constant G_const r5 b_const .nil pass0 (pa_cons (pv 0) pa_nil)))) pss_nil)
    (pss_one (ps_ret pe_non)))), ?_⟩
    simp -dsimp [tSeq, tAsg, tRet, tIfS, tIf, tTest, tVar, tCons, tNil, tC, tOp, tUn, rI, rI0, rU, tCB, tLst_A, tTup_A, gName, L2.start, CMul, CPow, CDiv, tDrop, tBM, tBM0, tNext, tPar, gSub, rSetL, rIxL, rIxT, tChain, tB, tNot, tNotV, tAnd, tOr, tAndV, tOrV, tFld, tCall, rIxLH, rIxTH, atI, ixN, upd_same, cxK, ex2, ex3, ex3b, rIs1, rIs2, rNe2, tyN, kb1, kb2, kb3, kb4, kb5, kb6, rEq, rNe, scal, tMake_S, tMakeK_S, tMakeN_S, StX.tSMeth]
    rcases h with ⟨y, rfl, hy⟩ | ⟨hn, rfl, rfl, rfl⟩
    · exact ⟨_, _, _, _, true, rfl, .own _, W.isTm hy, of_decide_eq_true (W.ex 30 rfl), .inr ⟨rfl, q y H (Same.refl _) hy⟩⟩
    · obtain ⟨t, ty, kn, kt, _⟩ := W.nuTm hn
      exact ⟨_, _, t, _, false, rfl, .own _, ty, kt, .inl ⟨rfl, _, t, true, rfl, ty, kn, .inr ⟨rfl, v, n.1, n.2, rfl, hn, q⟩⟩⟩
theorem scTermAdd : FnScope ["self", "other", "right", "a", "b"] ["self", "other"] d_Term_add.scope := ⟨rfl, rfl, rfl, by decide +kernel, rfl, by decide +kernel, by decide +kernel⟩
theorem ok_tadd (W : Wd K mg) : ∃ fd, FnOk P w K mg base CX0 7 (aT K "__add__") fd ["self", "other"] (spT2 K pAdd) ∧ Binds K fd ["self", "other"] [] := by
  obtain ⟨fd_tinit, G_tinit, b_tinit⟩ := ok_tinit (P := P) (w := w) (base := base) W
  obtain ⟨fd_termOf, G_termOf, b_termOf⟩ := ok_termOf (P := P) (w := w) (base := base) W
  have k_termOf : PySem.W.keepIn K (.ref (He.ga K "term_of")) = true := by obtain ⟨fd, F⟩ := W.F_term_of; exact F.kp
  obtain ⟨fd, F⟩ := W.F_Term_add
  refine ⟨fd, F.ok scTermAdd (fun vs H Q E h => ?_) (fun cdv A outer s H vs Q E hr h => ?_), FunD.bindsN F fun _ _ _ _ _ _ us hl => match us, hl with | [_, _], _ => rfl⟩
  · obtain ⟨x, v, _, _, _, _, _, _, _, _, rfl, _⟩ := h
    rfl
  · obtain ⟨x, v, m, t0, t1, t2, n, u0, u1, u2, rfl, hx, hv, ok, ok0, ok1, ok2, q⟩ := h
    have r1 : Room 1 _ := hr.mono (by decide)
    have r2 : Room 2 _ := hr.mono (by decide)
    have r3 : Room 3 _ := hr.mono (by decide)
    have r4 : Room 4 _ := hr.mono (by decide)
    have r5 : Room 5 _ := hr.mono (by decide)
    have r6 : Room 6 _ := hr.mono (by decide)
    refine ⟨_, PSs.nox (pss_cons (ps_set (i := 2) scTermAdd.nd rfl (Or.inl rfl) (pe_call G_termOf r6 rfl W.g_term_of k_termOf b_termOf .nil pass0 (pa_cons (pv 1) pa_nil)))
    (pss_cons (ps_if (pt_cmpR op_isN (pv 2) pe_non (nomark _)) pss_never pss_nil)
    (pss_one (ps_ret (pe_make W.mkr_Term G_tinit r2 rfl W.g_Term b_tinit .nil pass0 (pa_cons (pe_op (W.sAdd r4) (pe_fld (pv 0) rfl) (pe_fld (pv 2) rfl)) (pa_cons (pe_callTy call_tuple_of (by rfl) W.f_tuple (by decide +kernel) (pa_cons (pe_lc (own := [("a", 3), ("b", 4)]) (g := gTup K 2 (gCons (gName 3) (gCons (gName 4) gNil))) (tt := tYes) rfl scTermAdd.nd (RZ.pi_zipA (by rfl) W.f_zip (pa_cons (pe_fld (pv 0) rfl) (pa_cons (pe_fld (pv 2) rfl) pa_nil))) (blkOk_by (N := ["self", "other", "right", "a", "b"]) (sc := defScope s_Term_add) (by decide +kernel))
            (fun _ _ _ _ _ => (pg_tup rfl (pgs_cons (pg_name (i := 3) scTermAdd.nd rfl (Or.inl rfl)) (pgs_cons (pg_name (i := 4) scTermAdd.nd rfl (Or.inl rfl)) pgs_nil)))) (fun _ _ _ _ _ => pts_nil)
            (fun _ _ _ _ _ => (pe_op (show OpR _ _ (rS K pAdd) from W.sAdd r4) (pv 3) (pv 4)))) pa_nil)) pa_nil))))))), ?_⟩
    obtain ⟨dx, a, tp, a0, a1, a2, e1, e2, e3, e4, e5, e6⟩ := id hx
    simp -dsimp [tSeq, tAsg, tRet, tIfS, tIf, tTest, tVar, tCons, tNil, tC, tOp, tUn, rI, rI0, rU, tCB, tLst_A, tTup_A, gName, L2.start, CMul, CPow, CDiv, tDrop, tBM, tBM0, tNext, tPar, gSub, rSetL, rIxL, rIxT, tChain, tB, tNot, tNotV, tAnd, tOr, tAndV, tOrV, tFld, tCall, rIxLH, rIxTH, atI, ixN, upd_same, cxK, ex2, ex3, ex3b, rIs1, rIs2, rNe2, tyN, kb1, kb2, kb3, kb4, kb5, kb6, rEq, rNe, scal, tMake_S, tMakeK_S, tMakeN_S, tMake_T]
    refine ⟨v, n, u0, u1, u2, rfl, hv, fun z H1 s1 iz => ?_⟩
    obtain ⟨dz, b, tq, b0, b1, b2, f1, f2, f3, f4, f5, f6⟩ := id iz
    have g1 := s1 _ _ e1
    have g3 := s1 _ _ e3
    generalize hte : tOp (rS K pAdd) (tVar 3) (tVar 4) = te
    simp -dsimp [tSeq, tAsg, tRet, tIfS, tIf, tTest, tVar, tCons, tNil, tC, tOp, tUn, rI, rI0, rU, tCB, tLst_A, tTup_A, gName, L2.start, CMul, CPow, CDiv, tDrop, tBM, tBM0, tNext, tPar, gSub, rSetL, rIxL, rIxT, tChain, tB, tNot, tNotV, tAnd, tOr, tAndV, tOrV, tFld, tCall, rIxLH, rIxTH, atI, ixN, upd_same, cxK, ex2, ex3, ex3b, rIs1, rIs2, rNe2, tyN, kb1, kb2, kb3, kb4, kb5, kb6, rEq, rNe, scal, tMake_S, tMakeK_S, tMakeN_S, g1, f1, termO, W.cls_Term, W.n_Term_number, W.n_Term_times, look_num, look_tim]
    refine ⟨a, m, n, rfl, e2.same s1, .inl ⟨b, rfl, f2⟩, ok, fun c H2 s2 ic => ?_⟩
    have g1' := s2 _ _ g1
    have f1' := s2 _ _ f1
    refine lc_zip2 tp tq [.ref a0, .ref a1, .ref a2] [.ref b0, .ref b1, .ref b2] (IsAt K (three (pAdd t0 u0) (pAdd t1 u1) (pAdd t2 u2))) rfl (by show 3 < 1000; decide) (mono_S K _) (fun x y => rfl) (s2 _ _ g3) (s2 _ _ f3) (fun R h => by
      simp -dsimp [tSeq, tAsg, tRet, tIfS, tIf, tTest, tVar, tCons, tNil, tC, tOp, tUn, rI, rI0, rU, tCB, tLst_A, tTup_A, gName, L2.start, CMul, CPow, CDiv, tDrop, tBM, tBM0, tNext, tPar, gSub, rSetL, rIxL, rIxT, tChain, tB, tNot, tNotV, tAnd, tOr, tAndV, tOrV, tFld, tCall, rIxLH, rIxTH, atI, ixN, upd_same, cxK, ex2, ex3, ex3b, rIs1, rIs2, rNe2, tyN, kb1, kb2, kb3, kb4, kb5, kb6, rEq, rNe, scal, tMake_S, tMakeK_S, tMakeN_S, g1', f1', termO, W.cls_Term, W.n_Term_times, look_tim]
      exact h) (fun j x' y' H' R hx' hy' s' r => ?_) (fun D H3 vs s3 hl hD hs => ?_)
    · subst hte
      simp -dsimp [tSeq, tAsg, tRet, tIfS, tIf, tTest, tVar, tCons, tNil, tC, tOp, tUn, rI, rI0, rU, tCB, tLst_A, tTup_A, gName, L2.start, CMul, CPow, CDiv, tDrop, tBM, tBM0, tNext, tPar, gSub, rSetL, rIxL, rIxT, tChain, tB, tNot, tNotV, tAnd, tOr, tAndV, tOrV, tFld, tCall, rIxLH, rIxTH, atI, ixN, upd_same, cxK, ex2, ex3, ex3b, rIs1, rIs2, rNe2, tyN, kb1, kb2, kb3, kb4, kb5, kb6, rEq, rNe, scal, tMake_S, tMakeK_S, tMakeN_S, wipe]
      have s12 := s1.trans (s2.trans s')
      have s22 := s2.trans s'
      match j, hx', hy' with
      | 0, hx', hy' => cases hx'; cases hy'; exact ⟨a0, t0, u0, rfl, e4.same s12, .inl ⟨b0, rfl, f4.same s22⟩, ok0, fun y H4 s4 i4 => r _ _ s4 ⟨y, rfl, i4⟩⟩
      | 1, hx', hy' => cases hx'; cases hy'; exact ⟨a1, t1, u1, rfl, e5.same s12, .inl ⟨b1, rfl, f5.same s22⟩, ok1, fun y H4 s4 i4 => r _ _ s4 ⟨y, rfl, i4⟩⟩
      | 2, hx', hy' => cases hx'; cases hy'; exact ⟨a2, t2, u2, rfl, e6.same s12, .inl ⟨b2, rfl, f6.same s22⟩, ok2, fun y H4 s4 i4 => r _ _ s4 ⟨y, rfl, i4⟩⟩
    · match vs, hl with
      | [v0, v1, v2], _ =>
      obtain ⟨y0, rfl, h0⟩ := hs 0 v0 rfl
      obtain ⟨y1, rfl, h1⟩ := hs 1 v1 rfl
      obtain ⟨y2, rfl, h2⟩ := hs 2 v2 rfl
      refine ⟨D, rfl, _, .inl ⟨SqL.of hD, fun l nl => MkT.of rfl fun x' dx' H4 n4 e4' s4 => ?_⟩⟩
      have sl := same_upd nl (o := HO.tup [V.ref y0, V.ref y1, V.ref y2])
      exact q x' H4 (((s1.trans s2).trans s3).trans (sl.trans s4)) ⟨dx', c, l, y0, y1, y2, e4', ic.same (s3.trans (sl.trans s4)), s4 _ _ upd_same, h0.same (sl.trans s4), h1.same (sl.trans s4), h2.same (sl.trans s4)⟩
theorem scTermSub : FnScope ["self", "other", "right", "a", "b"] ["self", "other"] d_Term_sub.scope := ⟨rfl, rfl, rfl, by decide +kernel, rfl, by decide +kernel, by decide +kernel⟩
theorem ok_tsub (W : Wd K mg) : ∃ fd, FnOk P w K mg base CX0 7 (aT K "__sub__") fd ["self", "other"] (spT2 K pSub) ∧ Binds K fd ["self", "other"] [] := by
  obtain ⟨fd_tinit, G_tinit, b_tinit⟩ := ok_tinit (P := P) (w := w) (base := base) W
  obtain ⟨fd_termOf, G_termOf, b_termOf⟩ := ok_termOf (P := P) (w := w) (base := base) W
  have k_termOf : PySem.W.keepIn K (.ref (He.ga K "term_of")) = true := by obtain ⟨fd, F⟩ := W.F_term_of; exact F.kp
  obtain ⟨fd, F⟩ := W.F_Term_sub
  refine ⟨fd, F.ok scTermSub (fun vs H Q E h => ?_) (fun cdv A outer s H vs Q E hr h => ?_), FunD.bindsN F fun _ _ _ _ _ _ us hl => match us, hl with | [_, _], _ => rfl⟩
  · obtain ⟨x, v, _, _, _, _, _, _, _, _, rfl, _⟩ := h
    rfl
  · obtain ⟨x, v, m, t0, t1, t2, n, u0, u1, u2, rfl, hx, hv, ok, ok0, ok1, ok2, q⟩ := h
    have r1 : Room 1 _ := hr.mono (by decide)
    have r2 : Room 2 _ := hr.mono (by decide)
    have r3 : Room 3 _ := hr.mono (by decide)
    have r4 : Room 4 _ := hr.mono (by decide)
    have r5 : Room 5 _ := hr.mono (by decide)
    have r6 : Room 6 _ := hr.mono (by decide)
    refine ⟨_, PSs.nox (pss_cons (ps_set (i := 2) scTermSub.nd rfl (Or.inl rfl) (pe_call G_termOf r6 rfl W.g_term_of k_termOf b_termOf .nil pass0 (pa_cons (pv 1) pa_nil)))
    (pss_cons (ps_if (pt_cmpR op_isN (pv 2) pe_non (nomark _)) pss_never pss_nil)
    (pss_one (ps_ret (pe_make W.mkr_Term G_tinit r2 rfl W.g_Term b_tinit .nil pass0 (pa_cons (pe_op (W.sSub r4) (pe_fld (pv 0) rfl) (pe_fld (pv 2) rfl)) (pa_cons (pe_callTy call_tuple_of (by rfl) W.f_tuple (by decide +kernel) (pa_cons (pe_lc (own := [("a", 3), ("b", 4)]) (g := gTup K 2 (gCons (gName 3) (gCons (gName 4) gNil))) (tt := tYes) rfl scTermSub.nd (RZ.pi_zipA (by rfl) W.f_zip (pa_cons (pe_fld (pv 0) rfl) (pa_cons (pe_fld (pv 2) rfl) pa_nil))) (blkOk_by (N := ["self", "other", "right", "a", "b"]) (sc := defScope s_Term_sub) (by decide +kernel))
            (fun _ _ _ _ _ => (pg_tup rfl (pgs_cons (pg_name (i := 3) scTermSub.nd rfl (Or.inl rfl)) (pgs_cons (pg_name (i := 4) scTermSub.nd rfl (Or.inl rfl)) pgs_nil)))) (fun _ _ _ _ _ => pts_nil)
            (fun _ _ _ _ _ => (pe_op (show OpR _ _ (rS K pSub) from W.sSub r4) (pv 3) (pv 4)))) pa_nil)) pa_nil))))))), ?_⟩
    obtain ⟨dx, a, tp, a0, a1, a2, e1, e2, e3, e4, e5, e6⟩ := id hx
    simp -dsimp [tSeq, tAsg, tRet, tIfS, tIf, tTest, tVar, tCons, tNil, tC, tOp, tUn, rI, rI0, rU, tCB, tLst_A, tTup_A, gName, L2.start, CMul, CPow, CDiv, tDrop, tBM, tBM0, tNext, tPar, gSub, rSetL, rIxL, rIxT, tChain, tB, tNot, tNotV, tAnd, tOr, tAndV, tOrV, tFld, tCall, rIxLH, rIxTH, atI, ixN, upd_same, cxK, ex2, ex3, ex3b, rIs1, rIs2, rNe2, tyN, kb1, kb2, kb3, kb4, kb5, kb6, rEq, rNe, scal, tMake_S, tMakeK_S, tMakeN_S, tMake_T]
    refine ⟨v, n, u0, u1, u2, rfl, hv, fun z H1 s1 iz => ?_⟩
    obtain ⟨dz, b, tq, b0, b1, b2, f1, f2, f3, f4, f5, f6⟩ := id iz
    have g1 := s1 _ _ e1
    have g3 := s1 _ _ e3
    generalize hte : tOp (rS K pSub) (tVar 3) (tVar 4) = te
    simp -dsimp [tSeq, tAsg, tRet, tIfS, tIf, tTest, tVar, tCons, tNil, tC, tOp, tUn, rI, rI0, rU, tCB, tLst_A, tTup_A, gName, L2.start, CMul, CPow, CDiv, tDrop, tBM, tBM0, tNext, tPar, gSub, rSetL, rIxL, rIxT, tChain, tB, tNot, tNotV, tAnd, tOr, tAndV, tOrV, tFld, tCall, rIxLH, rIxTH, atI, ixN, upd_same, cxK, ex2, ex3, ex3b, rIs1, rIs2, rNe2, tyN, kb1, kb2, kb3, kb4, kb5, kb6, rEq, rNe, scal, tMake_S, tMakeK_S, tMakeN_S, g1, f1, termO, W.cls_Term, W.n_Term_number, W.n_Term_times, look_num, look_tim]
    refine ⟨a, m, n, rfl, e2.same s1, .inl ⟨b, rfl, f2⟩, ok, fun c H2 s2 ic => ?_⟩
    have g1' := s2 _ _ g1
    have f1' := s2 _ _ f1
    refine lc_zip2 tp tq [.ref a0, .ref a1, .ref a2] [.ref b0, .ref b1, .ref b2] (IsAt K (three (pSub t0 u0) (pSub t1 u1) (pSub t2 u2))) rfl (by show 3 < 1000; decide) (mono_S K _) (fun x y => rfl) (s2 _ _ g3) (s2 _ _ f3) (fun R h => by
      simp -dsimp [tSeq, tAsg, tRet, tIfS, tIf, tTest, tVar, tCons, tNil, tC, tOp, tUn, rI, rI0, rU, tCB, tLst_A, tTup_A, gName, L2.start, CMul, CPow, CDiv, tDrop, tBM, tBM0, tNext, tPar, gSub, rSetL, rIxL, rIxT, tChain, tB, tNot, tNotV, tAnd, tOr, tAndV, tOrV, tFld, tCall, rIxLH, rIxTH, atI, ixN, upd_same, cxK, ex2, ex3, ex3b, rIs1, rIs2, rNe2, tyN, kb1, kb2, kb3, kb4, kb5, kb6, rEq, rNe, scal, tMake_S, tMakeK_S, tMakeN_S, g1', f1', termO, W.cls_Term, W.n_Term_times, look_tim]
      exact h) (fun j x' y' H' R hx' hy' s' r => ?_) (fun D H3 vs s3 hl hD hs => ?_)
    · subst hte
      simp -dsimp [tSeq, tAsg, tRet, tIfS, tIf, tTest, tVar, tCons, tNil, tC, tOp, tUn, rI, rI0, rU, tCB, tLst_A, tTup_A, gName, L2.start, CMul, CPow, CDiv, tDrop, tBM, tBM0, tNext, tPar, gSub, rSetL, rIxL, rIxT, tChain, tB, tNot, tNotV, tAnd, tOr, tAndV, tOrV, tFld, tCall, rIxLH, rIxTH, atI, ixN, upd_same, cxK, ex2, ex3, ex3b, rIs1, rIs2, rNe2, tyN, kb1, kb2, kb3, kb4, kb5, kb6, rEq, rNe, scal, tMake_S, tMakeK_S, tMakeN_S, wipe]
      have s12 := s1.trans (s2.trans s')
      have s22 := s2.trans s'
      match j, hx', hy' with
      | 0, hx', hy' => cases hx'; cases hy'; exact ⟨a0, t0, u0, rfl, e4.same s12, .inl ⟨b0, rfl, f4.same s22⟩, ok0, fun y H4 s4 i4 => r _ _ s4 ⟨y, rfl, i4⟩⟩
      | 1, hx', hy' => cases hx'; cases hy'; exact ⟨a1, t1, u1, rfl, e5.same s12, .inl ⟨b1, rfl, f5.same s22⟩, ok1, fun y H4 s4 i4 => r _ _ s4 ⟨y, rfl, i4⟩⟩
      | 2, hx', hy' => cases hx'; cases hy'; exact ⟨a2, t2, u2, rfl, e6.same s12, .inl ⟨b2, rfl, f6.same s22⟩, ok2, fun y H4 s4 i4 => r _ _ s4 ⟨y, rfl, i4⟩⟩
    · match vs, hl with
      | [v0, v1, v2], _ =>
      obtain ⟨y0, rfl, h0⟩ := hs 0 v0 rfl
      obtain ⟨y1, rfl, h1⟩ := hs 1 v1 rfl
      obtain ⟨y2, rfl, h2⟩ := hs 2 v2 rfl
      refine ⟨D, rfl, _, .inl ⟨SqL.of hD, fun l nl => MkT.of rfl fun x' dx' H4 n4 e4' s4 => ?_⟩⟩
      have sl := same_upd nl (o := HO.tup [V.ref y0, V.ref y1, V.ref y2])
      exact q x' H4 (((s1.trans s2).trans s3).trans (sl.trans s4)) ⟨dx', c, l, y0, y1, y2, e4', ic.same (s3.trans (sl.trans s4)), s4 _ _ upd_same, h0.same (sl.trans s4), h1.same (sl.trans s4), h2.same (sl.trans s4)⟩
end
/-! ### multiples of terms -/
section
variable {P : Program} {w : World} {K : PySem.W.Frag} {mg : Str → Option Value} {base : Heap} {fd : FuncData}
/-- a term times a number -/
def spTM (K : PySem.W.Frag) : Sp := fun vs H Q _ => ∃ (x : Addr) (v : V) (m t0 t1 t2 n : Int × Int), vs = [.ref x, v] ∧ IsTm K H x m t0 t1 t2 ∧ Nu K H v n.1 n.2 ∧ Ok2 m n ∧ Ok2 t0 n ∧ Ok2 t1 n ∧ Ok2 t2 n ∧ ∀ z H', Same H H' → IsTm K H' z (pMul m n) (pMul t0 n) (pMul t1 n) (pMul t2 n) → Q (.ref z) H'
theorem scTermMul : FnScope ["self", "other", "times"] ["self", "other"] d_Term_mul.scope := ⟨rfl, rfl, rfl, by decide +kernel, rfl, by decide +kernel, by decide +kernel⟩
theorem ok_tmul (W : Wd K mg) : ∃ fd, FnOk P w K mg base CX0 5 (aT K "__mul__") fd ["self", "other"] (spTM K) ∧ Binds K fd ["self", "other"] [] := by
  obtain ⟨fd_tinit, G_tinit, b_tinit⟩ := ok_tinit (P := P) (w := w) (base := base) W
  obtain ⟨fd_isNum, G_isNum, b_isNum⟩ := ok_isNum (P := P) (w := w) (base := base) W
  have k_isNum : PySem.W.keepIn K (.ref (He.ga K "is_number")) = true := by obtain ⟨fd, F⟩ := W.F_is_number; exact F.kp
  obtain ⟨fd, F⟩ := W.F_Term_mul
  refine ⟨fd, F.ok scTermMul (fun vs H Q E h => ?_) (fun cdv A outer s H vs Q E hr h => ?_), FunD.bindsN F fun _ _ _ _ _ _ us hl => match us, hl with | [_, _], _ => rfl⟩
  · obtain ⟨x, v, _, _, _, _, _, rfl, _⟩ := h
    rfl
  · obtain ⟨x, v, m, t0, t1, t2, n, rfl, hx, hn, ok, ok0, ok1, ok2, q⟩ := h
    have r1 : Room 1 _ := hr.mono (by decide)
    have r2 : Room 2 _ := hr.mono (by decide)
    have r3 : Room 3 _ := hr.mono (by decide)
    have r4 : Room 4 _ := hr.mono (by decide)
    refine ⟨_, PSs.nox (pss_cons (ps_if (pt_val (pe_callB isi_G (by rfl) W.f_isinstance boot_isinstance (pa_cons (pv 1) (pa_cons (pe_glob (v := .ref (He.ga K "Term")) rfl W.g_Term rfl) pa_nil)))) pss_never pss_nil)
    (pss_cons (ps_if (pt_not (pt_val (pe_call G_isNum r2 rfl W.g_is_number k_isNum b_isNum .nil pass0 (pa_cons (pv 1) pa_nil)))) pss_never pss_nil)
    (pss_one (ps_ret (pe_make W.mkr_Term G_tinit r2 rfl W.g_Term b_tinit .nil pass0 (pa_cons (pe_op (W.sMul hr) (pe_fld (pv 0) rfl) (pv 1)) (pa_cons (pe_callTy call_tuple_of (by rfl) W.f_tuple (by decide +kernel) (pa_cons (pe_lc (own := [("times", 2)]) (g := gName 2) (tt := tYes) rfl scTermMul.nd (pi_tup (pe_fld (pv 0) rfl)) (blkOk_by (N := ["self", "other", "times"]) (sc := defScope s_Term_mul) (by decide +kernel))
            (fun _ _ _ _ _ => (pg_name (i := 2) scTermMul.nd rfl (Or.inl rfl))) (fun _ _ _ _ _ => pts_nil)
            (fun _ _ _ _ _ => (pe_op (show OpR _ _ (rS K pMul) from W.sMul hr) (pv 2) (pv 1)))) pa_nil)) pa_nil))))))), ?_⟩
    obtain ⟨dx, a, tp, a0, a1, a2, e1, e2, e3, e4, e5, e6⟩ := id hx
    obtain ⟨t, ty, kn, kt, _⟩ := W.nuTm hn
    generalize hte : tOp (rS K pMul) (tVar 2) (tVar 1) = te
    simp -dsimp [tSeq, tAsg, tRet, tIfS, tIf, tTest, tVar, tCons, tNil, tC, tOp, tUn, rI, rI0, rU, tCB, tLst_A, tTup_A, gName, L2.start, CMul, CPow, CDiv, tDrop, tBM, tBM0, tNext, tPar, gSub, rSetL, rIxL, rIxT, tChain, tB, tNot, tNotV, tAnd, tOr, tAndV, tOrV, tFld, tCall, rIxLH, rIxTH, atI, ixN, upd_same, cxK, ex2, ex3, ex3b, rIs1, rIs2, rNe2, tyN, kb1, kb2, kb3, kb4, kb5, kb6, rEq, rNe, scal, tMake_S, tMakeK_S, tMakeN_S, tMake_T]
    refine ⟨_, _, t, _, false, rfl, .own _, ty, kt, .inl ⟨rfl, _, t, true, rfl, ty, kn, .inr ⟨rfl, ?_⟩⟩⟩
    simp -dsimp [tSeq, tAsg, tRet, tIfS, tIf, tTest, tVar, tCons, tNil, tC, tOp, tUn, rI, rI0, rU, tCB, tLst_A, tTup_A, gName, L2.start, CMul, CPow, CDiv, tDrop, tBM, tBM0, tNext, tPar, gSub, rSetL, rIxL, rIxT, tChain, tB, tNot, tNotV, tAnd, tOr, tAndV, tOrV, tFld, tCall, rIxLH, rIxTH, atI, ixN, upd_same, cxK, ex2, ex3, ex3b, rIs1, rIs2, rNe2, tyN, kb1, kb2, kb3, kb4, kb5, kb6, rEq, rNe, scal, tMake_S, tMakeK_S, tMakeN_S, e1, termO, W.cls_Term, W.n_Term_number, W.n_Term_times, look_num, look_tim]
    refine ⟨a, m, n, rfl, e2, hn, ok, fun c H2 s2 ic => ?_⟩
    have e1' := s2 _ _ e1
    refine lc_tup (K := K) tp [.ref a0, .ref a1, .ref a2] (IsAt K (three (pMul t0 n) (pMul t1 n) (pMul t2 n))) (by show 3 < 1000; decide) (mono_S K _) (fun x => rfl) (s2 _ _ e3) (fun R h => by
      simp -dsimp [tSeq, tAsg, tRet, tIfS, tIf, tTest, tVar, tCons, tNil, tC, tOp, tUn, rI, rI0, rU, tCB, tLst_A, tTup_A, gName, L2.start, CMul, CPow, CDiv, tDrop, tBM, tBM0, tNext, tPar, gSub, rSetL, rIxL, rIxT, tChain, tB, tNot, tNotV, tAnd, tOr, tAndV, tOrV, tFld, tCall, rIxLH, rIxTH, atI, ixN, upd_same, cxK, ex2, ex3, ex3b, rIs1, rIs2, rNe2, tyN, kb1, kb2, kb3, kb4, kb5, kb6, rEq, rNe, scal, tMake_S, tMakeK_S, tMakeN_S, e1', termO, W.cls_Term, W.n_Term_times, look_tim]
      exact h) (fun j x' H' R hx' s' r => ?_) (fun D H3 vs s3 hl hD hs => ?_)
    · subst hte
      simp -dsimp [tSeq, tAsg, tRet, tIfS, tIf, tTest, tVar, tCons, tNil, tC, tOp, tUn, rI, rI0, rU, tCB, tLst_A, tTup_A, gName, L2.start, CMul, CPow, CDiv, tDrop, tBM, tBM0, tNext, tPar, gSub, rSetL, rIxL, rIxT, tChain, tB, tNot, tNotV, tAnd, tOr, tAndV, tOrV, tFld, tCall, rIxLH, rIxTH, atI, ixN, upd_same, cxK, ex2, ex3, ex3b, rIs1, rIs2, rNe2, tyN, kb1, kb2, kb3, kb4, kb5, kb6, rEq, rNe, scal, tMake_S, tMakeK_S, tMakeN_S, wipe]
      have s12 := s2.trans s'
      match j, hx' with
      | 0, hx' => cases hx'; exact ⟨a0, t0, n, rfl, e4.same s12, hn.same s12, ok0, fun y H4 s4 i4 => r _ _ s4 ⟨y, rfl, i4⟩⟩
      | 1, hx' => cases hx'; exact ⟨a1, t1, n, rfl, e5.same s12, hn.same s12, ok1, fun y H4 s4 i4 => r _ _ s4 ⟨y, rfl, i4⟩⟩
      | 2, hx' => cases hx'; exact ⟨a2, t2, n, rfl, e6.same s12, hn.same s12, ok2, fun y H4 s4 i4 => r _ _ s4 ⟨y, rfl, i4⟩⟩
    · match vs, hl with
      | [v0, v1, v2], _ =>
      obtain ⟨y0, rfl, h0⟩ := hs 0 v0 rfl
      obtain ⟨y1, rfl, h1⟩ := hs 1 v1 rfl
      obtain ⟨y2, rfl, h2⟩ := hs 2 v2 rfl
      refine ⟨D, rfl, _, .inl ⟨SqL.of hD, fun l nl => MkT.of rfl fun x' dx' H4 n4 e4' s4 => ?_⟩⟩
      have sl := same_upd nl (o := HO.tup [V.ref y0, V.ref y1, V.ref y2])
      exact q x' H4 ((s2.trans s3).trans (sl.trans s4)) ⟨dx', c, l, y0, y1, y2, e4', ic.same (s3.trans (sl.trans s4)), s4 _ _ upd_same, h0.same (sl.trans s4), h1.same (sl.trans s4), h2.same (sl.trans s4)⟩
/-- x op y of a term and a number -/
def rTM (K : PySem.W.Frag) : R2 := fun x y H Q => ∃ (m t0 t1 t2 n : Int × Int) (z : Addr), x = .ref z ∧ IsTm K H z m t0 t1 t2 ∧ Nu K H y n.1 n.2 ∧ Ok2 m n ∧ Ok2 t0 n ∧ Ok2 t1 n ∧ Ok2 t2 n ∧ ∀ z H', Same H H' → IsTm K H' z (pMul m n) (pMul t0 n) (pMul t1 n) (pMul t2 n) → Q (.ref z) H'
def rNM (K : PySem.W.Frag) : R2 := fun y x H Q => rTM K x y H Q
theorem IsTm.ins {H : Hp} {x : Addr} {m t0 t1 t2 : Int × Int} (h : IsTm K H x m t0 t1 t2) : ∃ (dx : Addr) (fs : List (Str × V)), H x = some (.ins (He.ga K "Term") dx fs) := by
  obtain ⟨dx, a, tp, a0, a1, a2, e1, _⟩ := h
  exact ⟨dx, _, e1⟩
end
section
variable {X : Cx}
theorem Wd.tMulN (W : Wd X.K X.mg) (hr : Room 5 X.A) : OpR X (binaryOp .Mult) (rTM X.K) := by
  obtain ⟨f1, G1, b1⟩ := ok_tmul (P := X.prog) (w := X.w) (base := X.base) W
  intro pins s σ H x y v u Q I rx ry h
  obtain ⟨m, t0, t1, t2, n, z, rfl, hz, hn, ok, ok0, ok1, ok2, q⟩ := h
  obtain ⟨dx, fs, hd⟩ := hz.ins
  rcases id hn with ⟨zy, rfl, dy, hy⟩ | ⟨rfl, _⟩
  · exact op_mixL W.tpMul W.opMul W.neST.symm (of_decide_eq_true (W.ex 20 rfl)) (raw0 G1 b1) hr pass0 pins s σ H _ _ v u Q I rx ry ⟨z, dx, zy, dy, fs, _, rfl, hd, rfl, hy, z, _, m, t0, t1, t2, n, rfl, hz, hn, ok, ok0, ok1, ok2, q⟩
  · exact op_L W.tpMul (raw0 G1 b1) hr pass0 pins s σ H _ _ v u Q I rx ry ⟨z, dx, fs, rfl, hd, .inr ⟨_, rfl⟩, z, _, m, t0, t1, t2, n, rfl, hz, hn, ok, ok0, ok1, ok2, q⟩
end
section
variable {P : Program} {w : World} {K : PySem.W.Frag} {mg : Str → Option Value} {base : Heap} {fd : FuncData}
theorem scTermRmul : FnScope ["self", "other"] ["self", "other"] d_Term_rmul.scope := ⟨rfl, rfl, rfl, by decide +kernel, rfl, by decide +kernel, by decide +kernel⟩
theorem ok_trmul (W : Wd K mg) : ∃ fd, FnOk P w K mg base CX0 6 (aT K "__rmul__") fd ["self", "other"] (spTM K) ∧ Binds K fd ["self", "other"] [] := by
  obtain ⟨fd_isNum, G_isNum, b_isNum⟩ := ok_isNum (P := P) (w := w) (base := base) W
  have k_isNum : PySem.W.keepIn K (.ref (He.ga K "is_number")) = true := by obtain ⟨fd, F⟩ := W.F_is_number; exact F.kp
  obtain ⟨fd, F⟩ := W.F_Term_rmul
  refine ⟨fd, F.ok scTermRmul (fun vs H Q E h => ?_) (fun cdv A outer s H vs Q E hr h => ?_), FunD.bindsN F fun _ _ _ _ _ _ us hl => match us, hl with | [_, _], _ => rfl⟩
  · obtain ⟨x, v, _, _, _, _, _, rfl, _⟩ := h
    rfl
  · obtain ⟨x, v, m, t0, t1, t2, n, rfl, hx, hn, ok, ok0, ok1, ok2, q⟩ := h
    have r1 : Room 1 _ := hr.mono (by decide)
    have r2 : Room 2 _ := hr.mono (by decide)
    have r3 : Room 3 _ := hr.mono (by decide)
    have r4 : Room 4 _ := hr.mono (by decide)
    have r5 : Room 5 _ := hr.mono (by decide)
    refine ⟨_, PSs.nox (pss_cons (ps_if (pt_not (pt_val (pe_call G_isNum r2 rfl W.g_is_number k_isNum b_isNum .nil pass0 (pa_cons (pv 1) pa_nil)))) pss_never pss_nil)
    (pss_one (ps_ret (pe_op (W.tMulN hr) (pv 0) (pv 1))))), ?_⟩
    obtain ⟨t, ty, kn, kt, _⟩ := W.nuTm hn
    simp -dsimp [tSeq, tAsg, tRet, tIfS, tIf, tTest, tVar, tCons, tNil, tC, tOp, tUn, rI, rI0, rU, tCB, tLst_A, tTup_A, gName, L2.start, CMul, CPow, CDiv, tDrop, tBM, tBM0, tNext, tPar, gSub, rSetL, rIxL, rIxT, tChain, tB, tNot, tNotV, tAnd, tOr, tAndV, tOrV, tFld, tCall, rIxLH, rIxTH, atI, ixN, upd_same, cxK, ex2, ex3, ex3b, rIs1, rIs2, rNe2, tyN, kb1, kb2, kb3, kb4, kb5, kb6, rEq, rNe, scal, tMake_S, tMakeK_S, tMakeN_S]
    exact ⟨_, t, true, rfl, ty, kn, .inr ⟨rfl, m, t0, t1, t2, n, x, rfl, hx, hn, ok, ok0, ok1, ok2, q⟩⟩
/-- what a share's own def declines -/
def spNI (K : PySem.W.Frag) : List V → Hp → (Hp → Prop) → Prop := fun vs H R => ∃ (x v : V) (t : Value), vs = [x, v] ∧ TyOf K H v t ∧ NuX.KN K t false ∧ R H
theorem ni_add (W : Wd K mg) : NiX.FnN P w K mg base 3 (aS K "__add__") (spNI K) := by
  obtain ⟨fdN, GN, bN⟩ := ok_isNum (P := P) (w := w) (base := base) W
  have kN : PySem.W.keepIn K (.ref (He.ga K "is_number")) = true := by obtain ⟨fd, F⟩ := W.F_is_number; exact F.kp
  obtain ⟨fd, F⟩ := W.F_Share_add
  refine NiX.fnN (N := _) (ps := ["self", "other"]) F scAdd (by decide +kernel) (fun _ _ _ _ _ _ us hl => match us, hl with | [_, _], _ => rfl) rfl (fun _ _ _ => rfl) W.f_NotImplemented (fun vs H R h => by
    obtain ⟨x, v, t, rfl, _⟩ := h
    rfl) (fun cdv A outer s H vs R hr h => ?_)
  obtain ⟨x, v, t, rfl, ty, kn, r⟩ := h
  refine ⟨_, pt_not (pt_val (pe_call GN hr rfl W.g_is_number kN bN .nil pass0 (pa_cons (pv 1) pa_nil))), ?_⟩
  simp -dsimp [tSeq, tAsg, tRet, tIfS, tIf, tTest, tVar, tCons, tNil, tC, tOp, tUn, rI, rI0, rU, tCB, tLst_A, tTup_A, gName, L2.start, CMul, CPow, CDiv, tDrop, tBM, tBM0, tNext, tPar, gSub, rSetL, rIxL, rIxT, tChain, tB, tNot, tNotV, tAnd, tOr, tAndV, tOrV, tFld, tCall, rIxLH, rIxTH, atI, ixN, upd_same, cxK, ex2, ex3, ex3b, rIs1, rIs2, rNe2, tyN, kb1, kb2, kb3, kb4, kb5, kb6, rEq, rNe, scal, tMake_S, tMakeK_S, tMakeN_S]
  exact ⟨_, t, false, rfl, ty, kn, rfl, r⟩
theorem ni_sub (W : Wd K mg) : NiX.FnN P w K mg base 3 (aS K "__sub__") (spNI K) := by
  obtain ⟨fdN, GN, bN⟩ := ok_isNum (P := P) (w := w) (base := base) W
  have kN : PySem.W.keepIn K (.ref (He.ga K "is_number")) = true := by obtain ⟨fd, F⟩ := W.F_is_number; exact F.kp
  obtain ⟨fd, F⟩ := W.F_Share_sub
  refine NiX.fnN (N := _) (ps := ["self", "other"]) F scSub (by decide +kernel) (fun _ _ _ _ _ _ us hl => match us, hl with | [_, _], _ => rfl) rfl (fun _ _ _ => rfl) W.f_NotImplemented (fun vs H R h => by
    obtain ⟨x, v, t, rfl, _⟩ := h
    rfl) (fun cdv A outer s H vs R hr h => ?_)
  obtain ⟨x, v, t, rfl, ty, kn, r⟩ := h
  refine ⟨_, pt_not (pt_val (pe_call GN hr rfl W.g_is_number kN bN .nil pass0 (pa_cons (pv 1) pa_nil))), ?_⟩
  simp -dsimp [tSeq, tAsg, tRet, tIfS, tIf, tTest, tVar, tCons, tNil, tC, tOp, tUn, rI, rI0, rU, tCB, tLst_A, tTup_A, gName, L2.start, CMul, CPow, CDiv, tDrop, tBM, tBM0, tNext, tPar, gSub, rSetL, rIxL, rIxT, tChain, tB, tNot, tNotV, tAnd, tOr, tAndV, tOrV, tFld, tCall, rIxLH, rIxTH, atI, ixN, upd_same, cxK, ex2, ex3, ex3b, rIs1, rIs2, rNe2, tyN, kb1, kb2, kb3, kb4, kb5, kb6, rEq, rNe, scal, tMake_S, tMakeK_S, tMakeN_S]
  exact ⟨_, t, false, rfl, ty, kn, rfl, r⟩
theorem ni_mul (W : Wd K mg) : NiX.FnN P w K mg base 3 (aS K "__mul__") (spNI K) := by
  obtain ⟨fdN, GN, bN⟩ := ok_isNum (P := P) (w := w) (base := base) W
  have kN : PySem.W.keepIn K (.ref (He.ga K "is_number")) = true := by obtain ⟨fd, F⟩ := W.F_is_number; exact F.kp
  obtain ⟨fd, F⟩ := W.F_Share_mul
  refine NiX.fnN (N := _) (ps := ["self", "other"]) F scMul (by decide +kernel) (fun _ _ _ _ _ _ us hl => match us, hl with | [_, _], _ => rfl) rfl (fun _ _ _ => rfl) W.f_NotImplemented (fun vs H R h => by
    obtain ⟨x, v, t, rfl, _⟩ := h
    rfl) (fun cdv A outer s H vs R hr h => ?_)
  obtain ⟨x, v, t, rfl, ty, kn, r⟩ := h
  refine ⟨_, pt_not (pt_val (pe_call GN hr rfl W.g_is_number kN bN .nil pass0 (pa_cons (pv 1) pa_nil))), ?_⟩
  simp -dsimp [tSeq, tAsg, tRet, tIfS, tIf, tTest, tVar, tCons, tNil, tC, tOp, tUn, rI, rI0, rU, tCB, tLst_A, tTup_A, gName, L2.start, CMul, CPow, CDiv, tDrop, tBM, tBM0, tNext, tPar, gSub, rSetL, rIxL, rIxT, tChain, tB, tNot, tNotV, tAnd, tOr, tAndV, tOrV, tFld, tCall, rIxLH, rIxTH, atI, ixN, upd_same, cxK, ex2, ex3, ex3b, rIs1, rIs2, rNe2, tyN, kb1, kb2, kb3, kb4, kb5, kb6, rEq, rNe, scal, tMake_S, tMakeK_S, tMakeN_S]
  exact ⟨_, t, false, rfl, ty, kn, rfl, r⟩
end
section
variable {X : Cx}
theorem Wd.nMulT (W : Wd X.K X.mg) (hr : Room 6 X.A) : OpR X (binaryOp .Mult) (rNM X.K) := by
  obtain ⟨f1, G1, b1⟩ := ok_trmul (P := X.prog) (w := X.w) (base := X.base) W
  have r3 : Room 3 X.A := hr.mono (by decide)
  intro pins s σ H x y v u Q I rx ry h
  obtain ⟨m, t0, t1, t2, n, z, rfl, hz, hn, ok, ok0, ok1, ok2, q⟩ := h
  obtain ⟨dx, fs, hd⟩ := hz.ins
  rcases id hn with ⟨zy, rfl, dy, hy⟩ | ⟨rfl, _⟩
  · exact op_mixR W.opMul W.tpMul W.neST (of_decide_eq_true (W.ex 19 rfl)) (ni_mul W) (raw0 G1 b1) r3 hr pass0 pins s σ H _ _ v u Q I rx ry ⟨zy, z, rfl, rfl, ⟨dy, _, hy⟩, ⟨dx, fs, hd⟩, _, _, _, rfl, W.isTm hz, W.knT, ⟨dy, _, hy⟩, ⟨dx, fs, hd⟩, z, _, m, t0, t1, t2, n, rfl, hz, hn, ok, ok0, ok1, ok2, q⟩
  · exact op_Rt W.tpMul (raw0 G1 b1) hr pass0 pins s σ H _ _ v u Q I rx ry ⟨_, z, dx, fs, rfl, rfl, hd, z, _, m, t0, t1, t2, n, rfl, hz, hn, ok, ok0, ok1, ok2, q⟩
end
/-! ### sums and differences -/
/-- x op y, x a term, y a term or a number -/
def rTT (K : PySem.W.Frag) (f : Int × Int → Int × Int → Int × Int) : R2 := fun x y H Q => ∃ (m t0 t1 t2 n u0 u1 u2 : Int × Int) (z : Addr), x = .ref z ∧ IsTm K H z m t0 t1 t2 ∧ TN K H y n u0 u1 u2 ∧ Ok2 m n ∧ Ok2 t0 u0 ∧ Ok2 t1 u1 ∧ Ok2 t2 u2 ∧ ∀ z H', Same H H' → IsTm K H' z (f m n) (f t0 u0) (f t1 u1) (f t2 u2) → Q (.ref z) H'
/-- x a number, y a term -/
def rNT (K : PySem.W.Frag) (f : Int × Int → Int × Int → Int × Int) : R2 := fun x y H Q => ∃ (m t0 t1 t2 n : Int × Int) (z : Addr), y = .ref z ∧ IsTm K H z m t0 t1 t2 ∧ Nu K H x n.1 n.2 ∧ Ok2 m n ∧ Ok2 t0 (0, 1) ∧ Ok2 t1 (0, 1) ∧ Ok2 t2 (0, 1) ∧ ∀ z H', Same H H' → IsTm K H' z (f n m) (f (0, 1) t0) (f (0, 1) t1) (f (0, 1) t2) → Q (.ref z) H'
section
variable {X : Cx}
theorem Wd.tAddT (W : Wd X.K X.mg) (hr : Room 7 X.A) : OpR X (binaryOp .Add) (rTT X.K pAdd) := by
  obtain ⟨f1, G1, b1⟩ := ok_tadd (P := X.prog) (w := X.w) (base := X.base) W
  intro pins s σ H x y v u Q I rx ry h
  obtain ⟨m, t0, t1, t2, n, u0, u1, u2, z, rfl, hz, hn, ok, ok0, ok1, ok2, q⟩ := h
  obtain ⟨dx, fs, hd⟩ := hz.ins
  rcases id hn with ⟨zy, rfl, hy⟩ | ⟨⟨zy, rfl, dy, hy⟩ | ⟨rfl, _⟩, _⟩
  · obtain ⟨dy, gs, hdy⟩ := hy.ins
    exact op_L W.tpAdd (raw0 G1 b1) hr pass0 pins s σ H _ _ v u Q I rx ry ⟨z, dx, fs, rfl, hd, .inl ⟨zy, dy, gs, rfl, hdy⟩, z, _, m, t0, t1, t2, n, u0, u1, u2, rfl, hz, hn, ok, ok0, ok1, ok2, q⟩
  · exact op_mixL W.tpAdd W.opAdd W.neST.symm (of_decide_eq_true (W.ex 20 rfl)) (raw0 G1 b1) hr pass0 pins s σ H _ _ v u Q I rx ry ⟨z, dx, zy, dy, fs, _, rfl, hd, rfl, hy, z, _, m, t0, t1, t2, n, u0, u1, u2, rfl, hz, hn, ok, ok0, ok1, ok2, q⟩
  · exact op_L W.tpAdd (raw0 G1 b1) hr pass0 pins s σ H _ _ v u Q I rx ry ⟨z, dx, fs, rfl, hd, .inr ⟨_, rfl⟩, z, _, m, t0, t1, t2, n, u0, u1, u2, rfl, hz, hn, ok, ok0, ok1, ok2, q⟩
end
section
variable {P : Program} {w : World} {K : PySem.W.Frag} {mg : Str → Option Value} {base : Heap} {fd : FuncData}
theorem scTermRadd : FnScope ["self", "other", "left"] ["self", "other"] d_Term_radd.scope := ⟨rfl, rfl, rfl, by decide +kernel, rfl, by decide +kernel, by decide +kernel⟩
theorem ok_tradd (W : Wd K mg) : ∃ fd, FnOk P w K mg base CX0 8 (aT K "__radd__") fd ["self", "other"] (spT2 K fun p q => pAdd q p) ∧ Binds K fd ["self", "other"] [] := by
  obtain ⟨fd_termOf, G_termOf, b_termOf⟩ := ok_termOf (P := P) (w := w) (base := base) W
  have k_termOf : PySem.W.keepIn K (.ref (He.ga K "term_of")) = true := by obtain ⟨fd, F⟩ := W.F_term_of; exact F.kp
  obtain ⟨fd, F⟩ := W.F_Term_radd
  refine ⟨fd, F.ok scTermRadd (fun vs H Q E h => ?_) (fun cdv A outer s H vs Q E hr h => ?_), FunD.bindsN F fun _ _ _ _ _ _ us hl => match us, hl with | [_, _], _ => rfl⟩
  · obtain ⟨x, v, _, _, _, _, _, _, _, _, rfl, _⟩ := h
    rfl
  · obtain ⟨x, v, m, t0, t1, t2, n, u0, u1, u2, rfl, hx, hv, ok, ok0, ok1, ok2, q⟩ := h
    have r1 : Room 1 _ := hr.mono (by decide)
    have r2 : Room 2 _ := hr.mono (by decide)
    have r3 : Room 3 _ := hr.mono (by decide)
    have r4 : Room 4 _ := hr.mono (by decide)
    have r5 : Room 5 _ := hr.mono (by decide)
    have r6 : Room 6 _ := hr.mono (by decide)
    have r7 : Room 7 _ := hr.mono (by decide)
    refine ⟨_, PSs.nox (pss_cons (ps_set (i := 2) scTermRadd.nd rfl (Or.inl rfl) (pe_call G_termOf r6 rfl W.g_term_of k_termOf b_termOf .nil pass0 (pa_cons (pv 1) pa_nil)))
    (pss_cons (ps_if (pt_cmpR op_isN (pv 2) pe_non (nomark _)) pss_never pss_nil)
    (pss_one (ps_ret (pe_op (W.tAddT hr) (pv 2) (pv 0)))))), ?_⟩
    simp -dsimp [tSeq, tAsg, tRet, tIfS, tIf, tTest, tVar, tCons, tNil, tC, tOp, tUn, rI, rI0, rU, tCB, tLst_A, tTup_A, gName, L2.start, CMul, CPow, CDiv, tDrop, tBM, tBM0, tNext, tPar, gSub, rSetL, rIxL, rIxT, tChain, tB, tNot, tNotV, tAnd, tOr, tAndV, tOrV, tFld, tCall, rIxLH, rIxTH, atI, ixN, upd_same, cxK, ex2, ex3, ex3b, rIs1, rIs2, rNe2, tyN, kb1, kb2, kb3, kb4, kb5, kb6, rEq, rNe, scal, tMake_S, tMakeK_S, tMakeN_S]
    refine ⟨v, n, u0, u1, u2, rfl, hv, fun z H1 s1 iz => ?_⟩
    simp -dsimp [tSeq, tAsg, tRet, tIfS, tIf, tTest, tVar, tCons, tNil, tC, tOp, tUn, rI, rI0, rU, tCB, tLst_A, tTup_A, gName, L2.start, CMul, CPow, CDiv, tDrop, tBM, tBM0, tNext, tPar, gSub, rSetL, rIxL, rIxT, tChain, tB, tNot, tNotV, tAnd, tOr, tAndV, tOrV, tFld, tCall, rIxLH, rIxTH, atI, ixN, upd_same, cxK, ex2, ex3, ex3b, rIs1, rIs2, rNe2, tyN, kb1, kb2, kb3, kb4, kb5, kb6, rEq, rNe, scal, tMake_S, tMakeK_S, tMakeN_S]
    exact ⟨n, u0, u1, u2, m, t0, t1, t2, z, rfl, iz, .inl ⟨x, rfl, hx.same s1⟩, ok.swap, ok0.swap, ok1.swap, ok2.swap, fun z' H' s' i' => q z' H' (s1.trans s') i'⟩
end
section
variable {X : Cx}
theorem Wd.nAddT (W : Wd X.K X.mg) (hr : Room 8 X.A) : OpR X (binaryOp .Add) (rNT X.K pAdd) := by
  obtain ⟨f1, G1, b1⟩ := ok_tradd (P := X.prog) (w := X.w) (base := X.base) W
  have r3 : Room 3 X.A := hr.mono (by decide)
  intro pins s σ H x y v u Q I rx ry h
  obtain ⟨m, t0, t1, t2, n, z, rfl, hz, hn, ok, ok0, ok1, ok2, q⟩ := h
  obtain ⟨dx, fs, hd⟩ := hz.ins
  have tn : TN X.K H x n (0, 1) (0, 1) (0, 1) := .inr ⟨hn, rfl, rfl, rfl⟩
  rcases id hn with ⟨zy, rfl, dy, hy⟩ | ⟨rfl, _⟩
  · exact op_mixR W.opAdd W.tpAdd W.neST (of_decide_eq_true (W.ex 19 rfl)) (ni_add W) (raw0 G1 b1) r3 hr pass0 pins s σ H _ _ v u Q I rx ry ⟨zy, z, rfl, rfl, ⟨dy, _, hy⟩, ⟨dx, fs, hd⟩, _, _, _, rfl, W.isTm hz, W.knT, ⟨dy, _, hy⟩, ⟨dx, fs, hd⟩, z, _, m, t0, t1, t2, n, _, _, _, rfl, hz, tn, ok, ok0, ok1, ok2, q⟩
  · exact op_Rt W.tpAdd (raw0 G1 b1) hr pass0 pins s σ H _ _ v u Q I rx ry ⟨_, z, dx, fs, rfl, rfl, hd, z, _, m, t0, t1, t2, n, _, _, _, rfl, hz, tn, ok, ok0, ok1, ok2, q⟩
end
section
variable {X : Cx}
theorem Wd.tSubT (W : Wd X.K X.mg) (hr : Room 7 X.A) : OpR X (binaryOp .Sub) (rTT X.K pSub) := by
  obtain ⟨f1, G1, b1⟩ := ok_tsub (P := X.prog) (w := X.w) (base := X.base) W
  intro pins s σ H x y v u Q I rx ry h
  obtain ⟨m, t0, t1, t2, n, u0, u1, u2, z, rfl, hz, hn, ok, ok0, ok1, ok2, q⟩ := h
  obtain ⟨dx, fs, hd⟩ := hz.ins
  rcases id hn with ⟨zy, rfl, hy⟩ | ⟨⟨zy, rfl, dy, hy⟩ | ⟨rfl, _⟩, _⟩
  · obtain ⟨dy, gs, hdy⟩ := hy.ins
    exact op_L W.tpSub (raw0 G1 b1) hr pass0 pins s σ H _ _ v u Q I rx ry ⟨z, dx, fs, rfl, hd, .inl ⟨zy, dy, gs, rfl, hdy⟩, z, _, m, t0, t1, t2, n, u0, u1, u2, rfl, hz, hn, ok, ok0, ok1, ok2, q⟩
  · exact op_mixL W.tpSub W.opSub W.neST.symm (of_decide_eq_true (W.ex 20 rfl)) (raw0 G1 b1) hr pass0 pins s σ H _ _ v u Q I rx ry ⟨z, dx, zy, dy, fs, _, rfl, hd, rfl, hy, z, _, m, t0, t1, t2, n, u0, u1, u2, rfl, hz, hn, ok, ok0, ok1, ok2, q⟩
  · exact op_L W.tpSub (raw0 G1 b1) hr pass0 pins s σ H _ _ v u Q I rx ry ⟨z, dx, fs, rfl, hd, .inr ⟨_, rfl⟩, z, _, m, t0, t1, t2, n, u0, u1, u2, rfl, hz, hn, ok, ok0, ok1, ok2, q⟩
end
section
variable {P : Program} {w : World} {K : PySem.W.Frag} {mg : Str → Option Value} {base : Heap} {fd : FuncData}
theorem scTermRsub : FnScope ["self", "other", "left"] ["self", "other"] d_Term_rsub.scope := ⟨rfl, rfl, rfl, by decide +kernel, rfl, by decide +kernel, by decide +kernel⟩
theorem ok_trsub (W : Wd K mg) : ∃ fd, FnOk P w K mg base CX0 8 (aT K "__rsub__") fd ["self", "other"] (spT2 K fun p q => pSub q p) ∧ Binds K fd ["self", "other"] [] := by
  obtain ⟨fd_termOf, G_termOf, b_termOf⟩ := ok_termOf (P := P) (w := w) (base := base) W
  have k_termOf : PySem.W.keepIn K (.ref (He.ga K "term_of")) = true := by obtain ⟨fd, F⟩ := W.F_term_of; exact F.kp
  obtain ⟨fd, F⟩ := W.F_Term_rsub
  refine ⟨fd, F.ok scTermRsub (fun vs H Q E h => ?_) (fun cdv A outer s H vs Q E hr h => ?_), FunD.bindsN F fun _ _ _ _ _ _ us hl => match us, hl with | [_, _], _ => rfl⟩
  · obtain ⟨x, v, _, _, _, _, _, _, _, _, rfl, _⟩ := h
    rfl
  · obtain ⟨x, v, m, t0, t1, t2, n, u0, u1, u2, rfl, hx, hv, ok, ok0, ok1, ok2, q⟩ := h
    have r1 : Room 1 _ := hr.mono (by decide)
    have r2 : Room 2 _ := hr.mono (by decide)
    have r3 : Room 3 _ := hr.mono (by decide)
    have r4 : Room 4 _ := hr.mono (by decide)
    have r5 : Room 5 _ := hr.mono (by decide)
    have r6 : Room 6 _ := hr.mono (by decide)
    have r7 : Room 7 _ := hr.mono (by decide)
    refine ⟨_, PSs.nox (pss_cons (ps_set (i := 2) scTermRsub.nd rfl (Or.inl rfl) (pe_call G_termOf r6 rfl W.g_term_of k_termOf b_termOf .nil pass0 (pa_cons (pv 1) pa_nil)))
    (pss_cons (ps_if (pt_cmpR op_isN (pv 2) pe_non (nomark _)) pss_never pss_nil)
    (pss_one (ps_ret (pe_op (W.tSubT hr) (pv 2) (pv 0)))))), ?_⟩
    simp -dsimp [tSeq, tAsg, tRet, tIfS, tIf, tTest, tVar, tCons, tNil, tC, tOp, tUn, rI, rI0, rU, tCB, tLst_A, tTup_A, gName, L2.start, CMul, CPow, CDiv, tDrop, tBM, tBM0, tNext, tPar, gSub, rSetL, rIxL, rIxT, tChain, tB, tNot, tNotV, tAnd, tOr, tAndV, tOrV, tFld, tCall, rIxLH, rIxTH, atI, ixN, upd_same, cxK, ex2, ex3, ex3b, rIs1, rIs2, rNe2, tyN, kb1, kb2, kb3, kb4, kb5, kb6, rEq, rNe, scal, tMake_S, tMakeK_S, tMakeN_S]
    refine ⟨v, n, u0, u1, u2, rfl, hv, fun z H1 s1 iz => ?_⟩
    simp -dsimp [tSeq, tAsg, tRet, tIfS, tIf, tTest, tVar, tCons, tNil, tC, tOp, tUn, rI, rI0, rU, tCB, tLst_A, tTup_A, gName, L2.start, CMul, CPow, CDiv, tDrop, tBM, tBM0, tNext, tPar, gSub, rSetL, rIxL, rIxT, tChain, tB, tNot, tNotV, tAnd, tOr, tAndV, tOrV, tFld, tCall, rIxLH, rIxTH, atI, ixN, upd_same, cxK, ex2, ex3, ex3b, rIs1, rIs2, rNe2, tyN, kb1, kb2, kb3, kb4, kb5, kb6, rEq, rNe, scal, tMake_S, tMakeK_S, tMakeN_S]
    exact ⟨n, u0, u1, u2, m, t0, t1, t2, z, rfl, iz, .inl ⟨x, rfl, hx.same s1⟩, ok.swap, ok0.swap, ok1.swap, ok2.swap, fun z' H' s' i' => q z' H' (s1.trans s') i'⟩
end
section
variable {X : Cx}
theorem Wd.nSubT (W : Wd X.K X.mg) (hr : Room 8 X.A) : OpR X (binaryOp .Sub) (rNT X.K pSub) := by
  obtain ⟨f1, G1, b1⟩ := ok_trsub (P := X.prog) (w := X.w) (base := X.base) W
  have r3 : Room 3 X.A := hr.mono (by decide)
  intro pins s σ H x y v u Q I rx ry h
  obtain ⟨m, t0, t1, t2, n, z, rfl, hz, hn, ok, ok0, ok1, ok2, q⟩ := h
  obtain ⟨dx, fs, hd⟩ := hz.ins
  have tn : TN X.K H x n (0, 1) (0, 1) (0, 1) := .inr ⟨hn, rfl, rfl, rfl⟩
  rcases id hn with ⟨zy, rfl, dy, hy⟩ | ⟨rfl, _⟩
  · exact op_mixR W.opSub W.tpSub W.neST (of_decide_eq_true (W.ex 19 rfl)) (ni_sub W) (raw0 G1 b1) r3 hr pass0 pins s σ H _ _ v u Q I rx ry ⟨zy, z, rfl, rfl, ⟨dy, _, hy⟩, ⟨dx, fs, hd⟩, _, _, _, rfl, W.isTm hz, W.knT, ⟨dy, _, hy⟩, ⟨dx, fs, hd⟩, z, _, m, t0, t1, t2, n, _, _, _, rfl, hz, tn, ok, ok0, ok1, ok2, q⟩
  · exact op_Rt W.tpSub (raw0 G1 b1) hr pass0 pins s σ H _ _ v u Q I rx ry ⟨_, z, dx, fs, rfl, rfl, hd, z, _, m, t0, t1, t2, n, _, _, _, rfl, hz, tn, ok, ok0, ok1, ok2, q⟩
end
/-! ### comparisons between two own classes, the left one declining -/
namespace CmX
open PySem.W (InstAt findIn isFn mroIn typeIn subIn looks_subIn looks_mroIn looks_findIn instObj ifBound_K Looks)
section
variable {prog : Program} {w : World} {A : Around} {E : Value → Shared → Prop} {s : Shared} {K : PySem.W.Frag} {x C f : Addr} {ox : Obj} {od : Option Obj} {a b ta tb : Value} {op : CmpOp}
theorem rc_swap {Q : Value → Shared → Prop} (hu : A.units < cLine) (ho : oneThing? op a b = none) (la : Looks (model prog w) s.heap (typeOf a) ta) (lb : Looks (model prog w) s.heap (typeOf b) tb)
    (hn : Looks (model prog w) s.heap (isSubtype tb ta) false)
    (one : wpAny (model prog w) A (tryCompare a (cmpInfo op).2.1 b) (fun r s' => r = none ∧ wpAny (model prog w) A (tryCompare b (cmpInfo op).2.2 a) (fun r s' => ∃ v, r = some v ∧ Q v s') E s') E s) : wpAny (model prog w) A (richCompare op a b) Q E s := by
  unfold richCompare
  simp only [ho]
  refine wpAny_holding (wpAny_bind (wpAny_cRoomFor hu ?_))
  refine wpAny_bind (la.here (wpAny_bind (lb.here ?_)))
  split
  · refine wpAny_bind (hn.here ?_)
    simp only [Bool.false_eq_true, if_false, Bool.not_false, if_true]
    refine wpAny_bind (wpAny_mono one (fun r s' z => ?_) fun _ _ e => e)
    obtain ⟨rfl, two⟩ := z
    refine wpAny_bind (wpAny_mono two (fun r s' z => ?_) fun _ _ e => e)
    obtain ⟨v, rfl, hq⟩ := z
    exact wpAny_pure hq
  · refine wpAny_bind (wpAny_pure ?_)
    simp only [Bool.false_eq_true, if_false, Bool.not_false, if_true]
    refine wpAny_bind (wpAny_mono one (fun r s' z => ?_) fun _ _ e => e)
    obtain ⟨rfl, two⟩ := z
    refine wpAny_bind (wpAny_mono two (fun r s' z => ?_) fun _ _ e => e)
    obtain ⟨v, rfl, hq⟩ := z
    exact wpAny_pure hq
theorem try_own_no {name : Str} {Q : Shared → Prop} (X : K.In s.heap) (I : InstAt s.heap x ox C od) (hs : findIn K (.ref C) name = some (some (.ref f))) (hf : isFn K (.ref f) = true)
    (h : wpAny (model prog w) A (call (.ref f) [.ref x, b]) (fun v s' => v = .notImplemented ∧ Q s') E s) : wpAny (model prog w) A (tryCompare (.ref x) name b) (fun r s' => r = none ∧ Q s') E s := by
  unfold tryCompare
  refine wpAny_bind (ifBound_K X I hs hf (wpAny_mono h (fun v s' hv => ?_) fun _ _ e => e))
  obtain ⟨rfl, q⟩ := hv
  exact wpAny_pure ⟨rfl, q⟩
end
section
variable {X : Cx} {CX : CXT} {n m : Nat} {sp : Sp} {spn : List V → Hp → (Hp → Prop) → Prop} {E : XK} {C D f g : Addr} {op : CmpOp}
/-- x op y by y's own def, x's own one declining: as rMixR -/
theorem op_cmpMixR (hc : ∀ a b, compareOp op a b = richCompare op a b) (hs : findIn X.K (.ref C) (cmpInfo op).2.1 = some (some (.ref f))) (hf : isFn X.K (.ref f) = true) (ht : findIn X.K (.ref D) (cmpInfo op).2.2 = some (some (.ref g))) (hg : isFn X.K (.ref g) = true)
    (hsub : subIn X.K (.ref D) (.ref C) = some false) (N : NiX.FnN X.prog X.w X.K X.mg X.base m f spn) (F : FnR X.prog X.w X.K X.mg X.base CX n g sp) (hrN : Room m X.A) (hr : Room n X.A) (hx : Passes CX X E) : OpR X (compareOp op) (rMixR C D spn sp E) := by
  intro pins s σ H x y v u Q I rx ry h
  obtain ⟨a, b, rfl, rfl, ⟨dx, fs, ha⟩, ⟨dy, gs, hb⟩, q⟩ := h
  cases (show v = Value.ref a from rx)
  cases (show u = Value.ref b from ry)
  obtain ⟨mA, O, _⟩ := ins_get I.hok ha
  obtain ⟨od, J, _⟩ := O.look
  obtain ⟨mB, O', _⟩ := ins_get I.hok hb
  obtain ⟨od', J', _⟩ := O'.look
  rw [hc]
  refine rc_swap hr.units0 rfl J.type J'.type (looks_subIn I.kIn hsub) (try_own_no I.kIn J hs hf (wpAny_mono (wpAny_call (run_fnN (us := [.ref a, .ref b]) (vs := [.ref a, .ref b]) N hrN I (.cons rfl (.cons rfl .nil)) q)) (fun w s' z => ?_) fun _ _ x => x))
  obtain ⟨rfl, H1, I1, _, ⟨dy1, gs1, hb1⟩, q1⟩ := z
  obtain ⟨mB1, O1', _⟩ := ins_get I1.hok hb1
  obtain ⟨od1', J1', _⟩ := O1'.look
  exact ⟨rfl, try_own I1.kIn J1' ht hg (wpAny_mono (wpAny_call (run_fnR (us := [.ref b, .ref a]) (vs := [.ref b, .ref a]) F hr hx I1 (.cons rfl (.cons rfl .nil)) q1)) (fun w s' z => by
      obtain ⟨z', H', I', rz, qz⟩ := z
      exact SlX.cmpback rz ⟨z', H', I', rz, qz⟩) fun _ _ x => x)⟩
end
end CmX
/-! ### zip of a tuple and a list, of any lengths -/
namespace ZmY
open PySem PySem.Spec PyProof.Rows L2
/-- the tuple at a and the list at b -/
def ItzM (K : PySem.W.Frag) (a b : Addr) : It where
  go := fun i H => ∃ (xs ys : List V) (x y : V), (SqT K H a xs ∧ SqL K H b ys) ∧ xs[i]? = some x ∧ ys[i]? = some y
  yld := fun i H v H' => ∃ (T : Addr) (x y : V), v = .ref T ∧ H T = none ∧ H' = upd H T (.tup [x, y]) ∧ (∀ xs, SqT K H a xs → xs[i]? = some x) ∧ ∀ ys, SqL K H b ys → ys[i]? = some y
  stop := fun i H => ∃ xs ys : List V, (SqT K H a xs ∧ SqL K H b ys) ∧ i ≤ xs.length ∧ i ≤ ys.length ∧ (i = xs.length ∨ i = ys.length)
theorem sep {z TI TO i1 i2 a b : Addr} (D : ZipApart z TI TO i1 i2 a b) : ZipSep2 z TI TO i1 i2 [i1, a] [i2, b] where
  TIz := D.TIz
  TOz := D.TOz
  TITO := D.TITO
  TIi1 := D.TIi1
  mem1 := by simp -dsimp [tSeq, tAsg, tRet, tIfS, tIf, tTest, tVar, tCons, tNil, tC, tOp, tUn, rI, rI0, rU, tCB, tLst_A, tTup_A, gName, L2.start, CMul, CPow, CDiv, tDrop, tBM, tBM0, tNext, tPar, gSub, rSetL, rIxL, rIxT, tChain, tB, tNot, tNotV, tAnd, tOr, tAndV, tOrV, tFld, tCall, rIxLH, rIxTH, atI, ixN, upd_same, cxK, ex2, ex3, ex3b, rIs1, rIs2, rNe2, tyN, kb1, kb2, kb3, kb4, kb5, kb6, rEq, rNe, scal, tMake_S, tMakeK_S, tMakeN_S]
  zf1 := by simp; exact ⟨D.i1z.symm, D.l1z.symm⟩
  Tf1 := by simp; exact ⟨D.TOi1, D.l1TO.symm⟩
  TIi2 := D.TIi2
  mem2 := by simp -dsimp [tSeq, tAsg, tRet, tIfS, tIf, tTest, tVar, tCons, tNil, tC, tOp, tUn, rI, rI0, rU, tCB, tLst_A, tTup_A, gName, L2.start, CMul, CPow, CDiv, tDrop, tBM, tBM0, tNext, tPar, gSub, rSetL, rIxL, rIxT, tChain, tB, tNot, tNotV, tAnd, tOr, tAndV, tOrV, tFld, tCall, rIxLH, rIxTH, atI, ixN, upd_same, cxK, ex2, ex3, ex3b, rIs1, rIs2, rNe2, tyN, kb1, kb2, kb3, kb4, kb5, kb6, rEq, rNe, scal, tMake_S, tMakeK_S, tMakeN_S]
  zf2 := by simp; exact ⟨D.i2z.symm, D.l2z.symm⟩
  Tf2 := by simp; exact ⟨D.TOi2, D.l2TO.symm⟩
  sep1_2 := by simp; exact ⟨D.i12, D.l2i1.symm⟩
  sep2_1 := by simp; exact ⟨D.i12.symm, D.l1i2.symm⟩
abbrev StM (z TI TO i1 i2 a b : Addr) : Nat → Heap → Prop := fun i h => (IsZip h z TI TO .none ∧ IsPair h TI (.ref i1) (.ref i2)) ∧ (∃ x y, IsPair h TO x y) ∧ h.IsTupleIter i1 a i ∧ h.IsListIter i2 b i
theorem five {z TI TO i1 i2 c : Addr} (h : c ∈ [z, TI, TO, i1, i2]) : c = z ∨ c = TI ∨ c = TO ∨ c = i1 ∨ c = i2 := by simpa using h
theorem turn {P : Program} {w : World} {K : PySem.W.Frag} {el : List Expr} {k : Nat} {tp : Pos} {a b z TI TO i1 i2 : Addr} (D : ZipApart z TI TO i1 i2 a b) :
    Turn P w K (.Tuple el k tp) (ItzM K a b) [z, TI, TO, i1, i2] z (StM z TI TO i1 i2 a b) where
  mem := List.mem_cons_self
  obj := fun i h st c hc => by
    obtain ⟨⟨g1, g2⟩, ⟨x, y, g3⟩, ⟨o1, g4, _, d1⟩, ⟨o2, g5, _, d2⟩⟩ := st
    rcases five hc with rfl | rfl | rfl | rfl | rfl
    · exact ⟨_, g1, fun v e => nomatch e⟩
    · exact ⟨_, g2, fun v e => nomatch e⟩
    · exact ⟨_, g3, fun v e => nomatch e⟩
    · exact ⟨o1, g4, fun v e => by rw [d1] at e; cases e⟩
    · exact ⟨o2, g5, fun v e => by rw [d2] at e; cases e⟩
  keep := fun i h h' st kp => by
    obtain ⟨⟨g1, g2⟩, ⟨x, y, g3⟩, g4, g5⟩ := st
    exact ⟨⟨kp _ (by simp -dsimp [tSeq, tAsg, tRet, tIfS, tIf, tTest, tVar, tCons, tNil, tC, tOp, tUn, rI, rI0, rU, tCB, tLst_A, tTup_A, gName, L2.start, CMul, CPow, CDiv, tDrop, tBM, tBM0, tNext, tPar, gSub, rSetL, rIxL, rIxT, tChain, tB, tNot, tNotV, tAnd, tOr, tAndV, tOrV, tFld, tCall, rIxLH, rIxTH, atI, ixN, upd_same, cxK, ex2, ex3, ex3b, rIs1, rIs2, rNe2, tyN, kb1, kb2, kb3, kb4, kb5, kb6, rEq, rNe, scal, tMake_S, tMakeK_S, tMakeN_S]) _ g1, kp _ (by simp -dsimp [tSeq, tAsg, tRet, tIfS, tIf, tTest, tVar, tCons, tNil, tC, tOp, tUn, rI, rI0, rU, tCB, tLst_A, tTup_A, gName, L2.start, CMul, CPow, CDiv, tDrop, tBM, tBM0, tNext, tPar, gSub, rSetL, rIxL, rIxT, tChain, tB, tNot, tNotV, tAnd, tOr, tAndV, tOrV, tFld, tCall, rIxLH, rIxTH, atI, ixN, upd_same, cxK, ex2, ex3, ex3b, rIs1, rIs2, rNe2, tyN, kb1, kb2, kb3, kb4, kb5, kb6, rEq, rNe, scal, tMake_S, tMakeK_S, tMakeN_S]) _ g2⟩, ⟨x, y, kp _ (by simp -dsimp [tSeq, tAsg, tRet, tIfS, tIf, tTest, tVar, tCons, tNil, tC, tOp, tUn, rI, rI0, rU, tCB, tLst_A, tTup_A, gName, L2.start, CMul, CPow, CDiv, tDrop, tBM, tBM0, tNext, tPar, gSub, rSetL, rIxL, rIxT, tChain, tB, tNot, tNotV, tAnd, tOr, tAndV, tOrV, tFld, tCall, rIxLH, rIxTH, atI, ixN, upd_same, cxK, ex2, ex3, ex3b, rIs1, rIs2, rNe2, tyN, kb1, kb2, kb3, kb4, kb5, kb6, rEq, rNe, scal, tMake_S, tMakeK_S, tMakeN_S]) _ g3⟩, g4.at fun o e => kp _ (by simp -dsimp [tSeq, tAsg, tRet, tIfS, tIf, tTest, tVar, tCons, tNil, tC, tOp, tUn, rI, rI0, rU, tCB, tLst_A, tTup_A, gName, L2.start, CMul, CPow, CDiv, tDrop, tBM, tBM0, tNext, tPar, gSub, rSetL, rIxL, rIxT, tChain, tB, tNot, tNotV, tAnd, tOr, tAndV, tOrV, tFld, tCall, rIxLH, rIxTH, atI, ixN, upd_same, cxK, ex2, ex3, ex3b, rIs1, rIs2, rNe2, tyN, kb1, kb2, kb3, kb4, kb5, kb6, rEq, rNe, scal, tMake_S, tMakeK_S, tMakeN_S]) o e, g5.at fun o e => kp _ (by simp -dsimp [tSeq, tAsg, tRet, tIfS, tIf, tTest, tVar, tCons, tNil, tC, tOp, tUn, rI, rI0, rU, tCB, tLst_A, tTup_A, gName, L2.start, CMul, CPow, CDiv, tDrop, tBM, tBM0, tNext, tPar, gSub, rSetL, rIxL, rIxT, tChain, tB, tNot, tNotV, tAnd, tOr, tAndV, tOrV, tFld, tCall, rIxLH, rIxTH, atI, ixN, upd_same, cxK, ex2, ex3, ex3b, rIs1, rIs2, rNe2, tyN, kb1, kb2, kb3, kb4, kb5, kb6, rEq, rNe, scal, tMake_S, tMakeK_S, tMakeN_S]) o e⟩
  item := by
    intro X eP ew eK hc i pins s σ H E I hf st hg
    subst eP ew eK
    obtain ⟨⟨g1, g2⟩, ⟨x0, y0, g3⟩, g4, g5⟩ := st
    obtain ⟨xs, ys, x, y, ⟨qx, qy⟩, hx, hy⟩ := hg
    obtain ⟨its, rv, p, _⟩ := I.tuple qx
    obtain ⟨its2, rv2, p2, _⟩ := I.list qy
    obtain ⟨u, hu, ru⟩ := rv.get hx
    obtain ⟨u2, hu2, ru2⟩ := rv2.get hy
    have hh : X.A.in1.handled = none := I.ok.hd hc
    have lz : z < s.heap.objs.size := Heap.lt_size g1
    have lu : i < its.toArray.size := by
      have := (List.getElem?_eq_some_iff.mp hu).1
      simpa using this
    have lu2 : i < its2.toArray.size := by
      have := (List.getElem?_eq_some_iff.mp hu2).1
      simpa using this
    refine wpAny_pyNext_zipD2_item (sep D) (Draws.tuple hh i1 a D.l1i1 its.toArray) (Draws.list hh i2 b D.l2i2 its2.toArray) g1 g2 g3 ⟨g4, p⟩ ⟨g5, p2.isList⟩ lu lu2 fun v1 v2 h' tk e1 e2 z' TO' s1 s2 hT hsz hk => ?_
    have ev1 : v1 = u := by
      have : its[i]? = some v1 := by simpa using e1
      rw [hu] at this
      exact (Option.some.inj this).symm
    have ev2 : v2 = u2 := by
      have : its2[i]? = some v2 := by simpa using e2
      rw [hu2] at this
      exact (Option.some.inj this).symm
    subst ev1 ev2
    refine ⟨_, rfl, wpAny_letOwnedTupleGo_zip (s := { s with heap := h', toks := tk }) z' fun h'' z'' sb => ?_⟩
    have hT2 : h''.get? s.heap.objs.size = some { cls := .type "tuple", data := .seq #[v1, v2] } := (sb.2 _ (Nat.ne_of_gt lz)).trans hT
    have nw : ObjOk X.prog X.w (upd H s.heap.objs.size (.tup [x, y])) h'' s.heap.objs.size (.tup [x, y]) := ⟨(by show 2 ≤ sizeLine; decide), [v1, v2], .cons ru (.cons ru2 .nil), _, hT2, rfl, _, rfl⟩
    have I1 : Inv X pins σ (upd H s.heap.objs.size (.tup [x, y])) { s with heap := h'', toks := tk } := I.turnedNew (ch := [z, TI, TO, i1, i2]) (fun c o nb e => by
      have nz : c ≠ z := fun k => nb (by rw [k]; simp -dsimp [tSeq, tAsg, tRet, tIfS, tIf, tTest, tVar, tCons, tNil, tC, tOp, tUn, rI, rI0, rU, tCB, tLst_A, tTup_A, gName, L2.start, CMul, CPow, CDiv, tDrop, tBM, tBM0, tNext, tPar, gSub, rSetL, rIxL, rIxT, tChain, tB, tNot, tNotV, tAnd, tOr, tAndV, tOrV, tFld, tCall, rIxLH, rIxTH, atI, ixN, upd_same, cxK, ex2, ex3, ex3b, rIs1, rIs2, rNe2, tyN, kb1, kb2, kb3, kb4, kb5, kb6, rEq, rNe, scal, tMake_S, tMakeK_S, tMakeN_S])
      refine (sb.2 c nz).trans (hk c o nz (fun k => nb ?_) (fun k => nb ?_) (fun k => nb ?_) e)
      all_goals (rw [k]; simp -dsimp [tSeq, tAsg, tRet, tIfS, tIf, tTest, tVar, tCons, tNil, tC, tOp, tUn, rI, rI0, rU, tCB, tLst_A, tTup_A, gName, L2.start, CMul, CPow, CDiv, tDrop, tBM, tBM0, tNext, tPar, gSub, rSetL, rIxL, rIxT, tChain, tB, tNot, tNotV, tAnd, tOr, tAndV, tOrV, tFld, tCall, rIxLH, rIxTH, atI, ixN, upd_same, cxK, ex2, ex3, ex3b, rIs1, rIs2, rNe2, tyN, kb1, kb2, kb3, kb4, kb5, kb6, rEq, rNe, scal, tMake_S, tMakeK_S, tMakeN_S])) hf (Nat.le_refl _) nw
    refine ⟨.ref s.heap.objs.size, _, I1, rfl, ⟨_, x, y, rfl, I.hok.fresh (Nat.le_refl _), rfl, fun l hl => by rw [I.tuple_inj hl qx]; exact hx, fun l hl => by rw [I.list_inj hl qy]; exact hy⟩, ⟨⟨z'', ?_⟩, ⟨v1, v2, ?_⟩, ?_, ?_⟩, fun c hcm => ?_⟩
    · exact (sb.2 _ D.TIz).trans (hk _ _ D.TIz D.TITO D.TIi1 D.TIi2 g2)
    · exact (sb.2 _ D.TOz).trans TO'
    · exact s1.1.at fun o e => (sb.2 _ D.i1z).trans e
    · exact s2.1.at fun o e => (sb.2 _ D.i2z).trans e
    · have lt : c < s.heap.objs.size := by
        rcases five hcm with rfl | rfl | rfl | rfl | rfl
        · exact lz
        · exact Heap.lt_size g2
        · exact Heap.lt_size g3
        · obtain ⟨_, e, _⟩ := g4
          exact Heap.lt_size e
        · obtain ⟨_, e, _⟩ := g5
          exact Heap.lt_size e
      rw [upd_ne (Nat.ne_of_lt lt)]
      exact (hf c hcm).1
  done := by
    intro X eP ew eK hc i pins s σ H E I hf st hg
    subst eP ew eK
    obtain ⟨⟨g1, g2⟩, ⟨x0, y0, g3⟩, g4, g5⟩ := st
    obtain ⟨xs, ys, ⟨qx, qy⟩, hx, hy, he⟩ := hg
    obtain ⟨its, rv, p, _⟩ := I.tuple qx
    obtain ⟨its2, rv2, p2, _⟩ := I.list qy
    have l1 := rv.length
    have l2 := rv2.length
    have hh : X.A.in1.handled = none := I.ok.hd hc
    refine wpAny_pyNext_zipD2_end (sep D) (Draws.tuple hh i1 a D.l1i1 its.toArray) (Draws.list hh i2 b D.l2i2 its2.toArray) g1 g2 g3 ⟨g4, p⟩ ⟨g5, p2.isList⟩ (by simp; omega) (by simp; omega) (by simp; omega) fun h' tk hk => ⟨rfl, I.turnedL (ch := [z, TI, TO, i1, i2]) (fun c o nb e => ?_) hf⟩
    refine hk c o (fun k => nb ?_) (fun k => nb ?_) (fun k => nb ?_) (fun k => nb ?_) e
    all_goals (rw [k]; simp -dsimp [tSeq, tAsg, tRet, tIfS, tIf, tTest, tVar, tCons, tNil, tC, tOp, tUn, rI, rI0, rU, tCB, tLst_A, tTup_A, gName, L2.start, CMul, CPow, CDiv, tDrop, tBM, tBM0, tNext, tPar, gSub, rSetL, rIxL, rIxT, tChain, tB, tNot, tNotV, tAnd, tOr, tAndV, tOrV, tFld, tCall, rIxLH, rIxTH, atI, ixN, upd_same, cxK, ex2, ex3, ex3b, rIs1, rIs2, rNe2, tyN, kb1, kb2, kb3, kb4, kb5, kb6, rEq, rNe, scal, tMake_S, tMakeK_S, tMakeN_S])
  self := fun A i s Q E st h => wpAny_pyIter_zip st.1.1 h
def iZipM (K : PySem.W.Frag) (ta : TA) : TI := fun σ H R => ta σ H fun vs H1 => ∃ (a b : Addr) (xs ys : List V), vs = [.ref a, .ref b] ∧ SqT K H1 a xs ∧ ((SqL K H1 b ys ∧ R (ItzM K a b) H1) ∨ (SqT K H1 b ys ∧ R (RZ.ItzT K a b) H1))
theorem fresh5 {X : Cx} {pins : List (Addr × Obj)} {σ : L2.St} {H : Hp} {s : Shared} (I : Inv X pins σ H s) (c : Addr) (h : c ∈ [s.heap.objs.size + 4, s.heap.objs.size + 2, s.heap.objs.size + 3, s.heap.objs.size, s.heap.objs.size + 1]) : FpOk X pins H c := by
  have le : s.heap.objs.size ≤ c := by
    rcases five h with rfl | rfl | rfl | rfl | rfl <;> omega
  exact I.fpOk le (I.hok.fresh le)
/-- zip of a tuple, and a list or a tuple -/
theorem pi_zipM {X : Cx} {e e2 : Expr} {ta : TA} {p pos tp : Pos} {el : List Expr} {k : Nat} (hg : Gl X "zip") (hm : X.mg "zip" = none) (ha : PA X [e, e2] ta)
    (h1 : starEach [e, e2] X.env = (false, eval e X.env) :: starEach [e2] X.env := by rfl) (h2 : (backTo pos (starEach [e2] X.env)).any (·.1) = false := by rfl) :
    PI X (.Tuple el k tp) (.Call (.Name "zip" p) [e, e2] [] pos) (iZipM X.K ta) := by
  refine ⟨fun pins s σ H R I h => Call_ (ld_blt I hg hm PyProof.Rows.boot_zip (PyProof.Rows.callWith_type1 (thn (ha.run pos pins s σ H _ I h) fun us t ⟨vs, G, J, r, q⟩ => ?_) h1 h2))⟩
  obtain ⟨a, b, xs, ys, rfl, qa, q⟩ := q
  obtain ⟨u, u2, rfl, r1, r2⟩ : ∃ u u2, us = [u, u2] ∧ RelV (.ref a) u ∧ RelV (.ref b) u2 := by
    cases r with
    | cons r rr =>
      cases rr with
      | cons r' rr =>
        cases rr
        exact ⟨_, _, rfl, r, r'⟩
  cases r1
  cases r2
  obtain ⟨i1, v1, p1, _⟩ := J.tuple qa
  obtain ⟨o1, ho1, _⟩ := id p1
  rcases q with ⟨qb, q⟩ | ⟨qb, q⟩
  · obtain ⟨i2, v2, p2, _⟩ := J.list qb
    refine zip_begins2 (begins_tuple a i1.toArray) (begins_list b i2.toArray) p1 p2.isList fun h' g1 g2 g3 g4 g5 _ hk => wpAny_pyIter_zip g1 ?_
    exact ⟨_, _, _, _, G, rfl, J.kept (t' := t.toks) hk, turn (PySem.W.ktu_apart t.heap.objs.size a b (Heap.lt_size ho1) p2.lt), ⟨⟨g1, g2⟩, ⟨_, _, g3⟩, ⟨_, g4, rfl, rfl⟩, ⟨_, g5, rfl, rfl⟩⟩, fun c hc => fresh5 J c hc, q⟩
  · obtain ⟨i2, v2, p2, _⟩ := J.tuple qb
    obtain ⟨o2, ho2, _⟩ := id p2
    refine RZ.call_zipT p1 p2 fun h' g1 g2 g3 g4 g5 _ hk => wpAny_pyIter_zip g1 ?_
    exact ⟨_, _, _, _, G, rfl, J.kept (t' := t.toks) hk, RZ.turn_zipT (PySem.W.ktu_apart t.heap.objs.size a b (Heap.lt_size ho1) (Heap.lt_size ho2)), ⟨g1, g2, ⟨_, _, g3⟩, g4, g5⟩, fun c hc => fresh5 J c hc, q⟩
theorem walkM {K : PySem.W.Frag} {a b : Addr} {xs ys : List V} : Walk (ItzM K a b) (min xs.length ys.length) (fun H => SqT K H a xs ∧ SqL K H b ys) (YPair (fun i => xs[i]?) (fun i => ys[i]?)) where
  goes := fun i H hi h => ⟨xs, ys, xs[i]'(by omega), ys[i]'(by omega), h, List.getElem?_eq_getElem _, List.getElem?_eq_getElem _⟩
  stops := fun H h => ⟨xs, ys, h, by omega, by omega, by omega⟩
  yields := fun i H v H' hi h y => by
    obtain ⟨T, x, y, e, n, u, f, g⟩ := y
    exact ⟨T, x, y, e, n, u, f _ h.1, g _ h.2⟩
theorem walkT {K : PySem.W.Frag} {a b : Addr} {xs ys : List V} : Walk (RZ.ItzT K a b) (min xs.length ys.length) (fun H => SqT K H a xs ∧ SqT K H b ys) (YPair (fun i => xs[i]?) (fun i => ys[i]?)) where
  goes := fun i H hi h => ⟨xs, ys, xs[i]'(by omega), ys[i]'(by omega), h.1, h.2, List.getElem?_eq_getElem _, List.getElem?_eq_getElem _⟩
  stops := fun H h => ⟨xs, ys, h.1, h.2, by omega⟩
  yields := fun i H v H' hi h y => by
    obtain ⟨T, x, y, e, n, u, f, g⟩ := y
    exact ⟨T, x, y, e, n, u, f _ h.1, g _ h.2⟩
/-- a for over such a zip -/
theorem forM {K : PySem.W.Frag} {ta : TA} {g : TG} {tb : TS} {D : Ends} {σ : L2.St} {H : Hp} (a b : Addr) (xs ys : List V) (ha : H a = some (.tup xs)) (hb : H b = some (.lst ys) ∨ H b = some (.tup ys)) (hta : ∀ R : List V → Hp → Prop, R [.ref a, .ref b] H → ta σ H R)
    (Pv : Nat → L2.St → Hp → Prop) (h0 : Pv 0 σ H) (hG : ∀ i σ H', Pv i σ H' → ∀ c o, H c = some o → H' c = some o)
    (hs : ∀ (i : Nat) (x y : V) (σ : L2.St) (H' : Hp) (T : Addr), xs[i]? = some x → ys[i]? = some y → H' T = none → Pv i σ H' → g (.ref T) σ (upd H' T (.tup [x, y])) fun σ2 H2 => tb { D with nx := Pv (i + 1), ct := Pv (i + 1), bk := D.nx } σ2 H2) (hd : ∀ σ H', Pv (min xs.length ys.length) σ H' → D.nx σ H') : tFor (iZipM K ta) g tb D σ H := by
  refine hta _ ⟨a, b, xs, ys, rfl, SqT.of ha, ?_⟩
  rcases hb with hb | hb
  · refine .inl ⟨SqL.of hb, for_it walkM Pv h0 (fun i σ H' _ pv => ⟨SqT.of (hG _ _ _ pv _ _ ha), SqL.of (hG _ _ _ pv _ _ hb)⟩) (fun i v σ H' H'' hi pv y => ?_) hd⟩
    obtain ⟨T, x, y, rfl, n, rfl, e1, e2⟩ := y
    exact hs i x y σ H' T e1 e2 n pv
  · refine .inr ⟨SqT.of hb, for_it walkT Pv h0 (fun i σ H' _ pv => ⟨SqT.of (hG _ _ _ pv _ _ ha), SqT.of (hG _ _ _ pv _ _ hb)⟩) (fun i v σ H' H'' hi pv y => ?_) hd⟩
    obtain ⟨T, x, y, rfl, n, rfl, e1, e2⟩ := y
    exact hs i x y σ H' T e1 e2 n pv
end ZmY
/-! ### == of two tuples, item by item -/
namespace TqX
open PySem PySem.SeqAt
open MeetsSeq MeetsSeq2 MeetsSeq3 SeqRoads2
section
variable {prog : Program} {w : World} {A : Around} {R : Result → Shared → Prop}
theorem tuple_eqK (l b : Addr) (items items2 : Array Value) (n n2 : Nat) (dd dd2 : Option Addr) (sl sl2 : Array (Option Value)) (I : Nat → Shared → Prop)
    (turn : ∀ i (h1 : i < items.size) (h2 : i < items2.size) s, I i s → wpAny (model prog w) A.in1 (eqBool items[i] items2[i]) (fun r s' => if r = true then I (i + 1) s' else R (.ok (.ret (.bool false))) s') (fun e s' => R (.error e) s') s)
    (fin : ∀ s, I (min items.size items2.size) s → R (.ok (.ret (.bool (items.size == items2.size)))) s) {s : Shared} (hl1 : s.heap.get? l = some { cls := .type "tuple", dict := dd, data := .seq items n, slots := sl }) (hb1 : s.heap.get? b = some { cls := .type "tuple", dict := dd2, data := .seq items2 n2, slots := sl2 }) (h : I 0 s) :
    wpAny (model prog w) A.in1 (Builtin.«tuple.__eq__» ⟨[.ref l, .ref b], []⟩) (GQ.FinOf prog w A R) (fun e s' => R (.error e) s') s := by
  have f2 := AutoSeq1.sub_tuple_tuple
  have hZ : (items.toList.zip items2.toList).length = min items.size items2.size := by simp -dsimp [tSeq, tAsg, tRet, tIfS, tIf, tTest, tVar, tCons, tNil, tC, tOp, tUn, rI, rI0, rU, tCB, tLst_A, tTup_A, gName, L2.start, CMul, CPow, CDiv, tDrop, tBM, tBM0, tNext, tPar, gSub, rSetL, rIxL, rIxT, tChain, tB, tNot, tNotV, tAnd, tOr, tAndV, tOrV, tFld, tCall, rIxLH, rIxTH, atI, ixN, upd_same, cxK, ex2, ex3, ex3b, rIs1, rIs2, rNe2, tyN, kb1, kb2, kb3, kb4, kb5, kb6, rEq, rNe, scal, tMake_S, tMakeK_S, tMakeN_S]
  have h0 := h
  obtain ⟨hp, g, d, tk, os⟩ := s
  wp_walk using AutoSeq1.wpAny_loadPart' hl1, AutoSeq1.wpAny_loadPart' hb1, wpAny_forIn_list _ (fun rest b s' => b.1 = none ∧ ∃ i, rest = (items.toList.zip items2.toList).drop i ∧ i ≤ min items.size items2.size ∧ I i s') _
  case turn =>
    rintro ⟨y, x⟩ rest b s' ⟨hb', i, hz, hi, hI⟩
    have hlt : i < (items.toList.zip items2.toList).length := by
      rcases Nat.lt_or_ge i (items.toList.zip items2.toList).length with h' | h'
      · exact h'
      · rw [List.drop_of_length_le h'] at hz; cases hz
    have h1 : i < items.size := by omega
    have h2 : i < items2.size := by omega
    rw [List.drop_eq_getElem_cons hlt] at hz
    injection hz with hyx hrest
    have hy : y = items[i] := by have := congrArg Prod.fst hyx; simpa using this
    have hx : x = items2[i] := by have := congrArg Prod.snd hyx; simpa using this
    subst hy hx
    refine wpAny_bind (wpAny_mono (turn i h1 h2 s' hI) (fun r s2 q2 => ?_) fun _ _ x => x)
    cases r with
    | true =>
      rw [if_pos rfl] at q2
      wp_walk
      exact ⟨rfl, i + 1, hrest, by omega, q2⟩
    | false =>
      rw [if_neg (by decide)] at q2
      wp_walk
      exact q2
  case fin =>
    rintro ⟨b1, b2⟩ s' ⟨hb', i, hz, hi, hI⟩
    simp only at hb'
    subst hb'
    have hge : min items.size items2.size ≤ i := by
      rcases Nat.lt_or_ge i (items.toList.zip items2.toList).length with h' | h'
      · rw [List.drop_eq_getElem_cons h'] at hz; cases hz
      · omega
    have hi' : i = min items.size items2.size := by omega
    have hR : R (.ok (.ret (.bool (items.size == items2.size)))) s' := fin s' (hi' ▸ hI)
    wp_walk
    simpa [Builtin.Tuple.tupleCompareSizes] using hR
  case h =>
    exact ⟨rfl, 0, rfl, Nat.zero_le _, h0⟩
end
section
variable {prog : Program} {w : World} {A : Around} {E : Value → Shared → Prop} {s : Shared}
theorem rc_tupK {l b : Addr} {items items2 : Array Value} {Q : Value → Shared → Prop} (hu : A.units < cLine) (I : Nat → Shared → Prop)
    (hl : s.heap.IsTuple l items) (hb : s.heap.IsTuple b items2)
    (turn : ∀ i (h1 : i < items.size) (h2 : i < items2.size) s, I i s → wpAny (model prog w) A.in1 (eqBool items[i] items2[i]) (fun r s' => if r = true then I (i + 1) s' else Q (.bool false) s') E s)
    (fin : ∀ s, I (min items.size items2.size) s → Q (.bool (items.size == items2.size)) s) (h : I 0 s) : wpAny (model prog w) A (richCompare .Eq (.ref l) (.ref b)) Q E s := by
  obtain ⟨⟨cls, dd, data, sl⟩, ho, hc, n, hd⟩ := id hl
  obtain ⟨⟨cls2, dd2, data2, sl2⟩, ho2, hc2, n2, hd2⟩ := id hb
  simp only at hc hd hc2 hd2
  subst hc hd hc2 hd2
  refine wpAny_richCompare_same_room (op := .Eq) ⟨_, ho, rfl⟩ ⟨_, ho2, rfl⟩ F.slot_tuple_eq (GQ.call_here F.slot_tuple_eq ⟨_, ho, rfl⟩ F.entry_tuple_eq (F.args_tuple_eq_2 _ _) ?_) hu
  refine tuple_eqK (R := wants (fun v s' => v ≠ .notImplemented ∧ Q v s') E) l b items items2 n n2 dd dd2 sl sl2 I (fun i h1 h2 s' i' => wpAny_mono (turn i h1 h2 s' i') (fun r s2 z => ?_) fun _ _ x => x) (fun s' q => ⟨(fun x => nomatch x), fin s' q⟩) ho ho2 h
  cases r with
  | true => exact z
  | false => exact ⟨(fun x => nomatch x), z⟩
/-- == within a builtin, of two things that are no floats, by their rich comparison -/
theorem eqBool_rc {a b : Value} {Q : Bool → Shared → Prop} (nf : ∀ x t, a ≠ .float x t) (hs : a = b → Q true s) (h : a ≠ b → wpAny (model prog w) A (richCompare .Eq a b) (fun v s' => ∃ r, v = .bool r ∧ Q r s') E s) : wpAny (model prog w) A (eqBool a b) Q E s := by
  unfold eqBool
  refine wpAny_holding ?_
  refine wpAny_ite_split (fun hab => wpAny_bind (wpAny_rule (wpAny_pure (hs (eq_of_beq hab))))) (fun hab => ?_)
  have hne : a ≠ b := fun e => hab (by rw [e]; exact beq_self_eq_true _)
  have hb := h hne
  simp only
  split
  · rename_i x t y u e
    cases e
    exact absurd rfl (nf _ _)
  · exact wpAny_bind (wpAny_mono hb (fun v s' hv => by
      obtain ⟨r, rfl, q⟩ := hv
      exact wpAny_truthy_bool q) fun _ _ x => x)
end
end TqX
/-! ### numbers in lowest terms, not too great -/
/-- all but lists is kept -/
def KeepL (H H' : Hp) : Prop := ∀ b o, H b = some o → (∀ xs, o ≠ .lst xs) → H' b = some o
theorem KeepL.of {H H' : Hp} (h : Same H H') : KeepL H H' := fun b o e _ => h b o e
theorem KeepL.trans {H1 H2 H3 : Hp} (h : KeepL H1 H2) (k : KeepL H2 H3) : KeepL H1 H3 := fun b o e n => k b o (h b o e n) n
theorem KeepL.sameN {l : Addr} {xs : List V} {H H' : Hp} (hl : H l = some (.lst xs)) (s : SameN l H H') : KeepL H H' := fun b o e n => s b o (fun eb => by
  subst eb
  rw [hl] at e
  cases e
  exact n _ rfl) e
theorem IsSh.keepL {K : PySem.W.Frag} {H H' : Hp} {x : Addr} {a b : Int} (h : IsSh K H x a b) (k : KeepL H H') : IsSh K H' x a b := by
  obtain ⟨dx, h⟩ := h
  exact ⟨dx, k _ _ h (fun xs e => by cases e)⟩
theorem IsTm.keepL {K : PySem.W.Frag} {H H' : Hp} {x : Addr} {n t0 t1 t2 : Int × Int} (h : IsTm K H x n t0 t1 t2) (k : KeepL H H') : IsTm K H' x n t0 t1 t2 := by
  obtain ⟨dx, a, tp, a0, a1, a2, h1, h2, h3, h4, h5, h6⟩ := h
  exact ⟨dx, a, tp, a0, a1, a2, k _ _ h1 (fun xs e => by cases e), IsSh.keepL h2 k, k _ _ h3 (fun xs e => by cases e), IsSh.keepL h4 k, IsSh.keepL h5 k, IsSh.keepL h6 k⟩
theorem Nu.keepL {K : PySem.W.Frag} {H H' : Hp} {v : V} {c d : Int} (h : Nu K H v c d) (k : KeepL H H') : Nu K H' v c d := by
  rcases h with ⟨y, e, h⟩ | h
  · exact .inl ⟨y, e, IsSh.keepL h k⟩
  · exact .inr h
theorem dl_pair (k i : Int) : ∃ b : Int, dl k i = (b, 1) ∧ (b = 0 ∨ b = 1) := by
  unfold dl
  split
  · exact ⟨1, rfl, .inr rfl⟩
  · exact ⟨0, rfl, .inl rfl⟩
theorem lo_low' {p : Int × Int} (h : Low p.1 p.2) : lo p.1 p.2 = p := Prod.ext (lo_low h).1 (lo_low h).2
theorem lo_int (a : Int) : lo a 1 = (a, 1) := Prod.ext (one_fd a).1 (one_fd a).2
theorem pAdd_int (a b : Int) : pAdd (a, 1) (b, 1) = (a + b, 1) := by
  show lo (a * 1 + b * 1) (1 * 1) = _
  rw [Int.mul_one, Int.mul_one, Int.mul_one, lo_int]
theorem pMul_int (a b : Int) : pMul (a, 1) (b, 1) = (a * b, 1) := by
  show lo (a * b) (1 * 1) = _
  rw [Int.mul_one, lo_int]
theorem pAdd_zero {p : Int × Int} (h : Low p.1 p.2) : pAdd p (0, 1) = p := by
  show lo (p.1 * 1 + 0 * p.2) (p.2 * 1) = _
  rw [Int.mul_one, Int.mul_one, Int.zero_mul, Int.add_zero, lo_low' h]
/-- a number in lowest terms, not too great -/
structure Gd (n : Nat) (p : Int × Int) : Prop where
  low : Low p.1 p.2
  n1 : p.1.natAbs < 10 ^ n
  n2 : p.2.natAbs < 10 ^ n
theorem Gd.ne {n : Nat} {p : Int × Int} (h : Gd n p) : p.2 ≠ 0 := Int.ne_of_gt h.low.1
theorem h_of400 {n : Nat} (h : n < 10 ^ 400) : n < bigH := Nat.lt_of_lt_of_le h (by unfold bigH; decide +kernel)
theorem p10 {n : Nat} (h : n ≤ 400) {x : Nat} (hx : x < 10 ^ n) : x < bigH := h_of400 (Nat.lt_of_lt_of_le hx (Nat.pow_le_pow_right (by decide) h))
theorem Gd.ok {m n : Nat} {p q : Int × Int} (h : Gd m p) (k : Gd n q) (hm : m ≤ 400 := by decide) (hn : n ≤ 400 := by decide) : Ok2 p q := ⟨⟨p10 hm h.n1, p10 hm h.n2, p10 hn k.n1, p10 hn k.n2⟩, h.ne, k.ne⟩
theorem Gd.int {n : Nat} {a : Int} (h : a.natAbs < 10 ^ (n + 1)) : Gd (n + 1) (a, 1) := ⟨low_one a, h, Nat.lt_of_lt_of_le (by decide : (1 : Nat) < 10 ^ 1) (Nat.pow_le_pow_right (by decide) (by omega))⟩
theorem Gd.dl (k i : Int) : Gd 1 (dl k i) := by
  unfold LW.dl
  split
  · exact ⟨low_one 1, by decide, by decide⟩
  · exact ⟨low_one 0, by decide, by decide⟩
theorem lo_gd {n : Nat} {x y : Int} (hy : y ≠ 0) (h1 : x.natAbs < 10 ^ n) (h2 : y.natAbs < 10 ^ n) : Gd n (lo x y) := by
  obtain ⟨d1, d2, d3⟩ := side_facts x y hy
  exact ⟨low_lo hy, Nat.lt_of_le_of_lt (fdiv_le d1 d3) h1, Nat.lt_of_le_of_lt (fdiv_le d2 d3) h2⟩
theorem mul10 {a b : Int} {m n : Nat} (ha : a.natAbs < 10 ^ m) (hb : b.natAbs < 10 ^ n) : (a * b).natAbs < 10 ^ (m + n) := by
  rw [Int.natAbs_mul, Nat.pow_add]
  exact Nat.mul_lt_mul'' ha hb
theorem Gd.mul {m n : Nat} {p q : Int × Int} (h : Gd m p) (k : Gd n q) : Gd (m + n) (pMul p q) := lo_gd (Int.mul_ne_zero h.ne k.ne) (mul10 h.n1 k.n1) (mul10 h.n2 k.n2)
theorem Gd.add {m n : Nat} {p q : Int × Int} (h : Gd m p) (k : Gd n q) : Gd (m + n + 1) (pAdd p q) := by
  refine lo_gd (Int.mul_ne_zero h.ne k.ne) ?_ (Nat.lt_of_lt_of_le (mul10 h.n2 k.n2) (Nat.pow_le_pow_right (by decide) (by omega)))
  have h1 := mul10 h.n1 k.n2
  have h2 := mul10 k.n1 h.n2
  rw [Nat.add_comm n m] at h2
  have : (p.1 * q.2 + q.1 * p.2).natAbs ≤ (p.1 * q.2).natAbs + (q.1 * p.2).natAbs := Int.natAbs_add_le _ _
  show (p.1 * q.2 + q.1 * p.2).natAbs < 10 ^ (m + n + 1)
  rw [Nat.pow_succ]
  omega
theorem Gd.sub {m n : Nat} {p q : Int × Int} (h : Gd m p) (k : Gd n q) : Gd (m + n + 1) (pSub p q) := by
  refine lo_gd (Int.mul_ne_zero h.ne k.ne) ?_ (Nat.lt_of_lt_of_le (mul10 h.n2 k.n2) (Nat.pow_le_pow_right (by decide) (by omega)))
  have h1 := mul10 h.n1 k.n2
  have h2 := mul10 k.n1 h.n2
  rw [Nat.add_comm n m] at h2
  have : (p.1 * q.2 - q.1 * p.2).natAbs ≤ (p.1 * q.2).natAbs + (q.1 * p.2).natAbs := by
    rw [Int.sub_eq_add_neg]
    refine Nat.le_trans (Int.natAbs_add_le _ _) ?_
    rw [Int.natAbs_neg]
    exact Nat.le_refl _
  show (p.1 * q.2 - q.1 * p.2).natAbs < 10 ^ (m + n + 1)
  rw [Nat.pow_succ]
  omega
theorem Gd.mono {m n : Nat} {p : Int × Int} (h : Gd m p) (k : m ≤ n) : Gd n p := ⟨h.low, Nat.lt_of_lt_of_le h.n1 (Nat.pow_le_pow_right (by decide) k), Nat.lt_of_lt_of_le h.n2 (Nat.pow_le_pow_right (by decide) k)⟩
/-! ### the one form of a row: gcd of the tops over lcm of the bottoms -/
/-- G over L is the greatest number of which all fractions so far are multiples -/
structure Cn (G L : Nat) (f : Nat → Nat) : Prop where
  pos : 0 < L
  co : Nat.gcd G L = 1
  eq : ∀ M, L ∣ M → f M = G * (M / L)
theorem Cn.zero : Cn 0 1 (fun _ => 0) := ⟨by decide, by decide, fun M _ => by rw [Nat.zero_mul]⟩
theorem co_of_dvd {a b c d : Nat} (h : Nat.gcd a b = 1) (hc : c ∣ a) (hd : d ∣ b) : Nat.gcd c d = 1 := by
  have : Nat.gcd c d ∣ Nat.gcd a b := Nat.dvd_gcd (Nat.dvd_trans (Nat.gcd_dvd_left c d) hc) (Nat.dvd_trans (Nat.gcd_dvd_right c d) hd)
  rw [h] at this
  exact Nat.dvd_one.mp this
theorem Cn.step {G L A b : Nat} {f : Nat → Nat} (h : Cn G L f) (hb : 0 < b) (hab : Nat.gcd A b = 1) : Cn (Nat.gcd G A) (L * b / Nat.gcd L b) (fun M => Nat.gcd (f M) (A * (M / b))) := by
  have hL := h.pos
  have hg : 0 < Nat.gcd L b := Nat.gcd_pos_of_pos_left b hL
  obtain ⟨L1, e1⟩ := Nat.gcd_dvd_left L b
  obtain ⟨b1, e2⟩ := Nat.gcd_dvd_right L b
  have co1 : Nat.gcd L1 b1 = 1 := by
    have e : Nat.gcd L b = Nat.gcd L b * Nat.gcd L1 b1 := by
      have := Nat.gcd_mul_left (Nat.gcd L b) L1 b1
      rw [← e1, ← e2] at this
      exact this
    exact Nat.eq_of_mul_eq_mul_left hg (by rw [Nat.mul_one]; exact e.symm)
  have eL : L * b / Nat.gcd L b = L * b1 := by
    have : L * b = Nat.gcd L b * (L * b1) := by
      calc L * b = L * (Nat.gcd L b * b1) := by rw [← e2]
        _ = Nat.gcd L b * (L * b1) := by rw [Nat.mul_left_comm]
    rw [this, Nat.mul_div_cancel_left _ hg]
  have b1p : 0 < b1 := Nat.pos_of_ne_zero fun e => by rw [e, Nat.mul_zero] at e2; omega
  have L1p : 0 < L1 := Nat.pos_of_ne_zero fun e => by rw [e, Nat.mul_zero] at e1; omega
  have dL1 : L1 ∣ L := ⟨Nat.gcd L b, by rw [Nat.mul_comm]; exact e1⟩
  have db1 : b1 ∣ b := ⟨Nat.gcd L b, by rw [Nat.mul_comm]; exact e2⟩
  have c1 : Nat.gcd G L1 = 1 := co_of_dvd h.co (Nat.dvd_refl G) dL1
  have c2 : Nat.gcd A b1 = 1 := co_of_dvd hab (Nat.dvd_refl A) db1
  refine ⟨?_, ?_, fun M hM => ?_⟩
  · rw [eL]
    exact Nat.mul_pos hL b1p
  · rw [eL]
    have d1 : Nat.Coprime (Nat.gcd G A) L := co_of_dvd h.co (Nat.gcd_dvd_left G A) (Nat.dvd_refl L)
    have d2 : Nat.Coprime (Nat.gcd G A) b1 := co_of_dvd c2 (Nat.gcd_dvd_right G A) (Nat.dvd_refl b1)
    exact Nat.Coprime.mul_right d1 d2
  · rw [eL] at hM ⊢
    obtain ⟨s, rfl⟩ := hM
    have m1 : L * b1 * s / L = b1 * s := by rw [Nat.mul_assoc, Nat.mul_div_cancel_left _ hL]
    have m2 : L * b1 * s / b = L1 * s := by
      have : L * b1 * s = b * (L1 * s) := by
        calc L * b1 * s = Nat.gcd L b * L1 * b1 * s := by rw [← e1]
          _ = Nat.gcd L b * b1 * (L1 * s) := by rw [Nat.mul_assoc (Nat.gcd L b), Nat.mul_comm L1 b1, ← Nat.mul_assoc (Nat.gcd L b), Nat.mul_assoc]
          _ = b * (L1 * s) := by rw [← e2]
      rw [this, Nat.mul_div_cancel_left _ hb]
    have m3 : L * b1 * s / (L * b1) = s := Nat.mul_div_cancel_left _ (Nat.mul_pos hL b1p)
    show Nat.gcd (f (L * b1 * s)) (A * (L * b1 * s / b)) = Nat.gcd G A * (L * b1 * s / (L * b1))
    rw [h.eq _ ⟨b1 * s, Nat.mul_assoc L b1 s⟩, m1, m2, m3, ← Nat.mul_assoc, ← Nat.mul_assoc, Nat.gcd_mul_right]
    congr 1
    have x1 : Nat.Coprime L1 (G * b1) := Nat.Coprime.mul_right (Nat.Coprime.symm c1) co1
    have x2 : Nat.Coprime b1 A := Nat.Coprime.symm c2
    rw [Nat.Coprime.gcd_mul_right_cancel_right A x1, Nat.Coprime.gcd_mul_right_cancel G x2]
/-! ### scale -/
def stpN (g : Nat × Nat) (p : Int × Int) : Nat × Nat := (Nat.gcd g.1 p.1.natAbs, g.2 * p.2.natAbs / Nat.gcd g.2 p.2.natAbs)
def glN (p0 p1 p2 p3 : Int × Int) (j : Nat) : Nat × Nat := match j with
  | 0 => (0, 1)
  | 1 => stpN (0, 1) p0
  | 2 => stpN (stpN (0, 1) p0) p1
  | 3 => stpN (stpN (stpN (0, 1) p0) p1) p2
  | _ => stpN (stpN (stpN (stpN (0, 1) p0) p1) p2) p3
/-- what a row's term is multiplied by -/
def scl (p0 p1 p2 p3 : Int × Int) : Int × Int := if (glN p0 p1 p2 p3 4).1 = 0 then (1, 1) else lo (glN p0 p1 p2 p3 4).2 (glN p0 p1 p2 p3 4).1
def nth4 (p0 p1 p2 p3 : Int × Int) (j : Nat) : Int × Int := match j with
  | 0 => p0
  | 1 => p1
  | 2 => p2
  | _ => p3
theorem glN_succ {p0 p1 p2 p3 : Int × Int} {j : Nat} (h : j < 4) : glN p0 p1 p2 p3 (j + 1) = stpN (glN p0 p1 p2 p3 j) (nth4 p0 p1 p2 p3 j) := by
  match j, h with
  | 0, _ => rfl
  | 1, _ => rfl
  | 2, _ => rfl
  | 3, _ => rfl
theorem stpN_pos {g : Nat × Nat} {p : Int × Int} (hg : 0 < g.2) (hp : 0 < p.2) : 0 < (stpN g p).2 := Nat.div_pos (Nat.le_of_dvd (Nat.mul_pos hg (by omega)) (Nat.dvd_trans (Nat.gcd_dvd_left _ _) ⟨_, rfl⟩)) (Nat.gcd_pos_of_pos_left _ hg)
theorem gl_facts {n : Nat} {p0 p1 p2 p3 : Int × Int} (h0 : Gd n p0) (h1 : Gd n p1) (h2 : Gd n p2) (h3 : Gd n p3) : ∀ j, j ≤ 4 → 0 < (glN p0 p1 p2 p3 j).2 ∧ (glN p0 p1 p2 p3 j).2 < 10 ^ (n * j + 1) ∧ (glN p0 p1 p2 p3 j).1 < 10 ^ (n + 1) := by
  have all : ∀ j, Gd n (nth4 p0 p1 p2 p3 j) := fun j => by
    match j with
    | 0 => exact h0
    | 1 => exact h1
    | 2 => exact h2
    | j + 3 => exact h3
  intro j
  induction j with
  | zero => exact fun _ => ⟨(by show 0 < 1; decide), Nat.lt_of_lt_of_le (by decide : 1 < 10 ^ 1) (Nat.pow_le_pow_right (by decide) (by omega)), Nat.pow_pos (by decide)⟩
  | succ j ih =>
    intro hj
    obtain ⟨i1, i2, i3⟩ := ih (by omega)
    have g := all j
    rw [glN_succ (by omega)]
    refine ⟨stpN_pos i1 g.low.1, ?_, ?_⟩
    · have : (stpN (glN p0 p1 p2 p3 j) (nth4 p0 p1 p2 p3 j)).2 ≤ (glN p0 p1 p2 p3 j).2 * (nth4 p0 p1 p2 p3 j).2.natAbs := Nat.div_le_self _ _
      refine Nat.lt_of_le_of_lt this ?_
      have e : n * (j + 1) + 1 = (n * j + 1) + n := by rw [Nat.mul_succ]; omega
      rw [e, Nat.pow_add]
      exact Nat.mul_lt_mul'' i2 g.n2
    · show Nat.gcd (glN p0 p1 p2 p3 j).1 (nth4 p0 p1 p2 p3 j).1.natAbs < 10 ^ (n + 1)
      by_cases hz : (nth4 p0 p1 p2 p3 j).1.natAbs = 0
      · rw [hz, Nat.gcd_zero_right]
        exact i3
      · exact Nat.lt_of_le_of_lt (Nat.gcd_le_right _ (by omega)) (Nat.lt_of_lt_of_le g.n1 (Nat.pow_le_pow_right (by decide) (by omega)))
theorem scl_gd {n : Nat} {p0 p1 p2 p3 : Int × Int} (h0 : Gd n p0) (h1 : Gd n p1) (h2 : Gd n p2) (h3 : Gd n p3) : Gd (n * 4 + 1) (scl p0 p1 p2 p3) := by
  obtain ⟨i1, i2, i3⟩ := gl_facts h0 h1 h2 h3 4 (by decide)
  unfold scl
  split
  · exact Gd.int (Nat.lt_of_lt_of_le (by decide : 1 < 10 ^ 1) (Nat.pow_le_pow_right (by decide) (by omega)))
  · exact lo_gd (by omega) (by rw [Int.natAbs_natCast]; exact i2) (Nat.lt_of_lt_of_le (show (glN p0 p1 p2 p3 4).1 < 10 ^ (n + 1) from i3) (Nat.pow_le_pow_right (by decide) (by omega)))
section
variable {P : Program} {w : World} {K : PySem.W.Frag} {mg : Str → Option Value} {base : Heap} {fd : FuncData}
def spScale (K : PySem.W.Frag) : Sp := fun vs H Q _ => ∃ (x : Addr) (p0 p1 p2 p3 : Int × Int) (n : Nat), vs = [.ref x] ∧ IsTm K H x p0 p1 p2 p3 ∧ Gd n p0 ∧ Gd n p1 ∧ Gd n p2 ∧ Gd n p3 ∧ n ≤ 60 ∧ ∀ z H', Same H H' → IsS K H' z (scl p0 p1 p2 p3) → Q (.ref z) H'
theorem scScale : FnScope ["term", "top", "bottom", "share"] ["term"] d_scale.scope := ⟨rfl, rfl, rfl, by decide +kernel, rfl, by decide +kernel, by decide +kernel⟩
theorem ok_scale (W : Wd K mg) : ∃ fd, FnOk P w K mg base CX0 4 (He.ga K "scale") fd ["term"] (spScale K) ∧ Binds K fd ["term"] [] := by
  obtain ⟨fd_init, G_init, F_init⟩ := ok_init (P := P) (w := w) (base := base) W
  obtain ⟨ds_init1, v_init1, b_init1⟩ := bind2 F_init
  obtain ⟨fd_divisor, G_divisor, b_divisor⟩ := ok_divisor (P := P) (w := w) (base := base) W
  have k_divisor : PySem.W.keepIn K (.ref (He.ga K "divisor")) = true := by obtain ⟨fd, F⟩ := W.F_divisor; exact F.kp
  obtain ⟨fd, F⟩ := W.F_scale
  refine ⟨fd, F.ok scScale (fun vs H Q E h => ?_) (fun cdv A outer s H vs Q E hr h => ?_), FunD.bindsN F fun _ _ _ _ _ _ us hl => match us, hl with | [_], _ => rfl⟩
  · obtain ⟨x, _, _, _, _, _, rfl, _⟩ := h
    rfl
  · obtain ⟨x, p0, p1, p2, p3, n, rfl, hx, g0, g1, g2, g3, hn, q⟩ := h
    have r1 : Room 1 _ := hr.mono (by decide)
    have r2 : Room 2 _ := hr.mono (by decide)
    have r3 : Room 3 _ := hr.mono (by decide)
    refine ⟨_, PSs.nox (pss_cons (ps_set (i := 1) scScale.nd rfl (Or.inl rfl) pe_int)
    (pss_cons (ps_set (i := 2) scScale.nd rfl (Or.inl rfl) pe_int)
    (pss_cons (ps_for PassesOwn.never rfl (pi_list (pe_lst (pa_cons (pe_fld (pv 0) rfl) (_root_.StX.pa_star (pe_fld (pv 0) rfl) pa_nil)))) (pg_name (i := 3) scScale.nd rfl (Or.inl rfl)) (pss_cons (ps_set (i := 1) scScale.nd rfl (Or.inl rfl) (pe_call G_divisor r1 rfl W.g_divisor k_divisor b_divisor .nil pass0 (pa_cons (pv 1) (pa_cons (pe_fld (pv 3) rfl) pa_nil))))
    (pss_one (ps_set (i := 2) scScale.nd rfl (Or.inl rfl) (pe_op op_fdivX (pe_op op_mulX9 (pv 2) (pe_fld (pv 3) rfl)) (pe_call G_divisor r1 rfl W.g_divisor k_divisor b_divisor .nil pass0 (pa_cons (pv 2) (pa_cons (pe_fld (pv 3) rfl) pa_nil))))))))
    (pss_cons (ps_if (pt_cmpR op_eq (pv 1) pe_int (nomark _)) (pss_one (ps_ret (pe_make W.mkr_Share G_init r3 rfl W.g_Share b_init1 v_init1 pass0 (pa_cons pe_int pa_nil)))) pss_nil)
    (pss_one (ps_ret (pe_make W.mkr_Share G_init r3 rfl W.g_Share (bind3 F_init) .nil pass0 (pa_cons (pv 2) (pa_cons (pv 1) pa_nil))))))))), ?_⟩
    obtain ⟨dx, a, tp, a0, a1, a2, e1, e2, e3, e4, e5, e6⟩ := id hx
    simp -dsimp [tSeq, tAsg, tRet, tIfS, tIf, tTest, tVar, tCons, tNil, tC, tOp, tUn, rI, rI0, rU, tCB, tLst_A, tTup_A, gName, L2.start, CMul, CPow, CDiv, tDrop, tBM, tBM0, tNext, tPar, gSub, rSetL, rIxL, rIxT, tChain, tB, tNot, tNotV, tAnd, tOr, tAndV, tOrV, tFld, tCall, rIxLH, rIxTH, atI, ixN, upd_same, cxK, ex2, ex3, ex3b, rIs1, rIs2, rNe2, tyN, kb1, kb2, kb3, kb4, kb5, kb6, rEq, rNe, scal, tMake_S, tMakeK_S, tMakeN_S, tFor_iL]
    refine ⟨_, dx, _, e1, W.cls_Term, W.n_Term_number, _, rfl, ?_⟩
    refine ⟨_, rfl, x, _, dx, _, _, rfl, e1, W.cls_Term, W.n_Term_times, rfl, tp, [.ref a0, .ref a1, .ref a2], rfl, .inl (SqT.of e3), ?_⟩
    refine ⟨by show 4 ≤ sizeLine; decide, Alloc.of fun pl H1 n1 el s1 => ⟨pl, rfl, ⟨_, SqL.of el⟩, ?_⟩⟩
    have sh : ∀ (j : Nat) (y : V), [V.ref a, V.ref a0, V.ref a1, V.ref a2][j]? = some y → j < 4 ∧ ∃ z, y = .ref z ∧ IsS K H1 z (nth4 p0 p1 p2 p3 j) := by
      intro j y hj
      match j, hj with
      | 0, hj => cases hj; exact ⟨by decide, a, rfl, e2.same s1⟩
      | 1, hj => cases hj; exact ⟨by decide, a0, rfl, e4.same s1⟩
      | 2, hj => cases hj; exact ⟨by decide, a1, rfl, e5.same s1⟩
      | 3, hj => cases hj; exact ⟨by decide, a2, rfl, e6.same s1⟩
    have gn : ∀ j, Gd n (nth4 p0 p1 p2 p3 j) := fun j => by
      match j with
      | 0 => exact g0
      | 1 => exact g1
      | 2 => exact g2
      | j + 3 => exact g3
    unfold ForW
    refine for_list (K := K) (a := pl) (xs := _) (fun j σ' H' => ∃ v3 : Option V, σ' = [some (.ref x), some (.int ((glN p0 p1 p2 p3 j).1 : Int)), some (.int ((glN p0 p1 p2 p3 j).2 : Int)), v3] ∧ Same H1 H') ⟨none, rfl, Same.refl _⟩ (fun j σ' H' _ ⟨_, _, s⟩ => SqL.of (s _ _ el)) ?_ ?_
    · rintro j y σ' H2 hj ⟨v3, rfl, s2⟩
      obtain ⟨hj4, z, rfl, iz⟩ := sh j y hj
      obtain ⟨i1, i2, i3⟩ := gl_facts g0 g1 g2 g3 j (by omega)
      obtain ⟨dz, hz⟩ := iz.same s2
      have gj := gn j
      rw [glN_succ hj4]
      have bL : (glN p0 p1 p2 p3 j).2 < bigH := p10 (n := n * j + 1) (by
        have := Nat.mul_le_mul hn (show j ≤ 4 by omega)
        omega) i2
      have bb : (nth4 p0 p1 p2 p3 j).2.natAbs < bigH := p10 (n := n) (by omega) gj.n2
      have eb : (nth4 p0 p1 p2 p3 j).2 = (((nth4 p0 p1 p2 p3 j).2.natAbs : Nat) : Int) := by have := gj.low.1; omega
      have e2' : ((((glN p0 p1 p2 p3 j).2 : Nat) : Int) * (nth4 p0 p1 p2 p3 j).2).fdiv ((Int.gcd (((glN p0 p1 p2 p3 j).2 : Nat) : Int) (nth4 p0 p1 p2 p3 j).2 : Nat) : Int) = (((stpN (glN p0 p1 p2 p3 j) (nth4 p0 p1 p2 p3 j)).2 : Nat) : Int) := by
        have e : (((glN p0 p1 p2 p3 j).2 : Nat) : Int) * (nth4 p0 p1 p2 p3 j).2 = (((glN p0 p1 p2 p3 j).2 * (nth4 p0 p1 p2 p3 j).2.natAbs : Nat) : Int) := by
          rw [Int.natCast_mul, ← eb]
        rw [e, ← Int.ofNat_fdiv]
        rfl
      have gp : 0 < Int.gcd (((glN p0 p1 p2 p3 j).2 : Nat) : Int) (nth4 p0 p1 p2 p3 j).2 := Nat.gcd_pos_of_pos_left _ i1
      have gb : Int.gcd (((glN p0 p1 p2 p3 j).2 : Nat) : Int) (nth4 p0 p1 p2 p3 j).2 < big9 := Nat.lt_of_le_of_lt (Nat.gcd_le_left _ i1) (Nat.lt_of_lt_of_le bL (by unfold bigH big9; exact Nat.pow_le_pow_right (by decide) (by decide)))
      simp -dsimp [tSeq, tAsg, tRet, tIfS, tIf, tTest, tVar, tCons, tNil, tC, tOp, tUn, rI, rI0, rU, tCB, tLst_A, tTup_A, gName, L2.start, CMul, CPow, CDiv, tDrop, tBM, tBM0, tNext, tPar, gSub, rSetL, rIxL, rIxT, tChain, tB, tNot, tNotV, tAnd, tOr, tAndV, tOrV, tFld, tCall, rIxLH, rIxTH, atI, ixN, upd_same, cxK, ex2, ex3, ex3b, rIs1, rIs2, rNe2, tyN, kb1, kb2, kb3, kb4, kb5, kb6, rEq, rNe, scal, tMake_S, tMakeK_S, tMakeN_S, hz, shareO, W.cls_Share, W.n_Share_top, W.n_Share_bottom, look_top, look_bot]
      exact ⟨_, _, rfl, _, dz, _, hz, W.cls_Share, W.n_Share_bottom, _, rfl, _, rfl, ⟨h_lt_M bL, h_lt_M bb⟩, _, dz, _, hz, W.cls_Share, W.n_Share_bottom, _, rfl, _, _, rfl, _, rfl, ⟨by omega, gb⟩, ⟨rfl, e2'⟩, s2⟩
    · rintro σ' H2 ⟨v3, rfl, s2⟩
      have s12 := s1.trans s2
      obtain ⟨i1, i2, i3⟩ := gl_facts g0 g1 g2 g3 4 (by decide)
      have e4 : (V.ref a :: ([V.ref a0, V.ref a1, V.ref a2] ++ [])).length = 4 := rfl
      rw [e4]
      simp -dsimp [tSeq, tAsg, tRet, tIfS, tIf, tTest, tVar, tCons, tNil, tC, tOp, tUn, rI, rI0, rU, tCB, tLst_A, tTup_A, gName, L2.start, CMul, CPow, CDiv, tDrop, tBM, tBM0, tNext, tPar, gSub, rSetL, rIxL, rIxT, tChain, tB, tNot, tNotV, tAnd, tOr, tAndV, tOrV, tFld, tCall, rIxLH, rIxTH, atI, ixN, upd_same, cxK, ex2, ex3, ex3b, rIs1, rIs2, rNe2, tyN, kb1, kb2, kb3, kb4, kb5, kb6, rEq, rNe, scal, tMake_S, tMakeK_S, tMakeN_S]
      by_cases hG : (glN p0 p1 p2 p3 4).1 = 0
      · rw [if_pos hG]
        refine MkS.one fun z H3 n3 s3 i3 => q z H3 (s12.trans s3) ?_
        unfold scl
        rw [if_pos hG]
        exact i3
      · rw [if_neg hG]
        refine MkS.of rfl (by omega) (by rw [Int.natAbs_natCast]; exact Nat.lt_of_lt_of_le (p10 (n := n + 1) (by omega) i3) (by unfold bigH big9; exact Nat.pow_le_pow_right (by decide) (by decide))) fun z H3 n3 i3 s3 => q z H3 (s12.trans s3) ?_
        unfold scl
        rw [if_neg hG]
        exact i3
end
/-! ### a row's numbers are those of lowest integers -/
def g4 (g0 g1 g2 g3 : Int) : Nat := Nat.gcd (Nat.gcd (Nat.gcd (Nat.gcd 0 g0.natAbs) g1.natAbs) g2.natAbs) g3.natAbs
def pr (c : Nat) (g : Int) : Int := if c = 0 then 0 else g.fdiv c
theorem dvd_lcm_l {L b : Nat} : L ∣ L * b / Nat.gcd L b := by
  obtain ⟨b1, e⟩ := Nat.gcd_dvd_right L b
  rw [Nat.mul_div_assoc _ (Nat.gcd_dvd_right L b)]
  exact ⟨_, rfl⟩
theorem dvd_lcm_r {L b : Nat} : b ∣ L * b / Nat.gcd L b := by
  rw [Nat.mul_comm, Nat.mul_div_assoc _ (Nat.gcd_dvd_left L b)]
  exact ⟨_, rfl⟩
theorem stpN_cn {g : Nat × Nat} {p : Int × Int} {f : Nat → Nat} (h : Cn g.1 g.2 f) (hp : Low p.1 p.2) : Cn (stpN g p).1 (stpN g p).2 (fun M => Nat.gcd (f M) (p.1.natAbs * (M / p.2.natAbs))) := by
  have := hp.1
  exact h.step (by omega) hp.2
theorem gcd4_mul {a b c d k : Nat} : Nat.gcd (Nat.gcd (Nat.gcd (Nat.gcd 0 (a * k)) (b * k)) (c * k)) (d * k) = Nat.gcd (Nat.gcd (Nat.gcd (Nat.gcd 0 a) b) c) d * k := by
  rw [Nat.gcd_zero_left, Nat.gcd_zero_left, Nat.gcd_mul_right, Nat.gcd_mul_right, Nat.gcd_mul_right]
theorem lowOne {p : Int × Int} (h : Low p.1 p.2) (hz : p.1 = 0) : p = (0, 1) := by
  obtain ⟨a, b⟩ := p
  have hz' : a = 0 := hz
  subst hz'
  have h2 : Int.gcd 0 b = 1 := h.2
  have h1 : 0 < b := h.1
  rw [Int.zero_gcd] at h2
  have : b = 1 := by omega
  rw [this]
theorem rowForm {p0 p1 p2 p3 : Int × Int} {g0 g1 g2 g3 D : Int} (l0 : Low p0.1 p0.2) (l1 : Low p1.1 p1.2) (l2 : Low p2.1 p2.2) (l3 : Low p3.1 p3.2) (hD : 0 < D) (e0 : p0.1 * D = g0 * p0.2) (e1 : p1.1 * D = g1 * p1.2) (e2 : p2.1 * D = g2 * p2.2) (e3 : p3.1 * D = g3 * p3.2) :
    pMul p0 (scl p0 p1 p2 p3) = (pr (g4 g0 g1 g2 g3) g0, 1) ∧ pMul p1 (scl p0 p1 p2 p3) = (pr (g4 g0 g1 g2 g3) g1, 1) ∧ pMul p2 (scl p0 p1 p2 p3) = (pr (g4 g0 g1 g2 g3) g2, 1) ∧ pMul p3 (scl p0 p1 p2 p3) = (pr (g4 g0 g1 g2 g3) g3, 1) := by
  have C := stpN_cn (stpN_cn (stpN_cn (stpN_cn (g := (0, 1)) Cn.zero l0) l1) l2) l3
  have eg : stpN (stpN (stpN (stpN (0, 1) p0) p1) p2) p3 = glN p0 p1 p2 p3 4 := rfl
  rw [eg] at C
  have b0 : p0.2.natAbs ∣ (glN p0 p1 p2 p3 4).2 := Nat.dvd_trans (Nat.dvd_trans (Nat.dvd_trans (dvd_lcm_r (L := 1)) dvd_lcm_l) dvd_lcm_l) dvd_lcm_l
  have b1 : p1.2.natAbs ∣ (glN p0 p1 p2 p3 4).2 := Nat.dvd_trans (Nat.dvd_trans dvd_lcm_r dvd_lcm_l) dvd_lcm_l
  have b2 : p2.2.natAbs ∣ (glN p0 p1 p2 p3 4).2 := Nat.dvd_trans dvd_lcm_r dvd_lcm_l
  have b3 : p3.2.natAbs ∣ (glN p0 p1 p2 p3 4).2 := dvd_lcm_r
  generalize hq : scl p0 p1 p2 p3 = q
  unfold scl at hq
  generalize (glN p0 p1 p2 p3 4).1 = G at C hq
  generalize (glN p0 p1 p2 p3 4).2 = L at C hq b0 b1 b2 b3
  have hL := C.pos
  have fL := C.eq L (Nat.dvd_refl L)
  rw [Nat.div_self hL, Nat.mul_one] at fL
  have nat : ∀ {p : Int × Int} {g : Int}, Low p.1 p.2 → p.1 * D = g * p.2 → p.2.natAbs ∣ L → p.1.natAbs * (L / p.2.natAbs) * D.natAbs = g.natAbs * L := by
    intro p g lp e hb
    have e' : p.1.natAbs * D.natAbs = g.natAbs * p.2.natAbs := by rw [← Int.natAbs_mul, ← Int.natAbs_mul, e]
    obtain ⟨k, rfl⟩ := hb
    have hp : 0 < p.2.natAbs := by have := lp.1; omega
    rw [Nat.mul_div_cancel_left _ hp]
    calc p.1.natAbs * k * D.natAbs = p.1.natAbs * D.natAbs * k := by rw [Nat.mul_right_comm]
      _ = g.natAbs * p.2.natAbs * k := by rw [e']
      _ = g.natAbs * (p.2.natAbs * k) := by rw [Nat.mul_assoc]
  have key : G * D.natAbs = g4 g0 g1 g2 g3 * L := by
    unfold g4
    rw [← fL, ← gcd4_mul, ← gcd4_mul, nat l0 e0 b0, nat l1 e1 b1, nat l2 e2 b2, nat l3 e3 b3]
  have dn : D.natAbs ≠ 0 := by omega
  by_cases hG : G = 0
  · rw [hG, Nat.zero_mul] at key
    have c0 : g4 g0 g1 g2 g3 = 0 := by
      rcases Nat.mul_eq_zero.mp key.symm with h | h
      · exact h
      · omega
    rw [if_pos hG] at hq
    subst hq
    have z : g0.natAbs = 0 ∧ g1.natAbs = 0 ∧ g2.natAbs = 0 ∧ g3.natAbs = 0 := by
      unfold g4 at c0
      have a3 := Nat.eq_zero_of_gcd_eq_zero_right c0
      have c1 := Nat.eq_zero_of_gcd_eq_zero_left c0
      have a2 := Nat.eq_zero_of_gcd_eq_zero_right c1
      have c2 := Nat.eq_zero_of_gcd_eq_zero_left c1
      have a1 := Nat.eq_zero_of_gcd_eq_zero_right c2
      have c3 := Nat.eq_zero_of_gcd_eq_zero_left c2
      have a0 := Nat.eq_zero_of_gcd_eq_zero_right c3
      exact ⟨a0, a1, a2, a3⟩
    have one : ∀ {p : Int × Int} {g : Int}, Low p.1 p.2 → p.1 * D = g * p.2 → g.natAbs = 0 → pMul p (1, 1) = (pr (g4 g0 g1 g2 g3) g, 1) := by
      intro p g lp e hz
      have g0' : g = 0 := by omega
      rw [g0', Int.zero_mul] at e
      have p0' : p.1 = 0 := by
        rcases Int.mul_eq_zero.mp e with h | h
        · exact h
        · omega
      rw [lowOne lp p0']
      unfold pr
      rw [if_pos c0]
      exact pMul_int 0 1
    exact ⟨one l0 e0 z.1, one l1 e1 z.2.1, one l2 e2 z.2.2.1, one l3 e3 z.2.2.2⟩
  · rw [if_neg hG] at hq
    have cn : g4 g0 g1 g2 g3 ≠ 0 := fun e => by
      rw [e, Nat.zero_mul] at key
      rcases Nat.mul_eq_zero.mp key with h | h
      · exact hG h
      · exact dn h
    have d : g4 g0 g1 g2 g3 ∣ g0.natAbs ∧ g4 g0 g1 g2 g3 ∣ g1.natAbs ∧ g4 g0 g1 g2 g3 ∣ g2.natAbs ∧ g4 g0 g1 g2 g3 ∣ g3.natAbs := by
      unfold g4
      refine ⟨?_, ?_, ?_, Nat.gcd_dvd_right _ _⟩
      · exact Nat.dvd_trans (Nat.gcd_dvd_left _ _) (Nat.dvd_trans (Nat.gcd_dvd_left _ _) (Nat.dvd_trans (Nat.gcd_dvd_left _ _) (Nat.gcd_dvd_right _ _)))
      · exact Nat.dvd_trans (Nat.gcd_dvd_left _ _) (Nat.dvd_trans (Nat.gcd_dvd_left _ _) (Nat.gcd_dvd_right _ _))
      · exact Nat.dvd_trans (Nat.gcd_dvd_left _ _) (Nat.gcd_dvd_right _ _)
    generalize g4 g0 g1 g2 g3 = c at key cn d
    have hGi : (G : Int) ≠ 0 := by omega
    have cr := lo_cross (x := (L : Int)) (y := (G : Int)) hGi
    have lq := low_lo (x := (L : Int)) (y := (G : Int)) hGi
    have hq1 : q.1 * (G : Int) = (L : Int) * q.2 := by rw [← hq]; exact cr
    have hq2 : q.2 ≠ 0 := by rw [← hq]; exact Int.ne_of_gt lq.1
    have keyI : (G : Int) * D = (c : Int) * (L : Int) := by
      have : ((G * D.natAbs : Nat) : Int) = ((c * L : Nat) : Int) := by rw [key]
      rw [Int.natCast_mul, Int.natCast_mul] at this
      rw [← this]
      congr 1
      omega
    have one : ∀ {p : Int × Int} {g : Int}, Low p.1 p.2 → p.1 * D = g * p.2 → c ∣ g.natAbs → pMul p q = (pr c g, 1) := by
      intro p g lp e hd
      have hdI : (c : Int) ∣ g := Int.ofNat_dvd_left.mpr hd
      obtain ⟨n, rfl⟩ := hdI
      have ci : (c : Int) ≠ 0 := by omega
      have epr : pr c ((c : Int) * n) = n := by
        unfold pr
        rw [if_neg cn, Int.fdiv_eq_ediv_of_dvd ⟨n, rfl⟩, Int.mul_ediv_cancel_left _ ci]
      rw [epr]
      have hy : p.2 * q.2 ≠ 0 := Int.mul_ne_zero (Int.ne_of_gt lp.1) hq2
      have fin : p.1 * q.1 * 1 = n * (p.2 * q.2) := by
        have hGD : (G : Int) * D ≠ 0 := Int.mul_ne_zero hGi (by omega)
        refine Int.eq_of_mul_eq_mul_right hGD ?_
        grind
      have := lo_eq hy (low_one n) fin
      exact Prod.ext this.1 this.2
    exact ⟨one l0 e0 d.1, one l1 e1 d.2.1, one l2 e2 d.2.2.1, one l3 e3 d.2.2.2⟩
/-! ### rows -/
def rowO (C dx : Addr) (t s : V) : HO := .ins C dx [("term", t), ("strict", s)]
/-- a row: whether it is strict, its term -/
def IsRow (K : PySem.W.Frag) (H : Hp) (z : Addr) (st : Bool) (m t0 t1 t2 : Int × Int) : Prop := ∃ dx tz, H z = some (rowO (He.ga K "Row") dx (.ref tz) (.bl st)) ∧ IsTm K H tz m t0 t1 t2
theorem IsRow.same {K : PySem.W.Frag} {H H' : Hp} {z : Addr} {st : Bool} {m t0 t1 t2 : Int × Int} (h : IsRow K H z st m t0 t1 t2) (s : Same H H') : IsRow K H' z st m t0 t1 t2 := by
  obtain ⟨dx, tz, h1, h2⟩ := h
  exact ⟨dx, tz, s _ _ h1, h2.same s⟩
/-- the row that says that a term is above 0 -/
def IsRw (K : PySem.W.Frag) (H : Hp) (z : Addr) (st : Bool) (q0 q1 q2 q3 : Int × Int) : Prop := IsRow K H z st (pMul q0 (scl q0 q1 q2 q3)) (pMul q1 (scl q0 q1 q2 q3)) (pMul q2 (scl q0 q1 q2 q3)) (pMul q3 (scl q0 q1 q2 q3))
/-- all but new objects without fields is kept -/
def KeepE (H H' : Hp) : Prop := ∀ b o, H b = some o → (∀ C dx, o ≠ .ins C dx []) → H' b = some o
theorem IsSh.keepE {K : PySem.W.Frag} {H H' : Hp} {x : Addr} {a b : Int} (h : IsSh K H x a b) (k : KeepE H H') : IsSh K H' x a b := by
  obtain ⟨dx, h⟩ := h
  exact ⟨dx, k _ _ h (fun C d e => by cases e)⟩
theorem IsTm.keepE {K : PySem.W.Frag} {H H' : Hp} {x : Addr} {n t0 t1 t2 : Int × Int} (h : IsTm K H x n t0 t1 t2) (k : KeepE H H') : IsTm K H' x n t0 t1 t2 := by
  obtain ⟨dx, a, tp, a0, a1, a2, h1, h2, h3, h4, h5, h6⟩ := h
  exact ⟨dx, a, tp, a0, a1, a2, k _ _ h1 (fun C d e => by cases e), IsSh.keepE h2 k, k _ _ h3 (fun C d e => by cases e), IsSh.keepE h4 k, IsSh.keepE h5 k, IsSh.keepE h6 k⟩
section
variable {P : Program} {w : World} {K : PySem.W.Frag} {mg : Str → Option Value} {base : Heap} {fd : FuncData}
def spRInit (K : PySem.W.Frag) : Sp := fun vs H Q _ => ∃ (z dx x : Addr) (st : Bool) (p0 p1 p2 p3 : Int × Int) (n : Nat), vs = [.ref z, .ref x, .bl st] ∧ H z = some (.ins (He.ga K "Row") dx []) ∧ IsTm K H x p0 p1 p2 p3 ∧ Gd n p0 ∧ Gd n p1 ∧ Gd n p2 ∧ Gd n p3 ∧ n ≤ 60 ∧
  ∀ tz H', Same H H' → IsTm K H' tz (pMul p0 (scl p0 p1 p2 p3)) (pMul p1 (scl p0 p1 p2 p3)) (pMul p2 (scl p0 p1 p2 p3)) (pMul p3 (scl p0 p1 p2 p3)) → Q .non (upd H' z (rowO (He.ga K "Row") dx (.ref tz) (.bl st)))
theorem pMul_r1 {n : Nat} {p : Int × Int} (g : Gd n p) : pMul p (1, 1) = p := by
  show lo (p.1 * 1) (p.2 * 1) = p
  rw [Int.mul_one, Int.mul_one]
  exact lo_low' g.low
theorem scRowInit : FnScope ["self", "term", "strict", "by"] ["self", "term", "strict"] d_Row_init.scope := ⟨rfl, rfl, rfl, by decide +kernel, rfl, by decide +kernel, by decide +kernel⟩
theorem ok_rinit (W : Wd K mg) : ∃ fd, FnOk P w K mg base CX0 6 (He.ma K (He.ga K "Row") "__init__") fd ["self", "term", "strict"] (spRInit K) ∧ Binds K fd ["self", "term", "strict"] [] := by
  obtain ⟨fd_scale, G_scale, b_scale⟩ := ok_scale (P := P) (w := w) (base := base) W
  have k_scale : PySem.W.keepIn K (.ref (He.ga K "scale")) = true := by obtain ⟨fd, F⟩ := W.F_scale; exact F.kp
  obtain ⟨fd, F⟩ := W.F_Row_init
  refine ⟨fd, F.ok scRowInit (fun vs H Q E h => ?_) (fun cdv A outer s H vs Q E hr h => ?_), FunD.bindsN F fun _ _ _ _ _ _ us hl => match us, hl with | [_, _, _], _ => rfl⟩
  · obtain ⟨z, dx, x, st, _, _, _, _, _, rfl, _⟩ := h
    rfl
  · obtain ⟨z, dx, x, st, p0, p1, p2, p3, n, rfl, hz, hx, g0, g1, g2, g3, hn, q⟩ := h
    have r1 : Room 1 _ := hr.mono (by decide)
    have r2 : Room 2 _ := hr.mono (by decide)
    have r3 : Room 3 _ := hr.mono (by decide)
    have r4 : Room 4 _ := hr.mono (by decide)
    have r5 : Room 5 _ := hr.mono (by decide)
    refine ⟨_, PSs.nox (pss_cons (ps_set (i := 3) scRowInit.nd rfl (Or.inl rfl) (pe_call G_scale r4 rfl W.g_scale k_scale b_scale .nil pass0 (pa_cons (pv 1) pa_nil)))
    (pss_cons (ps_fld (pv 0) (pe_ifExp (pt_cmpR (W.opEq r3) (pv 3) pe_int (nomark _)) (pv 1) (pe_op (W.tMulN hr) (pv 1) (pv 3))) rfl)
    (pss_one (ps_fld (pv 0) (pv 2) rfl)))), ?_⟩
    have gs := scl_gd g0 g1 g2 g3
    have l1 : n ≤ 400 := by omega
    have l2 : n * 4 + 1 ≤ 400 := by omega
    have pf : ∀ (u v : V), putF "strict" v (putF "term" u []) = [(("term" : Str), u), (("strict" : Str), v)] := fun u v => by
      show (if ("term" : Str) = "strict" then [(("term" : Str), v)] else (("term" : Str), u) :: putF "strict" v []) = _
      rw [if_neg (by decide +kernel)]
      rfl
    have pl : ∀ u : V, (putF "term" u []).length < 1000 := fun u => by
      show 1 < 1000
      decide
    simp -dsimp [tSeq, tAsg, tRet, tIfS, tIf, tTest, tVar, tCons, tNil, tC, tOp, tUn, rI, rI0, rU, tCB, tLst_A, tTup_A, gName, L2.start, CMul, CPow, CDiv, tDrop, tBM, tBM0, tNext, tPar, gSub, rSetL, rIxL, rIxT, tChain, tB, tNot, tNotV, tAnd, tOr, tAndV, tOrV, tFld, tCall, rIxLH, rIxTH, atI, ixN, upd_same, cxK, ex2, ex3, ex3b, rIs1, rIs2, rNe2, tyN, kb1, kb2, kb3, kb4, kb5, kb6, rEq, rNe, scal, tMake_S, tMakeK_S, tMakeN_S, sFld]
    refine ⟨x, p0, p1, p2, p3, n, rfl, hx, g0, g1, g2, g3, hn, fun sz H1 s1 is => ?_⟩
    refine ⟨_, _, 1, 1, .inl ⟨sz, rfl, is⟩, .inr ⟨rfl, rfl⟩, (gs.ok (Gd.int (n := 0) (a := 1) (by decide)) l2).1, .inl ⟨sz, rfl⟩, fun H2 s2 => ?_⟩
    have is2 := is.same s2
    have hx2 := (hx.same s1).same s2
    by_cases hs : (scl p0 p1 p2 p3).1 * 1 - 1 * (scl p0 p1 p2 p3).2 = 0
    · have e1 : scl p0 p1 p2 p3 = (1, 1) := by
        have e := gs.low.2
        have e0 := gs.low.1
        have ee : (scl p0 p1 p2 p3).1 = (scl p0 p1 p2 p3).2 := by omega
        rw [ee, Int.gcd_self] at e
        exact Prod.ext (by show _ = (1 : Int); omega) (by show _ = (1 : Int); omega)
      rw [e1] at q
      rw [pMul_r1 g0, pMul_r1 g1, pMul_r1 g2, pMul_r1 g3] at q
      have hz2 := (s1.trans s2) _ _ hz
      simp -dsimp [tSeq, tAsg, tRet, tIfS, tIf, tTest, tVar, tCons, tNil, tC, tOp, tUn, rI, rI0, rU, tCB, tLst_A, tTup_A, gName, L2.start, CMul, CPow, CDiv, tDrop, tBM, tBM0, tNext, tPar, gSub, rSetL, rIxL, rIxT, tChain, tB, tNot, tNotV, tAnd, tOr, tAndV, tOrV, tFld, tCall, rIxLH, rIxTH, atI, ixN, upd_same, cxK, ex2, ex3, ex3b, rIs1, rIs2, rNe2, tyN, kb1, kb2, kb3, kb4, kb5, kb6, rEq, rNe, scal, tMake_S, tMakeK_S, tMakeN_S, hs, sFld, hz2, W.cls_Row, W.n_Row_term, W.n_Row_strict, upd_upd, pf, pl]
      exact .inr ⟨by omega, q x H2 (s1.trans s2) hx2⟩
    · simp -dsimp [tSeq, tAsg, tRet, tIfS, tIf, tTest, tVar, tCons, tNil, tC, tOp, tUn, rI, rI0, rU, tCB, tLst_A, tTup_A, gName, L2.start, CMul, CPow, CDiv, tDrop, tBM, tBM0, tNext, tPar, gSub, rSetL, rIxL, rIxT, tChain, tB, tNot, tNotV, tAnd, tOr, tAndV, tOrV, tFld, tCall, rIxLH, rIxTH, atI, ixN, upd_same, cxK, ex2, ex3, ex3b, rIs1, rIs2, rNe2, tyN, kb1, kb2, kb3, kb4, kb5, kb6, rEq, rNe, scal, tMake_S, tMakeK_S, tMakeN_S]
      refine .inl ⟨by omega, p0, p1, p2, p3, scl p0 p1 p2 p3, x, rfl, hx2, .inl ⟨sz, rfl, is2⟩, g0.ok gs l1 l2, g1.ok gs l1 l2, g2.ok gs l1 l2, g3.ok gs l1 l2, fun tz H3 s3 it => ?_⟩
      have hz2 := ((s1.trans s2).trans s3) _ _ hz
      simp -dsimp [tSeq, tAsg, tRet, tIfS, tIf, tTest, tVar, tCons, tNil, tC, tOp, tUn, rI, rI0, rU, tCB, tLst_A, tTup_A, gName, L2.start, CMul, CPow, CDiv, tDrop, tBM, tBM0, tNext, tPar, gSub, rSetL, rIxL, rIxT, tChain, tB, tNot, tNotV, tAnd, tOr, tAndV, tOrV, tFld, tCall, rIxLH, rIxTH, atI, ixN, upd_same, cxK, ex2, ex3, ex3b, rIs1, rIs2, rNe2, tyN, kb1, kb2, kb3, kb4, kb5, kb6, rEq, rNe, scal, tMake_S, tMakeK_S, tMakeN_S, sFld, hz2, W.cls_Row, W.n_Row_term, W.n_Row_strict, upd_upd, pf, pl]
      exact q tz H3 ((s1.trans s2).trans s3) it
/-- a row is made -/
def MkR (K : PySem.W.Frag) (H : Hp) (vs : List V) (Q : V → Hp → Prop) (E : XK) (_ : Lk (Q, E) := ⟨⟩) : Prop :=
  ∀ x dx, H x = none → H dx = none → dx ≠ x → spRInit K (.ref x :: vs) (upd (upd H dx (.own x)) x (.ins (He.ga K "Row") dx [])) (fun v H2 => v = .non ∧ Q (.ref x) H2) E
theorem tMake_R {E : XK} {t : TA} {σ : List (Option V)} {H : Hp} {Q : V → Hp → Prop} : tMake (He.ga K "Row") (spRInit K) [] E t σ H Q = t σ H fun vs H1 => MkR K H1 vs Q E := by
  show (t σ H fun vs H1 => MkR K H1 (vs ++ []) Q E) = _
  simp only [List.append_nil]
theorem MkR.of {H : Hp} {vs : List V} {Q : V → Hp → Prop} {E : XK} {t : Addr} {st : Bool} {p0 p1 p2 p3 : Int × Int} {n : Nat} (e : vs = [.ref t, .bl st]) (it : IsTm K H t p0 p1 p2 p3) (g0 : Gd n p0) (g1 : Gd n p1) (g2 : Gd n p2) (g3 : Gd n p3) (hn : n ≤ 60)
    (h : ∀ z H', Same H H' → IsRw K H' z st p0 p1 p2 p3 → Q (.ref z) H') : MkR K H vs Q E := by
  intro x dx nx nd ne
  have s0 : Same H (upd (upd H dx (.own x)) x (.ins (He.ga K "Row") dx [])) := by
    intro c o ec
    rw [upd_ne (ne_of_none ec nx), upd_ne (ne_of_none ec nd)]
    exact ec
  refine ⟨x, dx, t, st, p0, p1, p2, p3, n, by rw [e], upd_same, it.same s0, g0, g1, g2, g3, hn, fun tz H1 s1 itz => ⟨rfl, h x _ ?_ ?_⟩⟩
  · intro c o ec
    rw [upd_ne (ne_of_none ec nx)]
    exact s1 _ _ (s0 _ _ ec)
  · have hx1 := s1 _ _ (upd_same (H := upd H dx (.own x)) (a := x) (o := .ins (He.ga K "Row") dx []))
    refine ⟨dx, tz, upd_same, itz.keepE fun b o eb nb => ?_⟩
    rw [upd_ne]
    · exact eb
    · intro ex
      subst ex
      rw [hx1] at eb
      cases eb
      exact nb _ _ rfl
/-- a term beside a term or number: the row of the difference -/
def spRC (K : PySem.W.Frag) (st fl : Bool) : Sp := fun vs H Q _ => ∃ (x : Addr) (v : V) (m t0 t1 t2 n u0 u1 u2 : Int × Int) (a b : Nat), vs = [.ref x, v] ∧ IsTm K H x m t0 t1 t2 ∧ TN K H v n u0 u1 u2 ∧ Gd a m ∧ Gd a t0 ∧ Gd a t1 ∧ Gd a t2 ∧ Gd b n ∧ Gd b u0 ∧ Gd b u1 ∧ Gd b u2 ∧ a + b + 1 ≤ 60 ∧
  ∀ z H', Same H H' → (if fl then IsRw K H' z st (pSub n m) (pSub u0 t0) (pSub u1 t1) (pSub u2 t2) else IsRw K H' z st (pSub m n) (pSub t0 u0) (pSub t1 u1) (pSub t2 u2)) → Q (.ref z) H'
theorem scTermLt : FnScope ["self", "other", "right"] ["self", "other"] d_Term_lt.scope := ⟨rfl, rfl, rfl, by decide +kernel, rfl, by decide +kernel, by decide +kernel⟩
theorem ok_tlt (W : Wd K mg) : ∃ fd, FnOk P w K mg base CX0 8 (aT K "__lt__") fd ["self", "other"] (spRC K true true) ∧ Binds K fd ["self", "other"] [] := by
  obtain ⟨fd_termOf, G_termOf, b_termOf⟩ := ok_termOf (P := P) (w := w) (base := base) W
  have k_termOf : PySem.W.keepIn K (.ref (He.ga K "term_of")) = true := by obtain ⟨fd, F⟩ := W.F_term_of; exact F.kp
  obtain ⟨fd_rinit, G_rinit, b_rinit⟩ := ok_rinit (P := P) (w := w) (base := base) W
  obtain ⟨fd, F⟩ := W.F_Term_lt
  refine ⟨fd, F.ok scTermLt (fun vs H Q E h => ?_) (fun cdv A outer s H vs Q E hr h => ?_), FunD.bindsN F fun _ _ _ _ _ _ us hl => match us, hl with | [_, _], _ => rfl⟩
  · obtain ⟨x, v, _, _, _, _, _, _, _, _, _, _, rfl, _⟩ := h
    rfl
  · obtain ⟨x, v, m, t0, t1, t2, n, u0, u1, u2, a, b, rfl, hx, hv, g0, g1, g2, g3, h0, h1, h2, h3, hab, q⟩ := h
    have r1 : Room 1 _ := hr.mono (by decide)
    have r2 : Room 2 _ := hr.mono (by decide)
    have r3 : Room 3 _ := hr.mono (by decide)
    have r4 : Room 4 _ := hr.mono (by decide)
    have r5 : Room 5 _ := hr.mono (by decide)
    have r6 : Room 6 _ := hr.mono (by decide)
    have r7 : Room 7 _ := hr.mono (by decide)
    refine ⟨_, PSs.nox (pss_cons (ps_set (i := 2) scTermLt.nd rfl (Or.inl rfl) (pe_call G_termOf r6 rfl W.g_term_of k_termOf b_termOf .nil pass0 (pa_cons (pv 1) pa_nil)))
    (pss_cons (ps_if (pt_cmpR op_isN (pv 2) pe_non (nomark _)) pss_never pss_nil)
    (pss_one (ps_ret (pe_make W.mkr_Row G_rinit r7 rfl W.g_Row b_rinit .nil pass0 (pa_cons (pe_op (W.tSubT hr) (pv 2) (pv 0)) (pa_cons pe_bl pa_nil))))))), ?_⟩
    have la : a ≤ 400 := by omega
    have lb : b ≤ 400 := by omega
    simp -dsimp [tSeq, tAsg, tRet, tIfS, tIf, tTest, tVar, tCons, tNil, tC, tOp, tUn, rI, rI0, rU, tCB, tLst_A, tTup_A, gName, L2.start, CMul, CPow, CDiv, tDrop, tBM, tBM0, tNext, tPar, gSub, rSetL, rIxL, rIxT, tChain, tB, tNot, tNotV, tAnd, tOr, tAndV, tOrV, tFld, tCall, rIxLH, rIxTH, atI, ixN, upd_same, cxK, ex2, ex3, ex3b, rIs1, rIs2, rNe2, tyN, kb1, kb2, kb3, kb4, kb5, kb6, rEq, rNe, scal, tMake_S, tMakeK_S, tMakeN_S]
    refine ⟨v, n, u0, u1, u2, rfl, hv, fun z H1 s1 iz => ?_⟩
    simp -dsimp [tSeq, tAsg, tRet, tIfS, tIf, tTest, tVar, tCons, tNil, tC, tOp, tUn, rI, rI0, rU, tCB, tLst_A, tTup_A, gName, L2.start, CMul, CPow, CDiv, tDrop, tBM, tBM0, tNext, tPar, gSub, rSetL, rIxL, rIxT, tChain, tB, tNot, tNotV, tAnd, tOr, tAndV, tOrV, tFld, tCall, rIxLH, rIxTH, atI, ixN, upd_same, cxK, ex2, ex3, ex3b, rIs1, rIs2, rNe2, tyN, kb1, kb2, kb3, kb4, kb5, kb6, rEq, rNe, scal, tMake_S, tMakeK_S, tMakeN_S, tMake_R]
    refine ⟨n, u0, u1, u2, m, t0, t1, t2, z, rfl, iz, .inl ⟨x, rfl, hx.same s1⟩, h0.ok g0 lb la, h1.ok g1 lb la, h2.ok g2 lb la, h3.ok g3 lb la, fun dz H2 s2 idz => ?_⟩
    have cc : b + a + 1 ≤ a + b + 1 := by omega
    refine MkR.of rfl idz ((h0.sub g0).mono cc) ((h1.sub g1).mono cc) ((h2.sub g2).mono cc) ((h3.sub g3).mono cc) hab fun rz H3 s3 ir => q rz H3 ((s1.trans s2).trans s3) ?_
    exact ir
theorem scTermLe : FnScope ["self", "other", "right"] ["self", "other"] d_Term_le.scope := ⟨rfl, rfl, rfl, by decide +kernel, rfl, by decide +kernel, by decide +kernel⟩
theorem ok_tle (W : Wd K mg) : ∃ fd, FnOk P w K mg base CX0 8 (aT K "__le__") fd ["self", "other"] (spRC K false true) ∧ Binds K fd ["self", "other"] [] := by
  obtain ⟨fd_termOf, G_termOf, b_termOf⟩ := ok_termOf (P := P) (w := w) (base := base) W
  have k_termOf : PySem.W.keepIn K (.ref (He.ga K "term_of")) = true := by obtain ⟨fd, F⟩ := W.F_term_of; exact F.kp
  obtain ⟨fd_rinit, G_rinit, b_rinit⟩ := ok_rinit (P := P) (w := w) (base := base) W
  obtain ⟨fd, F⟩ := W.F_Term_le
  refine ⟨fd, F.ok scTermLe (fun vs H Q E h => ?_) (fun cdv A outer s H vs Q E hr h => ?_), FunD.bindsN F fun _ _ _ _ _ _ us hl => match us, hl with | [_, _], _ => rfl⟩
  · obtain ⟨x, v, _, _, _, _, _, _, _, _, _, _, rfl, _⟩ := h
    rfl
  · obtain ⟨x, v, m, t0, t1, t2, n, u0, u1, u2, a, b, rfl, hx, hv, g0, g1, g2, g3, h0, h1, h2, h3, hab, q⟩ := h
    have r1 : Room 1 _ := hr.mono (by decide)
    have r2 : Room 2 _ := hr.mono (by decide)
    have r3 : Room 3 _ := hr.mono (by decide)
    have r4 : Room 4 _ := hr.mono (by decide)
    have r5 : Room 5 _ := hr.mono (by decide)
    have r6 : Room 6 _ := hr.mono (by decide)
    have r7 : Room 7 _ := hr.mono (by decide)
    refine ⟨_, PSs.nox (pss_cons (ps_set (i := 2) scTermLe.nd rfl (Or.inl rfl) (pe_call G_termOf r6 rfl W.g_term_of k_termOf b_termOf .nil pass0 (pa_cons (pv 1) pa_nil)))
    (pss_cons (ps_if (pt_cmpR op_isN (pv 2) pe_non (nomark _)) pss_never pss_nil)
    (pss_one (ps_ret (pe_make W.mkr_Row G_rinit r7 rfl W.g_Row b_rinit .nil pass0 (pa_cons (pe_op (W.tSubT hr) (pv 2) (pv 0)) (pa_cons pe_bl pa_nil))))))), ?_⟩
    have la : a ≤ 400 := by omega
    have lb : b ≤ 400 := by omega
    simp -dsimp [tSeq, tAsg, tRet, tIfS, tIf, tTest, tVar, tCons, tNil, tC, tOp, tUn, rI, rI0, rU, tCB, tLst_A, tTup_A, gName, L2.start, CMul, CPow, CDiv, tDrop, tBM, tBM0, tNext, tPar, gSub, rSetL, rIxL, rIxT, tChain, tB, tNot, tNotV, tAnd, tOr, tAndV, tOrV, tFld, tCall, rIxLH, rIxTH, atI, ixN, upd_same, cxK, ex2, ex3, ex3b, rIs1, rIs2, rNe2, tyN, kb1, kb2, kb3, kb4, kb5, kb6, rEq, rNe, scal, tMake_S, tMakeK_S, tMakeN_S]
    refine ⟨v, n, u0, u1, u2, rfl, hv, fun z H1 s1 iz => ?_⟩
    simp -dsimp [tSeq, tAsg, tRet, tIfS, tIf, tTest, tVar, tCons, tNil, tC, tOp, tUn, rI, rI0, rU, tCB, tLst_A, tTup_A, gName, L2.start, CMul, CPow, CDiv, tDrop, tBM, tBM0, tNext, tPar, gSub, rSetL, rIxL, rIxT, tChain, tB, tNot, tNotV, tAnd, tOr, tAndV, tOrV, tFld, tCall, rIxLH, rIxTH, atI, ixN, upd_same, cxK, ex2, ex3, ex3b, rIs1, rIs2, rNe2, tyN, kb1, kb2, kb3, kb4, kb5, kb6, rEq, rNe, scal, tMake_S, tMakeK_S, tMakeN_S, tMake_R]
    refine ⟨n, u0, u1, u2, m, t0, t1, t2, z, rfl, iz, .inl ⟨x, rfl, hx.same s1⟩, h0.ok g0 lb la, h1.ok g1 lb la, h2.ok g2 lb la, h3.ok g3 lb la, fun dz H2 s2 idz => ?_⟩
    have cc : b + a + 1 ≤ a + b + 1 := by omega
    refine MkR.of rfl idz ((h0.sub g0).mono cc) ((h1.sub g1).mono cc) ((h2.sub g2).mono cc) ((h3.sub g3).mono cc) hab fun rz H3 s3 ir => q rz H3 ((s1.trans s2).trans s3) ?_
    exact ir
theorem scTermGt : FnScope ["self", "other", "right"] ["self", "other"] d_Term_gt.scope := ⟨rfl, rfl, rfl, by decide +kernel, rfl, by decide +kernel, by decide +kernel⟩
theorem ok_tgt (W : Wd K mg) : ∃ fd, FnOk P w K mg base CX0 8 (aT K "__gt__") fd ["self", "other"] (spRC K true false) ∧ Binds K fd ["self", "other"] [] := by
  obtain ⟨fd_termOf, G_termOf, b_termOf⟩ := ok_termOf (P := P) (w := w) (base := base) W
  have k_termOf : PySem.W.keepIn K (.ref (He.ga K "term_of")) = true := by obtain ⟨fd, F⟩ := W.F_term_of; exact F.kp
  obtain ⟨fd_rinit, G_rinit, b_rinit⟩ := ok_rinit (P := P) (w := w) (base := base) W
  obtain ⟨fd, F⟩ := W.F_Term_gt
  refine ⟨fd, F.ok scTermGt (fun vs H Q E h => ?_) (fun cdv A outer s H vs Q E hr h => ?_), FunD.bindsN F fun _ _ _ _ _ _ us hl => match us, hl with | [_, _], _ => rfl⟩
  · obtain ⟨x, v, _, _, _, _, _, _, _, _, _, _, rfl, _⟩ := h
    rfl
  · obtain ⟨x, v, m, t0, t1, t2, n, u0, u1, u2, a, b, rfl, hx, hv, g0, g1, g2, g3, h0, h1, h2, h3, hab, q⟩ := h
    have r1 : Room 1 _ := hr.mono (by decide)
    have r2 : Room 2 _ := hr.mono (by decide)
    have r3 : Room 3 _ := hr.mono (by decide)
    have r4 : Room 4 _ := hr.mono (by decide)
    have r5 : Room 5 _ := hr.mono (by decide)
    have r6 : Room 6 _ := hr.mono (by decide)
    have r7 : Room 7 _ := hr.mono (by decide)
    refine ⟨_, PSs.nox (pss_cons (ps_set (i := 2) scTermGt.nd rfl (Or.inl rfl) (pe_call G_termOf r6 rfl W.g_term_of k_termOf b_termOf .nil pass0 (pa_cons (pv 1) pa_nil)))
    (pss_cons (ps_if (pt_cmpR op_isN (pv 2) pe_non (nomark _)) pss_never pss_nil)
    (pss_one (ps_ret (pe_make W.mkr_Row G_rinit r7 rfl W.g_Row b_rinit .nil pass0 (pa_cons (pe_op (W.tSubT hr) (pv 0) (pv 2)) (pa_cons pe_bl pa_nil))))))), ?_⟩
    have la : a ≤ 400 := by omega
    have lb : b ≤ 400 := by omega
    simp -dsimp [tSeq, tAsg, tRet, tIfS, tIf, tTest, tVar, tCons, tNil, tC, tOp, tUn, rI, rI0, rU, tCB, tLst_A, tTup_A, gName, L2.start, CMul, CPow, CDiv, tDrop, tBM, tBM0, tNext, tPar, gSub, rSetL, rIxL, rIxT, tChain, tB, tNot, tNotV, tAnd, tOr, tAndV, tOrV, tFld, tCall, rIxLH, rIxTH, atI, ixN, upd_same, cxK, ex2, ex3, ex3b, rIs1, rIs2, rNe2, tyN, kb1, kb2, kb3, kb4, kb5, kb6, rEq, rNe, scal, tMake_S, tMakeK_S, tMakeN_S]
    refine ⟨v, n, u0, u1, u2, rfl, hv, fun z H1 s1 iz => ?_⟩
    simp -dsimp [tSeq, tAsg, tRet, tIfS, tIf, tTest, tVar, tCons, tNil, tC, tOp, tUn, rI, rI0, rU, tCB, tLst_A, tTup_A, gName, L2.start, CMul, CPow, CDiv, tDrop, tBM, tBM0, tNext, tPar, gSub, rSetL, rIxL, rIxT, tChain, tB, tNot, tNotV, tAnd, tOr, tAndV, tOrV, tFld, tCall, rIxLH, rIxTH, atI, ixN, upd_same, cxK, ex2, ex3, ex3b, rIs1, rIs2, rNe2, tyN, kb1, kb2, kb3, kb4, kb5, kb6, rEq, rNe, scal, tMake_S, tMakeK_S, tMakeN_S, tMake_R]
    refine ⟨m, t0, t1, t2, n, u0, u1, u2, x, rfl, hx.same s1, .inl ⟨z, rfl, iz⟩, g0.ok h0 la lb, g1.ok h1 la lb, g2.ok h2 la lb, g3.ok h3 la lb, fun dz H2 s2 idz => ?_⟩
    refine MkR.of rfl idz (g0.sub h0) (g1.sub h1) (g2.sub h2) (g3.sub h3) hab fun rz H3 s3 ir => q rz H3 ((s1.trans s2).trans s3) ?_
    exact ir
theorem scTermGe : FnScope ["self", "other", "right"] ["self", "other"] d_Term_ge.scope := ⟨rfl, rfl, rfl, by decide +kernel, rfl, by decide +kernel, by decide +kernel⟩
theorem ok_tge (W : Wd K mg) : ∃ fd, FnOk P w K mg base CX0 8 (aT K "__ge__") fd ["self", "other"] (spRC K false false) ∧ Binds K fd ["self", "other"] [] := by
  obtain ⟨fd_termOf, G_termOf, b_termOf⟩ := ok_termOf (P := P) (w := w) (base := base) W
  have k_termOf : PySem.W.keepIn K (.ref (He.ga K "term_of")) = true := by obtain ⟨fd, F⟩ := W.F_term_of; exact F.kp
  obtain ⟨fd_rinit, G_rinit, b_rinit⟩ := ok_rinit (P := P) (w := w) (base := base) W
  obtain ⟨fd, F⟩ := W.F_Term_ge
  refine ⟨fd, F.ok scTermGe (fun vs H Q E h => ?_) (fun cdv A outer s H vs Q E hr h => ?_), FunD.bindsN F fun _ _ _ _ _ _ us hl => match us, hl with | [_, _], _ => rfl⟩
  · obtain ⟨x, v, _, _, _, _, _, _, _, _, _, _, rfl, _⟩ := h
    rfl
  · obtain ⟨x, v, m, t0, t1, t2, n, u0, u1, u2, a, b, rfl, hx, hv, g0, g1, g2, g3, h0, h1, h2, h3, hab, q⟩ := h
    have r1 : Room 1 _ := hr.mono (by decide)
    have r2 : Room 2 _ := hr.mono (by decide)
    have r3 : Room 3 _ := hr.mono (by decide)
    have r4 : Room 4 _ := hr.mono (by decide)
    have r5 : Room 5 _ := hr.mono (by decide)
    have r6 : Room 6 _ := hr.mono (by decide)
    have r7 : Room 7 _ := hr.mono (by decide)
    refine ⟨_, PSs.nox (pss_cons (ps_set (i := 2) scTermGe.nd rfl (Or.inl rfl) (pe_call G_termOf r6 rfl W.g_term_of k_termOf b_termOf .nil pass0 (pa_cons (pv 1) pa_nil)))
    (pss_cons (ps_if (pt_cmpR op_isN (pv 2) pe_non (nomark _)) pss_never pss_nil)
    (pss_one (ps_ret (pe_make W.mkr_Row G_rinit r7 rfl W.g_Row b_rinit .nil pass0 (pa_cons (pe_op (W.tSubT hr) (pv 0) (pv 2)) (pa_cons pe_bl pa_nil))))))), ?_⟩
    have la : a ≤ 400 := by omega
    have lb : b ≤ 400 := by omega
    simp -dsimp [tSeq, tAsg, tRet, tIfS, tIf, tTest, tVar, tCons, tNil, tC, tOp, tUn, rI, rI0, rU, tCB, tLst_A, tTup_A, gName, L2.start, CMul, CPow, CDiv, tDrop, tBM, tBM0, tNext, tPar, gSub, rSetL, rIxL, rIxT, tChain, tB, tNot, tNotV, tAnd, tOr, tAndV, tOrV, tFld, tCall, rIxLH, rIxTH, atI, ixN, upd_same, cxK, ex2, ex3, ex3b, rIs1, rIs2, rNe2, tyN, kb1, kb2, kb3, kb4, kb5, kb6, rEq, rNe, scal, tMake_S, tMakeK_S, tMakeN_S]
    refine ⟨v, n, u0, u1, u2, rfl, hv, fun z H1 s1 iz => ?_⟩
    simp -dsimp [tSeq, tAsg, tRet, tIfS, tIf, tTest, tVar, tCons, tNil, tC, tOp, tUn, rI, rI0, rU, tCB, tLst_A, tTup_A, gName, L2.start, CMul, CPow, CDiv, tDrop, tBM, tBM0, tNext, tPar, gSub, rSetL, rIxL, rIxT, tChain, tB, tNot, tNotV, tAnd, tOr, tAndV, tOrV, tFld, tCall, rIxLH, rIxTH, atI, ixN, upd_same, cxK, ex2, ex3, ex3b, rIs1, rIs2, rNe2, tyN, kb1, kb2, kb3, kb4, kb5, kb6, rEq, rNe, scal, tMake_S, tMakeK_S, tMakeN_S, tMake_R]
    refine ⟨m, t0, t1, t2, n, u0, u1, u2, x, rfl, hx.same s1, .inl ⟨z, rfl, iz⟩, g0.ok h0 la lb, g1.ok h1 la lb, g2.ok h2 la lb, g3.ok h3 la lb, fun dz H2 s2 idz => ?_⟩
    refine MkR.of rfl idz (g0.sub h0) (g1.sub h1) (g2.sub h2) (g3.sub h3) hab fun rz H3 s3 ir => q rz H3 ((s1.trans s2).trans s3) ?_
    exact ir
theorem ni_lt (W : Wd K mg) : NiX.FnN P w K mg base 3 (aS K "__lt__") (spNI K) := by
  obtain ⟨fdN, GN, bN⟩ := ok_isNum (P := P) (w := w) (base := base) W
  have kN : PySem.W.keepIn K (.ref (He.ga K "is_number")) = true := by obtain ⟨fd, F⟩ := W.F_is_number; exact F.kp
  obtain ⟨fd, F⟩ := W.F_Share_lt
  refine NiX.fnN (N := _) (ps := ["self", "other"]) F sc_lt (by decide +kernel) (fun _ _ _ _ _ _ us hl => match us, hl with | [_, _], _ => rfl) rfl (fun _ _ _ => rfl) W.f_NotImplemented (fun vs H R h => by
    obtain ⟨x, v, t, rfl, _⟩ := h
    rfl) (fun cdv A outer s H vs R hr h => ?_)
  obtain ⟨x, v, t, rfl, ty, kn, r⟩ := h
  refine ⟨_, pt_not (pt_val (pe_call GN hr rfl W.g_is_number kN bN .nil pass0 (pa_cons (pv 1) pa_nil))), ?_⟩
  simp -dsimp [tSeq, tAsg, tRet, tIfS, tIf, tTest, tVar, tCons, tNil, tC, tOp, tUn, rI, rI0, rU, tCB, tLst_A, tTup_A, gName, L2.start, CMul, CPow, CDiv, tDrop, tBM, tBM0, tNext, tPar, gSub, rSetL, rIxL, rIxT, tChain, tB, tNot, tNotV, tAnd, tOr, tAndV, tOrV, tFld, tCall, rIxLH, rIxTH, atI, ixN, upd_same, cxK, ex2, ex3, ex3b, rIs1, rIs2, rNe2, tyN, kb1, kb2, kb3, kb4, kb5, kb6, rEq, rNe, scal, tMake_S, tMakeK_S, tMakeN_S]
  exact ⟨_, t, false, rfl, ty, kn, rfl, r⟩
theorem ni_le (W : Wd K mg) : NiX.FnN P w K mg base 3 (aS K "__le__") (spNI K) := by
  obtain ⟨fdN, GN, bN⟩ := ok_isNum (P := P) (w := w) (base := base) W
  have kN : PySem.W.keepIn K (.ref (He.ga K "is_number")) = true := by obtain ⟨fd, F⟩ := W.F_is_number; exact F.kp
  obtain ⟨fd, F⟩ := W.F_Share_le
  refine NiX.fnN (N := _) (ps := ["self", "other"]) F sc_le (by decide +kernel) (fun _ _ _ _ _ _ us hl => match us, hl with | [_, _], _ => rfl) rfl (fun _ _ _ => rfl) W.f_NotImplemented (fun vs H R h => by
    obtain ⟨x, v, t, rfl, _⟩ := h
    rfl) (fun cdv A outer s H vs R hr h => ?_)
  obtain ⟨x, v, t, rfl, ty, kn, r⟩ := h
  refine ⟨_, pt_not (pt_val (pe_call GN hr rfl W.g_is_number kN bN .nil pass0 (pa_cons (pv 1) pa_nil))), ?_⟩
  simp -dsimp [tSeq, tAsg, tRet, tIfS, tIf, tTest, tVar, tCons, tNil, tC, tOp, tUn, rI, rI0, rU, tCB, tLst_A, tTup_A, gName, L2.start, CMul, CPow, CDiv, tDrop, tBM, tBM0, tNext, tPar, gSub, rSetL, rIxL, rIxT, tChain, tB, tNot, tNotV, tAnd, tOr, tAndV, tOrV, tFld, tCall, rIxLH, rIxTH, atI, ixN, upd_same, cxK, ex2, ex3, ex3b, rIs1, rIs2, rNe2, tyN, kb1, kb2, kb3, kb4, kb5, kb6, rEq, rNe, scal, tMake_S, tMakeK_S, tMakeN_S]
  exact ⟨_, t, false, rfl, ty, kn, rfl, r⟩
theorem ni_gt (W : Wd K mg) : NiX.FnN P w K mg base 3 (aS K "__gt__") (spNI K) := by
  obtain ⟨fdN, GN, bN⟩ := ok_isNum (P := P) (w := w) (base := base) W
  have kN : PySem.W.keepIn K (.ref (He.ga K "is_number")) = true := by obtain ⟨fd, F⟩ := W.F_is_number; exact F.kp
  obtain ⟨fd, F⟩ := W.F_Share_gt
  refine NiX.fnN (N := _) (ps := ["self", "other"]) F sc_gt (by decide +kernel) (fun _ _ _ _ _ _ us hl => match us, hl with | [_, _], _ => rfl) rfl (fun _ _ _ => rfl) W.f_NotImplemented (fun vs H R h => by
    obtain ⟨x, v, t, rfl, _⟩ := h
    rfl) (fun cdv A outer s H vs R hr h => ?_)
  obtain ⟨x, v, t, rfl, ty, kn, r⟩ := h
  refine ⟨_, pt_not (pt_val (pe_call GN hr rfl W.g_is_number kN bN .nil pass0 (pa_cons (pv 1) pa_nil))), ?_⟩
  simp -dsimp [tSeq, tAsg, tRet, tIfS, tIf, tTest, tVar, tCons, tNil, tC, tOp, tUn, rI, rI0, rU, tCB, tLst_A, tTup_A, gName, L2.start, CMul, CPow, CDiv, tDrop, tBM, tBM0, tNext, tPar, gSub, rSetL, rIxL, rIxT, tChain, tB, tNot, tNotV, tAnd, tOr, tAndV, tOrV, tFld, tCall, rIxLH, rIxTH, atI, ixN, upd_same, cxK, ex2, ex3, ex3b, rIs1, rIs2, rNe2, tyN, kb1, kb2, kb3, kb4, kb5, kb6, rEq, rNe, scal, tMake_S, tMakeK_S, tMakeN_S]
  exact ⟨_, t, false, rfl, ty, kn, rfl, r⟩
theorem ni_ge (W : Wd K mg) : NiX.FnN P w K mg base 3 (aS K "__ge__") (spNI K) := by
  obtain ⟨fdN, GN, bN⟩ := ok_isNum (P := P) (w := w) (base := base) W
  have kN : PySem.W.keepIn K (.ref (He.ga K "is_number")) = true := by obtain ⟨fd, F⟩ := W.F_is_number; exact F.kp
  obtain ⟨fd, F⟩ := W.F_Share_ge
  refine NiX.fnN (N := _) (ps := ["self", "other"]) F sc_ge (by decide +kernel) (fun _ _ _ _ _ _ us hl => match us, hl with | [_, _], _ => rfl) rfl (fun _ _ _ => rfl) W.f_NotImplemented (fun vs H R h => by
    obtain ⟨x, v, t, rfl, _⟩ := h
    rfl) (fun cdv A outer s H vs R hr h => ?_)
  obtain ⟨x, v, t, rfl, ty, kn, r⟩ := h
  refine ⟨_, pt_not (pt_val (pe_call GN hr rfl W.g_is_number kN bN .nil pass0 (pa_cons (pv 1) pa_nil))), ?_⟩
  simp -dsimp [tSeq, tAsg, tRet, tIfS, tIf, tTest, tVar, tCons, tNil, tC, tOp, tUn, rI, rI0, rU, tCB, tLst_A, tTup_A, gName, L2.start, CMul, CPow, CDiv, tDrop, tBM, tBM0, tNext, tPar, gSub, rSetL, rIxL, rIxT, tChain, tB, tNot, tNotV, tAnd, tOr, tAndV, tOrV, tFld, tCall, rIxLH, rIxTH, atI, ixN, upd_same, cxK, ex2, ex3, ex3b, rIs1, rIs2, rNe2, tyN, kb1, kb2, kb3, kb4, kb5, kb6, rEq, rNe, scal, tMake_S, tMakeK_S, tMakeN_S]
  exact ⟨_, t, false, rfl, ty, kn, rfl, r⟩
end
/-- x op y of terms and numbers, one of them a term -/
def rRow (K : PySem.W.Frag) (st fl : Bool) : R2 := fun x y H Q => ∃ (m t0 t1 t2 n u0 u1 u2 : Int × Int) (a b : Nat), TN K H x m t0 t1 t2 ∧ TN K H y n u0 u1 u2 ∧ ((∃ z, x = .ref z ∧ IsTm K H z m t0 t1 t2) ∨ ∃ z, y = .ref z ∧ IsTm K H z n u0 u1 u2) ∧ Gd a m ∧ Gd a t0 ∧ Gd a t1 ∧ Gd a t2 ∧ Gd b n ∧ Gd b u0 ∧ Gd b u1 ∧ Gd b u2 ∧ a + b + 1 ≤ 60 ∧
  ∀ z H', Same H H' → (if fl then IsRw K H' z st (pSub n m) (pSub u0 t0) (pSub u1 t1) (pSub u2 t2) else IsRw K H' z st (pSub m n) (pSub t0 u0) (pSub t1 u1) (pSub t2 u2)) → Q (.ref z) H'
section
variable {X : Cx}
theorem Wd.cLt (W : Wd X.K X.mg) (hr : Room 8 X.A) : OpR X (compareOp .Lt) (rRow X.K true true) := by
  obtain ⟨f1, G1, b1⟩ := ok_tlt (P := X.prog) (w := X.w) (base := X.base) W
  obtain ⟨f2, G2, b2⟩ := ok_tgt (P := X.prog) (w := X.w) (base := X.base) W
  have r3 : Room 3 X.A := hr.mono (by decide)
  have cT : CmX.CmpC X.K (He.ga X.K "Term") := CmX.cmpB_ok (W.ex 22 rfl)
  intro pins s σ H x y v u Q I rx ry h
  obtain ⟨m, t0, t1, t2, n, u0, u1, u2, a, b, hx, hy, hz, g0, g1, g2, g3, h0, h1, h2, h3, hab, q⟩ := h
  rcases hz with ⟨z, rfl, iz⟩ | ⟨z, rfl, iz⟩
  · obtain ⟨dx, fs, hd⟩ := iz.ins
    obtain ⟨t, ty, bs⟩ : ∃ t, TyOf X.K H y t ∧ CmX.Beside X.K (He.ga X.K "Term") t := by
      rcases hy with ⟨zy, rfl, iy⟩ | ⟨hn, _⟩
      · exact ⟨_, W.isTm iy, .inl rfl⟩
      · obtain ⟨t, ty, _, _, bs⟩ := W.nuTm hn
        exact ⟨t, ty, bs⟩
    exact CmX.op_cmpL (E := E0) (fun _ _ => rfl) W.m_Term_lt.at_ W.m_Term_lt.fn (raw0 G1 b1) hr hr.units0 pass0 pins s σ H _ y v u Q I rx ry ⟨z, dx, fs, t, rfl, hd, ty, bs, z, y, m, t0, t1, t2, n, u0, u1, u2, a, b, rfl, iz, hy, g0, g1, g2, g3, h0, h1, h2, h3, hab, q⟩
  · obtain ⟨dx, fs, hd⟩ := iz.ins
    have rev : spRC X.K true false [.ref z, x] H Q E0 := ⟨z, x, n, u0, u1, u2, m, t0, t1, t2, b, a, rfl, iz, hx, h0, h1, h2, h3, g0, g1, g2, g3, by omega, q⟩
    rcases hx with ⟨zx, rfl, ix⟩ | ⟨⟨zx, rfl, dy, hs⟩ | ⟨rfl, _⟩, _⟩
    · obtain ⟨dx', fs', hd'⟩ := ix.ins
      exact CmX.op_cmpL (E := E0) (fun _ _ => rfl) W.m_Term_lt.at_ W.m_Term_lt.fn (raw0 G1 b1) hr hr.units0 pass0 pins s σ H _ _ v u Q I rx ry ⟨zx, dx', fs', _, rfl, hd', W.isTm iz, .inl rfl, zx, _, m, t0, t1, t2, n, u0, u1, u2, a, b, rfl, ix, hy, g0, g1, g2, g3, h0, h1, h2, h3, hab, q⟩
    · exact CmX.op_cmpMixR (E := E0) (fun _ _ => rfl) W.m_Share_lt.at_ W.m_Share_lt.fn W.m_Term_gt.at_ W.m_Term_gt.fn (of_decide_eq_true (W.ex 19 rfl)) (ni_lt W) (raw0 G2 b2) r3 hr pass0 pins s σ H _ _ v u Q I rx ry ⟨zx, z, rfl, rfl, ⟨dy, _, hs⟩, ⟨dx, fs, hd⟩, _, _, _, rfl, W.isTm iz, W.knT, ⟨dy, _, hs⟩, ⟨dx, fs, hd⟩, rev⟩
    · exact CmX.op_cmpI (E := E0) (fun _ _ => rfl) cT CmX.dc_lt W.m_Term_gt.at_ W.m_Term_gt.fn (raw0 G2 b2) hr hr.units0 pass0 pins s σ H _ _ v u Q I rx ry ⟨_, z, dx, fs, rfl, rfl, hd, rev⟩
theorem Wd.cLe (W : Wd X.K X.mg) (hr : Room 8 X.A) : OpR X (compareOp .LtE) (rRow X.K false true) := by
  obtain ⟨f1, G1, b1⟩ := ok_tle (P := X.prog) (w := X.w) (base := X.base) W
  obtain ⟨f2, G2, b2⟩ := ok_tge (P := X.prog) (w := X.w) (base := X.base) W
  have r3 : Room 3 X.A := hr.mono (by decide)
  have cT : CmX.CmpC X.K (He.ga X.K "Term") := CmX.cmpB_ok (W.ex 22 rfl)
  intro pins s σ H x y v u Q I rx ry h
  obtain ⟨m, t0, t1, t2, n, u0, u1, u2, a, b, hx, hy, hz, g0, g1, g2, g3, h0, h1, h2, h3, hab, q⟩ := h
  rcases hz with ⟨z, rfl, iz⟩ | ⟨z, rfl, iz⟩
  · obtain ⟨dx, fs, hd⟩ := iz.ins
    obtain ⟨t, ty, bs⟩ : ∃ t, TyOf X.K H y t ∧ CmX.Beside X.K (He.ga X.K "Term") t := by
      rcases hy with ⟨zy, rfl, iy⟩ | ⟨hn, _⟩
      · exact ⟨_, W.isTm iy, .inl rfl⟩
      · obtain ⟨t, ty, _, _, bs⟩ := W.nuTm hn
        exact ⟨t, ty, bs⟩
    exact CmX.op_cmpL (E := E0) (fun _ _ => rfl) W.m_Term_le.at_ W.m_Term_le.fn (raw0 G1 b1) hr hr.units0 pass0 pins s σ H _ y v u Q I rx ry ⟨z, dx, fs, t, rfl, hd, ty, bs, z, y, m, t0, t1, t2, n, u0, u1, u2, a, b, rfl, iz, hy, g0, g1, g2, g3, h0, h1, h2, h3, hab, q⟩
  · obtain ⟨dx, fs, hd⟩ := iz.ins
    have rev : spRC X.K false false [.ref z, x] H Q E0 := ⟨z, x, n, u0, u1, u2, m, t0, t1, t2, b, a, rfl, iz, hx, h0, h1, h2, h3, g0, g1, g2, g3, by omega, q⟩
    rcases hx with ⟨zx, rfl, ix⟩ | ⟨⟨zx, rfl, dy, hs⟩ | ⟨rfl, _⟩, _⟩
    · obtain ⟨dx', fs', hd'⟩ := ix.ins
      exact CmX.op_cmpL (E := E0) (fun _ _ => rfl) W.m_Term_le.at_ W.m_Term_le.fn (raw0 G1 b1) hr hr.units0 pass0 pins s σ H _ _ v u Q I rx ry ⟨zx, dx', fs', _, rfl, hd', W.isTm iz, .inl rfl, zx, _, m, t0, t1, t2, n, u0, u1, u2, a, b, rfl, ix, hy, g0, g1, g2, g3, h0, h1, h2, h3, hab, q⟩
    · exact CmX.op_cmpMixR (E := E0) (fun _ _ => rfl) W.m_Share_le.at_ W.m_Share_le.fn W.m_Term_ge.at_ W.m_Term_ge.fn (of_decide_eq_true (W.ex 19 rfl)) (ni_le W) (raw0 G2 b2) r3 hr pass0 pins s σ H _ _ v u Q I rx ry ⟨zx, z, rfl, rfl, ⟨dy, _, hs⟩, ⟨dx, fs, hd⟩, _, _, _, rfl, W.isTm iz, W.knT, ⟨dy, _, hs⟩, ⟨dx, fs, hd⟩, rev⟩
    · exact CmX.op_cmpI (E := E0) (fun _ _ => rfl) cT CmX.dc_le W.m_Term_ge.at_ W.m_Term_ge.fn (raw0 G2 b2) hr hr.units0 pass0 pins s σ H _ _ v u Q I rx ry ⟨_, z, dx, fs, rfl, rfl, hd, rev⟩
theorem Wd.cGt (W : Wd X.K X.mg) (hr : Room 8 X.A) : OpR X (compareOp .Gt) (rRow X.K true false) := by
  obtain ⟨f1, G1, b1⟩ := ok_tgt (P := X.prog) (w := X.w) (base := X.base) W
  obtain ⟨f2, G2, b2⟩ := ok_tlt (P := X.prog) (w := X.w) (base := X.base) W
  have r3 : Room 3 X.A := hr.mono (by decide)
  have cT : CmX.CmpC X.K (He.ga X.K "Term") := CmX.cmpB_ok (W.ex 22 rfl)
  intro pins s σ H x y v u Q I rx ry h
  obtain ⟨m, t0, t1, t2, n, u0, u1, u2, a, b, hx, hy, hz, g0, g1, g2, g3, h0, h1, h2, h3, hab, q⟩ := h
  rcases hz with ⟨z, rfl, iz⟩ | ⟨z, rfl, iz⟩
  · obtain ⟨dx, fs, hd⟩ := iz.ins
    obtain ⟨t, ty, bs⟩ : ∃ t, TyOf X.K H y t ∧ CmX.Beside X.K (He.ga X.K "Term") t := by
      rcases hy with ⟨zy, rfl, iy⟩ | ⟨hn, _⟩
      · exact ⟨_, W.isTm iy, .inl rfl⟩
      · obtain ⟨t, ty, _, _, bs⟩ := W.nuTm hn
        exact ⟨t, ty, bs⟩
    exact CmX.op_cmpL (E := E0) (fun _ _ => rfl) W.m_Term_gt.at_ W.m_Term_gt.fn (raw0 G1 b1) hr hr.units0 pass0 pins s σ H _ y v u Q I rx ry ⟨z, dx, fs, t, rfl, hd, ty, bs, z, y, m, t0, t1, t2, n, u0, u1, u2, a, b, rfl, iz, hy, g0, g1, g2, g3, h0, h1, h2, h3, hab, q⟩
  · obtain ⟨dx, fs, hd⟩ := iz.ins
    have rev : spRC X.K true true [.ref z, x] H Q E0 := ⟨z, x, n, u0, u1, u2, m, t0, t1, t2, b, a, rfl, iz, hx, h0, h1, h2, h3, g0, g1, g2, g3, by omega, q⟩
    rcases hx with ⟨zx, rfl, ix⟩ | ⟨⟨zx, rfl, dy, hs⟩ | ⟨rfl, _⟩, _⟩
    · obtain ⟨dx', fs', hd'⟩ := ix.ins
      exact CmX.op_cmpL (E := E0) (fun _ _ => rfl) W.m_Term_gt.at_ W.m_Term_gt.fn (raw0 G1 b1) hr hr.units0 pass0 pins s σ H _ _ v u Q I rx ry ⟨zx, dx', fs', _, rfl, hd', W.isTm iz, .inl rfl, zx, _, m, t0, t1, t2, n, u0, u1, u2, a, b, rfl, ix, hy, g0, g1, g2, g3, h0, h1, h2, h3, hab, q⟩
    · exact CmX.op_cmpMixR (E := E0) (fun _ _ => rfl) W.m_Share_gt.at_ W.m_Share_gt.fn W.m_Term_lt.at_ W.m_Term_lt.fn (of_decide_eq_true (W.ex 19 rfl)) (ni_gt W) (raw0 G2 b2) r3 hr pass0 pins s σ H _ _ v u Q I rx ry ⟨zx, z, rfl, rfl, ⟨dy, _, hs⟩, ⟨dx, fs, hd⟩, _, _, _, rfl, W.isTm iz, W.knT, ⟨dy, _, hs⟩, ⟨dx, fs, hd⟩, rev⟩
    · exact CmX.op_cmpI (E := E0) (fun _ _ => rfl) cT CmX.dc_gt W.m_Term_lt.at_ W.m_Term_lt.fn (raw0 G2 b2) hr hr.units0 pass0 pins s σ H _ _ v u Q I rx ry ⟨_, z, dx, fs, rfl, rfl, hd, rev⟩
theorem Wd.cGe (W : Wd X.K X.mg) (hr : Room 8 X.A) : OpR X (compareOp .GtE) (rRow X.K false false) := by
  obtain ⟨f1, G1, b1⟩ := ok_tge (P := X.prog) (w := X.w) (base := X.base) W
  obtain ⟨f2, G2, b2⟩ := ok_tle (P := X.prog) (w := X.w) (base := X.base) W
  have r3 : Room 3 X.A := hr.mono (by decide)
  have cT : CmX.CmpC X.K (He.ga X.K "Term") := CmX.cmpB_ok (W.ex 22 rfl)
  intro pins s σ H x y v u Q I rx ry h
  obtain ⟨m, t0, t1, t2, n, u0, u1, u2, a, b, hx, hy, hz, g0, g1, g2, g3, h0, h1, h2, h3, hab, q⟩ := h
  rcases hz with ⟨z, rfl, iz⟩ | ⟨z, rfl, iz⟩
  · obtain ⟨dx, fs, hd⟩ := iz.ins
    obtain ⟨t, ty, bs⟩ : ∃ t, TyOf X.K H y t ∧ CmX.Beside X.K (He.ga X.K "Term") t := by
      rcases hy with ⟨zy, rfl, iy⟩ | ⟨hn, _⟩
      · exact ⟨_, W.isTm iy, .inl rfl⟩
      · obtain ⟨t, ty, _, _, bs⟩ := W.nuTm hn
        exact ⟨t, ty, bs⟩
    exact CmX.op_cmpL (E := E0) (fun _ _ => rfl) W.m_Term_ge.at_ W.m_Term_ge.fn (raw0 G1 b1) hr hr.units0 pass0 pins s σ H _ y v u Q I rx ry ⟨z, dx, fs, t, rfl, hd, ty, bs, z, y, m, t0, t1, t2, n, u0, u1, u2, a, b, rfl, iz, hy, g0, g1, g2, g3, h0, h1, h2, h3, hab, q⟩
  · obtain ⟨dx, fs, hd⟩ := iz.ins
    have rev : spRC X.K false true [.ref z, x] H Q E0 := ⟨z, x, n, u0, u1, u2, m, t0, t1, t2, b, a, rfl, iz, hx, h0, h1, h2, h3, g0, g1, g2, g3, by omega, q⟩
    rcases hx with ⟨zx, rfl, ix⟩ | ⟨⟨zx, rfl, dy, hs⟩ | ⟨rfl, _⟩, _⟩
    · obtain ⟨dx', fs', hd'⟩ := ix.ins
      exact CmX.op_cmpL (E := E0) (fun _ _ => rfl) W.m_Term_ge.at_ W.m_Term_ge.fn (raw0 G1 b1) hr hr.units0 pass0 pins s σ H _ _ v u Q I rx ry ⟨zx, dx', fs', _, rfl, hd', W.isTm iz, .inl rfl, zx, _, m, t0, t1, t2, n, u0, u1, u2, a, b, rfl, ix, hy, g0, g1, g2, g3, h0, h1, h2, h3, hab, q⟩
    · exact CmX.op_cmpMixR (E := E0) (fun _ _ => rfl) W.m_Share_ge.at_ W.m_Share_ge.fn W.m_Term_le.at_ W.m_Term_le.fn (of_decide_eq_true (W.ex 19 rfl)) (ni_ge W) (raw0 G2 b2) r3 hr pass0 pins s σ H _ _ v u Q I rx ry ⟨zx, z, rfl, rfl, ⟨dy, _, hs⟩, ⟨dx, fs, hd⟩, _, _, _, rfl, W.isTm iz, W.knT, ⟨dy, _, hs⟩, ⟨dx, fs, hd⟩, rev⟩
    · exact CmX.op_cmpI (E := E0) (fun _ _ => rfl) cT CmX.dc_ge W.m_Term_le.at_ W.m_Term_le.fn (raw0 G2 b2) hr hr.units0 pass0 pins s σ H _ _ v u Q I rx ry ⟨_, z, dx, fs, rfl, rfl, hd, rev⟩
end
/-! ### numbers of lowest integers, as the law finds them; what a row tells -/
/-- all of a list of truths -/
theorem all_true {K : PySem.W.Frag} {D : Addr} {H : Hp} {vs : List V} {Q : VK} (hD : H D = some (.lst vs)) (h : ∀ (j : Nat) (v : V), vs[j]? = some v → v = .bl true) (q : Q (.bl true) H) : rAll K [.ref D] H Q := by
  have e : vs = (List.replicate vs.length true).map V.bl := by
    rw [List.map_replicate]
    exact List.eq_replicate_iff.mpr ⟨rfl, fun b hb => by
      obtain ⟨j, hj⟩ := List.getElem?_of_mem hb
      exact h j b hj⟩
  refine ⟨D, List.replicate vs.length true, rfl, ?_, ?_⟩
  · rw [← e]
    exact SqL.of hD
  · have e2 : (List.replicate vs.length true).all id = true := by
      rw [List.all_eq_true]
      intro x hx
      exact (List.eq_of_mem_replicate hx)
    rw [e2]
    exact q
def gP (g0 g1 g2 g3 : Int) (j : Nat) : Nat := match j with
  | 0 => 0
  | 1 => Nat.gcd 0 g0.natAbs
  | 2 => Nat.gcd (Nat.gcd 0 g0.natAbs) g1.natAbs
  | 3 => Nat.gcd (Nat.gcd (Nat.gcd 0 g0.natAbs) g1.natAbs) g2.natAbs
  | _ => g4 g0 g1 g2 g3
def i4 (g0 g1 g2 g3 : Int) (j : Nat) : Int := match j with
  | 0 => g0
  | 1 => g1
  | 2 => g2
  | _ => g3
def ints4 (g0 g1 g2 g3 : Int) : HO := .lst [.int g0, .int g1, .int g2, .int g3]
theorem at4 {g0 g1 g2 g3 : Int} {j : Nat} {y : V} (h : [V.int g0, V.int g1, V.int g2, V.int g3][j]? = some y) : j < 4 ∧ y = .int (i4 g0 g1 g2 g3 j) := by
  match j, h with
  | 0, h => cases h; exact ⟨by decide, rfl⟩
  | 1, h => cases h; exact ⟨by decide, rfl⟩
  | 2, h => cases h; exact ⟨by decide, rfl⟩
  | 3, h => cases h; exact ⟨by decide, rfl⟩
theorem gP_succ {g0 g1 g2 g3 : Int} {j : Nat} (h : j < 4) : gP g0 g1 g2 g3 (j + 1) = Nat.gcd (gP g0 g1 g2 g3 j) (i4 g0 g1 g2 g3 j).natAbs := by
  match j, h with
  | 0, _ => rfl
  | 1, _ => rfl
  | 2, _ => rfl
  | 3, _ => rfl
theorem g4_lt {g0 g1 g2 g3 : Int} {n : Nat} (hn : 0 < n) (h0 : g0.natAbs < n) (h1 : g1.natAbs < n) (h2 : g2.natAbs < n) (h3 : g3.natAbs < n) : g4 g0 g1 g2 g3 < n := by
  have step : ∀ {a b : Nat}, a < n → b < n → Nat.gcd a b < n := fun {a b} ha hb => by
    by_cases hz : a = 0
    · rw [hz, Nat.gcd_zero_left]
      exact hb
    · exact Nat.lt_of_le_of_lt (Nat.gcd_le_left _ (by omega)) ha
  exact step (step (step (step hn h0) h1) h2) h3
section
variable {P : Program} {w : World} {K : PySem.W.Frag} {mg : Str → Option Value} {base : Heap} {fd : FuncData}
/-- items of a list of ints made one by one -/
theorem mono_int (f : Nat → Int) (j : Nat) : Mono (fun v _ => v = .int (f j)) := fun D xs v H H' hD s e => e
theorem four_ints {vs : List V} {f : Nat → Int} (hl : vs.length = 4) (h : ∀ (j : Nat) (v : V), vs[j]? = some v → v = .int (f j)) : vs = [.int (f 0), .int (f 1), .int (f 2), .int (f 3)] := by
  match vs, hl with
  | [a, b, c, d], _ =>
  have := h 0 a rfl
  have := h 1 b rfl
  have := h 2 c rfl
  have := h 3 d rfl
  subst_vars
  rfl
def spPrim (K : PySem.W.Frag) : Sp := fun vs H Q _ => ∃ (p : Addr) (g0 g1 g2 g3 : Int), vs = [.ref p] ∧ H p = some (ints4 g0 g1 g2 g3) ∧ g0.natAbs < 10 ^ 60 ∧ g1.natAbs < 10 ^ 60 ∧ g2.natAbs < 10 ^ 60 ∧ g3.natAbs < 10 ^ 60 ∧
  ∀ q H', H' q = some (ints4 (pr (g4 g0 g1 g2 g3) g0) (pr (g4 g0 g1 g2 g3) g1) (pr (g4 g0 g1 g2 g3) g2) (pr (g4 g0 g1 g2 g3) g3)) → Same H H' → Q (.ref q) H'
def spRowN (K : PySem.W.Frag) : Sp := fun vs H Q _ => ∃ (z : Addr) (st : Bool) (n0 n1 n2 n3 : Int), vs = [.ref z] ∧ IsRow K H z st (n0, 1) (n1, 1) (n2, 1) (n3, 1) ∧ ∀ q H', H' q = some (ints4 n0 n1 n2 n3) → Same H H' → Q (.ref q) H'
theorem Wd.isRow (W : Wd K mg) {H : Hp} {z : Addr} {st : Bool} {m t0 t1 t2 : Int × Int} (h : IsRow K H z st m t0 t1 t2) : TyOf K H (.ref z) (.ref (He.ga K "Row")) := by
  obtain ⟨dx, tz, h1, _⟩ := h
  exact .ins h1 W.cls_Row (He.eqO_ok W.e_clsRow) (He.eqO_ok (W.ex 1 rfl)) (of_decide_eq_true (W.ex 2 rfl)) (of_decide_eq_true W.e_objRow)
theorem look_term (n t : V) : List.lookup ("term" : Str) [(("term" : Str), n), (("strict" : Str), t)] = some n := rfl
theorem look_strict (n t : V) : List.lookup ("strict" : Str) [(("term" : Str), n), (("strict" : Str), t)] = some t := rfl
end
theorem pAdd_zl {p : Int × Int} (h : Low p.1 p.2) : pAdd (0, 1) p = p := by
  show lo (0 * p.2 + p.1 * 1) (1 * p.2) = _
  rw [Int.zero_mul, Int.zero_add, Int.mul_one, Int.one_mul, lo_low' h]
theorem pMul_one {p : Int × Int} (h : Low p.1 p.2) : pMul (1, 1) p = p := by
  show lo (1 * p.1) (1 * p.2) = _
  rw [Int.one_mul, Int.one_mul, lo_low' h]
theorem pMul_zl {p : Int × Int} (h : p.2 ≠ 0) : pMul (0, 1) p = (0, 1) := by
  show lo (0 * p.1) (1 * p.2) = _
  rw [Int.zero_mul, Int.one_mul]
  have := lo_eq (x := 0) (y := p.2) h (low_one 0) (by rw [Int.zero_mul, Int.zero_mul])
  exact Prod.ext this.1 this.2
/-- what has been put in before turn k -/
def cn (k j : Nat) (p : Int × Int) : Int × Int := if j < k then p else (0, 1)
theorem low01 : Low (0, 1).1 (0, 1).2 := low_one 0
theorem comb {k j : Nat} {p p' : Int × Int} (h : Low p.1 p.2) (h' : Low p'.1 p'.2) (e : j = k → p = p') : pAdd (pMul (dl (k : Int) (j : Int)) p) (cn k j p') = cn (k + 1) j p' := by
  by_cases hjk : j = k
  · have ee := e hjk
    subst hjk ee
    have e1 : dl (j : Int) (j : Int) = (1, 1) := by unfold dl; rw [if_pos rfl]
    have e2 : cn j j p = (0, 1) := if_neg (by omega)
    have e3 : cn (j + 1) j p = p := if_pos (by omega)
    rw [e1, e2, e3, pMul_one h, pAdd_zero h]
  · have e1 : dl (k : Int) (j : Int) = (0, 1) := by unfold dl; rw [if_neg (by omega)]
    rw [e1, pMul_zl (Int.ne_of_gt h.1)]
    unfold cn
    by_cases hl : j < k
    · rw [if_pos hl, if_pos (by omega), pAdd_zl h']
    · rw [if_neg hl, if_neg (by omega), pAdd_zl low01]
theorem cn_gd {n k j : Nat} {p : Int × Int} (h : Gd (n + 1) p) : Gd (n + 1) (cn k j p) := by
  unfold cn
  split
  · exact h
  · exact Gd.int (Nat.pow_pos (by decide))
/-! ### one row, written otherwise -/
theorem pr_scale {g c : Nat} {x : Int} (hc : 0 < c) : pr (g * c) (x * c) = pr g x := by
  unfold pr
  by_cases hg : g = 0
  · subst hg
    rw [if_pos (Nat.zero_mul c), if_pos rfl]
  · have h1 : g * c ≠ 0 := Nat.mul_ne_zero hg (by omega)
    rw [if_neg h1, if_neg hg, Int.fdiv_eq_ediv_of_nonneg _ (by omega), Int.fdiv_eq_ediv_of_nonneg _ (by omega)]
    rw [Int.natCast_mul]
    exact Int.mul_ediv_mul_of_pos_left _ _ (by omega)
theorem g4_scale {a b c d : Int} {k : Int} : g4 (a * k) (b * k) (c * k) (d * k) = g4 a b c d * k.natAbs := by
  unfold g4
  rw [Int.natAbs_mul, Int.natAbs_mul, Int.natAbs_mul, Int.natAbs_mul, gcd4_mul]
theorem g4_neg {a b c d : Int} : g4 (-a) (-b) (-c) (-d) = g4 a b c d := by
  unfold g4
  rw [Int.natAbs_neg, Int.natAbs_neg, Int.natAbs_neg, Int.natAbs_neg]
theorem pr_scaleI {a b c d k x : Int} (hk : 0 < k) : pr (g4 (a * k) (b * k) (c * k) (d * k)) (x * k) = pr (g4 a b c d) x := by
  rw [g4_scale]
  have e : ((k.natAbs : Nat) : Int) = k := by omega
  have := pr_scale (g := g4 a b c d) (c := k.natAbs) (x := x) (by omega)
  rw [e] at this
  exact this
theorem g4_dvd (a b c d : Int) : ((g4 a b c d : Nat) : Int) ∣ a ∧ ((g4 a b c d : Nat) : Int) ∣ b ∧ ((g4 a b c d : Nat) : Int) ∣ c ∧ ((g4 a b c d : Nat) : Int) ∣ d := by
  unfold g4
  refine ⟨?_, ?_, ?_, ?_⟩
  · exact Int.ofNat_dvd_left.mpr (Nat.dvd_trans (Nat.dvd_trans (Nat.dvd_trans (Nat.gcd_dvd_left _ _) (Nat.gcd_dvd_left _ _)) (Nat.gcd_dvd_left _ _)) (Nat.gcd_dvd_right _ _))
  · exact Int.ofNat_dvd_left.mpr (Nat.dvd_trans (Nat.dvd_trans (Nat.gcd_dvd_left _ _) (Nat.gcd_dvd_left _ _)) (Nat.gcd_dvd_right _ _))
  · exact Int.ofNat_dvd_left.mpr (Nat.dvd_trans (Nat.gcd_dvd_left _ _) (Nat.gcd_dvd_right _ _))
  · exact Int.ofNat_dvd_left.mpr (Nat.gcd_dvd_right _ _)
theorem pr_mul {g : Nat} {x : Int} (h : (g : Int) ∣ x) : pr g x * (if g = 0 then 1 else (g : Int)) = x := by
  unfold pr
  by_cases hg : g = 0
  · subst hg
    rw [if_pos rfl, if_pos rfl, Int.zero_mul]
    exact (Int.zero_dvd.mp h).symm
  · rw [if_neg hg, if_neg hg, Int.fdiv_eq_ediv_of_nonneg _ (by omega)]
    exact Int.ediv_mul_cancel h
theorem pr_neg {g : Nat} {x : Int} (h : (g : Int) ∣ x) : pr g (-x) = -pr g x := by
  unfold pr
  by_cases hg : g = 0
  · rw [if_pos hg, if_pos hg, Int.neg_zero]
  · rw [if_neg hg, if_neg hg, Int.fdiv_eq_ediv_of_nonneg _ (by omega), Int.fdiv_eq_ediv_of_nonneg _ (by omega)]
    exact Int.neg_ediv_of_dvd h
theorem pr_le {g : Nat} {x : Int} : (pr g x).natAbs ≤ x.natAbs := by
  unfold pr
  by_cases hg : g = 0
  · rw [if_pos hg]
    exact Nat.zero_le _
  · rw [if_neg hg, Int.fdiv_eq_ediv_of_nonneg _ (by omega)]
    exact Int.natAbs_ediv_le_natAbs _ _
/-- the row of four integers, in its one form -/
def IsP (K : PySem.W.Frag) (H : Hp) (z : Addr) (st : Bool) (a0 a1 a2 a3 : Int) : Prop := IsRow K H z st (pr (g4 a0 a1 a2 a3) a0, 1) (pr (g4 a0 a1 a2 a3) a1, 1) (pr (g4 a0 a1 a2 a3) a2, 1) (pr (g4 a0 a1 a2 a3) a3, 1)
/-- four numbers are four integers times one number above 0 -/
structure Ws (q0 q1 q2 q3 : Int × Int) (a0 a1 a2 a3 : Int) : Prop where
  w : ∃ C D : Int, 0 < C ∧ 0 < D ∧ q0.1 * D = a0 * C * q0.2 ∧ q1.1 * D = a1 * C * q1.2 ∧ q2.1 * D = a2 * C * q2.2 ∧ q3.1 * D = a3 * C * q3.2
  l0 : Low q0.1 q0.2
  l1 : Low q1.1 q1.2
  l2 : Low q2.1 q2.2
  l3 : Low q3.1 q3.2
theorem IsRw.isP {K : PySem.W.Frag} {H : Hp} {z : Addr} {st : Bool} {q0 q1 q2 q3 : Int × Int} {a0 a1 a2 a3 : Int} (h : IsRw K H z st q0 q1 q2 q3) (w : Ws q0 q1 q2 q3 a0 a1 a2 a3) : IsP K H z st a0 a1 a2 a3 := by
  obtain ⟨⟨C, D, hC, hD, e0, e1, e2, e3⟩, l0, l1, l2, l3⟩ := w
  obtain ⟨r0, r1, r2, r3⟩ := rowForm l0 l1 l2 l3 hD e0 e1 e2 e3
  unfold IsRw at h
  rw [r0, r1, r2, r3, pr_scaleI hC, pr_scaleI hC, pr_scaleI hC, pr_scaleI hC] at h
  exact h
/-- integers times a number -/
theorem Ws.mul {a0 a1 a2 a3 : Int} {n : Int × Int} (h1 : 0 < n.1) (h2 : 0 < n.2) : Ws (lo (a0 * n.1) n.2) (lo (a1 * n.1) n.2) (lo (a2 * n.1) n.2) (lo (a3 * n.1) n.2) a0 a1 a2 a3 := by
  have hn : n.2 ≠ 0 := by omega
  exact ⟨⟨n.1, n.2, h1, h2, lo_cross hn, lo_cross hn, lo_cross hn, lo_cross hn⟩, low_lo hn, low_lo hn, low_lo hn, low_lo hn⟩
theorem Ws.int (a0 a1 a2 a3 : Int) : Ws (a0, 1) (a1, 1) (a2, 1) (a3, 1) a0 a1 a2 a3 := ⟨⟨1, 1, by decide, by decide, by omega, by omega, by omega, by omega⟩, low_one _, low_one _, low_one _, low_one _⟩
/-- the negated lowest integers -/
theorem Ws.neg (a0 a1 a2 a3 : Int) : Ws (-pr (g4 a0 a1 a2 a3) a0, 1) (-pr (g4 a0 a1 a2 a3) a1, 1) (-pr (g4 a0 a1 a2 a3) a2, 1) (-pr (g4 a0 a1 a2 a3) a3, 1) (-a0) (-a1) (-a2) (-a3) := by
  obtain ⟨d0, d1, d2, d3⟩ := g4_dvd a0 a1 a2 a3
  refine ⟨⟨1, if g4 a0 a1 a2 a3 = 0 then 1 else (g4 a0 a1 a2 a3 : Int), by decide, ?_, ?_, ?_, ?_, ?_⟩, low_one _, low_one _, low_one _, low_one _⟩
  · split <;> omega
  all_goals (rw [Int.mul_one, Int.mul_one])
  all_goals (show -pr _ _ * _ = _)
  all_goals (rw [Int.neg_mul])
  · rw [pr_mul d0]
  · rw [pr_mul d1]
  · rw [pr_mul d2]
  · rw [pr_mul d3]
theorem pSub_int (a b : Int) : pSub (a, 1) (b, 1) = (a - b, 1) := by
  show lo (a * 1 - b * 1) (1 * 1) = _
  rw [Int.mul_one, Int.mul_one, Int.mul_one, lo_int]
theorem i4_all {a b c d : Int} {P : Int → Prop} (h0 : P a) (h1 : P b) (h2 : P c) (h3 : P d) (j : Nat) : P (i4 a b c d j) := by
  match j with
  | 0 => exact h0
  | 1 => exact h1
  | 2 => exact h2
  | j + 3 => exact h3
theorem ix_nat {xs : List V} {r : Int} {v : V} (h0 : 0 ≤ r) (h : xs[r.toNat]? = some v) : ((if 0 ≤ r then if r < ((xs.length : Nat) : Int) then some r.toNat else none else if -((xs.length : Nat) : Int) ≤ r then some (r + ((xs.length : Nat) : Int)).toNat else none).bind fun j => xs[j]?) = some v := by
  obtain ⟨hl, _⟩ := List.getElem?_eq_some_iff.mp h
  rw [if_pos h0, if_pos (by omega)]
  exact h
section
variable {X : Cx} {CX : CXT} {n : Nat} {sp : Sp} {E : XK} {C f : Addr}
/-- ~x by x's own def -/
theorem un_inv (hs : PySem.W.findIn X.K (.ref C) "__invert__" = some (some (.ref f))) (hf : PySem.W.isFn X.K (.ref f) = true) (F : FnR X.prog X.w X.K X.mg X.base CX n f sp) (hr : Room n X.A) (hx : Passes CX X E) : UnR X (unaryOp .Invert) (rUnO C sp E) := by
  intro pins s σ H x v Q I rx h
  obtain ⟨a, dx, fs, rfl, ha, q⟩ := h
  cases (show v = Value.ref a from rx)
  obtain ⟨mA, O, _⟩ := ins_get I.hok ha
  obtain ⟨od, J, _⟩ := O.look
  obtain ⟨m, hF⟩ := I.fr
  exact PySem.W.ksp_inv hF I.ok.mod.kin J hs hf (wpAny_call (run_fnR (us := [.ref a]) (vs := [.ref a]) F hr hx I (.cons rfl .nil) q))
end
section
variable {P : Program} {w : World} {K : PySem.W.Frag} {mg : Str → Option Value} {base : Heap} {fd : FuncData}
def aR (K : PySem.W.Frag) (m : Str) : Addr := He.ma K (He.ga K "Row") m
def spREq (K : PySem.W.Frag) : Sp := fun vs H Q _ => ∃ (z : Addr) (v : V), vs = [.ref z, v] ∧ ((∃ t, TyOf K H v t ∧ PySem.W.kitOne K t (.ref (He.ga K "Row")) = some false ∧ Q (.bl false) H) ∨
  ∃ (y : Addr) (st st' : Bool) (m t0 t1 t2 n u0 u1 u2 : Int × Int), v = .ref y ∧ IsRow K H z st m t0 t1 t2 ∧ IsRow K H y st' n u0 u1 u2 ∧ SmP m n ∧ SmP t0 u0 ∧ SmP t1 u1 ∧ SmP t2 u2 ∧ ∀ H', Same H H' → Q (.bl (decide (st = st') && eqT m t0 t1 t2 n u0 u1 u2)) H')
theorem scRowEq : FnScope ["self", "other"] ["self", "other"] d_Row_eq.scope := ⟨rfl, rfl, rfl, by decide +kernel, rfl, by decide +kernel, by decide +kernel⟩
theorem ok_Row_eq (W : Wd K mg) : ∃ fd, FnOk P w K mg base CX0 6 (aR K "__eq__") fd ["self", "other"] (spREq K) ∧ Binds K fd ["self", "other"] [] := by
  obtain ⟨fd, F⟩ := W.F_Row_eq
  refine ⟨fd, F.ok scRowEq (fun vs H Q E h => ?_) (fun cdv A outer s H vs Q E hr h => ?_), FunD.bindsN F fun _ _ _ _ _ _ us hl => match us, hl with | [_, _], _ => rfl⟩
  · obtain ⟨z, v, rfl, _⟩ := h
    rfl
  · obtain ⟨z, v, rfl, h⟩ := h
    have r1 : Room 1 _ := hr.mono (by decide)
    have r2 : Room 2 _ := hr.mono (by decide)
    have r3 : Room 3 _ := hr.mono (by decide)
    have r4 : Room 4 _ := hr.mono (by decide)
    have r5 : Room 5 _ := hr.mono (by decide)
    refine ⟨_, PSs.nox (pss_one (ps_ret (pe_and (pe_callB isi_G (by rfl) W.f_isinstance boot_isinstance (pa_cons (pv 1) (pa_cons (pe_glob (v := .ref (He.ga K "Row")) rfl W.g_Row rfl) pa_nil))) (pe_and (pe_cmpR op_eq (pe_fld (pv 0) rfl) (pe_fld (pv 1) rfl) (nomark _)) (pe_one (pe_cmpR (W.opTEq hr) (pe_fld (pv 0) rfl) (pe_fld (pv 1) rfl) (nomark _))))))), ?_⟩
    simp -dsimp [tSeq, tAsg, tRet, tIfS, tIf, tTest, tVar, tCons, tNil, tC, tOp, tUn, rI, rI0, rU, tCB, tLst_A, tTup_A, gName, L2.start, CMul, CPow, CDiv, tDrop, tBM, tBM0, tNext, tPar, gSub, rSetL, rIxL, rIxT, tChain, tB, tNot, tNotV, tAnd, tOr, tAndV, tOrV, tFld, tCall, rIxLH, rIxTH, atI, ixN, upd_same, cxK, ex2, ex3, ex3b, rIs1, rIs2, rNe2, tyN, kb1, kb2, kb3, kb4, kb5, kb6, rEq, rNe, scal, tMake_S, tMakeK_S, tMakeN_S]
    rcases h with ⟨t, ty, k, q⟩ | ⟨y, st, st', m, t0, t1, t2, n, u0, u1, u2, rfl, hx, hy, s0, s1, s2, s3, q⟩
    · exact ⟨_, _, t, _, false, rfl, .own _, ty, k, .inl ⟨rfl, q⟩⟩
    · refine ⟨_, _, _, _, true, rfl, .own _, W.isRow hy, of_decide_eq_true W.e_kitRow, .inr ⟨rfl, ?_⟩⟩
      obtain ⟨dx, tz, e1, it⟩ := id hx
      obtain ⟨dy, ty, e2, iy⟩ := id hy
      simp -dsimp [tSeq, tAsg, tRet, tIfS, tIf, tTest, tVar, tCons, tNil, tC, tOp, tUn, rI, rI0, rU, tCB, tLst_A, tTup_A, gName, L2.start, CMul, CPow, CDiv, tDrop, tBM, tBM0, tNext, tPar, gSub, rSetL, rIxL, rIxT, tChain, tB, tNot, tNotV, tAnd, tOr, tAndV, tOrV, tFld, tCall, rIxLH, rIxTH, atI, ixN, upd_same, cxK, ex2, ex3, ex3b, rIs1, rIs2, rNe2, tyN, kb1, kb2, kb3, kb4, kb5, kb6, rEq, rNe, scal, tMake_S, tMakeK_S, tMakeN_S, e1, e2, rowO, W.cls_Row, W.n_Row_term, W.n_Row_strict, look_term, look_strict]
      split
      · rename_i hst
        refine ⟨tz, m, t0, t1, t2, rfl, it, .inr ⟨ty, m, t0, t1, t2, n, u0, u1, u2, rfl, it, iy, s0, s1, s2, s3, fun H' s' => ?_⟩⟩
        have k := q H' s'
        rw [decide_eq_true hst, Bool.true_and] at k
        exact k
      · rename_i hst
        have k := q H (Same.refl _)
        rw [decide_eq_false hst, Bool.false_and] at k
        exact k
end
section
variable {X : Cx}
theorem Wd.cmpRw (W : Wd X.K X.mg) : CmX.CmpC X.K (He.ga X.K "Row") := CmX.cmpB_ok W.e_cmpRow
/-- what is compared with a row -/
def RwOr (K : PySem.W.Frag) (H : Hp) (x : Addr) (v : V) (R : Bool → Hp → Prop) : Prop := (∃ t, TyOf K H v t ∧ PySem.W.kitOne K t (.ref (He.ga K "Row")) = some false ∧ CmX.Beside K (He.ga K "Row") t ∧ R false H) ∨
  ∃ (y : Addr) (st st' : Bool) (m t0 t1 t2 n u0 u1 u2 : Int × Int), v = .ref y ∧ IsRow K H x st m t0 t1 t2 ∧ IsRow K H y st' n u0 u1 u2 ∧ SmP m n ∧ SmP t0 u0 ∧ SmP t1 u1 ∧ SmP t2 u2 ∧ ∀ H', Same H H' → R (decide (st = st') && eqT m t0 t1 t2 n u0 u1 u2) H'
def rRE (K : PySem.W.Frag) (f : Bool → Bool) : R2 := fun x y H Q => ∃ (z : Addr) (st : Bool) (m t0 t1 t2 : Int × Int), x = .ref z ∧ IsRow K H z st m t0 t1 t2 ∧ RwOr K H z y (fun b H' => Q (.bl (f b)) H')
theorem RwOr.sp {K : PySem.W.Frag} {H : Hp} {x : Addr} {v : V} {R : Bool → Hp → Prop} {Q : VK} {E : XK} (h : RwOr K H x v R) (k : ∀ b H', R b H' → Q (.bl b) H') : spREq K [.ref x, v] H Q E := by
  rcases h with ⟨t, ty, kt, _, r⟩ | ⟨y, st, st', m, t0, t1, t2, n, u0, u1, u2, e, hx, hy, s0, s1, s2, s3, r⟩
  · exact ⟨x, v, rfl, .inl ⟨t, ty, kt, k _ _ r⟩⟩
  · exact ⟨x, v, rfl, .inr ⟨y, st, st', m, t0, t1, t2, n, u0, u1, u2, e, hx, hy, s0, s1, s2, s3, fun H' s' => k _ _ (r H' s')⟩⟩
theorem RwOr.ty {K : PySem.W.Frag} {mg : Str → Option Value} (W : Wd K mg) {H : Hp} {x : Addr} {v : V} {R : Bool → Hp → Prop} (h : RwOr K H x v R) : ∃ t, TyOf K H v t ∧ CmX.Beside K (He.ga K "Row") t := by
  rcases h with ⟨t, ty, kt, b, r⟩ | ⟨y, st, st', m, t0, t1, t2, n, u0, u1, u2, rfl, hx, hy, s0, s1, s2, s3, r⟩
  · exact ⟨t, ty, b⟩
  · exact ⟨_, W.isRow hy, .inl rfl⟩
theorem Wd.opREq (W : Wd X.K X.mg) (hr : Room 6 X.A) : OpR X (compareOp .Eq) (rRE X.K id) := by
  obtain ⟨f1, G1, b1⟩ := ok_Row_eq (P := X.prog) (w := X.w) (base := X.base) W
  intro pins s σ H x y v u Q I rx ry h
  obtain ⟨z, st, m, t0, t1, t2, rfl, hz, h⟩ := h
  obtain ⟨t, ty, bs⟩ := h.ty W
  obtain ⟨dx, tz, e1, _⟩ := id hz
  exact CmX.op_cmpL (E := E0) (fun _ _ => rfl) W.m_Row_eq.at_ W.m_Row_eq.fn (raw0 G1 b1) hr hr.units0 pass0 pins s σ H _ y v u Q I rx ry ⟨z, dx, _, t, rfl, e1, ty, bs, h.sp fun b H' r => r⟩
theorem Wd.opRNe (W : Wd X.K X.mg) (hr : Room 7 X.A) : OpR X (compareOp .NotEq) (rRE X.K not) := by
  obtain ⟨f1, G1, b1⟩ := ok_Row_eq (P := X.prog) (w := X.w) (base := X.base) W
  intro pins s σ H x y v u Q I rx ry h
  obtain ⟨z, st, m, t0, t1, t2, rfl, hz, h⟩ := h
  obtain ⟨t, ty, bs⟩ := h.ty W
  obtain ⟨dx, tz, e1, _⟩ := id hz
  exact CmX.op_neL (E := E0) W.cmpRw W.m_Row_eq.at_ W.m_Row_eq.fn (raw0 G1 b1) hr (hu_of hr) pass0 pins s σ H _ y v u Q I rx ry ⟨z, dx, _, t, rfl, e1, ty, bs, h.sp fun b H' r => ⟨b, rfl, r⟩⟩
end
/-- of one worth: m is a over d -/
def Cm (m : Int × Int) (a d : Int) : Prop := m.1 * d = a * m.2
theorem sub_w {m n : Int × Int} {a b d e : Int} (hm : m.2 ≠ 0) (hn : n.2 ≠ 0) (h1 : Cm m a d) (h2 : Cm n b e) : (pSub n m).1 * (d * e) = (b * d - a * e) * (pSub n m).2 := by
  have hy : n.2 * m.2 ≠ 0 := Int.mul_ne_zero hn hm
  have c := lo_cross (x := n.1 * m.2 - m.1 * n.2) hy
  have c' : (pSub n m).1 * (n.2 * m.2) = (n.1 * m.2 - m.1 * n.2) * (pSub n m).2 := c
  unfold Cm at h1 h2
  refine Int.eq_of_mul_eq_mul_right hy ?_
  generalize pSub n m = p at c'
  grind
theorem Cm.int (k : Int) : Cm (k, 1) k 1 := rfl
theorem Cm.mul (a : Int) {c : Int × Int} (h : c.2 ≠ 0) : Cm (pMul (a, 1) c) (a * c.1) c.2 := by
  have e := lo_cross (x := a * c.1) (y := 1 * c.2) (by rw [Int.one_mul]; exact h)
  rw [Int.one_mul] at e
  show (lo (a * c.1) (1 * c.2)).1 * c.2 = a * c.1 * (lo (a * c.1) (1 * c.2)).2
  rw [Int.one_mul]
  exact e
theorem Cm.sub {m n : Int × Int} {a b d e : Int} (hm : m.2 ≠ 0) (hn : n.2 ≠ 0) (h1 : Cm m a d) (h2 : Cm n b e) : Cm (pSub n m) (b * d - a * e) (d * e) := sub_w hm hn h1 h2
theorem Cm.to {q : Int × Int} {b d b' d' : Int} (h : Cm q b d) (hb : b = b') (hd : d = d') : Cm q b' d' := by
  subst hb hd
  exact h
theorem Ws.of {q0 q1 q2 q3 : Int × Int} {a0 a1 a2 a3 C D : Int} (hC : 0 < C) (hD : 0 < D) (h0 : Cm q0 (a0 * C) D) (h1 : Cm q1 (a1 * C) D) (h2 : Cm q2 (a2 * C) D) (h3 : Cm q3 (a3 * C) D) (l0 : Low q0.1 q0.2) (l1 : Low q1.1 q1.2) (l2 : Low q2.1 q2.2) (l3 : Low q3.1 q3.2) : Ws q0 q1 q2 q3 a0 a1 a2 a3 := ⟨⟨C, D, hC, hD, h0, h1, h2, h3⟩, l0, l1, l2, l3⟩
/-- a times c, less 0 -/
theorem cm0 (a : Int) {c : Int × Int} (h : c.2 ≠ 0) (hm : (pMul (a, 1) c).2 ≠ 0) : Cm (pSub (pMul (a, 1) c) (0, 1)) (a * c.1) c.2 := (Cm.sub (by decide) hm (Cm.int 0) (Cm.mul a h)).to (by rw [Int.zero_mul, Int.mul_one, Int.sub_zero]) (Int.one_mul _)
theorem cm5 (a : Int) {c : Int × Int} (h : c.2 ≠ 0) (hm : (pMul (a, 1) c).2 ≠ 0) : Cm (pSub (0, 1) (pMul (a, 1) c)) (-a * c.1) c.2 := (Cm.sub hm (by decide) (Cm.mul a h) (Cm.int 0)).to (by rw [Int.zero_mul, Int.mul_one, Int.zero_sub, Int.neg_mul]) (Int.mul_one _)
/-- k less (k less a times r) -/
theorem cm4 (k a : Int) {r : Int × Int} (h : r.2 ≠ 0) (hm : (pMul (a, 1) r).2 ≠ 0) (hn : (pSub (k, 1) (pMul (a, 1) r)).2 ≠ 0) : Cm (pSub (k, 1) (pSub (k, 1) (pMul (a, 1) r))) (a * r.1) r.2 := (Cm.sub hn (by show (1 : Int) ≠ 0; decide) (Cm.sub hm (by show (1 : Int) ≠ 0; decide) (Cm.mul a h) (Cm.int k)) (Cm.int k)).to (by
  rw [Int.mul_one, Int.mul_one, Int.mul_one]
  omega) (by rw [Int.mul_one, Int.mul_one])
theorem lo_pos {x y : Int} (hx : 0 < x) (hy : 0 < y) : 0 < (lo x y).1 := by
  have c : (lo x y).1 * y = x * (lo x y).2 := lo_cross (by omega)
  have l2 : 0 < (lo x y).2 := (low_lo (x := x) (y := y) (by omega)).1
  have h3 : 0 < (lo x y).1 * y := by rw [c]; exact Int.mul_pos hx l2
  rcases Int.lt_or_le 0 (lo x y).1 with h4 | h4
  · exact h4
  · have := Int.mul_nonpos_of_nonpos_of_nonneg h4 (Int.le_of_lt hy)
    omega
theorem go1 : Gd 1 ((1 : Int), (1 : Int)) := ⟨low_one _, by decide, by decide⟩
theorem gz1 : Gd 1 ((0 : Int), (1 : Int)) := ⟨low_one _, by decide, by decide⟩
theorem row0 {K : PySem.W.Frag} {H : Hp} {Q : VK} {st fl : Bool} {x : Addr} {p0 p1 p2 p3 : Int × Int} {n : Nat} (ix : IsTm K H x p0 p1 p2 p3) (g0 : Gd n p0) (g1 : Gd n p1) (g2 : Gd n p2) (g3 : Gd n p3) (hn : n ≤ 50)
    (k : ∀ z H', Same H H' → (if fl then IsRw K H' z st (pSub (0, 1) p0) (pSub (0, 1) p1) (pSub (0, 1) p2) (pSub (0, 1) p3) else IsRw K H' z st (pSub p0 (0, 1)) (pSub p1 (0, 1)) (pSub p2 (0, 1)) (pSub p3 (0, 1))) → Q (.ref z) H') : rRow K st fl (.ref x) (.int 0) H Q :=
  ⟨p0, p1, p2, p3, (0, 1), (0, 1), (0, 1), (0, 1), n, 1, .inl ⟨x, rfl, ix⟩, .inr ⟨.inr ⟨rfl, rfl⟩, rfl, rfl, rfl⟩, .inl ⟨x, rfl, ix⟩, g0, g1, g2, g3, gz1, gz1, gz1, gz1, by omega, k⟩
theorem row0l {K : PySem.W.Frag} {H : Hp} {Q : VK} {st fl : Bool} {x : Addr} {p0 p1 p2 p3 : Int × Int} {n : Nat} (ix : IsTm K H x p0 p1 p2 p3) (g0 : Gd n p0) (g1 : Gd n p1) (g2 : Gd n p2) (g3 : Gd n p3) (hn : n ≤ 50)
    (k : ∀ z H', Same H H' → (if fl then IsRw K H' z st (pSub p0 (0, 1)) (pSub p1 (0, 1)) (pSub p2 (0, 1)) (pSub p3 (0, 1)) else IsRw K H' z st (pSub (0, 1) p0) (pSub (0, 1) p1) (pSub (0, 1) p2) (pSub (0, 1) p3)) → Q (.ref z) H') : rRow K st fl (.int 0) (.ref x) H Q :=
  ⟨(0, 1), (0, 1), (0, 1), (0, 1), p0, p1, p2, p3, 1, n, .inr ⟨.inr ⟨rfl, rfl⟩, rfl, rfl, rfl⟩, .inl ⟨x, rfl, ix⟩, .inr ⟨x, rfl, ix⟩, gz1, gz1, gz1, gz1, g0, g1, g2, g3, by omega, k⟩
theorem row2 {K : PySem.W.Frag} {H : Hp} {Q : VK} {st fl : Bool} {x y : Addr} {p0 p1 p2 p3 u0 u1 u2 u3 : Int × Int} {n m : Nat} (ix : IsTm K H x p0 p1 p2 p3) (iy : IsTm K H y u0 u1 u2 u3) (g0 : Gd n p0) (g1 : Gd n p1) (g2 : Gd n p2) (g3 : Gd n p3) (h0 : Gd m u0) (h1 : Gd m u1) (h2 : Gd m u2) (h3 : Gd m u3) (hn : n + m + 1 ≤ 60)
    (k : ∀ z H', Same H H' → (if fl then IsRw K H' z st (pSub u0 p0) (pSub u1 p1) (pSub u2 p2) (pSub u3 p3) else IsRw K H' z st (pSub p0 u0) (pSub p1 u1) (pSub p2 u2) (pSub p3 u3)) → Q (.ref z) H') : rRow K st fl (.ref x) (.ref y) H Q :=
  ⟨p0, p1, p2, p3, u0, u1, u2, u3, n, m, .inl ⟨x, rfl, ix⟩, .inl ⟨y, rfl, iy⟩, .inl ⟨x, rfl, ix⟩, g0, g1, g2, g3, h0, h1, h2, h3, hn, k⟩
theorem Wd.opGt {X : Cx} (W : Wd X.K X.mg) (hr : Room 3 X.A) : OpR X (compareOp .Gt) (spNum2 X.K fun z => decide (0 < z)) := by
  obtain ⟨f1, G1, b1⟩ := ok_gt (P := X.prog) (w := X.w) (base := X.base) W
  obtain ⟨f2, G2, b2⟩ := ok_lt (P := X.prog) (w := X.w) (base := X.base) W
  exact op_num (f := fun z => decide (0 < z)) (g := fun z => decide (z < 0)) W (fun _ _ => rfl) CmX.dc_gt (fun z => by
    have e : (-z < 0) = (0 < z) := propext ⟨fun h => by omega, fun h => by omega⟩
    simp only [e]) W.m_Share_gt.at_ W.m_Share_gt.fn W.m_Share_lt.at_ W.m_Share_lt.fn (raw0 G1 b1) (raw0 G2 b2) hr hr.units0
theorem Wd.opGe {X : Cx} (W : Wd X.K X.mg) (hr : Room 3 X.A) : OpR X (compareOp .GtE) (spNum2 X.K fun z => decide (0 ≤ z)) := by
  obtain ⟨f1, G1, b1⟩ := ok_ge (P := X.prog) (w := X.w) (base := X.base) W
  obtain ⟨f2, G2, b2⟩ := ok_le (P := X.prog) (w := X.w) (base := X.base) W
  exact op_num (f := fun z => decide (0 ≤ z)) (g := fun z => decide (z ≤ 0)) W (fun _ _ => rfl) CmX.dc_ge (fun z => by
    have e : (-z ≤ 0) = (0 ≤ z) := propext ⟨fun h => by omega, fun h => by omega⟩
    simp only [e]) W.m_Share_ge.at_ W.m_Share_ge.fn W.m_Share_le.at_ W.m_Share_le.fn (raw0 G1 b1) (raw0 G2 b2) hr hr.units0
/-! ### what a term is at a point -/
def wat (m : Int × Int) (t c : Nat → Int × Int) : Nat → Int × Int
  | 0 => m
  | k + 1 => pAdd (wat m t c k) (pMul (t k) (c k))
def n3 (t0 t1 t2 : Int × Int) : Nat → Int × Int
  | 0 => t0
  | 1 => t1
  | _ => t2
theorem wat_gd {m : Int × Int} {t c : Nat → Int × Int} {n : Nat} (hm : Gd 13 m) (ht : ∀ j, Gd 13 (t j)) (hc : ∀ j, j < n → Gd 40 (c j)) : ∀ k, k ≤ n → Gd (13 + 54 * k) (wat m t c k)
  | 0, _ => hm
  | k + 1, h => by
    have e : 13 + 54 * (k + 1) = (13 + 54 * k) + (13 + 40) + 1 := by omega
    rw [e]
    exact (wat_gd hm ht hc k (by omega)).add ((ht k).mul (hc k (by omega)))
theorem mem_at {x y : V} {a : Str} {v : V} (h : (a, v) ∈ [(("number" : Str), x), (("times" : Str), y)]) : a ≠ "at" := fun e => by
  subst e
  rcases List.mem_cons.mp h with h | h
  · exact absurd (show ("at" : Str) = "number" from congrArg Prod.fst h) (by decide +kernel)
  · rcases List.mem_cons.mp h with h | h
    · exact absurd (show ("at" : Str) = "times" from congrArg Prod.fst h) (by decide +kernel)
    · cases h
section
variable {P : Program} {w : World} {K : PySem.W.Frag} {mg : Str → Option Value} {base : Heap} {fd : FuncData}
/-- worths at p, of sizes -/
def Pt (K : PySem.W.Frag) (H : Hp) (p : Addr) (ys : List V) (c : Nat → Int × Int) : Prop := (H p = some (.lst ys) ∨ H p = some (.tup ys)) ∧ ∀ (j : Nat) (v : V), ys[j]? = some v → Nu K H v (c j).1 (c j).2 ∧ Gd 40 (c j)
def spAt (K : PySem.W.Frag) : Sp := fun vs H Q _ => ∃ (x p : Addr) (m t0 t1 t2 : Int × Int) (ys : List V) (c : Nat → Int × Int), vs = [.ref x, .ref p] ∧ IsTm K H x m t0 t1 t2 ∧ Pt K H p ys c ∧ Gd 13 m ∧ Gd 13 t0 ∧ Gd 13 t1 ∧ Gd 13 t2 ∧
  ∀ z H', Same H H' → IsS K H' z (wat m (n3 t0 t1 t2) c (min 3 ys.length)) → Q (.ref z) H'
theorem scTermAt : FnScope ["self", "point", "total", "times", "worth"] ["self", "point"] d_Term_at.scope := ⟨rfl, rfl, rfl, by decide +kernel, rfl, by decide +kernel, by decide +kernel⟩
theorem ok_Term_at (W : Wd K mg) : ∃ fd, FnOk P w K mg base CX0 5 (aT K "at") fd ["self", "point"] (spAt K) ∧ Binds K fd ["self", "point"] [] := by
  obtain ⟨fd, F⟩ := W.F_Term_at
  refine ⟨fd, F.ok scTermAt (fun vs H Q E h => ?_) (fun cdv A outer s H vs Q E hr h => ?_), FunD.bindsN F fun _ _ _ _ _ _ us hl => match us, hl with | [_, _], _ => rfl⟩
  · obtain ⟨x, p, _, _, _, _, _, _, rfl, _⟩ := h
    rfl
  · obtain ⟨x, p, m, t0, t1, t2, ys, c, rfl, hx, hp, gm, g0, g1, g2, q⟩ := h
    have r1 : Room 1 _ := hr.mono (by decide)
    have r2 : Room 2 _ := hr.mono (by decide)
    have r3 : Room 3 _ := hr.mono (by decide)
    have r4 : Room 4 _ := hr.mono (by decide)
    refine ⟨_, PSs.nox (pss_cons (ps_set (i := 2) scTermAt.nd rfl (Or.inl rfl) (pe_fld (pv 0) rfl))
    (pss_cons (ps_for PassesOwn.never rfl (ZmY.pi_zipM (by rfl) W.f_zip (pa_cons (pe_fld (pv 0) rfl) (pa_cons (pv 1) pa_nil))) (pg_tup rfl (pgs_cons (pg_name (i := 3) scTermAt.nd rfl (Or.inl rfl)) (pgs_cons (pg_name (i := 4) scTermAt.nd rfl (Or.inl rfl)) pgs_nil))) (pss_one (ps_set (i := 2) scTermAt.nd rfl (Or.inl rfl) (pe_op (W.sAdd hr) (pv 2) (pe_op (W.sMul hr) (pv 3) (pv 4))))))
    (pss_one (ps_ret (pv 2))))), ?_⟩
    obtain ⟨dx, ax, tp, b0, b1, b2, e1, e2, e3, e4, e5, e6⟩ := id hx
    simp -dsimp [tSeq, tAsg, tRet, tIfS, tIf, tTest, tVar, tCons, tNil, tC, tOp, tUn, rI, rI0, rU, tCB, tLst_A, tTup_A, gName, L2.start, CMul, CPow, CDiv, tDrop, tBM, tBM0, tNext, tPar, gSub, rSetL, rIxL, rIxT, tChain, tB, tNot, tNotV, tAnd, tOr, tAndV, tOrV, tFld, tCall, rIxLH, rIxTH, atI, ixN, upd_same, cxK, ex2, ex3, ex3b, rIs1, rIs2, rNe2, tyN, kb1, kb2, kb3, kb4, kb5, kb6, rEq, rNe, scal, tMake_S, tMakeK_S, tMakeN_S, e1, termO, W.cls_Term, W.n_Term_number, W.n_Term_times, look_num, look_tim]
    have ht : H tp = some (.tup [.ref b0, .ref b1, .ref b2]) := e3
    have gn : ∀ j, Gd 13 (n3 t0 t1 t2 j) := fun j => by
      match j with
      | 0 => exact g0
      | 1 => exact g1
      | j + 2 => exact g2
    have hc : ∀ j, j < min 3 ys.length → Gd 40 (c j) := fun j hj => (hp.2 j _ (List.getElem?_eq_getElem (by omega))).2
    refine ZmY.forM tp p [.ref b0, .ref b1, .ref b2] ys ht hp.1 (fun R h => by
      simp -dsimp [tSeq, tAsg, tRet, tIfS, tIf, tTest, tVar, tCons, tNil, tC, tOp, tUn, rI, rI0, rU, tCB, tLst_A, tTup_A, gName, L2.start, CMul, CPow, CDiv, tDrop, tBM, tBM0, tNext, tPar, gSub, rSetL, rIxL, rIxT, tChain, tB, tNot, tNotV, tAnd, tOr, tAndV, tOrV, tFld, tCall, rIxLH, rIxTH, atI, ixN, upd_same, cxK, ex2, ex3, ex3b, rIs1, rIs2, rNe2, tyN, kb1, kb2, kb3, kb4, kb5, kb6, rEq, rNe, scal, tMake_S, tMakeK_S, tMakeN_S, e1, termO, W.cls_Term, W.n_Term_number, W.n_Term_times, look_num, look_tim]
      exact h) (fun i σ' H' => i ≤ min 3 ys.length ∧ ∃ (z : Addr) (v3 v4 : Option V), σ' = [some (.ref x), some (.ref p), some (.ref z), v3, v4] ∧ Same H H' ∧ IsS K H' z (wat m (n3 t0 t1 t2) c i)) ?_ ?_ ?_ ?_
    · exact ⟨Nat.zero_le _, ax, none, none, rfl, Same.refl _, e2⟩
    · rintro i σ' H' ⟨_, z, v3, v4, _, s', _⟩ b o e
      exact s' b o e
    · rintro i u y σ' H' T hu hy nT ⟨hi, z, v3, v4, rfl, s', iz⟩
      obtain ⟨hi3, bi, rfl, ib⟩ : i < 3 ∧ ∃ bi, u = .ref bi ∧ IsS K H bi (n3 t0 t1 t2 i) := by
        match i, hu with
        | 0, hu => cases hu; exact ⟨by decide, b0, rfl, e4⟩
        | 1, hu => cases hu; exact ⟨by decide, b1, rfl, e5⟩
        | 2, hu => cases hu; exact ⟨by decide, b2, rfl, e6⟩
      have hiy : i < ys.length := (List.getElem?_eq_some_iff.mp hy).1
      obtain ⟨hn, hg⟩ := hp.2 i y hy
      have sT : Same H' (upd H' T (HO.tup [V.ref bi, y])) := same_upd nT
      have s2 := s'.trans sT
      refine tup2 upd_same ?_
      simp -dsimp [tSeq, tAsg, tRet, tIfS, tIf, tTest, tVar, tCons, tNil, tC, tOp, tUn, rI, rI0, rU, tCB, tLst_A, tTup_A, gName, L2.start, CMul, CPow, CDiv, tDrop, tBM, tBM0, tNext, tPar, gSub, rSetL, rIxL, rIxT, tChain, tB, tNot, tNotV, tAnd, tOr, tAndV, tOrV, tFld, tCall, rIxLH, rIxTH, atI, ixN, upd_same, cxK, ex2, ex3, ex3b, rIs1, rIs2, rNe2, tyN, kb1, kb2, kb3, kb4, kb5, kb6, rEq, rNe, scal, tMake_S, tMakeK_S, tMakeN_S]
      refine ⟨bi, n3 t0 t1 t2 i, c i, rfl, IsSh.same ib s2, hn.same s2, (gn i).ok hg, fun w1 G1 q1 ia => ?_⟩
      refine ⟨z, wat m (n3 t0 t1 t2) c i, pMul (n3 t0 t1 t2 i) (c i), rfl, IsSh.same iz (sT.trans q1), .inl ⟨w1, rfl, ia⟩, (wat_gd (n := min 3 ys.length) gm gn hc i hi).ok ((gn i).mul hg) (by omega) (by decide), fun z' G2 q2 iz' => ?_⟩
      exact ⟨by omega, z', rfl, (s2.trans q1).trans q2, iz'⟩
    · rintro σ' H' ⟨_, z, v3, v4, rfl, s', iz⟩
      exact ⟨_, rfl, q z H' s' iz⟩

def spHolds (K : PySem.W.Frag) : Sp := fun vs H Q _ => ∃ (z p : Addr) (st : Bool) (m t0 t1 t2 : Int × Int) (ys : List V) (c : Nat → Int × Int), vs = [.ref z, .ref p] ∧ IsRow K H z st m t0 t1 t2 ∧ Pt K H p ys c ∧ Gd 13 m ∧ Gd 13 t0 ∧ Gd 13 t1 ∧ Gd 13 t2 ∧
  ∀ H', Same H H' → Q (.bl (if st then decide (0 < (wat m (n3 t0 t1 t2) c (min 3 ys.length)).1) else decide (0 ≤ (wat m (n3 t0 t1 t2) c (min 3 ys.length)).1))) H'
theorem scRowHolds : FnScope ["self", "point", "worth"] ["self", "point"] d_Row_holds.scope := ⟨rfl, rfl, rfl, by decide +kernel, rfl, by decide +kernel, by decide +kernel⟩
theorem ok_Row_holds (W : Wd K mg) : ∃ fd, FnOk P w K mg base CX0 6 (aR K "holds") fd ["self", "point"] (spHolds K) ∧ Binds K fd ["self", "point"] [] := by
  obtain ⟨fd_Term_at, G_Term_at, b_Term_at⟩ := ok_Term_at (P := P) (w := w) (base := base) W
  obtain ⟨fd, F⟩ := W.F_Row_holds
  refine ⟨fd, F.ok scRowHolds (fun vs H Q E h => ?_) (fun cdv A outer s H vs Q E hr h => ?_), FunD.bindsN F fun _ _ _ _ _ _ us hl => match us, hl with | [_, _], _ => rfl⟩
  · obtain ⟨z, p, _, _, _, _, _, _, _, rfl, _⟩ := h
    rfl
  · obtain ⟨z, p, st, m, t0, t1, t2, ys, c, rfl, hz, hp, gm, g0, g1, g2, q⟩ := h
    have r1 : Room 1 _ := hr.mono (by decide)
    have r2 : Room 2 _ := hr.mono (by decide)
    have r3 : Room 3 _ := hr.mono (by decide)
    have r4 : Room 4 _ := hr.mono (by decide)
    have r5 : Room 5 _ := hr.mono (by decide)
    refine ⟨_, PSs.nox (pss_cons (ps_set (i := 2) scRowHolds.nd rfl (Or.inl rfl) (pe_meth (pe_fld (pv 0) rfl) W.cls_Term W.m_Term_at G_Term_at r5 b_Term_at .nil pass0 (pa_cons (pv 1) pa_nil)))
    (pss_cons (ps_if (pt_val (pe_fld (pv 0) rfl)) (pss_one (ps_ret (pe_cmpR (W.opGt r3) (pv 2) pe_int (nomark _)))) pss_nil)
    (pss_one (ps_ret (pe_cmpR (W.opGe r3) (pv 2) pe_int (nomark _)))))), ?_⟩
    obtain ⟨dx, tz, e1, it⟩ := id hz
    simp -dsimp [tSeq, tAsg, tRet, tIfS, tIf, tTest, tVar, tCons, tNil, tC, tOp, tUn, rI, rI0, rU, tCB, tLst_A, tTup_A, gName, L2.start, CMul, CPow, CDiv, tDrop, tBM, tBM0, tNext, tPar, gSub, rSetL, rIxL, rIxT, tChain, tB, tNot, tNotV, tAnd, tOr, tAndV, tOrV, tFld, tCall, rIxLH, rIxTH, atI, ixN, upd_same, cxK, ex2, ex3, ex3b, rIs1, rIs2, rNe2, tyN, kb1, kb2, kb3, kb4, kb5, kb6, rEq, rNe, scal, tMake_S, tMakeK_S, tMakeN_S, tMeth, e1, rowO, W.cls_Row, W.n_Row_term, W.n_Row_strict, look_term, look_strict]
    obtain ⟨dt, ax, tp, b0, b1, b2, f1, _⟩ := id it
    have hc : ∀ j, j < min 3 ys.length → Gd 40 (c j) := fun j hj => (hp.2 j _ (List.getElem?_eq_getElem (by omega))).2
    have gn : ∀ j, Gd 13 (n3 t0 t1 t2 j) := fun j => by
      match j with
      | 0 => exact g0
      | 1 => exact g1
      | j + 2 => exact g2
    refine ⟨dt, _, f1, fun a b h e => mem_at h e.symm, tz, p, m, t0, t1, t2, ys, c, rfl, it, hp, gm, g0, g1, g2, fun w1 H1 s1 iw => ⟨_, _, _, s1 _ _ e1, W.cls_Row, W.n_Row_strict, .bl st, rfl, ?_⟩⟩
    have gw := wat_gd (n := min 3 ys.length) gm gn hc _ (Nat.le_refl _)
    have ok := gw.ok (Gd.dl 0 0) (by omega) (by decide)
    generalize wat m (n3 t0 t1 t2) c (min 3 ys.length) = u at iw q gw ok
    have sm : Sm u.1 u.2 0 1 := ⟨ok.1.1, ok.1.2.1, h_of (by decide), h_of (by decide)⟩
    have e0 : u.1 * 1 - 0 * u.2 = u.1 := by omega
    cases st
    · refine .inl ⟨rfl, u.1, u.2, 0, 1, .inl ⟨w1, rfl, iw⟩, .inr ⟨rfl, rfl⟩, sm, .inl ⟨w1, rfl⟩, fun H' s' => ?_⟩
      rw [e0]
      exact q H' (s1.trans s')
    · refine .inr ⟨rfl, u.1, u.2, 0, 1, .inl ⟨w1, rfl, iw⟩, .inr ⟨rfl, rfl⟩, sm, .inl ⟨w1, rfl⟩, fun H' s' => ?_⟩
      rw [e0]
      exact q H' (s1.trans s')

end
/-! ### same, of things of every sort -/
/-- isinstance of two kinds, of a thing of a known class -/
def rIs2G (K : PySem.W.Frag) : List V → Hp → VK → Prop := fun xs H Q => ∃ (x : V) (tp : Addr) (T1 T2 : String) (t : Value) (b1 b2 : Bool), xs = [x, .ref tp] ∧ H tp = some (.tup [.ty T1, .ty T2]) ∧ TyOf K H x t ∧ PySem.W.kitOne K t (.type T1) = some b1 ∧ PySem.W.kitOne K t (.type T2) = some b2 ∧ Q (.bl (b1 || b2)) H
def rIs4G (K : PySem.W.Frag) : List V → Hp → VK → Prop := fun xs H Q => ∃ (x : V) (tp : Addr) (T1 T2 T3 T4 : String) (t : Value) (b1 b2 b3 b4 : Bool), xs = [x, .ref tp] ∧ H tp = some (.tup [.ty T1, .ty T2, .ty T3, .ty T4]) ∧ TyOf K H x t ∧ PySem.W.kitOne K t (.type T1) = some b1 ∧ PySem.W.kitOne K t (.type T2) = some b2 ∧ PySem.W.kitOne K t (.type T3) = some b3 ∧ PySem.W.kitOne K t (.type T4) = some b4 ∧ Q (.bl (b1 || (b2 || (b3 || b4)))) H
/-- neither list, tuple, truth nor int -/
def Plain (K : PySem.W.Frag) (t : Value) : Prop := PySem.W.kitOne K t (.type "list") = some false ∧ PySem.W.kitOne K t (.type "tuple") = some false ∧ PySem.W.kitOne K t (.type "bool") = some false ∧ PySem.W.kitOne K t (.type "int") = some false
def h60 (a b : Int) : Prop := a.natAbs < bigH ∧ b.natAbs < bigH
def hP (p : Int × Int) : Prop := h60 p.1 p.2
theorem hP.sm {p : Int × Int} (h : hP p) : SmP p p := ⟨h.1, h.2, h.1, h.2⟩
/-- what same compares by == at once, and is equal -/
inductive ThE (K : PySem.W.Frag) (H : Hp) : V → V → Prop where
  | non : ThE K H .non .non
  | str (x : Str) : ThE K H (.str x) (.str x)
  | sh {x y : Addr} {a b : Int} (h : IsSh K H x a b) (k : IsSh K H y a b) (m : h60 a b) : ThE K H (.ref x) (.ref y)
  | tm {x y : Addr} {p0 p1 p2 p3 : Int × Int} (h : IsTm K H x p0 p1 p2 p3) (k : IsTm K H y p0 p1 p2 p3) (m0 : hP p0) (m1 : hP p1) (m2 : hP p2) (m3 : hP p3) : ThE K H (.ref x) (.ref y)
  | rw {x y : Addr} {st : Bool} {p0 p1 p2 p3 : Int × Int} (h : IsRow K H x st p0 p1 p2 p3) (k : IsRow K H y st p0 p1 p2 p3) (m0 : hP p0) (m1 : hP p1) (m2 : hP p2) (m3 : hP p3) : ThE K H (.ref x) (.ref y)
theorem ThE.same {K : PySem.W.Frag} {H H' : Hp} {u v : V} (h : ThE K H u v) (s : Same H H') : ThE K H' u v := by
  cases h with
  | non => exact .non
  | str x => exact .str x
  | sh h k m => exact .sh (h.same s) (k.same s) m
  | tm h k m0 m1 m2 m3 => exact .tm (h.same s) (k.same s) m0 m1 m2 m3
  | rw h k m0 m1 m2 m3 => exact .rw (h.same s) (k.same s) m0 m1 m2 m3
/-- things that same says True of, n deep -/
inductive SmV (K : PySem.W.Frag) (H : Hp) : Nat → V → V → Prop where
  | int (n : Nat) (i : Int) : SmV K H n (.int i) (.int i)
  | bl (n : Nat) (i : Bool) : SmV K H n (.bl i) (.bl i)
  | thp (n : Nat) {u v : V} (h : ThE K H u v) : SmV K H n u v
  | lst (n : Nat) {p q : Addr} {xs ys : List V} (hp : H p = some (.lst xs)) (hq : H q = some (.lst ys)) (hl : xs.length = ys.length) (hb : xs.length ≤ 500) (h : ∀ (i : Nat) (x y : V), xs[i]? = some x → ys[i]? = some y → SmV K H n x y) : SmV K H (n + 1) (.ref p) (.ref q)
  | tup (n : Nat) {p q : Addr} {xs ys : List V} (hp : H p = some (.tup xs)) (hq : H q = some (.tup ys)) (hl : xs.length = ys.length) (hb : xs.length ≤ 500) (h : ∀ (i : Nat) (x y : V), xs[i]? = some x → ys[i]? = some y → SmV K H n x y) : SmV K H (n + 1) (.ref p) (.ref q)
theorem SmV.same {K : PySem.W.Frag} {H H' : Hp} {n : Nat} {u v : V} (h : SmV K H n u v) (s : Same H H') : SmV K H' n u v := by
  induction h with
  | int n i => exact .int n i
  | bl n i => exact .bl n i
  | thp n h => exact .thp n (h.same s)
  | lst n hp hq hl hb h ih => exact .lst n (s _ _ hp) (s _ _ hq) hl hb ih
  | tup n hp hq hl hb h ih => exact .tup n (s _ _ hp) (s _ _ hq) hl hb ih
theorem SmV.up {K : PySem.W.Frag} {H : Hp} {n : Nat} {u v : V} (h : SmV K H n u v) : SmV K H (n + 1) u v := by
  induction h with
  | int n i => exact .int _ i
  | bl n i => exact .bl _ i
  | thp n h => exact .thp _ h
  | lst n hp hq hl hb h ih => exact .lst _ hp hq hl hb ih
  | tup n hp hq hl hb h ih => exact .tup _ hp hq hl hb ih
theorem SmV.mono {K : PySem.W.Frag} {H : Hp} {n m : Nat} {u v : V} (h : SmV K H n u v) (hm : n ≤ m) : SmV K H m u v := by
  induction hm with
  | refl => exact h
  | step _ ih => exact ih.up
def rThE (K : PySem.W.Frag) : R2 := fun x y H Q => ThE K H x y ∧ ∀ H', Same H H' → Q (.bl true) H'
theorem eqP_self' (p : Int × Int) : eqP p p = true := by
  unfold eqP
  rw [Int.sub_self]
  rfl
theorem eqT_self' (m t0 t1 t2 : Int × Int) : eqT m t0 t1 t2 m t0 t1 t2 = true := by
  unfold eqT
  rw [eqP_self', eqP_self', eqP_self', eqP_self']
  rfl
section
variable {X : Cx}
theorem isi_2G : CallR X (.builtin "isinstance") (rIs2G X.K) := by
  intro pins s σ H xs us Q I r h
  obtain ⟨x, tp, T1, T2, t, b1, b2, e, hT, ty, k1, k2, q⟩ := h
  refine call_isiT pins s σ H xs us Q I r ⟨x, tp, _, t, [.type T1, .type T2], b1 || b2, e, hT, .cons (.ty T1) (.cons (.ty T2) .nil), .base ty, ?_, q⟩
  refine kitAny_cons k1 (fun f => ?_) (fun f => by rw [f]; rfl)
  rw [f]
  refine kitAny_cons k2 (fun f => ?_) (fun f => by rw [f]; rfl)
  rw [f]
  exact kitAny_nil
theorem isi_4G : CallR X (.builtin "isinstance") (rIs4G X.K) := by
  intro pins s σ H xs us Q I r h
  obtain ⟨x, tp, T1, T2, T3, T4, t, b1, b2, b3, b4, e, hT, ty, k1, k2, k3, k4, q⟩ := h
  refine call_isiT pins s σ H xs us Q I r ⟨x, tp, _, t, [.type T1, .type T2, .type T3, .type T4], b1 || (b2 || (b3 || b4)), e, hT, .cons (.ty T1) (.cons (.ty T2) (.cons (.ty T3) (.cons (.ty T4) .nil))), .base ty, ?_, q⟩
  refine kitAny_cons k1 (fun f => ?_) (fun f => by rw [f]; rfl)
  rw [f]
  refine kitAny_cons k2 (fun f => ?_) (fun f => by rw [f]; rfl)
  rw [f]
  refine kitAny_cons k3 (fun f => ?_) (fun f => by rw [f]; rfl)
  rw [f]
  refine kitAny_cons k4 (fun f => ?_) (fun f => by rw [f]; rfl)
  rw [f]
  exact kitAny_nil
theorem Wd.opThE (W : Wd X.K X.mg) (hr : Room 6 X.A) : OpR X (compareOp .Eq) (rThE X.K) := by
  intro pins s σ H x y v u Q I rx ry h
  obtain ⟨t, q⟩ := h
  cases t with
  | non => exact op_eq pins s σ H _ _ v u Q I rx ry ⟨rfl, q H (Same.refl _)⟩
  | str x => exact op_eq pins s σ H _ _ v u Q I rx ry ⟨rfl, by
      have e : decide (V.str x = V.str x) = true := by simp only [decide_true]
      rw [e]
      exact q H (Same.refl _)⟩
  | @sh x y a b h k m => exact W.opEq (hr.mono (by decide)) pins s σ H _ _ v u Q I rx ry ⟨a, b, a, b, .inl ⟨x, rfl, h⟩, .inl ⟨y, rfl, k⟩, ⟨m.1, m.2, m.1, m.2⟩, .inl ⟨x, rfl⟩, fun H' s' => by
      rw [Int.sub_self]
      exact q H' s'⟩
  | @tm x y p0 p1 p2 p3 h k m0 m1 m2 m3 => exact W.opTEq (hr.mono (by decide)) pins s σ H _ _ v u Q I rx ry ⟨x, p0, p1, p2, p3, rfl, h, .inr ⟨y, _, _, _, _, _, _, _, _, rfl, h, k, m0.sm, m1.sm, m2.sm, m3.sm, fun H' s' => by
      rw [eqT_self']
      exact q H' s'⟩⟩
  | @rw x y st p0 p1 p2 p3 h k m0 m1 m2 m3 => exact W.opREq hr pins s σ H _ _ v u Q I rx ry ⟨x, st, p0, p1, p2, p3, rfl, h, .inr ⟨y, _, _, _, _, _, _, _, _, _, _, rfl, h, k, m0.sm, m1.sm, m2.sm, m3.sm, fun H' s' => by
      rw [eqT_self', decide_eq_true rfl]
      exact q H' s'⟩⟩
end
section
variable {P : Program} {w : World} {K : PySem.W.Frag} {mg : Str → Option Value} {base : Heap}
theorem Wd.theTy (W : Wd K mg) {H : Hp} {u v : V} (h : ThE K H u v) : ∃ t, TyOf K H u t ∧ TyOf K H v t ∧ Plain K t := by
  cases h with
  | non => exact ⟨_, .non, .non, kit_ty (by decide +kernel), kit_ty (by decide +kernel), kit_ty (by decide +kernel), kit_ty (by decide +kernel)⟩
  | str x => exact ⟨_, .str x, .str x, kit_ty (by decide +kernel), kit_ty (by decide +kernel), kit_ty (by decide +kernel), kit_ty (by decide +kernel)⟩
  | sh h k m =>
    have f := List.all_eq_true.mp (W.ex 31 rfl)
    exact ⟨_, W.isSh h, W.isSh k, of_decide_eq_true (f "list" (by decide)), of_decide_eq_true (f "tuple" (by decide)), of_decide_eq_true (f "bool" (by decide)), of_decide_eq_true (f "int" (by decide))⟩
  | tm h k m0 m1 m2 m3 =>
    have f := List.all_eq_true.mp W.e_bTerm
    exact ⟨_, W.isTm h, W.isTm k, of_decide_eq_true (f "list" (by decide)), of_decide_eq_true (f "tuple" (by decide)), of_decide_eq_true (f "bool" (by decide)), of_decide_eq_true (f "int" (by decide))⟩
  | rw h k m0 m1 m2 m3 =>
    have f := List.all_eq_true.mp W.e_bRow
    exact ⟨_, W.isRow h, W.isRow k, of_decide_eq_true (f "list" (by decide)), of_decide_eq_true (f "tuple" (by decide)), of_decide_eq_true (f "bool" (by decide)), of_decide_eq_true (f "int" (by decide))⟩
def spSame (K : PySem.W.Frag) (n : Nat) : Sp := fun vs H Q _ => ∃ (u v : V), vs = [u, v] ∧ SmV K H n u v ∧ ∀ H', Same H H' → Q (.bl true) H'
theorem kb7 : kitB "bool" "list" = some false := by decide +kernel
theorem kb8 : kitB "bool" "tuple" = some false := by decide +kernel
theorem kb9 : kitB "bool" "bool" = some true := by decide +kernel
theorem kb10 : kitB "bool" "int" = some true := by decide +kernel
theorem kb11 : kitB "list" "list" = some true := by decide +kernel
theorem kb12 : kitB "list" "tuple" = some false := by decide +kernel
theorem scSame : FnScope ["_law_found", "_law_due", "_law_left", "_law_right"] ["_law_found", "_law_due"] d_same.scope := ⟨rfl, rfl, rfl, by decide +kernel, rfl, by decide +kernel, by decide +kernel⟩
theorem ok_same0 (W : Wd K mg) (n : Nat) (deep : n = 0 ∨ ∃ (m : Nat) (fd : FuncData), n = m + 1 ∧ FnOk P w K mg base CX0 (m + 7) (He.ga K "_law_same") fd ["_law_found", "_law_due"] (spSame K m) ∧ Binds K fd ["_law_found", "_law_due"] []) :
    ∃ fd, FnOk P w K mg base CX0 (n + 7) (He.ga K "_law_same") fd ["_law_found", "_law_due"] (spSame K n) ∧ Binds K fd ["_law_found", "_law_due"] [] := by
  obtain ⟨fd, F⟩ := W.F_same
  refine ⟨fd, F.ok scSame (fun vs H Q E h => ?_) (fun cdv A outer s H vs Q E hr h => ?_), FunD.bindsN F fun _ _ _ _ _ _ us hl => match us, hl with | [_, _], _ => rfl⟩
  · obtain ⟨u, v, rfl, _⟩ := h
    rfl
  · obtain ⟨u, v, rfl, h, k⟩ := h
    have r6 : Room 6 _ := hr.mono (by omega)
    cases h with
    | int n i =>
      refine ⟨_, PSs.nox (pss_cons (ps_if (pt_val (pe_callB isi_2 (by rfl) W.f_isinstance boot_isinstance (pa_cons (pv 1) (pa_cons (pe_tup (pa_cons (pe_bltn (v := .ty "list") (by rfl) W.f_list (by decide +kernel) rfl) (pa_cons (pe_bltn (v := .ty "tuple") (by rfl) W.f_tuple (by decide +kernel) rfl) pa_nil))) pa_nil)))) pss_never pss_nil)
    (pss_cons (ps_if (pt_val (pe_callB isi_2 (by rfl) W.f_isinstance boot_isinstance (pa_cons (pv 1) (pa_cons (pe_tup (pa_cons (pe_bltn (v := .ty "bool") (by rfl) W.f_bool (by decide +kernel) rfl) (pa_cons (pe_bltn (v := .ty "int") (by rfl) W.f_int (by decide +kernel) rfl) pa_nil))) pa_nil)))) (pss_one (ps_ret (pe_and (pe_callB isi_1 (by rfl) W.f_isinstance boot_isinstance (pa_cons (pv 0) (pa_cons (pe_bltn (v := .ty "int") (by rfl) W.f_int (by decide +kernel) rfl) pa_nil))) (pe_and (pe_cmpR op_eq (pe_callB isi_1 (by rfl) W.f_isinstance boot_isinstance (pa_cons (pv 0) (pa_cons (pe_bltn (v := .ty "bool") (by rfl) W.f_bool (by decide +kernel) rfl) pa_nil))) (pe_callB isi_1 (by rfl) W.f_isinstance boot_isinstance (pa_cons (pv 1) (pa_cons (pe_bltn (v := .ty "bool") (by rfl) W.f_bool (by decide +kernel) rfl) pa_nil))) (nomark _)) (pe_one (pe_cmpR op_eq (pv 0) (pv 1) (nomark _))))))) pss_nil)
    pss_never)), ?_⟩
      simp -dsimp [tSeq, tAsg, tRet, tIfS, tIf, tTest, tVar, tCons, tNil, tC, tOp, tUn, rI, rI0, rU, tCB, tLst_A, tTup_A, gName, L2.start, CMul, CPow, CDiv, tDrop, tBM, tBM0, tNext, tPar, gSub, rSetL, rIxL, rIxT, tChain, tB, tNot, tNotV, tAnd, tOr, tAndV, tOrV, tFld, tCall, rIxLH, rIxTH, atI, ixN, upd_same, cxK, ex2, ex3, ex3b, rIs1, rIs2, rNe2, tyN, kb1, kb2, kb3, kb4, kb5, kb6, rEq, rNe, scal, tMake_S, tMakeK_S, tMakeN_S]
      refine ⟨le2, Alloc.of fun p1 H1 n1 e1 s1 => ?_⟩
      simp -dsimp [tSeq, tAsg, tRet, tIfS, tIf, tTest, tVar, tCons, tNil, tC, tOp, tUn, rI, rI0, rU, tCB, tLst_A, tTup_A, gName, L2.start, CMul, CPow, CDiv, tDrop, tBM, tBM0, tNext, tPar, gSub, rSetL, rIxL, rIxT, tChain, tB, tNot, tNotV, tAnd, tOr, tAndV, tOrV, tFld, tCall, rIxLH, rIxTH, atI, ixN, upd_same, cxK, ex2, ex3, ex3b, rIs1, rIs2, rNe2, tyN, kb1, kb2, kb3, kb4, kb5, kb6, rEq, rNe, scal, tMake_S, tMakeK_S, tMakeN_S, e1]
      refine ⟨le2, Alloc.of fun p2 H2 n2 e2 s2 => ?_⟩
      simp -dsimp [tSeq, tAsg, tRet, tIfS, tIf, tTest, tVar, tCons, tNil, tC, tOp, tUn, rI, rI0, rU, tCB, tLst_A, tTup_A, gName, L2.start, CMul, CPow, CDiv, tDrop, tBM, tBM0, tNext, tPar, gSub, rSetL, rIxL, rIxT, tChain, tB, tNot, tNotV, tAnd, tOr, tAndV, tOrV, tFld, tCall, rIxLH, rIxTH, atI, ixN, upd_same, cxK, ex2, ex3, ex3b, rIs1, rIs2, rNe2, tyN, kb1, kb2, kb3, kb4, kb5, kb6, rEq, rNe, scal, tMake_S, tMakeK_S, tMakeN_S, e2]
      exact k _ (s1.trans s2)
    | bl n i =>
      refine ⟨_, PSs.nox (pss_cons (ps_if (pt_val (pe_callB isi_2 (by rfl) W.f_isinstance boot_isinstance (pa_cons (pv 1) (pa_cons (pe_tup (pa_cons (pe_bltn (v := .ty "list") (by rfl) W.f_list (by decide +kernel) rfl) (pa_cons (pe_bltn (v := .ty "tuple") (by rfl) W.f_tuple (by decide +kernel) rfl) pa_nil))) pa_nil)))) pss_never pss_nil)
    (pss_cons (ps_if (pt_val (pe_callB isi_2 (by rfl) W.f_isinstance boot_isinstance (pa_cons (pv 1) (pa_cons (pe_tup (pa_cons (pe_bltn (v := .ty "bool") (by rfl) W.f_bool (by decide +kernel) rfl) (pa_cons (pe_bltn (v := .ty "int") (by rfl) W.f_int (by decide +kernel) rfl) pa_nil))) pa_nil)))) (pss_one (ps_ret (pe_and (pe_callB isi_1 (by rfl) W.f_isinstance boot_isinstance (pa_cons (pv 0) (pa_cons (pe_bltn (v := .ty "int") (by rfl) W.f_int (by decide +kernel) rfl) pa_nil))) (pe_and (pe_cmpR op_eq (pe_callB isi_1 (by rfl) W.f_isinstance boot_isinstance (pa_cons (pv 0) (pa_cons (pe_bltn (v := .ty "bool") (by rfl) W.f_bool (by decide +kernel) rfl) pa_nil))) (pe_callB isi_1 (by rfl) W.f_isinstance boot_isinstance (pa_cons (pv 1) (pa_cons (pe_bltn (v := .ty "bool") (by rfl) W.f_bool (by decide +kernel) rfl) pa_nil))) (nomark _)) (pe_one (pe_cmpR op_eq (pv 0) (pv 1) (nomark _))))))) pss_nil)
    pss_never)), ?_⟩
      simp -dsimp [tSeq, tAsg, tRet, tIfS, tIf, tTest, tVar, tCons, tNil, tC, tOp, tUn, rI, rI0, rU, tCB, tLst_A, tTup_A, gName, L2.start, CMul, CPow, CDiv, tDrop, tBM, tBM0, tNext, tPar, gSub, rSetL, rIxL, rIxT, tChain, tB, tNot, tNotV, tAnd, tOr, tAndV, tOrV, tFld, tCall, rIxLH, rIxTH, atI, ixN, upd_same, cxK, ex2, ex3, ex3b, rIs1, rIs2, rNe2, tyN, kb1, kb2, kb3, kb4, kb5, kb6, rEq, rNe, scal, tMake_S, tMakeK_S, tMakeN_S, kb7, kb8, kb9, kb10]
      refine ⟨le2, Alloc.of fun p1 H1 n1 e1 s1 => ?_⟩
      simp -dsimp [tSeq, tAsg, tRet, tIfS, tIf, tTest, tVar, tCons, tNil, tC, tOp, tUn, rI, rI0, rU, tCB, tLst_A, tTup_A, gName, L2.start, CMul, CPow, CDiv, tDrop, tBM, tBM0, tNext, tPar, gSub, rSetL, rIxL, rIxT, tChain, tB, tNot, tNotV, tAnd, tOr, tAndV, tOrV, tFld, tCall, rIxLH, rIxTH, atI, ixN, upd_same, cxK, ex2, ex3, ex3b, rIs1, rIs2, rNe2, tyN, kb1, kb2, kb3, kb4, kb5, kb6, rEq, rNe, scal, tMake_S, tMakeK_S, tMakeN_S, kb7, kb8, kb9, kb10, e1]
      refine ⟨le2, Alloc.of fun p2 H2 n2 e2 s2 => ?_⟩
      simp -dsimp [tSeq, tAsg, tRet, tIfS, tIf, tTest, tVar, tCons, tNil, tC, tOp, tUn, rI, rI0, rU, tCB, tLst_A, tTup_A, gName, L2.start, CMul, CPow, CDiv, tDrop, tBM, tBM0, tNext, tPar, gSub, rSetL, rIxL, rIxT, tChain, tB, tNot, tNotV, tAnd, tOr, tAndV, tOrV, tFld, tCall, rIxLH, rIxTH, atI, ixN, upd_same, cxK, ex2, ex3, ex3b, rIs1, rIs2, rNe2, tyN, kb1, kb2, kb3, kb4, kb5, kb6, rEq, rNe, scal, tMake_S, tMakeK_S, tMakeN_S, kb7, kb8, kb9, kb10, e2]
      exact k _ (s1.trans s2)
    | thp n h =>
      refine ⟨_, PSs.nox (pss_cons (ps_if (pt_val (pe_callB isi_2G (by rfl) W.f_isinstance boot_isinstance (pa_cons (pv 1) (pa_cons (pe_tup (pa_cons (pe_bltn (v := .ty "list") (by rfl) W.f_list (by decide +kernel) rfl) (pa_cons (pe_bltn (v := .ty "tuple") (by rfl) W.f_tuple (by decide +kernel) rfl) pa_nil))) pa_nil)))) pss_never pss_nil)
    (pss_cons (ps_if (pt_val (pe_callB isi_2G (by rfl) W.f_isinstance boot_isinstance (pa_cons (pv 1) (pa_cons (pe_tup (pa_cons (pe_bltn (v := .ty "bool") (by rfl) W.f_bool (by decide +kernel) rfl) (pa_cons (pe_bltn (v := .ty "int") (by rfl) W.f_int (by decide +kernel) rfl) pa_nil))) pa_nil)))) pss_never pss_nil)
    (pss_one (ps_ret (pe_and (pe_not (pe_callB isi_4G (by rfl) W.f_isinstance boot_isinstance (pa_cons (pv 0) (pa_cons (pe_tup (pa_cons (pe_bltn (v := .ty "bool") (by rfl) W.f_bool (by decide +kernel) rfl) (pa_cons (pe_bltn (v := .ty "int") (by rfl) W.f_int (by decide +kernel) rfl) (pa_cons (pe_bltn (v := .ty "list") (by rfl) W.f_list (by decide +kernel) rfl) (pa_cons (pe_bltn (v := .ty "tuple") (by rfl) W.f_tuple (by decide +kernel) rfl) pa_nil))))) pa_nil)))) (pe_one (pe_cmpR (W.opThE r6) (pv 0) (pv 1) (nomark _)))))))), ?_⟩
      simp -dsimp [tSeq, tAsg, tRet, tIfS, tIf, tTest, tVar, tCons, tNil, tC, tOp, tUn, rI, rI0, rU, tCB, tLst_A, tTup_A, gName, L2.start, CMul, CPow, CDiv, tDrop, tBM, tBM0, tNext, tPar, gSub, rSetL, rIxL, rIxT, tChain, tB, tNot, tNotV, tAnd, tOr, tAndV, tOrV, tFld, tCall, rIxLH, rIxTH, atI, ixN, upd_same, cxK, ex2, ex3, ex3b, rIs1, rIs2, rNe2, tyN, kb1, kb2, kb3, kb4, kb5, kb6, rEq, rNe, scal, tMake_S, tMakeK_S, tMakeN_S]
      refine ⟨le2, Alloc.of fun p1 H1 n1 e1 s1 => ?_⟩
      obtain ⟨t, _, ty, k1, k2, k3, k4⟩ := W.theTy (h.same s1)
      refine ⟨v, p1, _, _, t, false, false, rfl, e1, ty, k1, k2, .inl ⟨rfl, le2, Alloc.of fun p2 H2 n2 e2 s2 => ?_⟩⟩
      obtain ⟨t2, _, ty2, k12, k22, k32, k42⟩ := W.theTy (h.same (s1.trans s2))
      refine ⟨v, p2, _, _, t2, false, false, rfl, e2, ty2, k32, k42, .inl ⟨rfl, by decide, Alloc.of fun p3 H3 n3 e3 s3 => ?_⟩⟩
      have s13 := (s1.trans s2).trans s3
      obtain ⟨t3, ty3, _, k13, k23, k33, k43⟩ := W.theTy (h.same s13)
      exact ⟨u, p3, _, _, _, _, t3, false, false, false, false, rfl, e3, ty3, k33, k43, k13, k23, .inl ⟨rfl, h.same s13, fun H' s' => k _ (s13.trans s')⟩⟩
    | @lst m p q xs ys hp hq hl hb h =>
      obtain ⟨fdI, GI, bI⟩ : ∃ fdI, FnOk P w K mg base CX0 (m + 7) (He.ga K "_law_same") fdI ["_law_found", "_law_due"] (spSame K m) ∧ Binds K fdI ["_law_found", "_law_due"] [] := by
        rcases deep with e | ⟨m', fd', e, G, b⟩
        · cases e
        · cases e
          exact ⟨fd', G, b⟩
      have hI : Room (m + 7) _ := hr.mono (by omega)
      refine ⟨_, PSs.nox (pss_cons (ps_if (pt_val (pe_callB isi_2 (by rfl) W.f_isinstance boot_isinstance (pa_cons (pv 1) (pa_cons (pe_tup (pa_cons (pe_bltn (v := .ty "list") (by rfl) W.f_list (by decide +kernel) rfl) (pa_cons (pe_bltn (v := .ty "tuple") (by rfl) W.f_tuple (by decide +kernel) rfl) pa_nil))) pa_nil)))) (pss_cons (ps_if (PW.pt (pw_or (pt_cmpR op_ne (pe_callB isi_1 (by rfl) W.f_isinstance boot_isinstance (pa_cons (pv 0) (pa_cons (pe_bltn (v := .ty "list") (by rfl) W.f_list (by decide +kernel) rfl) pa_nil))) (pe_callB isi_1 (by rfl) W.f_isinstance boot_isinstance (pa_cons (pv 1) (pa_cons (pe_bltn (v := .ty "list") (by rfl) W.f_list (by decide +kernel) rfl) pa_nil))) (nomark _)) (pw_or1 (pt_cmpR op_ne (pe_callB isi_1 (by rfl) W.f_isinstance boot_isinstance (pa_cons (pv 0) (pa_cons (pe_bltn (v := .ty "tuple") (by rfl) W.f_tuple (by decide +kernel) rfl) pa_nil))) (pe_callB isi_1 (by rfl) W.f_isinstance boot_isinstance (pa_cons (pv 1) (pa_cons (pe_bltn (v := .ty "tuple") (by rfl) W.f_tuple (by decide +kernel) rfl) pa_nil))) (nomark _))))) (pss_one (ps_ret pe_bl)) pss_nil)
    (pss_one (ps_ret (pe_and (pe_cmpR op_eq (pe_callB len_lstH (by rfl) W.f_len boot_len (pa_cons (pv 0) pa_nil)) (pe_callB len_lstH (by rfl) W.f_len boot_len (pa_cons (pv 1) pa_nil)) (nomark _)) (pe_one (pe_callB (cr_all rfl) (by rfl) W.f_all boot_all (pa_cons (pe_lc (own := [("_law_left", 2), ("_law_right", 3)]) (g := gTup K 2 (gCons (gName 2) (gCons (gName 3) gNil))) (tt := tYes) rfl scSame.nd (RZ.pi_zipA (by rfl) W.f_zip (pa_cons (pv 0) (pa_cons (pv 1) pa_nil))) (blkOk_by (N := ["_law_found", "_law_due", "_law_left", "_law_right"]) (sc := defScope s_same) (by decide +kernel))
            (fun _ _ _ _ _ => (pg_tup rfl (pgs_cons (pg_name (i := 2) scSame.nd rfl (Or.inl rfl)) (pgs_cons (pg_name (i := 3) scSame.nd rfl (Or.inl rfl)) pgs_nil)))) (fun _ _ _ _ _ => pts_nil)
            (fun _ _ _ _ _ => (pe_call GI hI rfl W.g_law_same F.kp bI .nil pass0 (pa_cons (pv 2) (pa_cons (pv 3) pa_nil))))) pa_nil))))))) pss_nil)
    pss_never), ?_⟩
      simp -dsimp [tSeq, tAsg, tRet, tIfS, tIf, tTest, tVar, tCons, tNil, tC, tOp, tUn, rI, rI0, rU, tCB, tLst_A, tTup_A, gName, L2.start, CMul, CPow, CDiv, tDrop, tBM, tBM0, tNext, tPar, gSub, rSetL, rIxL, rIxT, tChain, tB, tNot, tNotV, tAnd, tOr, tAndV, tOrV, tFld, tCall, rIxLH, rIxTH, atI, ixN, upd_same, cxK, ex2, ex3, ex3b, rIs1, rIs2, rNe2, tyN, kb1, kb2, kb3, kb4, kb5, kb6, rEq, rNe, scal, tMake_S, tMakeK_S, tMakeN_S, kb11, kb12, hp, hq, hl]
      refine ⟨le2, Alloc.of fun p1 H1 n1 e1 s1 => ?_⟩
      have hp1 := s1 _ _ hp
      have hq1 := s1 _ _ hq
      simp -dsimp [tSeq, tAsg, tRet, tIfS, tIf, tTest, tVar, tCons, tNil, tC, tOp, tUn, rI, rI0, rU, tCB, tLst_A, tTup_A, gName, L2.start, CMul, CPow, CDiv, tDrop, tBM, tBM0, tNext, tPar, gSub, rSetL, rIxL, rIxT, tChain, tB, tNot, tNotV, tAnd, tOr, tAndV, tOrV, tFld, tCall, rIxLH, rIxTH, atI, ixN, upd_same, cxK, ex2, ex3, ex3b, rIs1, rIs2, rNe2, tyN, kb1, kb2, kb3, kb4, kb5, kb6, rEq, rNe, scal, tMake_S, tMakeK_S, tMakeN_S, kb11, kb12, hp1, hq1, hl, e1]
      refine ⟨_, rfl, _, rfl, p, q, _, _, rfl, .inl ⟨SqL.of hp1, SqL.of hq1, fun D hD => ?_⟩⟩
      have nD : ∀ {b : Addr} {o : HO}, H1 b = some o → b ≠ D := fun e => ne_of_none e hD
      refine lc_it (walk_zip (xs := xs) (ys := ys) (n := xs.length) (by omega)) (fun i H' => Same H1 H' ∧ H' D = some (.lst (List.replicate i (.bl true)))) ⟨same_upd hD, upd_same⟩ (fun i H' _ h => ⟨SqL.of (h.1 _ _ hp1), SqL.of (h.1 _ _ hq1)⟩) ?_ ?_
      · rintro i x H' H'' hi ⟨sm, hD'⟩ ⟨T, x', y', rfl, hT, rfl, fx, fy⟩
        have hz := ((h i x' y' fx fy).same (s1.trans sm)).same (same_upd hT (o := HO.tup [x', y']))
        refine ⟨T, _, rfl, SqT.of upd_same, rfl, _, _, rfl, _, _, rfl, rfl, rfl, ?_⟩
        simp only [tYes, if_true]
        refine ⟨_, rfl, _, rfl, x', y', rfl, hz, fun H4 s4 => ⟨List.replicate i (.bl true), ?_, ?_, ?_, ?_⟩⟩
        · exact s4 _ _ (by rw [upd_ne (ne_of_none hD' hT)]; exact hD')
        · rw [List.length_replicate]
          exact small1000 (by omega)
        · intro b' o e
          rw [upd_ne (nD e)]
          exact s4 _ _ (same_upd hT _ _ (sm _ _ e))
        · rw [upd_same, ← List.replicate_succ']
      · rintro H' ⟨sm, hD'⟩
        refine ⟨D, List.replicate xs.length true, rfl, ?_, ?_⟩
        · rw [List.map_replicate]
          exact SqL.of hD'
        · have e : (List.replicate xs.length true).all id = true := by
            rw [List.all_eq_true]
            intro x hx
            exact (List.eq_of_mem_replicate hx)
          rw [e]
          exact k _ (s1.trans sm)
    | @tup m p q xs ys hp hq hl hb h =>
      obtain ⟨fdI, GI, bI⟩ : ∃ fdI, FnOk P w K mg base CX0 (m + 7) (He.ga K "_law_same") fdI ["_law_found", "_law_due"] (spSame K m) ∧ Binds K fdI ["_law_found", "_law_due"] [] := by
        rcases deep with e | ⟨m', fd', e, G, b⟩
        · cases e
        · cases e
          exact ⟨fd', G, b⟩
      have hI : Room (m + 7) _ := hr.mono (by omega)
      refine ⟨_, PSs.nox (pss_cons (ps_if (pt_val (pe_callB isi_2 (by rfl) W.f_isinstance boot_isinstance (pa_cons (pv 1) (pa_cons (pe_tup (pa_cons (pe_bltn (v := .ty "list") (by rfl) W.f_list (by decide +kernel) rfl) (pa_cons (pe_bltn (v := .ty "tuple") (by rfl) W.f_tuple (by decide +kernel) rfl) pa_nil))) pa_nil)))) (pss_cons (ps_if (PW.pt (pw_or (pt_cmpR op_ne (pe_callB isi_1 (by rfl) W.f_isinstance boot_isinstance (pa_cons (pv 0) (pa_cons (pe_bltn (v := .ty "list") (by rfl) W.f_list (by decide +kernel) rfl) pa_nil))) (pe_callB isi_1 (by rfl) W.f_isinstance boot_isinstance (pa_cons (pv 1) (pa_cons (pe_bltn (v := .ty "list") (by rfl) W.f_list (by decide +kernel) rfl) pa_nil))) (nomark _)) (pw_or1 (pt_cmpR op_ne (pe_callB isi_1 (by rfl) W.f_isinstance boot_isinstance (pa_cons (pv 0) (pa_cons (pe_bltn (v := .ty "tuple") (by rfl) W.f_tuple (by decide +kernel) rfl) pa_nil))) (pe_callB isi_1 (by rfl) W.f_isinstance boot_isinstance (pa_cons (pv 1) (pa_cons (pe_bltn (v := .ty "tuple") (by rfl) W.f_tuple (by decide +kernel) rfl) pa_nil))) (nomark _))))) (pss_one (ps_ret pe_bl)) pss_nil)
    (pss_one (ps_ret (pe_and (pe_cmpR op_eq (pe_callB len_tupH (by rfl) W.f_len boot_len (pa_cons (pv 0) pa_nil)) (pe_callB len_tupH (by rfl) W.f_len boot_len (pa_cons (pv 1) pa_nil)) (nomark _)) (pe_one (pe_callB (cr_all rfl) (by rfl) W.f_all boot_all (pa_cons (pe_lc (own := [("_law_left", 2), ("_law_right", 3)]) (g := gTup K 2 (gCons (gName 2) (gCons (gName 3) gNil))) (tt := tYes) rfl scSame.nd (RZ.pi_zipA (by rfl) W.f_zip (pa_cons (pv 0) (pa_cons (pv 1) pa_nil))) (blkOk_by (N := ["_law_found", "_law_due", "_law_left", "_law_right"]) (sc := defScope s_same) (by decide +kernel))
            (fun _ _ _ _ _ => (pg_tup rfl (pgs_cons (pg_name (i := 2) scSame.nd rfl (Or.inl rfl)) (pgs_cons (pg_name (i := 3) scSame.nd rfl (Or.inl rfl)) pgs_nil)))) (fun _ _ _ _ _ => pts_nil)
            (fun _ _ _ _ _ => (pe_call GI hI rfl W.g_law_same F.kp bI .nil pass0 (pa_cons (pv 2) (pa_cons (pv 3) pa_nil))))) pa_nil))))))) pss_nil)
    pss_never), ?_⟩
      simp -dsimp [tSeq, tAsg, tRet, tIfS, tIf, tTest, tVar, tCons, tNil, tC, tOp, tUn, rI, rI0, rU, tCB, tLst_A, tTup_A, gName, L2.start, CMul, CPow, CDiv, tDrop, tBM, tBM0, tNext, tPar, gSub, rSetL, rIxL, rIxT, tChain, tB, tNot, tNotV, tAnd, tOr, tAndV, tOrV, tFld, tCall, rIxLH, rIxTH, atI, ixN, upd_same, cxK, ex2, ex3, ex3b, rIs1, rIs2, rNe2, tyN, kb1, kb2, kb3, kb4, kb5, kb6, rEq, rNe, scal, tMake_S, tMakeK_S, tMakeN_S, kb5, kb6, hp, hq, hl]
      refine ⟨le2, Alloc.of fun p1 H1 n1 e1 s1 => ?_⟩
      have hp1 := s1 _ _ hp
      have hq1 := s1 _ _ hq
      simp -dsimp [tSeq, tAsg, tRet, tIfS, tIf, tTest, tVar, tCons, tNil, tC, tOp, tUn, rI, rI0, rU, tCB, tLst_A, tTup_A, gName, L2.start, CMul, CPow, CDiv, tDrop, tBM, tBM0, tNext, tPar, gSub, rSetL, rIxL, rIxT, tChain, tB, tNot, tNotV, tAnd, tOr, tAndV, tOrV, tFld, tCall, rIxLH, rIxTH, atI, ixN, upd_same, cxK, ex2, ex3, ex3b, rIs1, rIs2, rNe2, tyN, kb1, kb2, kb3, kb4, kb5, kb6, rEq, rNe, scal, tMake_S, tMakeK_S, tMakeN_S, kb5, kb6, hp1, hq1, hl, e1]
      refine ⟨_, rfl, _, rfl, p, q, _, _, rfl, .inr ⟨SqT.of hp1, SqT.of hq1, fun D hD => ?_⟩⟩
      have nD : ∀ {b : Addr} {o : HO}, H1 b = some o → b ≠ D := fun e => ne_of_none e hD
      refine lc_it (walk_zipT (xs := xs) (ys := ys) (n := xs.length) rfl hl.symm) (fun i H' => Same H1 H' ∧ H' D = some (.lst (List.replicate i (.bl true)))) ⟨same_upd hD, upd_same⟩ (fun i H' _ h => ⟨SqT.of (h.1 _ _ hp1), SqT.of (h.1 _ _ hq1)⟩) ?_ ?_
      · rintro i x H' H'' hi ⟨sm, hD'⟩ ⟨T, x', y', rfl, hT, rfl, fx, fy⟩
        have hz := ((h i x' y' fx fy).same (s1.trans sm)).same (same_upd hT (o := HO.tup [x', y']))
        refine ⟨T, _, rfl, SqT.of upd_same, rfl, _, _, rfl, _, _, rfl, rfl, rfl, ?_⟩
        simp only [tYes, if_true]
        refine ⟨_, rfl, _, rfl, x', y', rfl, hz, fun H4 s4 => ⟨List.replicate i (.bl true), ?_, ?_, ?_, ?_⟩⟩
        · exact s4 _ _ (by rw [upd_ne (ne_of_none hD' hT)]; exact hD')
        · rw [List.length_replicate]
          exact small1000 (by omega)
        · intro b' o e
          rw [upd_ne (nD e)]
          exact s4 _ _ (same_upd hT _ _ (sm _ _ e))
        · rw [upd_same, ← List.replicate_succ']
      · rintro H' ⟨sm, hD'⟩
        refine ⟨D, List.replicate xs.length true, rfl, ?_, ?_⟩
        · rw [List.map_replicate]
          exact SqL.of hD'
        · have e : (List.replicate xs.length true).all id = true := by
            rw [List.all_eq_true]
            intro x hx
            exact (List.eq_of_mem_replicate hx)
          rw [e]
          exact k _ (s1.trans sm)
theorem ok_same (W : Wd K mg) (n : Nat) : ∃ fd, FnOk P w K mg base CX0 (n + 7) (He.ga K "_law_same") fd ["_law_found", "_law_due"] (spSame K n) ∧ Binds K fd ["_law_found", "_law_due"] [] := by
  induction n with
  | zero => exact ok_same0 W 0 (.inl rfl)
  | succ n ih =>
    obtain ⟨fd, G, b⟩ := ih
    exact ok_same0 W (n + 1) (.inr ⟨n, fd, rfl, G, b⟩)
end
/-! ### draws in comprehensions -/
theorem lc_dr {l : Addr} {i0 n : Nat} {ta : TA} {te : TE} {σ : List (Option V)} {H : Hp} {Q : V → Hp → Prop} {d0 d1 d2 : Int} (P : Nat → V → Hp → Prop) (hn : n < 1000) (mono : ∀ j, Mono (P j)) (hl : H l = some (draws d0 d1 d2)) (hw : ∀ x : V, wipe ((wipe σ [i0]).set i0 (some x)) [i0] = wipe σ [i0])
    (he : ∀ (j : Nat) (H' : Hp) (R : V → Hp → Prop) (e0 e1 e2 : Int), j < n → SameN l H H' → H' l = some (draws e0 e1 e2) → (∀ (y : V) (H4 : Hp) (f0 f1 f2 : Int), SameN l H' H4 → H4 l = some (draws f0 f1 f2) → P j y H4 → R y H4) → te ((wipe σ [i0]).set i0 (some (.int (j : Int)))) H' R)
    (hq : ∀ (D : Addr) (H' : Hp) (vs : List V) (e0 e1 e2 : Int), D ≠ l → H D = none → SameN l H H' → H' l = some (draws e0 e1 e2) → H' D = some (.lst vs) → vs.length = n → (∀ (j : Nat) (v : V), vs[j]? = some v → P j v H') → Q (.ref D) H') (hta : ∀ R : List V → Hp → Prop, R [.int (n : Int)] H → ta σ H R) : tLc (iRng1 ta) (gName i0) tYes te [i0] σ H Q := by
  refine hta _ ⟨(n : Int), rfl, by omega, by omega, fun D hD => ?_⟩
  rw [Int.toNat_natCast]
  have nDl : D ≠ l := fun e => by rw [e, hl] at hD; cases hD
  refine lc_it (walk_range (lo := 0) (n := n)) (fun i H' => SameN l H H' ∧ (∃ e0 e1 e2, H' l = some (draws e0 e1 e2)) ∧ ∃ vs : List V, vs.length = i ∧ H' D = some (.lst vs) ∧ ∀ (j : Nat) (v : V), vs[j]? = some v → P j v H') ⟨SameN.of (same_upd hD), ⟨d0, d1, d2, by rw [upd_ne nDl.symm]; exact hl⟩, [], rfl, upd_same, fun j x h => by cases h⟩ (fun _ _ _ _ => True.intro) ?_ ?_
  · rintro i x H' H'' hi ⟨sm, ⟨e0, e1, e2, el⟩, vs, hm, hd, hb⟩ ⟨rfl, rfl⟩
    refine ⟨hw _, ?_⟩
    simp only [tYes, if_true]
    rw [Int.zero_add]
    refine he i H'' _ e0 e1 e2 hi sm el fun y H4 f0 f1 f2 N4 L4 py => ?_
    have hd4 := N4 _ _ nDl hd
    refine ⟨vs, hd4, small1000 (by omega), fun b o nb eb => ?_, ⟨f0, f1, f2, ?_⟩, vs ++ [y], by rw [List.length_append, hm]; rfl, upd_same, fun j v hj => ?_⟩
    · rw [upd_ne (ne_of_none eb hD)]
      exact N4 _ _ nb (sm b o nb eb)
    · rw [upd_ne nDl.symm]
      exact L4
    · by_cases hji : j < vs.length
      · rw [List.getElem?_append_left hji] at hj
        exact mono j D vs v _ _ hd4 .upd (mono j l _ v _ _ el N4 (hb j v hj))
      · rw [List.getElem?_append_right (by omega)] at hj
        have ej : j - vs.length = 0 := by
          rcases Nat.eq_zero_or_pos (j - vs.length) with h | h
          · exact h
          · rw [List.getElem?_eq_none (by simp; omega)] at hj
            cases hj
        rw [ej] at hj
        cases hj
        have : j = i := by omega
        subst this
        exact mono j D vs _ _ _ hd4 .upd py
  · rintro H' ⟨sm, ⟨e0, e1, e2, el⟩, vs, hm, hd, hb⟩
    exact hq D H' vs e0 e1 e2 nDl hD sm el hd hm hb
theorem lc_rngA {n i0 : Nat} {ta : TA} {te : TE} {σ : List (Option V)} {H : Hp} {Q : V → Hp → Prop} (P : Nat → V → Hp → Prop) (hn : n < 1000) (mono : ∀ j, Mono (P j)) (hw : ∀ x : V, wipe ((wipe σ [i0]).set i0 (some x)) [i0] = wipe σ [i0])
    (he : ∀ (j : Nat) (H' : Hp) (R : V → Hp → Prop), j < n → Same H H' → (∀ y H4, Same H' H4 → P j y H4 → R y H4) → te ((wipe σ [i0]).set i0 (some (.int (j : Int)))) H' R)
    (hq : ∀ (D : Addr) (H' : Hp) (vs : List V), Same H H' → vs.length = n → H' D = some (.lst vs) → (∀ (j : Nat) (v : V), vs[j]? = some v → P j v H') → Q (.ref D) H') (hta : ∀ R : List V → Hp → Prop, R [.int (n : Int)] H → ta σ H R) : tLc (iRng1 ta) (gName i0) tYes te [i0] σ H Q :=
  hta _ (lc_rng (σ := σ) P hn mono hw he hq)
theorem tup4n {K : PySem.W.Frag} {p : Addr} {a b c d : V} {i j k m : Nat} {σ : List (Option V)} {H : Hp} {Q : List (Option V) → Hp → Prop} (h : H p = some (.tup [a, b, c, d])) (q : Q ((((σ.set i (some a)).set j (some b)).set k (some c)).set m (some d)) H) : gTup K 4 (gCons (gName i) (gCons (gName j) (gCons (gName k) (gCons (gName m) gNil)))) (.ref p) σ H Q :=
  ⟨p, _, rfl, SqT.of h, rfl, _, _, rfl, _, _, rfl, _, _, rfl, _, _, rfl, rfl, q⟩
theorem tup3n {K : PySem.W.Frag} {p : Addr} {a b c : V} {i j k : Nat} {σ : List (Option V)} {H : Hp} {Q : List (Option V) → Hp → Prop} (h : H p = some (.tup [a, b, c])) (q : Q (((σ.set i (some a)).set j (some b)).set k (some c)) H) : gTup K 3 (gCons (gName i) (gCons (gName j) (gCons (gName k) gNil))) (.ref p) σ H Q :=
  ⟨p, _, rfl, SqT.of h, rfl, _, _, rfl, _, _, rfl, _, _, rfl, rfl, q⟩
theorem tup2n {K : PySem.W.Frag} {p : Addr} {a b : V} {i j : Nat} {σ : List (Option V)} {H : Hp} {Q : List (Option V) → Hp → Prop} (h : H p = some (.tup [a, b])) (q : Q ((σ.set i (some a)).set j (some b)) H) : gTup K 2 (gCons (gName i) (gCons (gName j) gNil)) (.ref p) σ H Q :=
  ⟨p, _, rfl, SqT.of h, rfl, _, _, rfl, _, _, rfl, rfl, q⟩
section
variable {P : Program} {w : World} {K : PySem.W.Frag} {mg : Str → Option Value} {base : Heap} {fd : FuncData}
def spPick (K : PySem.W.Frag) : Sp := fun vs H Q _ => ∃ (l F : Addr) (d0 d1 d2 : Int) (xs : List V), vs = [.ref l, .ref F] ∧ H l = some (draws d0 d1 d2) ∧ H F = some (.lst xs) ∧ F ≠ l ∧ 0 < xs.length ∧ xs.length < 1000 ∧ ∀ (j : Nat) (v : V) (e0 e1 e2 : Int), xs[j]? = some v → Q v (upd H l (draws e0 e1 e2))
theorem scPick : FnScope ["_law_draws", "_law_xs"] ["_law_draws", "_law_xs"] d_pick.scope := ⟨rfl, rfl, rfl, by decide +kernel, rfl, by decide +kernel, by decide +kernel⟩
theorem ok_pick (W : Wd K mg) : ∃ fd, FnOk P w K mg base CX0 2 (He.ga K "_law_pick") fd ["_law_draws", "_law_xs"] (spPick K) ∧ Binds K fd ["_law_draws", "_law_xs"] [] := by
  obtain ⟨fd_draw, G_draw, b_draw⟩ := ok_draw (P := P) (w := w) (base := base) W
  have k_draw : PySem.W.keepIn K (.ref (He.ga K "_law_draw")) = true := by obtain ⟨fd, F⟩ := W.F_draw; exact F.kp
  obtain ⟨fd, F⟩ := W.F_pick
  refine ⟨fd, F.ok scPick (fun vs H Q E h => ?_) (fun cdv A outer s H vs Q E hr h => ?_), FunD.bindsN F fun _ _ _ _ _ _ us hl => match us, hl with | [_, _], _ => rfl⟩
  · obtain ⟨l, F, _, _, _, _, rfl, _⟩ := h
    rfl
  · obtain ⟨l, F, d0, d1, d2, xs, rfl, hl, hF, nF, h0, h1, q⟩ := h
    have r1 : Room 1 _ := hr.mono (by decide)
    refine ⟨_, PSs.nox (pss_one (ps_ret (pe_ix ix_lstH (pv 1) (pe_call G_draw r1 rfl W.g_law_draw k_draw b_draw .nil pass0 (pa_cons (pv 0) (pa_cons (pe_callB len_lstH (by rfl) W.f_len boot_len (pa_cons (pv 1) pa_nil)) pa_nil))) (fun _ _ => rfl)))), ?_⟩
    simp -dsimp [tSeq, tAsg, tRet, tIfS, tIf, tTest, tVar, tCons, tNil, tC, tOp, tUn, rI, rI0, rU, tCB, tLst_A, tTup_A, gName, L2.start, CMul, CPow, CDiv, tDrop, tBM, tBM0, tNext, tPar, gSub, rSetL, rIxL, rIxT, tChain, tB, tNot, tNotV, tAnd, tOr, tAndV, tOrV, tFld, tCall, rIxLH, rIxTH, atI, ixN, upd_same, cxK, ex2, ex3, ex3b, rIs1, rIs2, rNe2, tyN, kb1, kb2, kb3, kb4, kb5, kb6, rEq, rNe, scal, tMake_S, tMakeK_S, tMakeN_S, hF]
    refine ⟨l, d0, d1, d2, xs.length, rfl, hl, by omega, by omega, fun r e0 e1 e2 r0 r1 => ?_⟩
    have hr' : r.toNat < xs.length := by omega
    exact ⟨xs, r, rfl, by rw [upd_ne nF]; exact hF, _, ix_nat r0 (List.getElem?_eq_getElem hr'), q _ _ e0 e1 e2 (List.getElem?_eq_getElem hr')⟩

def i3 (a b c : Int) : Nat → Int
  | 0 => a
  | 1 => b
  | _ => c
/-- a number and three multiples -/
def IsInts (H : Hp) (p : Addr) (n t0 t1 t2 : Int) : Prop := ∃ q, H p = some (.tup [.int n, .ref q]) ∧ H q = some (.tup [.int t0, .int t1, .int t2])
theorem IsInts.keepL {H H' : Hp} {p : Addr} {n t0 t1 t2 : Int} (h : IsInts H p n t0 t1 t2) (k : KeepL H H') : IsInts H' p n t0 t1 t2 := by
  obtain ⟨q, h1, h2⟩ := h
  exact ⟨q, k _ _ h1 (fun xs e => by cases e), k _ _ h2 (fun xs e => by cases e)⟩
def spInts (K : PySem.W.Frag) : Sp := fun vs H Q _ => ∃ (l : Addr) (d0 d1 d2 m z : Int), vs = [.ref l, .int m, .int z] ∧ H l = some (draws d0 d1 d2) ∧ 0 ≤ z ∧ z ≤ 1000 ∧
  ∀ (p : Addr) (H' : Hp) (e0 e1 e2 n t0 t1 t2 : Int), SameN l H H' → H' l = some (draws e0 e1 e2) → IsInts H' p n t0 t1 t2 → n.natAbs ≤ 3 → (∀ j, (i3 t0 t1 t2 j).natAbs ≤ z.toNat) → (∀ j : Nat, j < 3 → m ≤ j → i3 t0 t1 t2 j = 0) → Q (.ref p) H'
theorem scInts : FnScope ["_law_draws", "_law_many", "_law_size", "_law_times", "_law_k"] ["_law_draws", "_law_many", "_law_size"] d_ints.scope := ⟨rfl, rfl, rfl, by decide +kernel, rfl, by decide +kernel, by decide +kernel⟩
theorem ok_ints (W : Wd K mg) : ∃ fd, FnOk P w K mg base CX0 2 (He.ga K "_law_ints") fd ["_law_draws", "_law_many", "_law_size"] (spInts K) ∧ Binds K fd ["_law_draws", "_law_many", "_law_size"] [] := by
  obtain ⟨fd_draw, G_draw, b_draw⟩ := ok_draw (P := P) (w := w) (base := base) W
  have k_draw : PySem.W.keepIn K (.ref (He.ga K "_law_draw")) = true := by obtain ⟨fd, F⟩ := W.F_draw; exact F.kp
  obtain ⟨fd, F⟩ := W.F_ints
  refine ⟨fd, F.ok scInts (fun vs H Q E h => ?_) (fun cdv A outer s H vs Q E hr h => ?_), FunD.bindsN F fun _ _ _ _ _ _ us hl => match us, hl with | [_, _, _], _ => rfl⟩
  · obtain ⟨l, _, _, _, _, _, rfl, _⟩ := h
    rfl
  · obtain ⟨l, d0, d1, d2, m, z, rfl, hl, z0, z1, q⟩ := h
    have r1 : Room 1 _ := hr.mono (by decide)
    refine ⟨_, PSs.nox (pss_cons (ps_setLc (i := 3) (own := [("_law_k", 4)]) (g := gName 4) (tt := tYes) (by rfl) scInts.nd rfl rfl (sw_true rfl rfl rfl (by decide +kernel)) (pi_range1 rfl W.f_range (pa_cons pe_int pa_nil)) (blkOk_by (N := ["_law_draws", "_law_many", "_law_size", "_law_times", "_law_k"]) (sc := defScope s_ints) (by decide +kernel))
            (fun _ _ _ _ _ => (pg_name (i := 4) scInts.nd rfl (Or.inl rfl))) (fun _ _ _ _ _ => pts_nil)
            (fun _ _ _ _ _ => (pe_ifExp (pt_cmpR op_lt (pv 4) (pv 1) (nomark _)) (pe_op op_sub (pe_call G_draw r1 rfl W.g_law_draw k_draw b_draw .nil pass0 (pa_cons (pv 0) (pa_cons (pe_op op_add (pe_op op_mulX9 pe_int (pv 2)) pe_int) pa_nil))) (pv 2)) pe_int)))
    (pss_one (ps_ret (pe_tup (pa_cons (pe_op op_sub (pe_call G_draw r1 rfl W.g_law_draw k_draw b_draw .nil pass0 (pa_cons (pv 0) (pa_cons pe_int pa_nil))) pe_int) (pa_cons (pe_callTy call_tuple_of (by rfl) W.f_tuple (by decide +kernel) (pa_cons (pv 3) pa_nil)) pa_nil)))))), ?_⟩
    simp -dsimp [tSeq, tAsg, tRet, tIfS, tIf, tTest, tVar, tCons, tNil, tC, tOp, tUn, rI, rI0, rU, tCB, tLst_A, tTup_A, gName, L2.start, CMul, CPow, CDiv, tDrop, tBM, tBM0, tNext, tPar, gSub, rSetL, rIxL, rIxT, tChain, tB, tNot, tNotV, tAnd, tOr, tAndV, tOrV, tFld, tCall, rIxLH, rIxTH, atI, ixN, upd_same, cxK, ex2, ex3, ex3b, rIs1, rIs2, rNe2, tyN, kb1, kb2, kb3, kb4, kb5, kb6, rEq, rNe, scal, tMake_S, tMakeK_S, tMakeN_S]
    have b1000 : ∀ {x : Nat}, x ≤ 5000 → x < bigM := fun h => h_lt_M (h_of (Nat.lt_of_le_of_lt h (by decide)))
    refine lc_dr (n := 3) (l := l) (fun j v _ => ∃ x : Int, v = .int x ∧ x.natAbs ≤ z.toNat ∧ (m ≤ j → x = 0)) (by decide) (fun j D xs v H H' _ _ h => h) hl (fun x => rfl) (fun j H' R e0 e1 e2 hj N L r => ?_) (fun D H2 vs e0 e1 e2 nDl nD N2 L2' hD hvl hvs => ?_) (fun R h => h)
    · simp -dsimp [tSeq, tAsg, tRet, tIfS, tIf, tTest, tVar, tCons, tNil, tC, tOp, tUn, rI, rI0, rU, tCB, tLst_A, tTup_A, gName, L2.start, CMul, CPow, CDiv, tDrop, tBM, tBM0, tNext, tPar, gSub, rSetL, rIxL, rIxT, tChain, tB, tNot, tNotV, tAnd, tOr, tAndV, tOrV, tFld, tCall, rIxLH, rIxTH, atI, ixN, upd_same, cxK, ex2, ex3, ex3b, rIs1, rIs2, rNe2, tyN, kb1, kb2, kb3, kb4, kb5, kb6, rEq, rNe, scal, tMake_S, tMakeK_S, tMakeN_S, wipe]
      split
      · rename_i hjm
        refine ⟨⟨b1000 (by decide), b1000 (by omega)⟩, l, e0, e1, e2, 2 * z + 1, rfl, L, by omega, by omega, fun x f0 f1 f2 x0 x1 => ⟨x, rfl, r _ _ _ _ _ .upd upd_same ⟨_, rfl, by omega, fun h => absurd h (by omega)⟩⟩⟩
      · exact r _ _ _ _ _ (SameN.of (Same.refl _)) L ⟨_, rfl, Nat.zero_le _, fun _ => rfl⟩
    match vs, hvl with
    | [v0, v1, v2], _ =>
    obtain ⟨t0, rfl, b0, c0⟩ := hvs 0 v0 rfl
    obtain ⟨t1, rfl, b1, c1⟩ := hvs 1 v1 rfl
    obtain ⟨t2, rfl, b2, c2⟩ := hvs 2 v2 rfl
    refine ⟨l, e0, e1, e2, 7, rfl, L2', by decide, by decide, fun x f0 f1 f2 x0 x1 => ⟨x, rfl, ?_⟩⟩
    refine ⟨D, rfl, _, .inl ⟨SqL.of (by rw [upd_ne nDl]; exact hD), fun t nt => ⟨le2, Alloc.of fun p H4 n4 e4 s4 => ?_⟩⟩⟩
    have N3 : SameN l H (upd (upd H2 l (draws f0 f1 f2)) t (HO.tup [.int t0, .int t1, .int t2])) := (N2.trans .upd).trans (.of (same_upd nt))
    refine q p H4 f0 f1 f2 (x - 3) t0 t1 t2 (N3.trans (.of s4)) (s4 _ _ (same_upd nt _ _ upd_same)) ⟨t, e4, s4 _ _ upd_same⟩ (by omega) (fun j => ?_) (fun j h3 hj => ?_)
    · match j with
      | 0 => exact b0
      | 1 => exact b1
      | j + 2 => exact b2
    · match j, h3 with
      | 0, _ => exact c0 hj
      | 1, _ => exact c1 hj
      | 2, _ => exact c2 hj

/-- a row of ints: a number, multiples, strict, a way -/
def IsRo (H : Hp) (p : Addr) (n t0 t1 t2 : Int) (st : Bool) (wy : Int) : Prop := ∃ q, H p = some (.tup [.int n, .ref q, .bl st, .int wy]) ∧ H q = some (.tup [.int t0, .int t1, .int t2])
theorem IsRo.keepL {H H' : Hp} {p : Addr} {n t0 t1 t2 wy : Int} {st : Bool} (h : IsRo H p n t0 t1 t2 st wy) (k : KeepL H H') : IsRo H' p n t0 t1 t2 st wy := by
  obtain ⟨q, h1, h2⟩ := h
  exact ⟨q, k _ _ h1 (fun xs e => by cases e), k _ _ h2 (fun xs e => by cases e)⟩
def spRo (K : PySem.W.Frag) : Sp := fun vs H Q _ => ∃ (l : Addr) (d0 d1 d2 m : Int), vs = [.ref l, .int m] ∧ H l = some (draws d0 d1 d2) ∧
  ∀ (p : Addr) (H' : Hp) (e0 e1 e2 n t0 t1 t2 wy : Int) (st : Bool), SameN l H H' → H' l = some (draws e0 e1 e2) → IsRo H' p n t0 t1 t2 st wy → n.natAbs ≤ 3 → (∀ j, (i3 t0 t1 t2 j).natAbs ≤ 2) → (∀ j : Nat, j < 3 → m ≤ j → i3 t0 t1 t2 j = 0) → 0 ≤ wy → wy < 4 → Q (.ref p) H'
theorem scRow : FnScope ["_law_draws", "_law_many", "_law_number_here", "_law_times"] ["_law_draws", "_law_many"] d_row.scope := ⟨rfl, rfl, rfl, by decide +kernel, rfl, by decide +kernel, by decide +kernel⟩
theorem ok_row (W : Wd K mg) : ∃ fd, FnOk P w K mg base CX0 3 (He.ga K "_law_row") fd ["_law_draws", "_law_many"] (spRo K) ∧ Binds K fd ["_law_draws", "_law_many"] [] := by
  obtain ⟨fd_ints, G_ints, b_ints⟩ := ok_ints (P := P) (w := w) (base := base) W
  have k_ints : PySem.W.keepIn K (.ref (He.ga K "_law_ints")) = true := by obtain ⟨fd, F⟩ := W.F_ints; exact F.kp
  obtain ⟨fd_draw, G_draw, b_draw⟩ := ok_draw (P := P) (w := w) (base := base) W
  have k_draw : PySem.W.keepIn K (.ref (He.ga K "_law_draw")) = true := by obtain ⟨fd, F⟩ := W.F_draw; exact F.kp
  obtain ⟨fd, F⟩ := W.F_row
  refine ⟨fd, F.ok scRow (fun vs H Q E h => ?_) (fun cdv A outer s H vs Q E hr h => ?_), FunD.bindsN F fun _ _ _ _ _ _ us hl => match us, hl with | [_, _], _ => rfl⟩
  · obtain ⟨l, _, _, _, _, rfl, _⟩ := h
    rfl
  · obtain ⟨l, d0, d1, d2, m, rfl, hl, q⟩ := h
    have r1 : Room 1 _ := hr.mono (by decide)
    have r2 : Room 2 _ := hr.mono (by decide)
    refine ⟨_, PSs.nox (pss_cons (ps_asg (pe_call G_ints r2 rfl W.g_law_ints k_ints b_ints .nil pass0 (pa_cons (pv 0) (pa_cons (pv 1) (pa_cons pe_int pa_nil)))) (pg_tup rfl (pgs_cons (pg_name (i := 2) scRow.nd rfl (Or.inl rfl)) (pgs_cons (pg_name (i := 3) scRow.nd rfl (Or.inl rfl)) pgs_nil))))
    (pss_one (ps_ret (pe_tup (pa_cons (pv 2) (pa_cons (pv 3) (pa_cons (pe_cmpR op_eq (pe_call G_draw r1 rfl W.g_law_draw k_draw b_draw .nil pass0 (pa_cons (pv 0) (pa_cons pe_int pa_nil))) pe_int (nomark _)) (pa_cons (pe_call G_draw r1 rfl W.g_law_draw k_draw b_draw .nil pass0 (pa_cons (pv 0) (pa_cons pe_int pa_nil))) pa_nil)))))))), ?_⟩
    simp -dsimp [tSeq, tAsg, tRet, tIfS, tIf, tTest, tVar, tCons, tNil, tC, tOp, tUn, rI, rI0, rU, tCB, tLst_A, tTup_A, gName, L2.start, CMul, CPow, CDiv, tDrop, tBM, tBM0, tNext, tPar, gSub, rSetL, rIxL, rIxT, tChain, tB, tNot, tNotV, tAnd, tOr, tAndV, tOrV, tFld, tCall, rIxLH, rIxTH, atI, ixN, upd_same, cxK, ex2, ex3, ex3b, rIs1, rIs2, rNe2, tyN, kb1, kb2, kb3, kb4, kb5, kb6, rEq, rNe, scal, tMake_S, tMakeK_S, tMakeN_S]
    refine ⟨l, d0, d1, d2, m, 2, rfl, hl, by decide, by decide, fun p H1 e0 e1 e2 n t0 t1 t2 N1 L1 hI hn ht hz => ?_⟩
    obtain ⟨tq, h1, h2⟩ := hI
    refine tup2n h1 ?_
    simp -dsimp [tSeq, tAsg, tRet, tIfS, tIf, tTest, tVar, tCons, tNil, tC, tOp, tUn, rI, rI0, rU, tCB, tLst_A, tTup_A, gName, L2.start, CMul, CPow, CDiv, tDrop, tBM, tBM0, tNext, tPar, gSub, rSetL, rIxL, rIxT, tChain, tB, tNot, tNotV, tAnd, tOr, tAndV, tOrV, tFld, tCall, rIxLH, rIxTH, atI, ixN, upd_same, cxK, ex2, ex3, ex3b, rIs1, rIs2, rNe2, tyN, kb1, kb2, kb3, kb4, kb5, kb6, rEq, rNe, scal, tMake_S, tMakeK_S, tMakeN_S]
    refine ⟨l, e0, e1, e2, 2, rfl, L1, by decide, by decide, fun x f0 f1 f2 _ _ => ?_⟩
    refine ⟨rfl, l, f0, f1, f2, 4, rfl, upd_same, by decide, by decide, fun y g0 g1 g2 y0 y1 => ⟨by decide, Alloc.of fun r H3 n3 e3 s3 => ?_⟩⟩
    rw [upd_upd] at s3
    have N3 : SameN l H1 H3 := SameN.upd.trans (.of s3)
    exact q r H3 g0 g1 g2 n t0 t1 t2 y _ (N1.trans N3) (s3 _ _ upd_same) ⟨tq, e3, KeepL.sameN L1 N3 _ _ h2 (fun xs e => by cases e)⟩ hn ht hz y0 y1

/-- unknowns at p, as many as m -/
def XT (K : PySem.W.Frag) (H : Hp) (p : Addr) (m : Nat) : Prop := ∃ xs : List V, H p = some (.tup xs) ∧ xs.length = m ∧ ∀ (j : Nat) (v : V), xs[j]? = some v → ∃ x, v = .ref x ∧ IsTm K H x (0, 1) (dl j 0) (dl j 1) (dl j 2)
theorem XT.keepL {K : PySem.W.Frag} {H H' : Hp} {p : Addr} {m : Nat} (h : XT K H p m) (k : KeepL H H') : XT K H' p m := by
  obtain ⟨xs, h1, h2, h3⟩ := h
  exact ⟨xs, k _ _ h1 (fun xs e => by cases e), h2, fun j v hj => by
    obtain ⟨x, e, hx⟩ := h3 j v hj
    exact ⟨x, e, hx.keepL k⟩⟩
def spTms (K : PySem.W.Frag) : Sp := fun vs H Q _ => ∃ m : Nat, vs = [.int m] ∧ m ≤ 3 ∧ ∀ (p : Addr) (H' : Hp), Same H H' → XT K H' p m → Q (.ref p) H'
theorem scTerms : FnScope ["_law_many", "_law_k"] ["_law_many"] d_terms.scope := ⟨rfl, rfl, rfl, by decide +kernel, rfl, by decide +kernel, by decide +kernel⟩
theorem ok_terms (W : Wd K mg) : ∃ fd, FnOk P w K mg base CX0 6 (He.ga K "_law_terms") fd ["_law_many"] (spTms K) ∧ Binds K fd ["_law_many"] [] := by
  obtain ⟨fd_unk, G_unk, b_unk⟩ := ok_unk (P := P) (w := w) (base := base) W
  obtain ⟨fd, F⟩ := W.F_terms
  refine ⟨fd, F.ok scTerms (fun vs H Q E h => ?_) (fun cdv A outer s H vs Q E hr h => ?_), FunD.bindsN F fun _ _ _ _ _ _ us hl => match us, hl with | [_], _ => rfl⟩
  · obtain ⟨m, rfl, _⟩ := h
    rfl
  · obtain ⟨m, rfl, m3, q⟩ := h
    have r1 : Room 1 _ := hr.mono (by decide)
    have r2 : Room 2 _ := hr.mono (by decide)
    have r3 : Room 3 _ := hr.mono (by decide)
    have r4 : Room 4 _ := hr.mono (by decide)
    have r5 : Room 5 _ := hr.mono (by decide)
    refine ⟨_, PSs.nox (pss_one (ps_ret (pe_callTy call_tuple_of (by rfl) W.f_tuple (by decide +kernel) (pa_cons (pe_lc (own := [("_law_k", 1)]) (g := gName 1) (tt := tYes) rfl scTerms.nd (pi_range1 rfl W.f_range (pa_cons (pv 0) pa_nil)) (blkOk_by (N := ["_law_many", "_law_k"]) (sc := defScope s_terms) (by decide +kernel))
            (fun _ _ _ _ _ => (pg_name (i := 1) scTerms.nd rfl (Or.inl rfl))) (fun _ _ _ _ _ => pts_nil)
            (fun _ _ _ _ _ => (StX.pe_smeth (pe_glob (v := .ref (He.ga K "Term")) rfl W.g_Term rfl) W.sm_unknown G_unk r5 b_unk .nil pass0 (pa_cons (pv 1) pa_nil)))) pa_nil)))), ?_⟩
    simp -dsimp [tSeq, tAsg, tRet, tIfS, tIf, tTest, tVar, tCons, tNil, tC, tOp, tUn, rI, rI0, rU, tCB, tLst_A, tTup_A, gName, L2.start, CMul, CPow, CDiv, tDrop, tBM, tBM0, tNext, tPar, gSub, rSetL, rIxL, rIxT, tChain, tB, tNot, tNotV, tAnd, tOr, tAndV, tOrV, tFld, tCall, rIxLH, rIxTH, atI, ixN, upd_same, cxK, ex2, ex3, ex3b, rIs1, rIs2, rNe2, tyN, kb1, kb2, kb3, kb4, kb5, kb6, rEq, rNe, scal, tMake_S, tMakeK_S, tMakeN_S, StX.tSMeth]
    refine lc_rngA (n := m) (fun j v H => ∃ x, v = .ref x ∧ IsTm K H x (0, 1) (dl j 0) (dl j 1) (dl j 2)) (by omega) (fun j D xs v H H' hD s ⟨x, e, hx⟩ => ⟨x, e, hx.keepL (KeepL.sameN hD s)⟩) (fun x => rfl) (fun j H' R hj s' r => ?_) (fun D H3 vs s3 hl hD hs => ?_) (fun R h => ⟨_, rfl, h⟩)
    · simp -dsimp [tSeq, tAsg, tRet, tIfS, tIf, tTest, tVar, tCons, tNil, tC, tOp, tUn, rI, rI0, rU, tCB, tLst_A, tTup_A, gName, L2.start, CMul, CPow, CDiv, tDrop, tBM, tBM0, tNext, tPar, gSub, rSetL, rIxL, rIxT, tChain, tB, tNot, tNotV, tAnd, tOr, tAndV, tOrV, tFld, tCall, rIxLH, rIxTH, atI, ixN, upd_same, cxK, ex2, ex3, ex3b, rIs1, rIs2, rNe2, tyN, kb1, kb2, kb3, kb4, kb5, kb6, rEq, rNe, scal, tMake_S, tMakeK_S, tMakeN_S, StX.tSMeth, wipe]
      exact ⟨j, rfl, by omega, by omega, fun z H4 s4 iz => r _ _ s4 ⟨z, rfl, iz⟩⟩
    · exact ⟨D, rfl, vs, .inl ⟨SqL.of hD, fun l nl => q l _ (s3.trans (same_upd nl)) ⟨vs, upd_same, hl, fun j v hj => by
        obtain ⟨x, e, hx⟩ := hs j v hj
        exact ⟨x, e, hx.same (same_upd nl)⟩⟩⟩⟩

end
/-! ### rows of ints, written in one of four ways -/
section
variable {X : Cx}
/-- a sum, a term on the right or on both sides -/
def rAny (K : PySem.W.Frag) : R2 := fun x y H Q => rNT K pAdd x y H Q ∨ rTT K pAdd x y H Q
theorem Wd.aAddT (W : Wd X.K X.mg) (hr : Room 8 X.A) : OpR X (binaryOp .Add) (rAny X.K) := fun pins s σ H x y v u Q I rx ry h => h.elim (W.nAddT hr pins s σ H x y v u Q I rx ry) (W.tAddT (hr.mono (by decide)) pins s σ H x y v u Q I rx ry)
end
/-- the multiples of the first k unknowns -/
def cK (t : Nat → Int) (k j : Nat) : Int × Int := (if j < k then t j else 0, 1)
theorem cK_step (t : Nat → Int) (k j : Nat) : pAdd (cK t k j) (pMul (dl k j) (t k, 1)) = cK t (k + 1) j := by
  obtain ⟨b, e, hb⟩ := dl_pair k j
  unfold cK
  rw [e, pMul_int, pAdd_int]
  have e2 : b = if (j : Int) = k then 1 else 0 := by
    have := congrArg Prod.fst e
    unfold dl at this
    split at this <;> rename_i h
    · rw [if_pos h]; exact this.symm
    · rw [if_neg h]; exact this.symm
  rw [e2]
  by_cases h1 : j < k
  · rw [if_pos h1, if_neg (by omega), if_pos (by omega), Int.zero_mul, Int.add_zero]
  · by_cases h2 : j = k
    · subst h2
      rw [if_neg h1, if_pos rfl, if_pos (by omega), Int.one_mul, Int.zero_add]
    · rw [if_neg h1, if_neg (by omega), if_neg (by omega), Int.zero_mul, Int.add_zero]
theorem gd_cK {t : Nat → Int} (ht : ∀ j, (t j).natAbs ≤ 2) (k j : Nat) : Gd 1 (cK t k j) := by
  unfold cK
  split
  · exact Gd.int (n := 0) (Nat.lt_of_le_of_lt (ht j) (by decide))
  · exact gz1
section
variable {P : Program} {w : World} {K : PySem.W.Frag} {mg : Str → Option Value} {base : Heap} {fd : FuncData}
/-- the sum so far: an int, or a term -/
def Abv (K : PySem.W.Frag) (H : Hp) (v : V) (n : Int) (t : Nat → Int) (k : Nat) : Prop := (k = 0 ∧ v = .int n) ∨ (0 < k ∧ ∃ x, v = .ref x ∧ IsTm K H x (n, 1) (cK t k 0) (cK t k 1) (cK t k 2))
def spSaid (K : PySem.W.Frag) : Sp := fun vs H Q _ => ∃ (p px : Addr) (n t0 t1 t2 wy : Int) (st : Bool) (m : Nat), vs = [.ref p, .ref px] ∧ IsRo H p n t0 t1 t2 st wy ∧ XT K H px m ∧ 0 < m ∧ m ≤ 3 ∧ n.natAbs ≤ 3 ∧ (∀ j, (i3 t0 t1 t2 j).natAbs ≤ 2) ∧ (∀ j : Nat, j < 3 → m ≤ j → i3 t0 t1 t2 j = 0) ∧ 0 ≤ wy ∧ wy < 4 ∧
  ∀ z H', Same H H' → IsP K H' z st n t0 t1 t2 → Q (.ref z) H'
theorem scSaid : FnScope ["_law_row_here", "_law_x", "_law_number_here", "_law_times", "_law_strict", "_law_way", "_law_above", "_law_k", "_law_left"] ["_law_row_here", "_law_x"] d_said.scope := ⟨rfl, rfl, rfl, by decide +kernel, rfl, by decide +kernel, by decide +kernel⟩
theorem ok_said (W : Wd K mg) : ∃ fd, FnOk P w K mg base CX0 9 (He.ga K "_law_said") fd ["_law_row_here", "_law_x"] (spSaid K) ∧ Binds K fd ["_law_row_here", "_law_x"] [] := by
  obtain ⟨fd, F⟩ := W.F_said
  refine ⟨fd, F.ok scSaid (fun vs H Q E h => ?_) (fun cdv A outer s H vs Q E hr h => ?_), FunD.bindsN F fun _ _ _ _ _ _ us hl => match us, hl with | [_, _], _ => rfl⟩
  · obtain ⟨p, px, _, _, _, _, _, _, _, rfl, _⟩ := h
    rfl
  · obtain ⟨p, px, n, t0, t1, t2, wy, st, m, rfl, ⟨tq, hp, htq⟩, ⟨xs, hx, hxl, hxs⟩, m0, m3, hn, ht, hz, w0, w4, q⟩ := h
    have r1 : Room 1 _ := hr.mono (by decide)
    have r2 : Room 2 _ := hr.mono (by decide)
    have r3 : Room 3 _ := hr.mono (by decide)
    have r4 : Room 4 _ := hr.mono (by decide)
    have r5 : Room 5 _ := hr.mono (by decide)
    have r6 : Room 6 _ := hr.mono (by decide)
    have r7 : Room 7 _ := hr.mono (by decide)
    have r8 : Room 8 _ := hr.mono (by decide)
    refine ⟨_, PSs.nox (pss_cons (ps_asg (pv 0) (pg_tup rfl (pgs_cons (pg_name (i := 2) scSaid.nd rfl (Or.inl rfl)) (pgs_cons (pg_name (i := 3) scSaid.nd rfl (Or.inl rfl)) (pgs_cons (pg_name (i := 4) scSaid.nd rfl (Or.inl rfl)) (pgs_cons (pg_name (i := 5) scSaid.nd rfl (Or.inl rfl)) pgs_nil))))))
    (pss_cons (ps_set (i := 6) scSaid.nd rfl (Or.inl rfl) (pv 2))
    (pss_cons (ps_for PassesOwn.never rfl (pi_range1 rfl W.f_range (pa_cons (pe_callB len_tupH (by rfl) W.f_len boot_len (pa_cons (pv 1) pa_nil)) pa_nil)) (pg_name (i := 7) scSaid.nd rfl (Or.inl rfl)) (pss_one (ps_set (i := 6) scSaid.nd rfl (Or.inl rfl) (pe_op (W.aAddT r8) (pv 6) (pe_op (W.nMulT r6) (pe_ix ix_tupH (pv 3) (pv 7) (fun _ _ => rfl)) (pe_ix ix_tupH (pv 1) (pv 7) (fun _ _ => rfl)))))))
    (pss_cons (ps_if (pt_cmpR op_eq (pv 5) pe_int (nomark _)) (pss_one (ps_ret (pe_ifExp (pt_val (pv 4)) (pe_cmpR (W.cGt r8) (pv 6) pe_int (nomark _)) (pe_cmpR (W.cGe r8) (pv 6) pe_int (nomark _))))) pss_nil)
    (pss_cons (ps_if (pt_cmpR op_eq (pv 5) pe_int (nomark _)) (pss_one (ps_ret (pe_ifExp (pt_val (pv 4)) (pe_cmpR (W.cLt r8) pe_int (pv 6) (nomark _)) (pe_cmpR (W.cLe r8) pe_int (pv 6) (nomark _))))) pss_nil)
    (pss_cons (ps_if (pt_cmpR op_eq (pv 5) pe_int (nomark _)) (pss_cons (ps_set (i := 8) scSaid.nd rfl (Or.inl rfl) (pe_op (W.nMulT r6) (pe_ix ix_tupH (pv 3) pe_int (fun _ _ => rfl)) (pe_ix ix_tupH (pv 1) pe_int (fun _ _ => rfl))))
    (pss_one (ps_ret (pe_ifExp (pt_val (pv 4)) (pe_cmpR (W.cGt r8) (pv 8) (pe_op (W.tSubT r7) (pv 8) (pv 6)) (nomark _)) (pe_cmpR (W.cGe r8) (pv 8) (pe_op (W.tSubT r7) (pv 8) (pv 6)) (nomark _)))))) pss_nil)
    (pss_one (ps_ret (pe_ifExp (pt_val (pv 4)) (pe_cmpR (W.cLt r8) (pe_op (W.nMulT r6) (pe_un un_neg pe_int) (pv 6)) pe_int (nomark _)) (pe_cmpR (W.cLe r8) (pe_op (W.nMulT r6) (pe_un un_neg pe_int) (pv 6)) pe_int (nomark _))))))))))), ?_⟩
    refine ⟨.ref p, rfl, tup4n hp ?_⟩
    refine ⟨.int n, rfl, .ref px, rfl, px, xs, rfl, hx, (xs.length : Int), rfl, by omega, by omega, for_range (n := ((xs.length : Int)).toNat) (fun i σ' G => ∃ (v6 : V) (v7 : Option V), σ' = [some (.ref p), some (.ref px), some (.int n), some (.ref tq), some (.bl st), some (.int wy), some v6, v7, none] ∧ Same H G ∧ Abv K G v6 n (i3 t0 t1 t2) i) ⟨.int n, none, rfl, Same.refl _, .inl ⟨rfl, rfl⟩⟩ ?_ ?_⟩
    · rintro i σ' G hi ⟨v6, v7, rfl, sG, hA⟩
      have him : i < m := by omega
      obtain ⟨x, ex, ix⟩ := hxs i _ (List.getElem?_eq_getElem (by omega : i < xs.length))
      simp -dsimp [tSeq, tAsg, tRet, tIfS, tIf, tTest, tVar, tCons, tNil, tC, tOp, tUn, rI, rI0, rU, tCB, tLst_A, tTup_A, gName, L2.start, CMul, CPow, CDiv, tDrop, tBM, tBM0, tNext, tPar, gSub, rSetL, rIxL, rIxT, tChain, tB, tNot, tNotV, tAnd, tOr, tAndV, tOrV, tFld, tCall, rIxLH, rIxTH, atI, ixN, upd_same, cxK, ex2, ex3, ex3b, rIs1, rIs2, rNe2, tyN, kb1, kb2, kb3, kb4, kb5, kb6, rEq, rNe, scal, tMake_S, tMakeK_S, tMakeN_S]
      refine ⟨_, sG _ _ htq, .int (i3 t0 t1 t2 i), ?_, xs, sG _ _ hx, .ref x, ?_, ?_⟩
      · match i, (show i < 3 by omega) with
        | 0, _ => rfl
        | 1, _ => rfl
        | 2, _ => rfl
      · rw [if_pos (by omega), ← ex]
        exact List.getElem?_eq_getElem (by omega)
      have gt : Gd 1 (i3 t0 t1 t2 i, 1) := Gd.int (n := 0) (Nat.lt_of_le_of_lt (ht i) (by decide))
      have gn : Gd 1 (n, 1) := Gd.int (n := 0) (Nat.lt_of_le_of_lt hn (by decide))
      refine ⟨(0, 1), dl i 0, dl i 1, dl i 2, (i3 t0 t1 t2 i, 1), x, rfl, ix.same sG, .inr ⟨rfl, rfl⟩, gz1.ok gt, (Gd.dl i 0).ok gt, (Gd.dl i 1).ok gt, (Gd.dl i 2).ok gt, fun z H2 s2 iz => ?_⟩
      have gm : ∀ j : Int, Gd 2 (pMul (dl i j) (i3 t0 t1 t2 i, 1)) := fun j => (Gd.dl i j).mul gt
      have gm0 : Gd 2 (pMul ((0 : Int), (1 : Int)) (i3 t0 t1 t2 i, 1)) := gz1.mul gt
      have en : pAdd (n, 1) (pMul (0, 1) (i3 t0 t1 t2 i, 1)) = (n, 1) := by
        rw [pMul_int, pAdd_int, Int.zero_mul, Int.add_zero]
      have e0 : pAdd (cK (i3 t0 t1 t2) i 0) (pMul (dl (i : Int) 0) (i3 t0 t1 t2 i, 1)) = cK (i3 t0 t1 t2) (i + 1) 0 := cK_step (i3 t0 t1 t2) i 0
      have e1 : pAdd (cK (i3 t0 t1 t2) i 1) (pMul (dl (i : Int) 1) (i3 t0 t1 t2 i, 1)) = cK (i3 t0 t1 t2) (i + 1) 1 := cK_step (i3 t0 t1 t2) i 1
      have e2 : pAdd (cK (i3 t0 t1 t2) i 2) (pMul (dl (i : Int) 2) (i3 t0 t1 t2 i, 1)) = cK (i3 t0 t1 t2) (i + 1) 2 := cK_step (i3 t0 t1 t2) i 2
      rcases hA with ⟨rfl, rfl⟩ | ⟨hk, za, rfl, iza⟩
      · have c0 : ∀ j, cK (i3 t0 t1 t2) 0 j = (0, 1) := fun j => by
          unfold cK
          rw [if_neg (Nat.not_lt_zero j)]
        rw [c0] at e0 e1 e2
        refine .inl ⟨_, _, _, _, (n, 1), z, rfl, iz, .inr ⟨rfl, rfl⟩, gm0.ok gn, (gm 0).ok gz1, (gm 1).ok gz1, (gm 2).ok gz1, fun z' H3 s3 iz' => ⟨(sG.trans s2).trans s3, .inr ⟨by decide, z', rfl, ?_⟩⟩⟩
        rw [en, e0, e1, e2] at iz'
        exact iz'
      · refine .inr ⟨_, _, _, _, _, _, _, _, za, rfl, iza.same s2, .inl ⟨z, rfl, iz⟩, gn.ok gm0, (gd_cK ht i 0).ok (gm 0), (gd_cK ht i 1).ok (gm 1), (gd_cK ht i 2).ok (gm 2), fun z' H3 s3 iz' => ⟨(sG.trans s2).trans s3, .inr ⟨by omega, z', rfl, ?_⟩⟩⟩
        rw [en, e0, e1, e2] at iz'
        exact iz'
    · rintro σ' G ⟨v6, v7, rfl, sG, hA⟩
      rw [Int.toNat_natCast, hxl] at hA
      rcases hA with ⟨h0, _⟩ | ⟨_, z, rfl, iz⟩
      · omega
      have ec : ∀ j, j < 3 → cK (i3 t0 t1 t2) m j = (i3 t0 t1 t2 j, 1) := fun j hj => by
        unfold cK
        split
        · rfl
        · rw [hz j hj (by omega)]
      rw [ec 0 (by decide), ec 1 (by decide), ec 2 (by decide)] at iz
      simp -dsimp [tSeq, tAsg, tRet, tIfS, tIf, tTest, tVar, tCons, tNil, tC, tOp, tUn, rI, rI0, rU, tCB, tLst_A, tTup_A, gName, L2.start, CMul, CPow, CDiv, tDrop, tBM, tBM0, tNext, tPar, gSub, rSetL, rIxL, rIxT, tChain, tB, tNot, tNotV, tAnd, tOr, tAndV, tOrV, tFld, tCall, rIxLH, rIxTH, atI, ixN, upd_same, cxK, ex2, ex3, ex3b, rIs1, rIs2, rNe2, tyN, kb1, kb2, kb3, kb4, kb5, kb6, rEq, rNe, scal, tMake_S, tMakeK_S, tMakeN_S]
      have hb : ∀ j, (i4 n t0 t1 t2 j).natAbs < 10 ^ 1 := i4_all (P := fun x => x.natAbs < 10 ^ 1) (Nat.lt_of_le_of_lt hn (by decide)) (Nat.lt_of_le_of_lt (ht 0) (by decide)) (Nat.lt_of_le_of_lt (ht 1) (by decide)) (Nat.lt_of_le_of_lt (ht 2) (by decide))
      have ga : ∀ j, Gd 1 (i4 n t0 t1 t2 j, 1) := fun j => Gd.int (n := 0) (hb j)
      have q' : ∀ z H', Same G H' → IsP K H' z st n t0 t1 t2 → Q (.ref z) H' := fun z H' s' i => q z H' (sG.trans s') i
      have iz : IsTm K G z (n, 1) (t0, 1) (t1, 1) (t2, 1) := iz
      have cb : ∀ {A B : Prop}, (st = false → A) → (st = true → B) → (st = false ∧ A ∨ st = true ∧ B) := fun ha hb' => by
        cases st
        · exact .inl ⟨rfl, ha rfl⟩
        · exact .inr ⟨rfl, hb' rfl⟩
      split
      · have go : ∀ b : Bool, st = b → rRow K b false (.ref z) (.int 0) G Q := fun b eb => by
          refine row0 iz (ga 0) (ga 1) (ga 2) (ga 3) (by decide) fun z' H4 s4 ir => q' z' H4 s4 ?_
          have ir : IsRw K H4 z' b _ _ _ _ := ir
          rw [pSub_int, pSub_int, pSub_int, pSub_int, Int.sub_zero, Int.sub_zero, Int.sub_zero, Int.sub_zero, ← eb] at ir
          exact ir.isP (Ws.int _ _ _ _)
        exact cb (go _) (go _)
      · split
        · have go : ∀ b : Bool, st = b → rRow K b true (.int 0) (.ref z) G Q := fun b eb => by
            refine row0l iz (ga 0) (ga 1) (ga 2) (ga 3) (by decide) fun z' H4 s4 ir => q' z' H4 s4 ?_
            have ir : IsRw K H4 z' b _ _ _ _ := ir
            rw [pSub_int, pSub_int, pSub_int, pSub_int, Int.sub_zero, Int.sub_zero, Int.sub_zero, Int.sub_zero, ← eb] at ir
            exact ir.isP (Ws.int _ _ _ _)
          exact cb (go _) (go _)
        · split
          · obtain ⟨x, ex, ix⟩ := hxs 0 _ (List.getElem?_eq_getElem (by omega : 0 < xs.length))
            have gt : Gd 1 (t0, 1) := ga 1
            refine ⟨_, sG _ _ htq, .int t0, rfl, xs, sG _ _ hx, .ref x, ?_, ?_⟩
            · rw [if_pos (by omega), ← ex]
              exact List.getElem?_eq_getElem (by omega)
            refine ⟨(0, 1), dl (0 : Nat) 0, dl (0 : Nat) 1, dl (0 : Nat) 2, (t0, 1), x, rfl, ix.same sG, .inr ⟨rfl, rfl⟩, gz1.ok gt, (Gd.dl _ 0).ok gt, (Gd.dl _ 1).ok gt, (Gd.dl _ 2).ok gt, fun y H2 s2 iy => ?_⟩
            have iy : IsTm K H2 y (pMul (0, 1) (t0, 1)) (pMul (1, 1) (t0, 1)) (pMul (0, 1) (t0, 1)) (pMul (0, 1) (t0, 1)) := iy
            rw [pMul_int, pMul_int, Int.zero_mul, Int.one_mul] at iy
            have go : ∀ b : Bool, st = b → rTT K pSub (.ref y) (.ref z) H2 fun x_1 H2 => rRow K b false (.ref y) x_1 H2 Q := fun b eb => by
              refine ⟨_, _, _, _, _, _, _, _, y, rfl, iy, .inl ⟨z, rfl, iz.same s2⟩, gz1.ok (ga 0), gt.ok (ga 1), gz1.ok (ga 2), gz1.ok (ga 3), fun z' H3 s3 iz' => ?_⟩
              refine row2 (iy.same s3) iz' gz1 gt gz1 gz1 (gz1.sub (ga 0)) (gt.sub (ga 1)) (gz1.sub (ga 2)) (gz1.sub (ga 3)) (by decide) fun z'' H4 s4 ir => q' z'' H4 ((s2.trans s3).trans s4) ?_
              have ir : IsRw K H4 z'' b _ _ _ _ := ir
              rw [pSub_int, pSub_int, pSub_int, pSub_int, pSub_int, pSub_int, pSub_int, pSub_int, Int.sub_sub_self, Int.sub_sub_self, Int.sub_sub_self, Int.sub_sub_self, ← eb] at ir
              exact ir.isP (Ws.int _ _ _ _)
            exact cb (go _) (go _)
          · have g3 : Gd 1 ((-3 : Int), (1 : Int)) := Gd.int (n := 0) (by decide)
            have go : ∀ b : Bool, st = b → rNM K (.int (-3)) (.ref z) G fun x H1 => rRow K b true x (.int 0) H1 Q := fun b eb => by
              refine ⟨_, _, _, _, (-3, 1), z, rfl, iz, .inr ⟨rfl, rfl⟩, (ga 0).ok g3, (ga 1).ok g3, (ga 2).ok g3, (ga 3).ok g3, fun z' H3 s3 iz' => ?_⟩
              have gm : ∀ j, Gd 2 (pMul (i4 n t0 t1 t2 j, 1) (-3, 1)) := fun j => (ga j).mul g3
              refine row0 iz' (gm 0) (gm 1) (gm 2) (gm 3) (by decide) fun z'' H4 s4 ir => q' z'' H4 (s3.trans s4) ?_
              have ir : IsRw K H4 z'' b _ _ _ _ := ir
              rw [pMul_int, pMul_int, pMul_int, pMul_int, pSub_int, pSub_int, pSub_int, pSub_int, ← eb] at ir
              exact ir.isP ⟨⟨3, 1, by decide, by decide, by show (0 - n * -3) * 1 = n * 3 * 1; omega, by show (0 - t0 * -3) * 1 = t0 * 3 * 1; omega, by show (0 - t1 * -3) * 1 = t1 * 3 * 1; omega, by show (0 - t2 * -3) * 1 = t2 * 3 * 1; omega⟩, low_one _, low_one _, low_one _, low_one _⟩
            exact cb (go _) (go _)

end
/-! ### lists of things that stand for others -/
def Rp {β : Type} (R : V → β → Hp → Prop) (H : Hp) (vs : List V) (bs : List β) : Prop := vs.length = bs.length ∧ ∀ (j : Nat) (v : V) (b : β), vs[j]? = some v → bs[j]? = some b → R v b H
theorem Rp.nil {β : Type} {R : V → β → Hp → Prop} {H : Hp} : Rp R H [] [] := ⟨rfl, fun j v b h => by cases h⟩
theorem Rp.mono {β : Type} {R : V → β → Hp → Prop} {H H' : Hp} {vs : List V} {bs : List β} (h : Rp R H vs bs) (k : ∀ v b, R v b H → R v b H') : Rp R H' vs bs := ⟨h.1, fun j v b e1 e2 => k v b (h.2 j v b e1 e2)⟩
theorem Rp.append {β : Type} {R : V → β → Hp → Prop} {H : Hp} {vs ws : List V} {bs cs : List β} (h : Rp R H vs bs) (k : Rp R H ws cs) : Rp R H (vs ++ ws) (bs ++ cs) := by
  refine ⟨by rw [List.length_append, List.length_append, h.1, k.1], fun j v b e1 e2 => ?_⟩
  by_cases hj : j < vs.length
  · rw [List.getElem?_append_left hj] at e1
    rw [List.getElem?_append_left (by rw [← h.1]; exact hj)] at e2
    exact h.2 j v b e1 e2
  · rw [List.getElem?_append_right (by omega)] at e1
    rw [List.getElem?_append_right (by rw [← h.1]; omega), ← h.1] at e2
    exact k.2 _ v b e1 e2
theorem Rp.one {β : Type} {R : V → β → Hp → Prop} {H : Hp} {v : V} {b : β} (h : R v b H) : Rp R H [v] [b] := ⟨rfl, fun j v' b' e1 e2 => by
  match j, e1, e2 with
  | 0, e1, e2 => cases e1; cases e2; exact h⟩
theorem Rp.two {β : Type} {R : V → β → Hp → Prop} {H : Hp} {v v' : V} {b b' : β} (h : R v b H) (k : R v' b' H) : Rp R H [v, v'] [b, b'] := (Rp.one h).append (Rp.one k)
theorem Rp.snoc {β : Type} {R : V → β → Hp → Prop} {H : Hp} {vs : List V} {bs : List β} {v : V} {b : β} (h : Rp R H vs bs) (k : R v b H) : Rp R H (vs ++ [v]) (bs ++ [b]) := h.append (Rp.one k)
theorem Rp.cons {β : Type} {R : V → β → Hp → Prop} {H : Hp} {vs : List V} {bs : List β} {v : V} {b : β} (k : R v b H) (h : Rp R H vs bs) : Rp R H (v :: vs) (b :: bs) := (Rp.one k).append h
theorem Rp.take {β : Type} {R : V → β → Hp → Prop} {H : Hp} {vs : List V} {bs : List β} (h : Rp R H vs bs) (n : Nat) : Rp R H (vs.take n) (bs.take n) := by
  refine ⟨by rw [List.length_take, List.length_take, h.1], fun j v b e1 e2 => ?_⟩
  rw [List.getElem?_take] at e1 e2
  split at e1
  · rename_i hj
    rw [if_pos hj] at e2
    exact h.2 j v b e1 e2
  · cases e1
theorem Rp.drop {β : Type} {R : V → β → Hp → Prop} {H : Hp} {vs : List V} {bs : List β} (h : Rp R H vs bs) (n : Nat) : Rp R H (vs.drop n) (bs.drop n) := by
  refine ⟨by rw [List.length_drop, List.length_drop, h.1], fun j v b e1 e2 => ?_⟩
  rw [List.getElem?_drop] at e1 e2
  exact h.2 _ v b e1 e2
theorem Rp.get {β : Type} {R : V → β → Hp → Prop} {H : Hp} {vs : List V} {bs : List β} (h : Rp R H vs bs) {j : Nat} {v : V} (e : vs[j]? = some v) : ∃ b, bs[j]? = some b ∧ R v b H := by
  have hj := (List.getElem?_eq_some_iff.mp e).1
  have hb : bs[j]? = some (bs[j]'(by rw [← h.1]; exact hj)) := List.getElem?_eq_getElem _
  exact ⟨_, hb, h.2 j v _ e hb⟩
theorem Rp.at {β : Type} {R : V → β → Hp → Prop} {H : Hp} {vs : List V} {bs : List β} (h : Rp R H vs bs) {j : Nat} {b : β} (e : bs[j]? = some b) : ∃ v, vs[j]? = some v ∧ R v b H := by
  have hj := (List.getElem?_eq_some_iff.mp e).1
  have hb : vs[j]? = some (vs[j]'(by rw [h.1]; exact hj)) := List.getElem?_eq_getElem _
  exact ⟨_, hb, h.2 j _ b hb e⟩
theorem Rp.nil_iff {β : Type} {R : V → β → Hp → Prop} {H : Hp} {vs : List V} {bs : List β} (h : Rp R H vs bs) : vs = [] ↔ bs = [] := by
  rw [← List.length_eq_zero_iff, ← List.length_eq_zero_iff, h.1]
theorem Rp.mapV {α β : Type} {R : V → α → Hp → Prop} {S : V → β → Hp → Prop} {H : Hp} {vs : List V} {as : List α} (f : α → β) (h : Rp R H vs as) (k : ∀ v a, R v a H → S v (f a) H) : Rp S H vs (as.map f) := by
  refine ⟨by rw [List.length_map]; exact h.1, fun j v b e1 e2 => ?_⟩
  obtain ⟨a, ea, ra⟩ := h.get e1
  rw [List.getElem?_map, ea] at e2
  cases e2
  exact k v a ra
/-- a relation that new things and changes of lists don't matter to -/
def MonoR {β : Type} (R : V → β → Hp → Prop) : Prop := ∀ b, Mono (fun v H => R v b H)
theorem MonoR.same {β : Type} {R : V → β → Hp → Prop} (m : MonoR R) {b : β} {v : V} {D : Addr} {xs : List V} {H H' : Hp} (hD : H D = some (.lst xs)) (s : Same H H') (h : R v b H) : R v b H' := m b D xs v H H' hD (.of s) h
/-- a comprehension over the list at a -/
theorem lc_all {K : PySem.W.Frag} {α β : Type} {own : List Nat} {gg : TG} {tt : TT} {tl : TE} {te : TE} {σ : List (Option V)} {H : Hp} {Q : V → Hp → Prop} (a : Addr) (xs : List V) (fs : List α) (t : α → Bool) (g : α → β) (R : V → β → Hp → Prop) (mono : MonoR R) (hn : xs.length < 1000) (hl : xs.length = fs.length) (ha : H a = some (.lst xs)) (htl : ∀ R : V → Hp → Prop, R (.ref a) H → tl σ H R)
    (hs : ∀ (j : Nat) (x : V) (f : α), xs[j]? = some x → fs[j]? = some f → ∃ σ', wipe σ' own = wipe σ own ∧ (∀ H' (Kc : L2.St → Hp → Prop), Same H H' → Kc σ' H' → gg x (wipe σ own) H' Kc) ∧ (∀ H' (Qb : Bool → Hp → Prop), Same H H' → (∀ H2, Same H' H2 → Qb (t f) H2) → tt σ' H' Qb) ∧ (t f = true → ∀ H' (R' : V → Hp → Prop), Same H H' → (∀ y H4, Same H' H4 → R y (g f) H4 → R' y H4) → te σ' H' R'))
    (hq : ∀ (D : Addr) (H' : Hp) (vs : List V), H D = none → Same H H' → H' D = some (.lst vs) → Rp R H' vs ((fs.filter t).map g) → Q (.ref D) H') : tLc (iList K tl) gg tt te own σ H Q := by
  refine htl _ ⟨a, rfl, ⟨xs, SqL.of ha⟩, fun D hD => ?_⟩
  refine lc_it (walk_list (K := K) (a := a) (xs := xs)) (fun i H' => Same H H' ∧ ∃ vs : List V, vs.length ≤ i ∧ H' D = some (.lst vs) ∧ Rp R H' vs (((fs.take i).filter t).map g)) ⟨same_upd hD, [], Nat.le_refl _, upd_same, by rw [List.take_zero]; exact Rp.nil⟩ (fun _ _ _ h => SqL.of (h.1 _ _ ha)) ?_ ?_
  · rintro i x H' H'' hi ⟨sm, vs, hvl, dD, hr⟩ ⟨rfl, fx⟩
    have ef : fs[i]? = some (fs[i]'(by omega)) := List.getElem?_eq_getElem _
    obtain ⟨σ', hw, hb, htst, hel⟩ := hs i x _ fx ef
    have e1 : fs.take (i + 1) = fs.take i ++ [fs[i]'(by omega)] := by rw [List.take_add_one, ef]; rfl
    refine hb _ _ sm ⟨hw, htst _ _ sm fun H2 s2 => ?_⟩
    have d2 := s2 _ _ dD
    have hr2 := hr.mono (fun v b r => mono.same dD s2 r)
    cases htf : t (fs[i]'(by omega)) with
    | true =>
      rw [if_pos rfl]
      refine hel htf _ _ (sm.trans s2) fun y H4 s4 ry => ?_
      have d4 := s4 _ _ d2
      refine ⟨vs, d4, small1000 (by omega), fun b o e => ?_, vs ++ [y], by rw [List.length_append, List.length_singleton]; omega, upd_same, ?_⟩
      · rw [upd_ne (ne_of_none e hD)]
        exact s4 _ _ (s2 _ _ (sm _ _ e))
      · rw [e1, List.filter_append, List.map_append]
        have ee : ([fs[i]'(by omega)].filter t).map g = [g (fs[i]'(by omega))] := by
          rw [List.filter_cons, htf]
          rfl
        rw [ee]
        exact (hr2.mono fun v b r => mono b D vs v _ _ d4 .upd (mono.same d2 s4 r)).snoc (mono _ D vs y _ _ d4 .upd ry)
    | false =>
      rw [if_neg (by decide)]
      refine ⟨sm.trans s2, vs, by omega, d2, ?_⟩
      rw [e1, List.filter_append, List.map_append]
      have ee : ([fs[i]'(by omega)].filter t).map g = [] := by
        rw [List.filter_cons, htf]
        rfl
      rw [ee, List.append_nil]
      exact hr2
  · rintro H' ⟨sm, vs, hvl, dD, hr⟩
    rw [hl, List.take_length] at hr
    exact hq D H' vs hD sm dD hr
/-- a loop over enumerate(list), kept shut -/
def ForE (K : PySem.W.Frag) (a : Addr) (g : TG) (tb : TS) (D : Ends) (σ : List (Option V)) (H : Hp) (_ : Lk (g, tb, D) := ⟨⟩) : Prop :=
  ∃ W : Nat → Nat → List (Option V) → Hp → Prop, (∃ m, W 0 m σ H) ∧ ∀ i m σ H, W i m σ H → ((Ite K a).stop i H ∧ D.nx σ H) ∨ ((Ite K a).go i H ∧ ∃ N : List (Option V) → Hp → Prop, (∀ σ' H', N σ' H' → ∃ m', m' < m ∧ W (i + 1) m' σ' H') ∧ ∀ x H', (Ite K a).yld i H x H' → g x σ H' fun σ2 H2 => tb { D with nx := N, ct := N, bk := D.nx } σ2 H2)
theorem tFor_iE {K : PySem.W.Frag} {ta : TA} {g : TG} {tb : TS} {D : Ends} {σ : List (Option V)} {H : Hp} : tFor (iEnum K ta) g tb D σ H = ta σ H fun vs H1 => ∃ a xs, vs = [.ref a] ∧ SqL K H1 a xs ∧ ForE K a g tb D σ H1 := rfl
/-! ### fractions, ascending, with one between each two -/
abbrev Fr := Int × Int
structure Ff (B : Nat) (f : Fr) : Prop where
  pos : 0 < f.2
  n1 : f.1.natAbs < 10 ^ B
  n2 : f.2.natAbs < 10 ^ B
theorem Ff.mono {B C : Nat} {f : Fr} (h : Ff B f) (hc : B ≤ C) : Ff C f := ⟨h.pos, Nat.lt_of_lt_of_le h.n1 (Nat.pow_le_pow_right (by decide) hc), Nat.lt_of_lt_of_le h.n2 (Nat.pow_le_pow_right (by decide) hc)⟩
theorem Ff.zero {B : Nat} (h : 0 < B) : Ff B (0, 1) := ⟨by decide, Nat.pow_pos (by decide), by
  show 1 < 10 ^ B
  exact Nat.lt_of_lt_of_le (by decide : 1 < 10 ^ 1) (Nat.pow_le_pow_right (by decide) h)⟩
def lessF (a b : Fr) : Bool := decide (a.1 * b.2 < b.1 * a.2)
def midF (a b : Fr) : Fr := (a.1 + b.1, a.2 + b.2)
theorem add10 {a b : Int} {B : Nat} (h : a.natAbs < 10 ^ B) (k : b.natAbs < 10 ^ B) : (a + b).natAbs < 10 ^ (B + 1) := by
  rw [Nat.pow_succ]
  omega
theorem sub10 {a b : Int} {B : Nat} (h : a.natAbs < 10 ^ B) (k : b.natAbs < 10 ^ B) : (a - b).natAbs < 10 ^ (B + 1) := by
  rw [Nat.pow_succ]
  omega
theorem Ff.mid {B : Nat} {a b : Fr} (h : Ff B a) (k : Ff B b) : Ff (B + 1) (midF a b) := ⟨by
  have := h.pos
  have := k.pos
  show 0 < a.2 + b.2
  omega, add10 h.n1 k.n1, add10 h.n2 k.n2⟩
def newF (o : Option Fr) (x : Fr) : Bool := match o with
  | none => true
  | some y => lessF x y
def insF (row : List Fr) (x : Fr) : List Fr :=
  if newF row[(row.filter fun y => lessF y x).length]? x then row.take (row.filter fun y => lessF y x).length ++ [x] ++ row.drop (row.filter fun y => lessF y x).length else row
def sortF (l : List Fr) : List Fr := l.foldl insF []
theorem insF_all {P : Fr → Prop} {row : List Fr} {x : Fr} (h : ∀ f ∈ row, P f) (hx : P x) : ∀ f ∈ insF row x, P f := by
  intro f hf
  unfold insF at hf
  split at hf
  · rcases List.mem_append.mp hf with hf | hf
    · rcases List.mem_append.mp hf with hf | hf
      · exact h f (List.mem_of_mem_take hf)
      · rw [List.mem_singleton.mp hf]
        exact hx
    · exact h f (List.mem_of_mem_drop hf)
  · exact h f hf
theorem insF_len (row : List Fr) (x : Fr) : (insF row x).length ≤ row.length + 1 := by
  unfold insF
  split
  · rw [List.length_append, List.length_append, List.length_take, List.length_drop, List.length_singleton]
    have := List.length_filter_le (fun y => lessF y x) row
    omega
  · omega
theorem foldl_all {P : Fr → Prop} : ∀ (l row : List Fr), (∀ f ∈ row, P f) → (∀ f ∈ l, P f) → ∀ f ∈ l.foldl insF row, P f
  | [], _, h, _ => h
  | x :: l, row, h, k => foldl_all l (insF row x) (insF_all h (k x (List.mem_cons_self ..))) fun f hf => k f (List.mem_cons_of_mem _ hf)
theorem foldl_len : ∀ (l row : List Fr), (l.foldl insF row).length ≤ row.length + l.length
  | [], row => Nat.le_refl _
  | x :: l, row => by
    have := foldl_len l (insF row x)
    have := insF_len row x
    show (l.foldl insF (insF row x)).length ≤ row.length + (l.length + 1)
    omega
theorem sortF_all {P : Fr → Prop} {l : List Fr} (h : ∀ f ∈ l, P f) : ∀ f ∈ sortF l, P f := foldl_all l [] (fun f hf => by cases hf) h
theorem sortF_len (l : List Fr) : (sortF l).length ≤ l.length := by
  have := foldl_len l []
  rw [List.length_nil, Nat.zero_add] at this
  exact this
theorem sortF_take {l : List Fr} {i : Nat} {x : Fr} (h : l[i]? = some x) : sortF (l.take (i + 1)) = insF (sortF (l.take i)) x := by
  unfold sortF
  rw [List.take_add_one, h]
  show (l.take i ++ [x]).foldl insF [] = _
  rw [List.foldl_append]
  rfl
abbrev atF (r : List Fr) (k : Nat) : Fr := r.getD k (0, 1)
def fullF (r : List Fr) : Nat → List Fr
  | 0 => [((atF r 0).1 - (atF r 0).2, (atF r 0).2), atF r 0]
  | k + 1 => fullF r k ++ [midF (atF r k) (atF r (k + 1)), atF r (k + 1)]
def worthsF (l : List Fr) : List Fr := if sortF l = [] then [(0, 1)] else fullF (sortF l) ((sortF l).length - 1) ++ [((atF (sortF l) ((sortF l).length - 1)).1 + (atF (sortF l) ((sortF l).length - 1)).2, (atF (sortF l) ((sortF l).length - 1)).2)]
theorem atF_all {B : Nat} {r : List Fr} (hB : 0 < B) (h : ∀ f ∈ r, Ff B f) (k : Nat) : Ff B (atF r k) := by
  unfold atF
  rw [List.getD_eq_getElem?_getD]
  cases e : r[k]? with
  | none => exact Ff.zero hB
  | some f => exact h f (List.mem_of_getElem? e)
theorem fullF_all {B : Nat} {r : List Fr} (hB : 0 < B) (h : ∀ f ∈ r, Ff B f) : ∀ k, ∀ f ∈ fullF r k, Ff (B + 1) f
  | 0, f, hf => by
    have a := atF_all hB h 0
    rcases List.mem_cons.mp hf with rfl | hf
    · exact ⟨a.pos, sub10 a.n1 a.n2, (a.mono (Nat.le_succ B)).n2⟩
    · rw [List.mem_singleton.mp hf]
      exact a.mono (Nat.le_succ B)
  | k + 1, f, hf => by
    rcases List.mem_append.mp hf with hf | hf
    · exact fullF_all hB h k f hf
    · rcases List.mem_cons.mp hf with rfl | hf
      · exact (atF_all hB h k).mid (atF_all hB h (k + 1))
      · rw [List.mem_singleton.mp hf]
        exact (atF_all hB h (k + 1)).mono (Nat.le_succ B)
theorem fullF_len (r : List Fr) : ∀ k, (fullF r k).length = 2 * k + 2
  | 0 => rfl
  | k + 1 => by
    show (fullF r k ++ [_, _]).length = _
    rw [List.length_append, fullF_len r k]
    show 2 * k + 2 + 2 = _
    omega
theorem worthsF_all {B : Nat} {l : List Fr} (hB : 0 < B) (h : ∀ f ∈ l, Ff B f) : ∀ f ∈ worthsF l, Ff (B + 1) f := by
  intro f hf
  unfold worthsF at hf
  split at hf
  · rw [List.mem_singleton.mp hf]
    exact Ff.zero (Nat.succ_pos B)
  · have hs := sortF_all h
    rcases List.mem_append.mp hf with hf | hf
    · exact fullF_all hB hs _ f hf
    · rw [List.mem_singleton.mp hf]
      have a := atF_all hB hs ((sortF l).length - 1)
      exact ⟨a.pos, add10 a.n1 a.n2, (a.mono (Nat.le_succ B)).n2⟩
theorem worthsF_len (l : List Fr) : (worthsF l).length ≤ 2 * l.length + 1 ∧ 0 < (worthsF l).length := by
  unfold worthsF
  have h := sortF_len l
  split
  · exact ⟨by show 1 ≤ _; omega, by show 0 < 1; decide⟩
  · rename_i hn
    have : (sortF l).length ≠ 0 := fun e => hn (List.length_eq_zero_iff.mp e)
    rw [List.length_append, fullF_len, List.length_singleton]
    omega
def Tp (v : V) (f : Fr) (H : Hp) : Prop := ∃ r, v = .ref r ∧ H r = some (.tup [.int f.1, .int f.2])
theorem Tp.mono : MonoR Tp := fun b D xs v H H' hD s ⟨r, e, h⟩ => ⟨r, e, KeepL.sameN hD s _ _ h (fun ys c => by cases c)⟩
theorem Tp.keepL {v : V} {f : Fr} {H H' : Hp} (h : Tp v f H) (k : KeepL H H') : Tp v f H' := by
  obtain ⟨r, e, h⟩ := h
  exact ⟨r, e, k _ _ h (fun xs e => by cases e)⟩
theorem tfB {Qb : Bool → Hp → Prop} {b : Bool} {H : Hp} (h : Qb b H) : (V.bl b = V.bl false ∧ Qb false H) ∨ (V.bl b = V.bl true ∧ Qb true H) := by
  cases b
  · exact .inl ⟨rfl, h⟩
  · exact .inr ⟨rfl, h⟩
theorem none_same {H H' : Hp} {b : Addr} (s : Same H H') (n : H' b = none) : H b = none := by
  cases e : H b with
  | none => rfl
  | some o => rw [s _ _ e] at n; cases n
theorem m100 {n : Nat} {x : Nat} (h : x < 10 ^ n) (hn : n ≤ 400) : x < bigM := h_lt_M (p10 hn h)
theorem Rp.tpAt {H : Hp} {vs : List V} {fs : List Fr} (h : Rp Tp H vs fs) {k : Nat} (hk : k < vs.length) : ∃ r, vs[k]? = some (.ref r) ∧ H r = some (.tup [.int (atF fs k).1, .int (atF fs k).2]) := by
  obtain ⟨f, ef, r, e, hr⟩ := h.get (List.getElem?_eq_getElem hk)
  refine ⟨r, by rw [← e]; exact List.getElem?_eq_getElem hk, ?_⟩
  unfold atF
  rw [List.getD_eq_getElem?_getD, ef]
  exact hr
section
variable {P : Program} {w : World} {K : PySem.W.Frag} {mg : Str → Option Value} {base : Heap} {fd : FuncData}
def spLess (K : PySem.W.Frag) : Sp := fun vs H Q _ => ∃ (p q : Addr) (a b : Fr) (n : Nat), vs = [.ref p, .ref q] ∧ H p = some (.tup [.int a.1, .int a.2]) ∧ H q = some (.tup [.int b.1, .int b.2]) ∧ n ≤ 400 ∧ Ff n a ∧ Ff n b ∧ Q (.bl (lessF a b)) H
theorem scLess : FnScope ["_law_one", "_law_two"] ["_law_one", "_law_two"] d_less.scope := ⟨rfl, rfl, rfl, by decide +kernel, rfl, by decide +kernel, by decide +kernel⟩
theorem ok_less (W : Wd K mg) : ∃ fd, FnOk P w K mg base CX0 1 (He.ga K "_law_less") fd ["_law_one", "_law_two"] (spLess K) ∧ Binds K fd ["_law_one", "_law_two"] [] := by
  obtain ⟨fd, F⟩ := W.F_less
  refine ⟨fd, F.ok scLess (fun vs H Q E h => ?_) (fun cdv A outer s H vs Q E hr h => ?_), FunD.bindsN F fun _ _ _ _ _ _ us hl => match us, hl with | [_, _], _ => rfl⟩
  · obtain ⟨p, q, _, _, _, rfl, _⟩ := h
    rfl
  · obtain ⟨p, q, a, b, n, rfl, hp, hq, hn, ha, hb, k⟩ := h

    refine ⟨_, PSs.nox (pss_one (ps_ret (pe_cmpR op_lt (pe_op op_mulX9 (pe_ix ix_tupH (pv 0) pe_int (fun _ _ => rfl)) (pe_ix ix_tupH (pv 1) pe_int (fun _ _ => rfl))) (pe_op op_mulX9 (pe_ix ix_tupH (pv 1) pe_int (fun _ _ => rfl)) (pe_ix ix_tupH (pv 0) pe_int (fun _ _ => rfl))) (nomark _)))), ?_⟩
    simp -dsimp [tSeq, tAsg, tRet, tIfS, tIf, tTest, tVar, tCons, tNil, tC, tOp, tUn, rI, rI0, rU, tCB, tLst_A, tTup_A, gName, L2.start, CMul, CPow, CDiv, tDrop, tBM, tBM0, tNext, tPar, gSub, rSetL, rIxL, rIxT, tChain, tB, tNot, tNotV, tAnd, tOr, tAndV, tOrV, tFld, tCall, rIxLH, rIxTH, atI, ixN, upd_same, cxK, ex2, ex3, ex3b, rIs1, rIs2, rNe2, tyN, kb1, kb2, kb3, kb4, kb5, kb6, rEq, rNe, scal, tMake_S, tMakeK_S, tMakeN_S, hp, hq]
    exact ⟨⟨m100 ha.n1 hn, m100 hb.n2 hn⟩, ⟨m100 hb.n1 hn, m100 ha.n2 hn⟩, k⟩

def spMid (K : PySem.W.Frag) : Sp := fun vs H Q _ => ∃ (p q : Addr) (a b : Fr), vs = [.ref p, .ref q] ∧ H p = some (.tup [.int a.1, .int a.2]) ∧ H q = some (.tup [.int b.1, .int b.2]) ∧ ∀ r H', Same H H' → H' r = some (.tup [.int (midF a b).1, .int (midF a b).2]) → Q (.ref r) H'
theorem scMiddle : FnScope ["_law_one", "_law_two"] ["_law_one", "_law_two"] d_middle.scope := ⟨rfl, rfl, rfl, by decide +kernel, rfl, by decide +kernel, by decide +kernel⟩
theorem ok_middle (W : Wd K mg) : ∃ fd, FnOk P w K mg base CX0 1 (He.ga K "_law_middle") fd ["_law_one", "_law_two"] (spMid K) ∧ Binds K fd ["_law_one", "_law_two"] [] := by
  obtain ⟨fd, F⟩ := W.F_middle
  refine ⟨fd, F.ok scMiddle (fun vs H Q E h => ?_) (fun cdv A outer s H vs Q E hr h => ?_), FunD.bindsN F fun _ _ _ _ _ _ us hl => match us, hl with | [_, _], _ => rfl⟩
  · obtain ⟨p, q, _, _, rfl, _⟩ := h
    rfl
  · obtain ⟨p, q, a, b, rfl, hp, hq, k⟩ := h

    refine ⟨_, PSs.nox (pss_one (ps_ret (pe_tup (pa_cons (pe_op op_add (pe_ix ix_tupH (pv 0) pe_int (fun _ _ => rfl)) (pe_ix ix_tupH (pv 1) pe_int (fun _ _ => rfl))) (pa_cons (pe_op op_add (pe_ix ix_tupH (pv 0) pe_int (fun _ _ => rfl)) (pe_ix ix_tupH (pv 1) pe_int (fun _ _ => rfl))) pa_nil))))), ?_⟩
    simp -dsimp [tSeq, tAsg, tRet, tIfS, tIf, tTest, tVar, tCons, tNil, tC, tOp, tUn, rI, rI0, rU, tCB, tLst_A, tTup_A, gName, L2.start, CMul, CPow, CDiv, tDrop, tBM, tBM0, tNext, tPar, gSub, rSetL, rIxL, rIxT, tChain, tB, tNot, tNotV, tAnd, tOr, tAndV, tOrV, tFld, tCall, rIxLH, rIxTH, atI, ixN, upd_same, cxK, ex2, ex3, ex3b, rIs1, rIs2, rNe2, tyN, kb1, kb2, kb3, kb4, kb5, kb6, rEq, rNe, scal, tMake_S, tMakeK_S, tMakeN_S, hp, hq]
    exact ⟨le2, Alloc.of fun r H' n e s => k r H' s e⟩

/-- == of a list of pairs of ints and a new empty list -/
def rEqNil : R2 := fun x y H Q => ∃ (p q : Addr) (xs : List V) (fs : List Fr), x = .ref p ∧ y = .ref q ∧ H p = some (.lst xs) ∧ H q = some (.lst []) ∧ Rp Tp H xs fs ∧ Q (.bl (decide (fs = []))) H
theorem dp_pairs {K : PySem.W.Frag} {H : Hp} : ∀ {xs : List V} {fs : List Fr}, Rp Tp H xs fs → DpAll K H xs (fs.map fun f => PyData.tuple [.int f.1, .int f.2])
  | [], [], _ => .nil
  | [], _ :: _, h => by cases h.1
  | _ :: _, [], h => by cases h.1
  | x :: xs, f :: fs, h => by
    obtain ⟨r, rfl, hr⟩ := h.2 0 x f rfl rfl
    refine .cons (.tup (SqT.of hr) (.cons (.int _) (.cons (.int _) .nil))) (dp_pairs ⟨Nat.succ.inj h.1, fun j v b e1 e2 => h.2 (j + 1) v b e1 e2⟩)
theorem op_eqNil {X : Cx} (hu : X.A.units + 64 < cLine) : OpR X (compareOp .Eq) rEqNil := by
  intro pins s σ H x y v u Q I rx ry h
  obtain ⟨p, q, xs, fs, rfl, rfl, hp, hq, hR, k⟩ := h
  refine op_eqD hu pins s σ H _ _ v u Q I rx ry ⟨.list (fs.map fun f => PyData.tuple [.int f.1, .int f.2]), .list [], .lst (SqL.of hp) (dp_pairs hR), .lst (SqL.of hq) .nil, ?_, rfl, ?_⟩
  · have h : ∀ gs : List Fr, PyData.canLayAll0 (gs.map fun f => PyData.tuple [.int f.1, .int f.2]) = true ∧ PyData.depthAll (gs.map fun f => PyData.tuple [.int f.1, .int f.2]) ≤ 1 := fun gs => by
      induction gs with
      | nil => exact ⟨rfl, Nat.zero_le _⟩
      | cons g gs ih => exact ⟨Bool.and_eq_true_iff.mpr ⟨rfl, ih.1⟩, Nat.max_le.mpr ⟨Nat.le_refl _, ih.2⟩⟩
    exact Bool.and_eq_true_iff.mpr ⟨(h fs).1, decide_eq_true (by
      show PyData.depthAll _ + 1 ≤ 64
      have := (h fs).2
      omega)⟩
  · cases fs with
    | nil => exact k
    | cons f fs => exact k
def spWor (K : PySem.W.Frag) : Sp := fun vs H Q _ => ∃ (p : Addr) (xs : List V) (fs : List Fr) (B : Nat), vs = [.ref p] ∧ H p = some (.lst xs) ∧ Rp Tp H xs fs ∧ 0 < B ∧ B ≤ 300 ∧ xs.length ≤ 300 ∧ (∀ f ∈ fs, Ff B f) ∧
  ∀ (q : Addr) (ys : List V) H', H q = none → Same H H' → H' q = some (.lst ys) → Rp Tp H' ys (worthsF fs) → Q (.ref q) H'
theorem scWorths : FnScope ["_law_found", "_law_row_here", "_law_one", "_law_at", "_law_full", "_law_two"] ["_law_found"] d_worths.scope := ⟨rfl, rfl, rfl, by decide +kernel, rfl, by decide +kernel, by decide +kernel⟩
theorem ok_worths (W : Wd K mg) : ∃ fd, FnOk P w K mg base CX0 2 (He.ga K "_law_worths") fd ["_law_found"] (spWor K) ∧ Binds K fd ["_law_found"] [] := by
  obtain ⟨fd_less, G_less, b_less⟩ := ok_less (P := P) (w := w) (base := base) W
  have k_less : PySem.W.keepIn K (.ref (He.ga K "_law_less")) = true := by obtain ⟨fd, F⟩ := W.F_less; exact F.kp
  obtain ⟨fd_middle, G_middle, b_middle⟩ := ok_middle (P := P) (w := w) (base := base) W
  have k_middle : PySem.W.keepIn K (.ref (He.ga K "_law_middle")) = true := by obtain ⟨fd, F⟩ := W.F_middle; exact F.kp
  obtain ⟨fd, F⟩ := W.F_worths
  refine ⟨fd, F.ok scWorths (fun vs H Q E h => ?_) (fun cdv A outer s H vs Q E hr h => ?_), FunD.bindsN F fun _ _ _ _ _ _ us hl => match us, hl with | [_], _ => rfl⟩
  · obtain ⟨p, _, _, _, rfl, _⟩ := h
    rfl
  · obtain ⟨p, xs, fs, B, rfl, hp, hR, hB0, hB, hl, hF, q⟩ := h
    have r1 : Room 1 _ := hr.mono (by decide)
    refine ⟨_, PSs.nox (pss_cons (ps_set (i := 1) scWorths.nd rfl (Or.inl rfl) (pe_lst pa_nil))
    (pss_cons (ps_for PassesOwn.never rfl (pi_list (pv 0)) (pg_name (i := 2) scWorths.nd rfl (Or.inr rfl)) (pss_cons (ps_set (i := 3) scWorths.nd rfl (Or.inl rfl) (pe_callB len_lstH (by rfl) W.f_len boot_len (pa_cons (pe_lc (own := [("_law_two", 5)]) (g := gName 5) (tt := _) rfl scWorths.nd (pi_list (pv 1)) (blkOk_by (N := ["_law_found", "_law_row_here", "_law_one", "_law_at", "_law_full", "_law_two"]) (sc := defScope s_worths) (by decide +kernel))
            (fun _ _ _ _ _ => (pg_name (i := 5) scWorths.nd rfl (Or.inl rfl))) (fun _ _ _ _ _ => (pts_one (pt_val (pe_call G_less r1 rfl W.g_law_less k_less b_less .nil pass0 (pa_cons (pv 5) (pa_cons (pv 2) pa_nil))))))
            (fun _ _ _ _ _ => (pv 5))) pa_nil)))
    (pss_one (ps_if (PW.pt (pw_or (pt_cmpR op_eq (pv 3) (pe_callB len_lstH (by rfl) W.f_len boot_len (pa_cons (pv 1) pa_nil)) (nomark _)) (pw_or1 (pt_val (pe_call G_less r1 rfl W.g_law_less k_less b_less .nil pass0 (pa_cons (pv 2) (pa_cons (pe_ix ix_lstH (pv 1) (pv 3) (fun _ _ => rfl)) pa_nil))))))) (pss_one (ps_expr (pe_bm PySem.F.plainAttrs_list PySem.F.slot_list_insert PySem.F.type_list_insert mt_insert (pv 1) (pa_cons (pv 3) (pa_cons (pv 2) pa_nil))))) pss_nil))))
    (C8.pss_cut (ps_if (pt_cmpR ((op_eqNil hr.units)) (pv 1) (pe_lst pa_nil) (nomark _)) (pss_one (ps_ret (pe_lst (pa_cons (pe_tup (pa_cons pe_int (pa_cons pe_int pa_nil))) pa_nil)))) pss_nil)
    (C8.pss_cut (ps_set (i := 4) scWorths.nd rfl (Or.inl rfl) (pe_lst (pa_cons (pe_tup (pa_cons (pe_op op_sub (pe_ix ix_tupH (pe_ix ix_lstH (pv 1) pe_int (fun _ _ => rfl)) pe_int (fun _ _ => rfl)) (pe_ix ix_tupH (pe_ix ix_lstH (pv 1) pe_int (fun _ _ => rfl)) pe_int (fun _ _ => rfl))) (pa_cons (pe_ix ix_tupH (pe_ix ix_lstH (pv 1) pe_int (fun _ _ => rfl)) pe_int (fun _ _ => rfl)) pa_nil))) (pa_cons (pe_ix ix_lstH (pv 1) pe_int (fun _ _ => rfl)) pa_nil))))
    (C8.pss_cut (ps_for PassesOwn.never rfl (pi_range2 rfl W.f_range (pa_cons pe_int (pa_cons (pe_callB len_lstH (by rfl) W.f_len boot_len (pa_cons (pv 1) pa_nil)) pa_nil))) (pg_name (i := 3) scWorths.nd rfl (Or.inl rfl)) (pss_one (ps_expr (pe_bm PySem.F.plainAttrs_list PySem.F.slot_list_extend PySem.F.type_list_extend mt_extend (pv 4) (pa_cons (pe_lst (pa_cons (pe_call G_middle r1 rfl W.g_law_middle k_middle b_middle .nil pass0 (pa_cons (pe_ix ix_lstH (pv 1) (pe_op op_sub (pv 3) pe_int) (fun _ _ => rfl)) (pa_cons (pe_ix ix_lstH (pv 1) (pv 3) (fun _ _ => rfl)) pa_nil))) (pa_cons (pe_ix ix_lstH (pv 1) (pv 3) (fun _ _ => rfl)) pa_nil))) pa_nil)))))
    (pss_one (ps_ret (pe_op op_cat (pv 4) (pe_lst (pa_cons (pe_tup (pa_cons (pe_op op_add (pe_ix ix_tupH (pe_ix ix_lstH (pv 1) (pe_un un_neg pe_int) (fun _ _ => rfl)) pe_int (fun _ _ => rfl)) (pe_ix ix_tupH (pe_ix ix_lstH (pv 1) (pe_un un_neg pe_int) (fun _ _ => rfl)) pe_int (fun _ _ => rfl))) (pa_cons (pe_ix ix_tupH (pe_ix ix_lstH (pv 1) (pe_un un_neg pe_int) (fun _ _ => rfl)) pe_int (fun _ _ => rfl)) pa_nil))) pa_nil)))))))))), ?_⟩
    simp -dsimp [tSeq, tAsg, tRet, tIfS, tIf, tTest, tVar, tCons, tNil, tC, tOp, tUn, rI, rI0, rU, tCB, tLst_A, tTup_A, gName, L2.start, CMul, CPow, CDiv, tDrop, tBM, tBM0, tNext, tPar, gSub, rSetL, rIxL, rIxT, tChain, tB, tNot, tNotV, tAnd, tOr, tAndV, tOrV, tFld, tCall, rIxLH, rIxTH, atI, ixN, upd_same, cxK, ex2, ex3, ex3b, rIs1, rIs2, rNe2, tyN, kb1, kb2, kb3, kb4, kb5, kb6, rEq, rNe, scal, tMake_S, tMakeK_S, tMakeN_S, tFor_iL]
    refine Alloc.of fun R H1 n1 e1 s1 => ⟨⟨xs, SqL.of (s1 _ _ hp)⟩, ?_⟩
    unfold ForW
    refine for_list (K := K) (a := p) (xs := xs) (fun i σ' G => ∃ (v2 v3 v5 : Option V) (rs : List V), σ' = [some (.ref p), some (.ref R), v2, v3, none, v5] ∧ Same H G ∧ G R = some (.lst rs) ∧ Rp Tp G rs (sortF (fs.take i))) ⟨_, _, _, [], rfl, s1, e1, Rp.nil⟩ (fun i σ' G _ h => ?_) ?_ ?_
    · obtain ⟨_, _, _, _, _, s, _⟩ := h
      exact SqL.of (s _ _ hp)
    · rintro i x σ' G hi ⟨v2, v3, v5, rs, rfl, sG, hRs, hr⟩
      obtain ⟨f, ef, q0, rfl, hq0⟩ := hR.get hi
      have hff := hF f (List.mem_of_getElem? ef)
      have hil := (List.getElem?_eq_some_iff.mp hi).1
      have hrs : rs.length ≤ 300 := by
        have h1 := sortF_len (fs.take i)
        rw [List.length_take, ← hr.1] at h1
        omega
      have hsF := sortF_all (l := fs.take i) fun f hf => hF f (List.mem_of_mem_take hf)
      simp -dsimp [tSeq, tAsg, tRet, tIfS, tIf, tTest, tVar, tCons, tNil, tC, tOp, tUn, rI, rI0, rU, tCB, tLst_A, tTup_A, gName, L2.start, CMul, CPow, CDiv, tDrop, tBM, tBM0, tNext, tPar, gSub, rSetL, rIxL, rIxT, tChain, tB, tNot, tNotV, tAnd, tOr, tAndV, tOrV, tFld, tCall, rIxLH, rIxTH, atI, ixN, upd_same, cxK, ex2, ex3, ex3b, rIs1, rIs2, rNe2, tyN, kb1, kb2, kb3, kb4, kb5, kb6, rEq, rNe, scal, tMake_S, tMakeK_S, tMakeN_S]
      refine lc_all (K := K) R rs (sortF (fs.take i)) (fun y => lessF y f) id Tp Tp.mono (by omega) hr.1 hRs (fun R h => ⟨_, rfl, h⟩) (fun j y fy hy hfy => ?_) (fun D H2 vs nD s2 hD hvs => ?_)
      · obtain ⟨r, rfl, hr2⟩ := hr.2 j y fy hy hfy
        refine ⟨[some (.ref p), some (.ref R), some (.ref q0), v3, none, some (.ref r)], rfl, fun H' Kc s h => h, fun H' Qb s h => ?_, fun _ H' R' s h => ?_⟩
        · simp -dsimp [tSeq, tAsg, tRet, tIfS, tIf, tTest, tVar, tCons, tNil, tC, tOp, tUn, rI, rI0, rU, tCB, tLst_A, tTup_A, gName, L2.start, CMul, CPow, CDiv, tDrop, tBM, tBM0, tNext, tPar, gSub, rSetL, rIxL, rIxT, tChain, tB, tNot, tNotV, tAnd, tOr, tAndV, tOrV, tFld, tCall, rIxLH, rIxTH, atI, ixN, upd_same, cxK, ex2, ex3, ex3b, rIs1, rIs2, rNe2, tyN, kb1, kb2, kb3, kb4, kb5, kb6, rEq, rNe, scal, tMake_S, tMakeK_S, tMakeN_S]
          exact ⟨r, q0, fy, f, B, rfl, s _ _ hr2, s _ _ (sG _ _ hq0), by omega, hsF fy (List.mem_of_getElem? hfy), hff, tfB (h _ (Same.refl _))⟩
        · exact ⟨_, rfl, h _ _ (Same.refl _) ⟨r, rfl, s _ _ hr2⟩⟩
      · have hk : vs.length = ((sortF (fs.take i)).filter fun y => lessF y f).length := by rw [hvs.1, List.length_map]
        have hkl : vs.length ≤ rs.length := by
          rw [hk, hr.1]
          exact List.length_filter_le _ _
        have ef1 : sortF (fs.take (i + 1)) = insF (sortF (fs.take i)) f := sortF_take ef
        have hr2 := hr.mono (fun v b r => Tp.mono.same hRs s2 r)
        have hx2 : Tp (.ref q0) f H2 := ⟨q0, rfl, s2 _ _ (sG _ _ hq0)⟩
        have ins : ∀ {G' : Hp}, Same H2 G' → newF (sortF (fs.take i))[vs.length]? f = true → Same H (upd G' R (HO.lst (List.take vs.length rs ++ V.ref q0 :: List.drop vs.length rs))) ∧ Rp Tp (upd G' R (HO.lst (List.take vs.length rs ++ V.ref q0 :: List.drop vs.length rs))) (List.take vs.length rs ++ V.ref q0 :: List.drop vs.length rs) (sortF (fs.take (i + 1))) := fun {G'} sg hnew => by
          have hRg := sg _ _ (s2 _ _ hRs)
          refine ⟨fun b o e => ?_, ?_⟩
          · rw [upd_ne (ne_of_none e n1)]
            exact sg _ _ (s2 _ _ (sG _ _ e))
          · have e2 : insF (sortF (fs.take i)) f = (sortF (fs.take i)).take vs.length ++ (f :: (sortF (fs.take i)).drop vs.length) := by
              unfold insF
              rw [← hk, if_pos hnew, List.append_assoc]
              rfl
            rw [ef1, e2]
            have hg := (hr2.mono (fun v b r => Tp.mono.same (s2 _ _ hRs) sg r)).mono (fun v b r => Tp.mono b R rs v _ (upd G' R (HO.lst (List.take vs.length rs ++ V.ref q0 :: List.drop vs.length rs))) hRg .upd r)
            exact (hg.take _).append (Rp.cons (Tp.mono f R rs _ _ _ hRg .upd (Tp.mono.same (s2 _ _ hRs) sg hx2)) (hg.drop _))
        have sz : ((vs.length : Nat) : Int) < 9223372036854775808 := by omega
        refine ⟨D, rfl, vs, hD, rs, s2 _ _ hRs, ?_⟩
        by_cases he : vs.length = rs.length
        · rw [if_pos (by rw [he])]
          refine ⟨.inl ⟨rfl, _, SqL.of (s2 _ _ hRs)⟩, rs, s2 _ _ hRs, small1000 (by omega), sz, ins (Same.refl _) ?_⟩
          rw [List.getElem?_eq_none (by rw [← hr.1, he]; exact Nat.le_refl _)]
          rfl
        · rw [if_neg (fun e => he (by omega))]
          have hlt : vs.length < rs.length := by omega
          have ey : rs[vs.length]? = some (rs[vs.length]'hlt) := List.getElem?_eq_getElem hlt
          obtain ⟨fy, efy, ry, hey, hry⟩ := hr2.get ey
          have hfy := hsF fy (List.mem_of_getElem? efy)
          refine ⟨rs, s2 _ _ hRs, .ref ry, ?_, q0, ry, f, fy, B, rfl, s2 _ _ (sG _ _ hq0), hry, by omega, hff, hfy, ?_⟩
          · rw [if_pos (by omega)]
            rw [← hey]
            exact ey
          · cases hb : lessF f fy with
            | false =>
              refine .inl ⟨rfl, sG.trans s2, rs, s2 _ _ hRs, ?_⟩
              rw [ef1]
              have e2 : insF (sortF (fs.take i)) f = sortF (fs.take i) := by
                unfold insF
                rw [← hk, efy]
                show (if lessF f fy = true then _ else _) = _
                rw [hb, if_neg (by decide)]
              rw [e2]
              exact hr2
            | true =>
              refine .inr ⟨rfl, .inl ⟨rfl, _, SqL.of (s2 _ _ hRs)⟩, rs, s2 _ _ hRs, small1000 (by omega), sz, ins (Same.refl _) ?_⟩
              rw [efy]
              exact hb
    · rintro σ' G ⟨v2, v3, v5, rs, rfl, sG, hRs, hr⟩
      rw [hR.1, List.take_length] at hr
      have hls : rs.length ≤ 300 := by
        have := sortF_len fs
        rw [← hr.1] at this
        rw [hR.1] at hl
        omega
      have hsF := sortF_all hF
      generalize hS : sortF fs = S at hr hsF
      refine ⟨fun σ2 G2 => rs ≠ [] ∧ σ2 = [some (.ref p), some (.ref R), v2, v3, none, v5] ∧ Same G G2, ?_, ?_⟩
      · simp -dsimp [tSeq, tAsg, tRet, tIfS, tIf, tTest, tVar, tCons, tNil, tC, tOp, tUn, rI, rI0, rU, tCB, tLst_A, tTup_A, gName, L2.start, CMul, CPow, CDiv, tDrop, tBM, tBM0, tNext, tPar, gSub, rSetL, rIxL, rIxT, tChain, tB, tNot, tNotV, tAnd, tOr, tAndV, tOrV, tFld, tCall, rIxLH, rIxTH, atI, ixN, upd_same, cxK, ex2, ex3, ex3b, rIs1, rIs2, rNe2, tyN, kb1, kb2, kb3, kb4, kb5, kb6, rEq, rNe, scal, tMake_S, tMakeK_S, tMakeN_S]
        refine Alloc.of fun e H2 n2 e2 s2 => ⟨R, e, rs, S, rfl, rfl, s2 _ _ hRs, e2, hr.mono (fun v b r => Tp.mono.same hRs s2 r), ?_⟩
        by_cases h0 : S = []
        · rw [decide_eq_true h0]
          refine .inr ⟨rfl, le2, Alloc.of fun t H3 n3 e3 s3 => ⟨by decide, Alloc.of fun u H4 n4 e4 s4 => ?_⟩⟩
          refine q u _ H4 (none_same ((sG.trans s2).trans s3) n4) (((sG.trans s2).trans s3).trans s4) e4 ?_
          unfold worthsF
          rw [hS, if_pos h0]
          exact Rp.one ⟨t, rfl, s4 _ _ e3⟩
        · rw [decide_eq_false h0]
          exact .inl ⟨rfl, fun e => h0 (hr.nil_iff.mp e), s2⟩
      · rintro σ2 G2 ⟨hn0, rfl, sg2⟩
        have hR2 := sg2 _ _ hRs
        have sG2 := sG.trans sg2
        have hr2 : Rp Tp G2 rs S := hr.mono fun v b r => Tp.mono.same hRs sg2 r
        have hlen : 0 < rs.length := by
          rcases Nat.eq_zero_or_pos rs.length with e | e
          · exact absurd (List.length_eq_zero_iff.mp e) hn0
          · exact e
        refine ⟨fun σ3 G3 => ∃ (F : Addr) (fv : List V), σ3 = [some (.ref p), some (.ref R), v2, v3, some (.ref F), v5] ∧ G2 F = none ∧ Same G2 G3 ∧ G3 F = some (.lst fv) ∧ Rp Tp G3 fv (fullF S 0), ?_, ?_⟩
        · simp -dsimp [tSeq, tAsg, tRet, tIfS, tIf, tTest, tVar, tCons, tNil, tC, tOp, tUn, rI, rI0, rU, tCB, tLst_A, tTup_A, gName, L2.start, CMul, CPow, CDiv, tDrop, tBM, tBM0, tNext, tPar, gSub, rSetL, rIxL, rIxT, tChain, tB, tNot, tNotV, tAnd, tOr, tAndV, tOrV, tFld, tCall, rIxLH, rIxTH, atI, ixN, upd_same, cxK, ex2, ex3, ex3b, rIs1, rIs2, rNe2, tyN, kb1, kb2, kb3, kb4, kb5, kb6, rEq, rNe, scal, tMake_S, tMakeK_S, tMakeN_S]
          obtain ⟨r0, e0, h0⟩ := hr2.tpAt hlen
          have ix0 : ((if 0 < rs.length then some 0 else none).bind fun j => rs[j]?) = some (.ref r0) := by
            rw [if_pos hlen]
            exact e0
          refine ⟨rs, hR2, .ref r0, ix0, r0, rfl, _, h0, _, rfl, rs, hR2, .ref r0, ix0, r0, rfl, _, h0, _, rfl, _, rfl, _, rfl, rs, hR2, .ref r0, ix0, r0, rfl, _, h0, _, rfl, le2, Alloc.of fun t H3 n3 e3 s3 => ⟨rs, s3 _ _ hR2, .ref r0, ix0, le2, Alloc.of fun F H4 n4 e4 s4 => ?_⟩⟩
          exact ⟨F, rfl, none_same s3 n4, s3.trans s4, _, e4, Rp.two ⟨t, rfl, s4 _ _ e3⟩ ⟨r0, rfl, s4 _ _ (s3 _ _ h0)⟩⟩
        · rintro σ3 G3 ⟨F, fv, rfl, hF2, s3, hFv, hfr⟩
          refine ⟨fun σ4 G4 => ∃ (F : Addr) (fv : List V) (v3 : Option V), σ4 = [some (.ref p), some (.ref R), v2, v3, some (.ref F), v5] ∧ Same G2 G4 ∧ G4 F = some (.lst fv) ∧ Rp Tp G4 fv (fullF S (S.length - 1)), ?_, ?_⟩
          · have eS : rs.length = S.length := hr.1
            refine ⟨.ref R, rfl, R, rfl, rs, s3 _ _ hR2, 1, (rs.length : Int), rfl, ⟨by omega, by omega, by omega, by omega⟩, for_range (lo := 1) (n := ((rs.length : Int) - 1).toNat) (fun i σ4 G4 => ∃ (F : Addr) (fv : List V) (v3 : Option V), σ4 = [some (.ref p), some (.ref R), v2, v3, some (.ref F), v5] ∧ SameN F G2 G4 ∧ G2 F = none ∧ G4 F = some (.lst fv) ∧ Rp Tp G4 fv (fullF S i)) ?_ ?_ ?_⟩
            · exact ⟨_, _, _, rfl, .of s3, hF2, hFv, hfr⟩
            · rintro i σ4 G4 hi ⟨F, fv, v3, rfl, s4, hF2, hFv, hfr⟩
              have hi1 : i + 1 < rs.length := by omega
              have sg4 : Same G2 G4 := fun b o e => s4 b o (ne_of_none e hF2) e
              have hr4 : Rp Tp G4 rs S := hr2.mono fun v b r => Tp.mono.same hR2 sg4 r
              obtain ⟨ra, ea, ha⟩ := hr4.tpAt (k := i) (by omega)
              obtain ⟨rb, eb, hb⟩ := hr4.tpAt (k := i + 1) hi1
              have h4 := sg4 _ _ hR2
              simp -dsimp [tSeq, tAsg, tRet, tIfS, tIf, tTest, tVar, tCons, tNil, tC, tOp, tUn, rI, rI0, rU, tCB, tLst_A, tTup_A, gName, L2.start, CMul, CPow, CDiv, tDrop, tBM, tBM0, tNext, tPar, gSub, rSetL, rIxL, rIxT, tChain, tB, tNot, tNotV, tAnd, tOr, tAndV, tOrV, tFld, tCall, rIxLH, rIxTH, atI, ixN, upd_same, cxK, ex2, ex3, ex3b, rIs1, rIs2, rNe2, tyN, kb1, kb2, kb3, kb4, kb5, kb6, rEq, rNe, scal, tMake_S, tMakeK_S, tMakeN_S]
              refine ⟨.inl ⟨rfl, _, SqL.of hFv⟩, rs, h4, .ref ra, ?_, rs, h4, .ref rb, ?_, ra, rb, _, _, rfl, ha, hb, fun r H5 s5 h5 => ⟨rs, s5 _ _ h4, .ref rb, ?_, le2, Alloc.of fun t H6 n6 e6 s6 => ?_⟩⟩
              · rw [if_pos (by omega), if_pos (by omega), ← ea]
                show rs[(1 + (i : Int)).toNat - 1]? = _
                congr 1
                omega
              · rw [if_pos (by omega), if_pos (by omega), ← eb]
                show rs[(1 + (i : Int)).toNat]? = _
                congr 1
                omega
              · rw [if_pos (by omega), if_pos (by omega), ← eb]
                show rs[(1 + (i : Int)).toNat]? = _
                congr 1
                omega
              have s46 := s5.trans s6
              have hF6 := s46 _ _ hFv
              have fl := fullF_len S i
              rw [← hfr.1] at fl
              refine ⟨F, t, fv, _, rfl, rfl, hF6, e6, ?_, ?_, hF2, _, upd_same, ?_⟩
              · show fv.length + 2 ≤ sizeLine
                have : (700 : Nat) ≤ sizeLine := by decide
                omega
              · exact fun b o nb e => by rw [upd_ne nb]; exact s46 _ _ (s4 b o nb e)
              · have up : ∀ {v : V} {b : Fr}, Tp v b H6 → Tp v b (upd H6 F (HO.lst (fv ++ [.ref r, .ref rb]))) := fun {v b} h => Tp.mono b F fv v _ _ hF6 .upd h
                exact (hfr.mono fun v b h => up (Tp.mono.same hFv s46 h)).append (Rp.two (up ⟨r, rfl, s6 _ _ h5⟩) (up ⟨rb, rfl, s46 _ _ hb⟩))
            · rintro σ4 G4 ⟨F, fv, v3, rfl, s4, hF2, hFv, hfr⟩
              have en : ((rs.length : Int) - 1).toNat = S.length - 1 := by omega
              rw [en] at hfr
              exact ⟨F, fv, v3, rfl, fun b o e => s4 b o (ne_of_none e hF2) e, hFv, hfr⟩
          · rintro σ4 G4 ⟨F, fv, v3, rfl, s4, hFv, hfr⟩
            simp -dsimp [tSeq, tAsg, tRet, tIfS, tIf, tTest, tVar, tCons, tNil, tC, tOp, tUn, rI, rI0, rU, tCB, tLst_A, tTup_A, gName, L2.start, CMul, CPow, CDiv, tDrop, tBM, tBM0, tNext, tPar, gSub, rSetL, rIxL, rIxT, tChain, tB, tNot, tNotV, tAnd, tOr, tAndV, tOrV, tFld, tCall, rIxLH, rIxTH, atI, ixN, upd_same, cxK, ex2, ex3, ex3b, rIs1, rIs2, rNe2, tyN, kb1, kb2, kb3, kb4, kb5, kb6, rEq, rNe, scal, tMake_S, tMakeK_S, tMakeN_S]
            have h4 := s4 _ _ hR2
            have eS : rs.length = S.length := hr.1
            have hr4 : Rp Tp G4 rs S := hr2.mono fun v b r => Tp.mono.same hR2 s4 r
            obtain ⟨r0, e0, h0⟩ := hr4.tpAt (k := S.length - 1) (by omega)
            have ix0 : ((if (1 : Int) ≤ ((rs.length : Nat) : Int) then some (-1 + ((rs.length : Nat) : Int)).toNat else none).bind fun j => rs[j]?) = some (.ref r0) := by
              rw [if_pos (by omega), ← e0]
              show rs[(-1 + ((rs.length : Nat) : Int)).toNat]? = _
              congr 1
              omega
            refine ⟨rs, h4, .ref r0, ix0, r0, rfl, _, h0, _, rfl, rs, h4, .ref r0, ix0, r0, rfl, _, h0, _, rfl, _, rfl, _, rfl, rs, h4, .ref r0, ix0, r0, rfl, _, h0, _, rfl, le2, Alloc.of fun t H5 n5 e5 s5 => ⟨by decide, Alloc.of fun u H6 n6 e6 s6 => ?_⟩⟩
            have s46 := s5.trans s6
            have fl := fullF_len S (S.length - 1)
            rw [← hfr.1] at fl
            refine ⟨F, u, fv, [.ref t], rfl, rfl, s46 _ _ hFv, e6, ?_, fun z nz => ?_⟩
            · show fv.length + 1 ≤ sizeLine
              have : (700 : Nat) ≤ sizeLine := by decide
              omega
            have s67 := same_upd nz (o := HO.lst (fv ++ [.ref t]))
            refine q z _ _ (none_same ((sG2.trans s4).trans s46) nz) (((sG2.trans s4).trans s46).trans s67) upd_same ?_
            have hS0 : S ≠ [] := fun e => hn0 (hr.nil_iff.mpr e)
            unfold worthsF
            rw [hS, if_neg hS0]
            exact (hfr.mono fun v b h => Tp.mono.same hFv (s46.trans s67) h).append (Rp.one ⟨t, rfl, s67 _ _ (s6 _ _ e5)⟩)

end
/-! ### places at which rows are 0 -/
abbrev RI := Int × Int × Int × Int
def tk (r : RI) (k : Nat) : Int := i3 r.2.1 r.2.2.1 r.2.2.2 k
structure Rb (B : Nat) (r : RI) : Prop where
  n : r.1.natAbs < 10 ^ B
  t : ∀ k, (tk r k).natAbs < 10 ^ B
theorem Rb.mono {B C : Nat} {r : RI} (h : Rb B r) (hc : B ≤ C) : Rb C r := ⟨Nat.lt_of_lt_of_le h.n (Nat.pow_le_pow_right (by decide) hc), fun k => Nat.lt_of_lt_of_le (h.t k) (Nat.pow_le_pow_right (by decide) hc)⟩
def rootF (low high : Int) : Fr := if high > 0 then (-low, high) else (low, -high)
theorem rootF_ff {B : Nat} {low high : Int} (h0 : high ≠ 0) (h1 : low.natAbs < 10 ^ B) (h2 : high.natAbs < 10 ^ B) : Ff B (rootF low high) := by
  unfold rootF
  split
  · exact ⟨by assumption, by show (-low).natAbs < _; rw [Int.natAbs_neg]; exact h1, h2⟩
  · exact ⟨by show 0 < -high; omega, h1, by show (-high).natAbs < _; rw [Int.natAbs_neg]; exact h2⟩
def fixF (k : Nat) (f : Fr) (r : RI) : RI := (r.1 * f.2 + tk r k * f.1, if 0 ≠ k then f.2 * tk r 0 else 0, if 1 ≠ k then f.2 * tk r 1 else 0, if 2 ≠ k then f.2 * tk r 2 else 0)
theorem fixF_rb {B C k : Nat} {f : Fr} {r : RI} (hr : Rb B r) (hf : Ff C f) : Rb (B + C + 1) (fixF k f r) := by
  have up : ∀ {x : Int}, x.natAbs < 10 ^ (B + C) → x.natAbs < 10 ^ (B + C + 1) := fun h => Nat.lt_of_lt_of_le h (Nat.pow_le_pow_right (by decide) (Nat.le_succ _))
  have z : ((0 : Int)).natAbs < 10 ^ (B + C + 1) := Nat.pow_pos (by decide)
  have m : ∀ j, (f.2 * tk r j).natAbs < 10 ^ (B + C + 1) := fun j => by
    rw [Int.mul_comm]
    exact up (mul10 (hr.t j) hf.n2)
  refine ⟨add10 (mul10 hr.n hf.n2) (mul10 (hr.t k) hf.n1), fun j => ?_⟩
  match j with
  | 0 => show (if 0 ≠ k then f.2 * tk r 0 else 0).natAbs < _; split; exact m 0; exact z
  | 1 => show (if 1 ≠ k then f.2 * tk r 1 else 0).natAbs < _; split; exact m 1; exact z
  | j + 2 => show (if 2 ≠ k then f.2 * tk r 2 else 0).natAbs < _; split; exact m 2; exact z
def lineF (rows : List RI) (k : Nat) : List Fr := (rows.filter fun r => decide (tk r k ≠ 0)).map fun r => rootF r.1 (tk r k)
theorem lineF_ff {B k : Nat} {rows : List RI} (h : ∀ r ∈ rows, Rb B r) : ∀ f ∈ lineF rows k, Ff B f := by
  intro f hf
  obtain ⟨r, hr, rfl⟩ := List.mem_map.mp hf
  obtain ⟨hr, hd⟩ := List.mem_filter.mp hr
  exact rootF_ff (of_decide_eq_true hd) (h r hr).n ((h r hr).t k)
theorem lineF_len (rows : List RI) (k : Nat) : (lineF rows k).length ≤ rows.length := by
  unfold lineF
  rw [List.length_map]
  exact List.length_filter_le _ _
def highF (one two : RI) (k o : Nat) : Int := tk one k * tk two o - tk two k * tk one o
def meetF (one two : RI) (k o : Nat) : List Fr := if tk one o = 0 ∨ tk two o = 0 ∨ highF one two k o = 0 then [] else [rootF (one.1 * tk two o - two.1 * tk one o) (highF one two k o)]
theorem meetF_ff {B k o : Nat} {one two : RI} (h : Rb B one) (g : Rb B two) : ∀ f ∈ meetF one two k o, Ff (B + B + 1) f := by
  intro f hf
  unfold meetF at hf
  split at hf
  · cases hf
  · rename_i hn
    rw [List.mem_singleton.mp hf]
    exact rootF_ff (fun e => hn (.inr (.inr e))) (sub10 (mul10 h.n (g.t o)) (mul10 g.n (h.t o))) (sub10 (mul10 (h.t k) (g.t o)) (mul10 (g.t k) (h.t o)))
theorem meetF_len (one two : RI) (k o : Nat) : (meetF one two k o).length ≤ 1 := by
  unfold meetF
  split
  · exact Nat.zero_le _
  · exact Nat.le_refl _
/-- what one row meets among others -/
def metF (one : RI) (k o : Nat) (l : List RI) : List Fr := l.flatMap fun two => meetF one two k o
def pairsF (rows : List RI) (k o : Nat) : Nat → List Fr
  | 0 => []
  | i + 1 => pairsF rows k o i ++ (match rows[i]? with | none => [] | some one => metF one k o (rows.take i))
def planeF (rows : List RI) (k o : Nat) : List Fr := lineF (rows.filter fun r => decide (tk r o = 0)) k ++ pairsF rows k o rows.length
theorem flat_all {α β : Type} {P : β → Prop} {l : List α} {f : α → List β} (h : ∀ a ∈ l, ∀ b ∈ f a, P b) : ∀ b ∈ l.flatMap f, P b := by
  intro b hb
  obtain ⟨a, ha, hb⟩ := List.mem_flatMap.mp hb
  exact h a ha b hb
theorem flat_len {α β : Type} (l : List α) (f : α → List β) (c : Nat) (h : ∀ a, (f a).length ≤ c) : (l.flatMap f).length ≤ c * l.length := by
  induction l with
  | nil => exact Nat.zero_le _
  | cons a l ih =>
    rw [List.flatMap_cons, List.length_append, List.length_cons, Nat.mul_succ]
    have := h a
    omega
theorem pairsF_ff {B k o : Nat} {rows : List RI} (h : ∀ r ∈ rows, Rb B r) : ∀ i, ∀ f ∈ pairsF rows k o i, Ff (B + B + 1) f
  | 0, f, hf => by cases hf
  | i + 1, f, hf => by
    rcases List.mem_append.mp hf with hf | hf
    · exact pairsF_ff h i f hf
    · cases e : rows[i]? with
      | none =>
        rw [e] at hf
        cases hf
      | some one =>
        rw [e] at hf
        exact flat_all (fun two h2 => meetF_ff (h one (List.mem_of_getElem? e)) (h two (List.mem_of_mem_take h2))) f hf
theorem pairsF_len (rows : List RI) (k o : Nat) : ∀ i, (pairsF rows k o i).length ≤ i * i
  | 0 => Nat.le_refl _
  | i + 1 => by
    have ih := pairsF_len rows k o i
    show (pairsF rows k o i ++ _).length ≤ _
    rw [List.length_append]
    have h2 : (match rows[i]? with | none => [] | some one => metF one k o (rows.take i)).length ≤ i := by
      cases e : rows[i]? with
      | none => exact Nat.zero_le _
      | some one =>
        have := flat_len (rows.take i) (fun two => meetF one two k o) 1 (fun two => meetF_len one two k o)
        rw [List.length_take] at this
        show (metF one k o (rows.take i)).length ≤ i
        unfold metF
        omega
    have e2 : (i + 1) * (i + 1) = i * i + i + (i + 1) := by
      rw [Nat.mul_succ, Nat.succ_mul]
    omega
theorem planeF_ff {B k o : Nat} {rows : List RI} (h : ∀ r ∈ rows, Rb B r) : ∀ f ∈ planeF rows k o, Ff (B + B + 1) f := by
  intro f hf
  rcases List.mem_append.mp hf with hf | hf
  · exact (lineF_ff (fun r hr => h r (List.mem_filter.mp hr).1) f hf).mono (by omega)
  · exact pairsF_ff h _ f hf
theorem planeF_len (rows : List RI) (k o : Nat) : (planeF rows k o).length ≤ rows.length + rows.length * rows.length := by
  unfold planeF
  rw [List.length_append]
  have h1 := lineF_len (rows.filter fun r => decide (tk r o = 0)) k
  have h2 := List.length_filter_le (fun r => decide (tk r o = 0)) rows
  have h3 := pairsF_len rows k o rows.length
  omega
abbrev I3 := Int × Int × Int
def detF (a b c : I3) : Int := a.1 * (b.2.1 * c.2.2 - b.2.2 * c.2.1) - a.2.1 * (b.1 * c.2.2 - b.2.2 * c.1) + a.2.2 * (b.1 * c.2.1 - b.2.1 * c.1)
structure Ib (B : Nat) (a : I3) : Prop where
  h0 : a.1.natAbs < 10 ^ B
  h1 : a.2.1.natAbs < 10 ^ B
  h2 : a.2.2.natAbs < 10 ^ B
theorem detF_lt {B : Nat} {a b c : I3} (ha : Ib B a) (hb : Ib B b) (hc : Ib B c) : (detF a b c).natAbs < 10 ^ (B + (B + B + 1) + 2) := by
  unfold detF
  refine add10 (sub10 (mul10 ha.h0 (sub10 (mul10 hb.h1 hc.h2) (mul10 hb.h2 hc.h1))) (mul10 ha.h1 (sub10 (mul10 hb.h0 hc.h2) (mul10 hb.h2 hc.h0)))) ?_
  exact Nat.lt_of_lt_of_le (mul10 ha.h2 (sub10 (mul10 hb.h0 hc.h1) (mul10 hb.h1 hc.h0))) (Nat.pow_le_pow_right (by decide) (by omega))
def nF (r : RI) : I3 := (tk r 1, tk r 2, r.1)
def xF (r : RI) : I3 := (tk r 1, tk r 2, tk r 0)
theorem Rb.nF {B : Nat} {r : RI} (h : Rb B r) : Ib B (nF r) := ⟨h.t 1, h.t 2, h.n⟩
theorem Rb.xF {B : Nat} {r : RI} (h : Rb B r) : Ib B (xF r) := ⟨h.t 1, h.t 2, h.t 0⟩
def tripF (a b c : RI) : List Fr := if detF (xF a) (xF b) (xF c) ≠ 0 then [rootF (detF (nF a) (nF b) (nF c)) (detF (xF a) (xF b) (xF c))] else []
theorem tripF_ff {B : Nat} {a b c : RI} (ha : Rb B a) (hb : Rb B b) (hc : Rb B c) : ∀ f ∈ tripF a b c, Ff (B + (B + B + 1) + 2) f := by
  intro f hf
  unfold tripF at hf
  split at hf
  · rename_i hn
    rw [List.mem_singleton.mp hf]
    exact rootF_ff hn (detF_lt ha.nF hb.nF hc.nF) (detF_lt ha.xF hb.xF hc.xF)
  · cases hf
theorem tripF_len (a b c : RI) : (tripF a b c).length ≤ 1 := by
  unfold tripF
  split
  · exact Nat.le_refl _
  · exact Nat.zero_le _
def parF (one two : RI) : Bool := decide (tk one 1 * tk two 2 = tk one 2 * tk two 1)
/-- what one row and an earlier one, number m, have in room -/
def cornF (rows : List RI) (one : RI) (m : Nat) : List Fr := match rows[m]? with
  | none => []
  | some two => (if parF one two then meetF one two 0 1 ++ meetF one two 0 2 else []) ++ (rows.take m).flatMap fun three => tripF one two three
def cornsF (rows : List RI) (one : RI) : Nat → List Fr
  | 0 => []
  | m + 1 => cornsF rows one m ++ cornF rows one m
def room0F (rows : List RI) : Nat → List Fr
  | 0 => []
  | i + 1 => room0F rows i ++ (match rows[i]? with | none => [] | some one => cornsF (rows.take i) one (rows.take i).length)
def roomF (rows : List RI) : List Fr := lineF (rows.filter fun r => decide (tk r 1 = 0) && decide (tk r 2 = 0)) 0 ++ room0F rows rows.length
theorem cornF_ff {B : Nat} {rows : List RI} {one : RI} (h : ∀ r ∈ rows, Rb B r) (h1 : Rb B one) (m : Nat) : ∀ f ∈ cornF rows one m, Ff (B + (B + B + 1) + 2) f := by
  intro f hf
  unfold cornF at hf
  cases e : rows[m]? with
  | none =>
    rw [e] at hf
    cases hf
  | some two =>
    rw [e] at hf
    have h2 := h two (List.mem_of_getElem? e)
    have hm : ∀ o, ∀ f ∈ meetF one two 0 o, Ff (B + (B + B + 1) + 2) f := fun o f hf => (meetF_ff h1 h2 f hf).mono (by omega)
    rcases List.mem_append.mp hf with hf | hf
    · split at hf
      · rcases List.mem_append.mp hf with hf | hf
        · exact hm 1 f hf
        · exact hm 2 f hf
      · cases hf
    · exact flat_all (fun three h3 => tripF_ff h1 h2 (h three (List.mem_of_mem_take h3))) f hf
theorem cornF_len (rows : List RI) (one : RI) (m : Nat) : (cornF rows one m).length ≤ m + 2 := by
  unfold cornF
  cases e : rows[m]? with
  | none => exact Nat.zero_le _
  | some two =>
    show ((if parF one two then meetF one two 0 1 ++ meetF one two 0 2 else []) ++ _).length ≤ _
    rw [List.length_append]
    have h3 := flat_len (rows.take m) (fun three => tripF one two three) 1 (fun three => tripF_len one two three)
    rw [List.length_take] at h3
    have h4 : (if parF one two then meetF one two 0 1 ++ meetF one two 0 2 else []).length ≤ 2 := by
      split
      · rw [List.length_append]
        have := meetF_len one two 0 1
        have := meetF_len one two 0 2
        omega
      · exact Nat.zero_le _
    omega
theorem cornsF_ff {B : Nat} {rows : List RI} {one : RI} (h : ∀ r ∈ rows, Rb B r) (h1 : Rb B one) : ∀ m, ∀ f ∈ cornsF rows one m, Ff (B + (B + B + 1) + 2) f
  | 0, f, hf => by cases hf
  | m + 1, f, hf => by
    rcases List.mem_append.mp hf with hf | hf
    · exact cornsF_ff h h1 m f hf
    · exact cornF_ff h h1 m f hf
theorem cornsF_len (rows : List RI) (one : RI) : ∀ m, (cornsF rows one m).length ≤ m * (m + 1)
  | 0 => Nat.le_refl _
  | m + 1 => by
    have ih := cornsF_len rows one m
    have h := cornF_len rows one m
    show (cornsF rows one m ++ cornF rows one m).length ≤ _
    rw [List.length_append]
    have e : (m + 1) * (m + 1 + 1) = m * (m + 1) + (m + 1) + (m + 1) := by
      rw [Nat.mul_succ, Nat.succ_mul]
    omega
theorem room0F_ff {B : Nat} {rows : List RI} (h : ∀ r ∈ rows, Rb B r) : ∀ i, ∀ f ∈ room0F rows i, Ff (B + (B + B + 1) + 2) f
  | 0, f, hf => by cases hf
  | i + 1, f, hf => by
    rcases List.mem_append.mp hf with hf | hf
    · exact room0F_ff h i f hf
    · cases e : rows[i]? with
      | none =>
        rw [e] at hf
        cases hf
      | some one =>
        rw [e] at hf
        exact cornsF_ff (fun r hr => h r (List.mem_of_mem_take hr)) (h one (List.mem_of_getElem? e)) _ f hf
theorem room0F_len (rows : List RI) : ∀ i, (room0F rows i).length ≤ i * (i * (i + 1))
  | 0 => Nat.le_refl _
  | i + 1 => by
    have ih := room0F_len rows i
    show (room0F rows i ++ _).length ≤ _
    rw [List.length_append]
    have h2 : (match rows[i]? with | none => [] | some one => cornsF (rows.take i) one (rows.take i).length).length ≤ i * (i + 1) := by
      cases e : rows[i]? with
      | none => exact Nat.zero_le _
      | some one =>
        show (cornsF (rows.take i) one (rows.take i).length).length ≤ _
        refine Nat.le_trans (cornsF_len _ _ _) ?_
        have : (rows.take i).length ≤ i := by rw [List.length_take]; omega
        exact Nat.mul_le_mul this (by omega)
    have e1 : i * (i * (i + 1)) ≤ i * ((i + 1) * (i + 1 + 1)) := Nat.mul_le_mul_left _ (Nat.mul_le_mul (Nat.le_succ _) (Nat.le_succ _))
    have e2 : i * (i + 1) ≤ (i + 1) * (i + 1 + 1) := Nat.mul_le_mul (Nat.le_succ _) (Nat.le_succ _)
    have e3 : (i + 1) * ((i + 1) * (i + 1 + 1)) = i * ((i + 1) * (i + 1 + 1)) + (i + 1) * (i + 1 + 1) := Nat.succ_mul _ _
    omega
theorem roomF_ff {B : Nat} {rows : List RI} (h : ∀ r ∈ rows, Rb B r) : ∀ f ∈ roomF rows, Ff (B + (B + B + 1) + 2) f := by
  intro f hf
  rcases List.mem_append.mp hf with hf | hf
  · exact (lineF_ff (fun r hr => h r (List.mem_filter.mp hr).1) f hf).mono (by omega)
  · exact room0F_ff h _ f hf
theorem roomF_len (rows : List RI) : (roomF rows).length ≤ rows.length + rows.length * (rows.length * (rows.length + 1)) := by
  unfold roomF
  rw [List.length_append]
  have h1 := lineF_len (rows.filter fun r => decide (tk r 1 = 0) && decide (tk r 2 = 0)) 0
  have h2 := List.length_filter_le (fun r => decide (tk r 1 = 0) && decide (tk r 2 = 0)) rows
  have h3 := room0F_len rows rows.length
  omega
def Ri (v : V) (r : RI) (H : Hp) : Prop := ∃ p q, v = .ref p ∧ H p = some (.tup [.int r.1, .ref q]) ∧ H q = some (.tup [.int r.2.1, .int r.2.2.1, .int r.2.2.2])
theorem Ri.keepL {v : V} {r : RI} {H H' : Hp} (h : Ri v r H) (k : KeepL H H') : Ri v r H' := by
  obtain ⟨p, q, e, h1, h2⟩ := h
  exact ⟨p, q, e, k _ _ h1 (fun xs e => by cases e), k _ _ h2 (fun xs e => by cases e)⟩
theorem Ri.mono : MonoR Ri := fun b D xs v H H' hD s h => h.keepL (KeepL.sameN hD s)
theorem ix3 {a b c : Int} {k : Nat} (hk : k < 3) : (([V.int a, V.int b, V.int c] : List V))[k]? = some (.int (i3 a b c k)) := by
  match k, hk with
  | 0, _ => rfl
  | 1, _ => rfl
  | 2, _ => rfl
theorem ixE (a b c : Int) {k : Nat} (hk : k < 3) : ((if k < 3 then some k else none).bind fun j => ([V.int a, V.int b, V.int c] : List V)[j]?) = some (.int (i3 a b c k)) := by
  rw [if_pos hk]
  exact ix3 hk
/-- the reading of x[k], k not below 0 -/
theorem ixK {xs : List V} {k : Nat} {v : V} (h : xs[k]? = some v) : ((if k < xs.length then some k else none).bind fun j => xs[j]?) = some v := by
  rw [if_pos (List.getElem?_eq_some_iff.mp h).1]
  exact h
section
variable {P : Program} {w : World} {K : PySem.W.Frag} {mg : Str → Option Value} {base : Heap} {fd : FuncData}
def spRoot (K : PySem.W.Frag) : Sp := fun vs H Q _ => ∃ (a b : Int), vs = [.int a, .int b] ∧ ∀ r H', Same H H' → H' r = some (.tup [.int (rootF a b).1, .int (rootF a b).2]) → Q (.ref r) H'
theorem scRoot : FnScope ["_law_low", "_law_high"] ["_law_low", "_law_high"] d_root.scope := ⟨rfl, rfl, rfl, by decide +kernel, rfl, by decide +kernel, by decide +kernel⟩
theorem ok_root (W : Wd K mg) : ∃ fd, FnOk P w K mg base CX0 1 (He.ga K "_law_root") fd ["_law_low", "_law_high"] (spRoot K) ∧ Binds K fd ["_law_low", "_law_high"] [] := by
  obtain ⟨fd, F⟩ := W.F_root
  refine ⟨fd, F.ok scRoot (fun vs H Q E h => ?_) (fun cdv A outer s H vs Q E hr h => ?_), FunD.bindsN F fun _ _ _ _ _ _ us hl => match us, hl with | [_, _], _ => rfl⟩
  · obtain ⟨a, b, rfl, _⟩ := h
    rfl
  · obtain ⟨a, b, rfl, k⟩ := h

    refine ⟨_, PSs.nox (pss_one (ps_ret (pe_ifExp (pt_cmpR op_gt (pv 1) pe_int (nomark _)) (pe_tup (pa_cons (pe_un un_neg (pv 0)) (pa_cons (pv 1) pa_nil))) (pe_tup (pa_cons (pv 0) (pa_cons (pe_un un_neg (pv 1)) pa_nil)))))), ?_⟩
    simp -dsimp [tSeq, tAsg, tRet, tIfS, tIf, tTest, tVar, tCons, tNil, tC, tOp, tUn, rI, rI0, rU, tCB, tLst_A, tTup_A, gName, L2.start, CMul, CPow, CDiv, tDrop, tBM, tBM0, tNext, tPar, gSub, rSetL, rIxL, rIxT, tChain, tB, tNot, tNotV, tAnd, tOr, tAndV, tOrV, tFld, tCall, rIxLH, rIxTH, atI, ixN, upd_same, cxK, ex2, ex3, ex3b, rIs1, rIs2, rNe2, tyN, kb1, kb2, kb3, kb4, kb5, kb6, rEq, rNe, scal, tMake_S, tMakeK_S, tMakeN_S]
    split
    · rename_i h
      refine ⟨le2, Alloc.of fun r H' n e s => k r H' s ?_⟩
      rw [e]
      unfold rootF
      rw [if_pos h]
    · rename_i h
      refine ⟨le2, Alloc.of fun r H' n e s => k r H' s ?_⟩
      rw [e]
      unfold rootF
      rw [if_neg h]

def spFix (K : PySem.W.Frag) : Sp := fun vs H Q _ => ∃ (p fa : Addr) (k : Nat) (xs : List V) (rows : List RI) (f : Fr) (B C : Nat), vs = [.ref p, .int k, .ref fa] ∧ H p = some (.lst xs) ∧ Rp Ri H xs rows ∧ H fa = some (.tup [.int f.1, .int f.2]) ∧ k < 3 ∧ xs.length ≤ 300 ∧ B ≤ 300 ∧ C ≤ 300 ∧ (∀ r ∈ rows, Rb B r) ∧ Ff C f ∧
  ∀ (q : Addr) (ys : List V) H', H q = none → Same H H' → H' q = some (.lst ys) → Rp Ri H' ys (rows.map (fixF k f)) → Q (.ref q) H'
theorem scFixed : FnScope ["_law_rows", "_law_at", "_law_fraction", "_law_found", "_law_number_here", "_law_times", "_law_upper", "_law_lower", "_law_rest", "_law_k"] ["_law_rows", "_law_at", "_law_fraction"] d_fixed.scope := ⟨rfl, rfl, rfl, by decide +kernel, rfl, by decide +kernel, by decide +kernel⟩
theorem ok_fixed (W : Wd K mg) : ∃ fd, FnOk P w K mg base CX0 1 (He.ga K "_law_fixed") fd ["_law_rows", "_law_at", "_law_fraction"] (spFix K) ∧ Binds K fd ["_law_rows", "_law_at", "_law_fraction"] [] := by
  obtain ⟨fd, F⟩ := W.F_fixed
  refine ⟨fd, F.ok scFixed (fun vs H Q E h => ?_) (fun cdv A outer s H vs Q E hr h => ?_), FunD.bindsN F fun _ _ _ _ _ _ us hl => match us, hl with | [_, _, _], _ => rfl⟩
  · obtain ⟨p, fa, _, _, _, _, _, _, rfl, _⟩ := h
    rfl
  · obtain ⟨p, fa, k, xs, rows, f, B, C, rfl, hp, hR, hfa, hk, hl, hB, hC, hb, hf, q⟩ := h

    refine ⟨_, PSs.nox (pss_cons (ps_set (i := 3) scFixed.nd rfl (Or.inl rfl) (pe_lst pa_nil))
    (pss_cons (ps_for PassesOwn.never rfl (pi_list (pv 0)) (pg_tup rfl (pgs_cons (pg_name (i := 4) scFixed.nd rfl (Or.inl rfl)) (pgs_cons (pg_name (i := 5) scFixed.nd rfl (Or.inr rfl)) pgs_nil))) (pss_cons (ps_asg (pv 2) (pg_tup rfl (pgs_cons (pg_name (i := 6) scFixed.nd rfl (Or.inl rfl)) (pgs_cons (pg_name (i := 7) scFixed.nd rfl (Or.inr rfl)) pgs_nil))))
    (pss_cons (ps_set (i := 8) scFixed.nd rfl (Or.inl rfl) (pe_callTy call_tuple_of (by rfl) W.f_tuple (by decide +kernel) (pa_cons (pe_lc (own := [("_law_k", 9)]) (g := gName 9) (tt := tYes) rfl scFixed.nd (pi_range1 rfl W.f_range (pa_cons pe_int pa_nil)) (blkOk_by (N := ["_law_rows", "_law_at", "_law_fraction", "_law_found", "_law_number_here", "_law_times", "_law_upper", "_law_lower", "_law_rest", "_law_k"]) (sc := defScope s_fixed) (by decide +kernel))
            (fun _ _ _ _ _ => (pg_name (i := 9) scFixed.nd rfl (Or.inl rfl))) (fun _ _ _ _ _ => pts_nil)
            (fun _ _ _ _ _ => (pe_ifExp (pt_cmpR op_ne (pv 9) (pv 1) (nomark _)) (pe_op op_mulX9 (pv 7) (pe_ix ix_tupH (pv 5) (pv 9) (fun _ _ => rfl))) pe_int))) pa_nil)))
    (pss_one (ps_expr (pe_bm PySem.F.plainAttrs_list PySem.F.slot_list_append PySem.F.type_list_append mt_append (pv 3) (pa_cons (pe_tup (pa_cons (pe_op op_add (pe_op op_mulX9 (pv 4) (pv 7)) (pe_op op_mulX9 (pe_ix ix_tupH (pv 5) (pv 1) (fun _ _ => rfl)) (pv 6))) (pa_cons (pv 8) pa_nil))) pa_nil)))))))
    (pss_one (ps_ret (pv 3))))), ?_⟩
    simp -dsimp [tSeq, tAsg, tRet, tIfS, tIf, tTest, tVar, tCons, tNil, tC, tOp, tUn, rI, rI0, rU, tCB, tLst_A, tTup_A, gName, L2.start, CMul, CPow, CDiv, tDrop, tBM, tBM0, tNext, tPar, gSub, rSetL, rIxL, rIxT, tChain, tB, tNot, tNotV, tAnd, tOr, tAndV, tOrV, tFld, tCall, rIxLH, rIxTH, atI, ixN, upd_same, cxK, ex2, ex3, ex3b, rIs1, rIs2, rNe2, tyN, kb1, kb2, kb3, kb4, kb5, kb6, rEq, rNe, scal, tMake_S, tMakeK_S, tMakeN_S, tFor_iL]
    refine Alloc.of fun R H1 n1 e1 s1 => ⟨⟨xs, SqL.of (s1 _ _ hp)⟩, ?_⟩
    unfold ForW
    refine for_list (K := K) (a := p) (xs := xs) (fun i σ' G => ∃ (w4 w5 w6 w7 w8 w9 : Option V) (rs : List V), σ' = [some (.ref p), some (.int k), some (.ref fa), some (.ref R), w4, w5, w6, w7, w8, w9] ∧ Same H G ∧ G R = some (.lst rs) ∧ Rp Ri G rs ((rows.take i).map (fixF k f))) ⟨_, _, _, _, _, _, [], rfl, s1, e1, Rp.nil⟩ (fun i σ' G _ h => ?_) ?_ ?_
    · obtain ⟨_, _, _, _, _, _, _, _, s, _⟩ := h
      exact SqL.of (s _ _ hp)
    · rintro i x σ' G hi ⟨w4, w5, w6, w7, w8, w9, rs, rfl, sG, hRs, hr⟩
      obtain ⟨r, er, pr', qr, rfl, hpr, hqr⟩ := hR.get hi
      have hrb := hb r (List.mem_of_getElem? er)
      have hil := (List.getElem?_eq_some_iff.mp hi).1
      refine tup2n (sG _ _ hpr) ?_
      refine ⟨_, rfl, tup2n (sG _ _ hfa) ?_⟩
      simp -dsimp [tSeq, tAsg, tRet, tIfS, tIf, tTest, tVar, tCons, tNil, tC, tOp, tUn, rI, rI0, rU, tCB, tLst_A, tTup_A, gName, L2.start, CMul, CPow, CDiv, tDrop, tBM, tBM0, tNext, tPar, gSub, rSetL, rIxL, rIxT, tChain, tB, tNot, tNotV, tAnd, tOr, tAndV, tOrV, tFld, tCall, rIxLH, rIxTH, atI, ixN, upd_same, cxK, ex2, ex3, ex3b, rIs1, rIs2, rNe2, tyN, kb1, kb2, kb3, kb4, kb5, kb6, rEq, rNe, scal, tMake_S, tMakeK_S, tMakeN_S]
      have hq1 := sG _ _ hqr
      have tB : ∀ j, (tk r j).natAbs < bigM := fun j => m100 (hrb.t j) (by omega)
      refine lc_rng (n := 3) (fun j v _ => v = .int (if j ≠ k then f.2 * tk r j else 0)) (by decide) (fun _ _ _ _ _ _ _ _ h => h) (fun x => rfl) (fun j H' R' hj s' r' => ?_) (fun D H3 vs s3 hvl hD hvs => ?_)
      · simp -dsimp [tSeq, tAsg, tRet, tIfS, tIf, tTest, tVar, tCons, tNil, tC, tOp, tUn, rI, rI0, rU, tCB, tLst_A, tTup_A, gName, L2.start, CMul, CPow, CDiv, tDrop, tBM, tBM0, tNext, tPar, gSub, rSetL, rIxL, rIxT, tChain, tB, tNot, tNotV, tAnd, tOr, tAndV, tOrV, tFld, tCall, rIxLH, rIxTH, atI, ixN, upd_same, cxK, ex2, ex3, ex3b, rIs1, rIs2, rNe2, tyN, kb1, kb2, kb3, kb4, kb5, kb6, rEq, rNe, scal, tMake_S, tMakeK_S, tMakeN_S, wipe]
        by_cases hjk : j = k
        · refine .inl ⟨by rw [hjk], r' _ _ (Same.refl _) ?_⟩
          rw [if_neg (fun h => h hjk)]
        · refine .inr ⟨fun e => hjk (by omega), _, s' _ _ hq1, .int (tk r j), ixK (ix3 hj), _, rfl, ⟨m100 hf.n2 (by omega), tB j⟩, r' _ _ (Same.refl _) ?_⟩
          rw [if_pos hjk]
      · match vs, hvl with
        | [v0, v1, v2], _ =>
        have e0 := hvs 0 v0 rfl
        have e1 := hvs 1 v1 rfl
        have e2 := hvs 2 v2 rfl
        subst e0 e1 e2
        refine ⟨D, rfl, _, .inl ⟨SqL.of hD, fun l nl => ?_⟩⟩
        have sl := same_upd nl (o := HO.tup [.int (if 0 ≠ k then f.2 * tk r 0 else 0), .int (if 1 ≠ k then f.2 * tk r 1 else 0), .int (if 2 ≠ k then f.2 * tk r 2 else 0)])
        refine ⟨.inl ⟨rfl, _, SqL.of (sl _ _ (s3 _ _ hRs))⟩, ⟨m100 hrb.n (by omega), m100 hf.n2 (by omega)⟩, _, sl _ _ (s3 _ _ hq1), .int (tk r k), ixK (ix3 hk), _, rfl, ⟨tB k, m100 hf.n1 (by omega)⟩, le2, Alloc.of fun t H5 n5 e5 s5 => ?_⟩
        have s35 := (s3.trans sl).trans s5
        have hR5 := s35 _ _ hRs
        have hrl : rs.length ≤ 300 := by
          have := hr.1
          rw [List.length_map, List.length_take] at this
          have := hR.1
          omega
        refine ⟨R, rs, _, rfl, rfl, hR5, small1000 (by omega), fun b o e => ?_, _, upd_same, ?_⟩
        · rw [upd_ne (ne_of_none e n1)]
          exact s35 _ _ (sG _ _ e)
        · rw [← List.map_take, List.take_add_one, er, List.map_append]
          have up : ∀ {v : V} {b : RI}, Ri v b H5 → Ri v b (upd H5 R (HO.lst (rs ++ [.ref t]))) := fun {v b} h => Ri.mono b R rs v _ _ hR5 .upd h
          exact (hr.mono fun v b h => up (Ri.mono.same hRs s35 h)).append (Rp.one (up ⟨t, l, rfl, e5, s5 _ _ upd_same⟩))
    · rintro σ' G ⟨w4, w5, w6, w7, w8, w9, rs, rfl, sG, hRs, hr⟩
      rw [hR.1, List.take_length] at hr
      simp -dsimp [tSeq, tAsg, tRet, tIfS, tIf, tTest, tVar, tCons, tNil, tC, tOp, tUn, rI, rI0, rU, tCB, tLst_A, tTup_A, gName, L2.start, CMul, CPow, CDiv, tDrop, tBM, tBM0, tNext, tPar, gSub, rSetL, rIxL, rIxT, tChain, tB, tNot, tNotV, tAnd, tOr, tAndV, tOrV, tFld, tCall, rIxLH, rIxTH, atI, ixN, upd_same, cxK, ex2, ex3, ex3b, rIs1, rIs2, rNe2, tyN, kb1, kb2, kb3, kb4, kb5, kb6, rEq, rNe, scal, tMake_S, tMakeK_S, tMakeN_S]
      exact q R rs G n1 sG hRs hr

def spLine (K : PySem.W.Frag) : Sp := fun vs H Q _ => ∃ (p : Addr) (k : Nat) (xs : List V) (rows : List RI), vs = [.ref p, .int k] ∧ H p = some (.lst xs) ∧ Rp Ri H xs rows ∧ k < 3 ∧ xs.length ≤ 300 ∧
  ∀ (q : Addr) (ys : List V) H', H q = none → Same H H' → H' q = some (.lst ys) → Rp Tp H' ys (lineF rows k) → Q (.ref q) H'
theorem scLine : FnScope ["_law_rows", "_law_at", "_law_number_here", "_law_times"] ["_law_rows", "_law_at"] d_line.scope := ⟨rfl, rfl, rfl, by decide +kernel, rfl, by decide +kernel, by decide +kernel⟩
theorem ok_line (W : Wd K mg) : ∃ fd, FnOk P w K mg base CX0 2 (He.ga K "_law_line") fd ["_law_rows", "_law_at"] (spLine K) ∧ Binds K fd ["_law_rows", "_law_at"] [] := by
  obtain ⟨fd_root, G_root, b_root⟩ := ok_root (P := P) (w := w) (base := base) W
  have k_root : PySem.W.keepIn K (.ref (He.ga K "_law_root")) = true := by obtain ⟨fd, F⟩ := W.F_root; exact F.kp
  obtain ⟨fd, F⟩ := W.F_line
  refine ⟨fd, F.ok scLine (fun vs H Q E h => ?_) (fun cdv A outer s H vs Q E hr h => ?_), FunD.bindsN F fun _ _ _ _ _ _ us hl => match us, hl with | [_, _], _ => rfl⟩
  · obtain ⟨p, k, _, _, rfl, _⟩ := h
    rfl
  · obtain ⟨p, k, xs, rows, rfl, hp, hR, hk, hl, q⟩ := h
    have r1 : Room 1 _ := hr.mono (by decide)
    refine ⟨_, PSs.nox (pss_one (ps_ret (pe_lc (own := [("_law_number_here", 2), ("_law_times", 3)]) (g := gTup K 2 (gCons (gName 2) (gCons (gName 3) gNil))) (tt := _) rfl scLine.nd (pi_list (pv 0)) (blkOk_by (N := ["_law_rows", "_law_at", "_law_number_here", "_law_times"]) (sc := defScope s_line) (by decide +kernel))
            (fun _ _ _ _ _ => (pg_tup rfl (pgs_cons (pg_name (i := 2) scLine.nd rfl (Or.inl rfl)) (pgs_cons (pg_name (i := 3) scLine.nd rfl (Or.inl rfl)) pgs_nil)))) (fun _ _ _ _ _ => (pts_one (pt_cmpR op_ne (pe_ix ix_tupH (pv 3) (pv 1) (fun _ _ => rfl)) pe_int (nomark _))))
            (fun _ _ _ _ _ => (pe_call G_root r1 rfl W.g_law_root k_root b_root .nil pass0 (pa_cons (pv 2) (pa_cons (pe_ix ix_tupH (pv 3) (pv 1) (fun _ _ => rfl)) pa_nil))))))), ?_⟩
    simp -dsimp [tSeq, tAsg, tRet, tIfS, tIf, tTest, tVar, tCons, tNil, tC, tOp, tUn, rI, rI0, rU, tCB, tLst_A, tTup_A, gName, L2.start, CMul, CPow, CDiv, tDrop, tBM, tBM0, tNext, tPar, gSub, rSetL, rIxL, rIxT, tChain, tB, tNot, tNotV, tAnd, tOr, tAndV, tOrV, tFld, tCall, rIxLH, rIxTH, atI, ixN, upd_same, cxK, ex2, ex3, ex3b, rIs1, rIs2, rNe2, tyN, kb1, kb2, kb3, kb4, kb5, kb6, rEq, rNe, scal, tMake_S, tMakeK_S, tMakeN_S]
    refine lc_all (K := K) p xs rows (fun r => decide (tk r k ≠ 0)) (fun r => rootF r.1 (tk r k)) Tp Tp.mono (by omega) hR.1 hp (fun R h => ⟨_, rfl, h⟩) (fun j x r hj hr => ?_) (fun D H' vs nD s hD hvs => q D vs H' nD s hD hvs)
    obtain ⟨pr', qr, rfl, hpr, hqr⟩ := hR.2 j x r hj hr
    refine ⟨[some (.ref p), some (.int k), some (.int r.1), some (.ref qr)], rfl, fun H' Kc s h => tup2n (s _ _ hpr) h, fun H' Qb s h => ?_, fun _ H' R' s h => ?_⟩
    · simp -dsimp [tSeq, tAsg, tRet, tIfS, tIf, tTest, tVar, tCons, tNil, tC, tOp, tUn, rI, rI0, rU, tCB, tLst_A, tTup_A, gName, L2.start, CMul, CPow, CDiv, tDrop, tBM, tBM0, tNext, tPar, gSub, rSetL, rIxL, rIxT, tChain, tB, tNot, tNotV, tAnd, tOr, tAndV, tOrV, tFld, tCall, rIxLH, rIxTH, atI, ixN, upd_same, cxK, ex2, ex3, ex3b, rIs1, rIs2, rNe2, tyN, kb1, kb2, kb3, kb4, kb5, kb6, rEq, rNe, scal, tMake_S, tMakeK_S, tMakeN_S]
      refine ⟨_, s _ _ hqr, .int (tk r k), ixK (ix3 hk), rfl, ?_⟩
      by_cases h0 : tk r k = 0
      · refine .inl ⟨by rw [h0], ?_⟩
        rw [decide_eq_false (fun h => h h0)] at h
        exact h _ (Same.refl _)
      · refine .inr ⟨fun e => h0 (by injection e), ?_⟩
        rw [decide_eq_true h0] at h
        exact h _ (Same.refl _)
    · simp -dsimp [tSeq, tAsg, tRet, tIfS, tIf, tTest, tVar, tCons, tNil, tC, tOp, tUn, rI, rI0, rU, tCB, tLst_A, tTup_A, gName, L2.start, CMul, CPow, CDiv, tDrop, tBM, tBM0, tNext, tPar, gSub, rSetL, rIxL, rIxT, tChain, tB, tNot, tNotV, tAnd, tOr, tAndV, tOrV, tFld, tCall, rIxLH, rIxTH, atI, ixN, upd_same, cxK, ex2, ex3, ex3b, rIs1, rIs2, rNe2, tyN, kb1, kb2, kb3, kb4, kb5, kb6, rEq, rNe, scal, tMake_S, tMakeK_S, tMakeN_S]
      exact ⟨_, s _ _ hqr, .int (tk r k), ixK (ix3 hk), _, _, rfl, fun t H4 s4 h4 => h _ _ s4 ⟨t, rfl, h4⟩⟩

/-- the reading of p[1][k] for a row at p -/
def spMeet (K : PySem.W.Frag) : Sp := fun vs H Q _ => ∃ (u v : V) (k o : Nat) (one two : RI) (B : Nat), vs = [u, v, .int k, .int o] ∧ Ri u one H ∧ Ri v two H ∧ k < 3 ∧ o < 3 ∧ B ≤ 300 ∧ Rb B one ∧ Rb B two ∧
  ∀ (q : Addr) (ys : List V) H', H q = none → Same H H' → H' q = some (.lst ys) → Rp Tp H' ys (meetF one two k o) → Q (.ref q) H'
theorem scMeet : FnScope ["_law_one", "_law_two", "_law_at", "_law_other", "_law_a", "_law_b", "_law_high"] ["_law_one", "_law_two", "_law_at", "_law_other"] d_meet.scope := ⟨rfl, rfl, rfl, by decide +kernel, rfl, by decide +kernel, by decide +kernel⟩
theorem ok_meet (W : Wd K mg) : ∃ fd, FnOk P w K mg base CX0 2 (He.ga K "_law_meet") fd ["_law_one", "_law_two", "_law_at", "_law_other"] (spMeet K) ∧ Binds K fd ["_law_one", "_law_two", "_law_at", "_law_other"] [] := by
  obtain ⟨fd_root, G_root, b_root⟩ := ok_root (P := P) (w := w) (base := base) W
  have k_root : PySem.W.keepIn K (.ref (He.ga K "_law_root")) = true := by obtain ⟨fd, F⟩ := W.F_root; exact F.kp
  obtain ⟨fd, F⟩ := W.F_meet
  refine ⟨fd, F.ok scMeet (fun vs H Q E h => ?_) (fun cdv A outer s H vs Q E hr h => ?_), FunD.bindsN F fun _ _ _ _ _ _ us hl => match us, hl with | [_, _, _, _], _ => rfl⟩
  · obtain ⟨u, v, _, _, _, _, _, rfl, _⟩ := h
    rfl
  · obtain ⟨u, v, k, o, one, two, B, rfl, ⟨p1, q1, rfl, h1, g1⟩, ⟨p2, q2, rfl, h2, g2⟩, hk, ho, hB, b1, b2, q⟩ := h
    have r1 : Room 1 _ := hr.mono (by decide)
    refine ⟨_, PSs.nox (pss_cons (ps_par (i := 4) (j := 5) rfl scMeet.nd rfl rfl (by decide) rfl rfl (pa_cons (pe_ix ix_tupH (pe_ix ix_tupH (pv 0) pe_int (fun _ _ => rfl)) (pv 3) (fun _ _ => rfl)) (pa_cons (pe_ix ix_tupH (pe_ix ix_tupH (pv 1) pe_int (fun _ _ => rfl)) (pv 3) (fun _ _ => rfl)) pa_nil)) rfl)
    (pss_cons (ps_set (i := 6) scMeet.nd rfl (Or.inl rfl) (pe_op op_sub (pe_op op_mulX9 (pe_ix ix_tupH (pe_ix ix_tupH (pv 0) pe_int (fun _ _ => rfl)) (pv 2) (fun _ _ => rfl)) (pv 5)) (pe_op op_mulX9 (pe_ix ix_tupH (pe_ix ix_tupH (pv 1) pe_int (fun _ _ => rfl)) (pv 2) (fun _ _ => rfl)) (pv 4))))
    (pss_cons (ps_if (PW.pt (pw_or (pt_cmpR op_eq (pv 4) pe_int (nomark _)) (pw_or (pt_cmpR op_eq (pv 5) pe_int (nomark _)) (pw_or1 (pt_cmpR op_eq (pv 6) pe_int (nomark _)))))) (pss_one (ps_ret (pe_lst pa_nil))) pss_nil)
    (pss_one (ps_ret (pe_lst (pa_cons (pe_call G_root r1 rfl W.g_law_root k_root b_root .nil pass0 (pa_cons (pe_op op_sub (pe_op op_mulX9 (pe_ix ix_tupH (pv 0) pe_int (fun _ _ => rfl)) (pv 5)) (pe_op op_mulX9 (pe_ix ix_tupH (pv 1) pe_int (fun _ _ => rfl)) (pv 4))) (pa_cons (pv 6) pa_nil))) pa_nil))))))), ?_⟩
    simp -dsimp [tSeq, tAsg, tRet, tIfS, tIf, tTest, tVar, tCons, tNil, tC, tOp, tUn, rI, rI0, rU, tCB, tLst_A, tTup_A, gName, L2.start, CMul, CPow, CDiv, tDrop, tBM, tBM0, tNext, tPar, gSub, rSetL, rIxL, rIxT, tChain, tB, tNot, tNotV, tAnd, tOr, tAndV, tOrV, tFld, tCall, rIxLH, rIxTH, atI, ixN, upd_same, cxK, ex2, ex3, ex3b, rIs1, rIs2, rNe2, tyN, kb1, kb2, kb3, kb4, kb5, kb6, rEq, rNe, scal, tMake_S, tMakeK_S, tMakeN_S, h1, g1, h2, g2, ixE _ _ _ ho, ixE _ _ _ hk]
    have tB1 : ∀ j, (tk one j).natAbs < bigM := fun j => m100 (b1.t j) (by omega)
    have tB2 : ∀ j, (tk two j).natAbs < bigM := fun j => m100 (b2.t j) (by omega)
    have nil : (tk one o = 0 ∨ tk two o = 0 ∨ highF one two k o = 0) → Alloc H (HO.lst []) Q := fun e => Alloc.of fun r H' n e' s => q r [] H' n s e' (by
      unfold meetF
      rw [if_pos e]
      exact Rp.nil)
    refine ⟨⟨tB1 k, tB2 o⟩, ⟨tB2 k, tB1 o⟩, ?_⟩
    split
    · rename_i e
      exact nil (.inl e)
    rename_i e1
    split
    · rename_i e
      exact nil (.inr (.inl e))
    rename_i e2
    split
    · rename_i e
      exact nil (.inr (.inr e))
    rename_i e3
    refine ⟨⟨m100 b1.n (by omega), tB2 o⟩, ⟨m100 b2.n (by omega), tB1 o⟩, _, _, rfl, fun t H4 s4 h4 => ⟨by decide, Alloc.of fun r H5 n5 e5 s5 => ?_⟩⟩
    refine q r _ H5 (none_same s4 n5) (s4.trans s5) e5 ?_
    unfold meetF
    rw [if_neg (fun h => h.elim e1 (fun h => h.elim e2 e3))]
    exact Rp.one ⟨t, rfl, s5 _ _ h4⟩

end
theorem cut_take (xs : List V) (i : Nat) : cutV xs none (some (i : Int)) = xs.take i := by
  unfold cutV
  rw [HT.sIx_nat, HT.sIx_none, List.drop_zero, Nat.sub_zero]
  by_cases h : i ≤ xs.length
  · rw [Nat.min_eq_left h]
  · rw [Nat.min_eq_right (by omega), List.take_length, List.take_of_length_le (by omega)]
theorem metF_take {one two : RI} {k o : Nat} {l : List RI} {j : Nat} (h : l[j]? = some two) : metF one k o (l.take (j + 1)) = metF one k o (l.take j) ++ meetF one two k o := by
  unfold metF
  rw [List.take_add_one, h]
  show (l.take j ++ [two]).flatMap _ = _
  rw [List.flatMap_append, List.flatMap_cons, List.flatMap_nil, List.append_nil]
section
variable {P : Program} {w : World} {K : PySem.W.Frag} {mg : Str → Option Value} {base : Heap} {fd : FuncData}
def spPlane (K : PySem.W.Frag) : Sp := fun vs H Q _ => ∃ (p : Addr) (k o : Nat) (xs : List V) (rows : List RI) (B : Nat), vs = [.ref p, .int k, .int o] ∧ H p = some (.lst xs) ∧ Rp Ri H xs rows ∧ k < 3 ∧ o < 3 ∧ xs.length ≤ 16 ∧ B ≤ 300 ∧ (∀ r ∈ rows, Rb B r) ∧
  ∀ (q : Addr) (ys : List V) H', Same H H' → H' q = some (.lst ys) → Rp Tp H' ys (planeF rows k o) → Q (.ref q) H'
theorem scPlane : FnScope ["_law_rows", "_law_at", "_law_other", "_law_found", "_law_k", "_law_one", "_law_two", "_law_row_here"] ["_law_rows", "_law_at", "_law_other"] d_plane.scope := ⟨rfl, rfl, rfl, by decide +kernel, rfl, by decide +kernel, by decide +kernel⟩
theorem ok_plane (W : Wd K mg) : ∃ fd, FnOk P w K mg base CX0 3 (He.ga K "_law_plane") fd ["_law_rows", "_law_at", "_law_other"] (spPlane K) ∧ Binds K fd ["_law_rows", "_law_at", "_law_other"] [] := by
  obtain ⟨fd_line, G_line, b_line⟩ := ok_line (P := P) (w := w) (base := base) W
  have k_line : PySem.W.keepIn K (.ref (He.ga K "_law_line")) = true := by obtain ⟨fd, F⟩ := W.F_line; exact F.kp
  obtain ⟨fd_meet, G_meet, b_meet⟩ := ok_meet (P := P) (w := w) (base := base) W
  have k_meet : PySem.W.keepIn K (.ref (He.ga K "_law_meet")) = true := by obtain ⟨fd, F⟩ := W.F_meet; exact F.kp
  obtain ⟨fd, F⟩ := W.F_plane
  refine ⟨fd, F.ok scPlane (fun vs H Q E h => ?_) (fun cdv A outer s H vs Q E hr h => ?_), FunD.bindsN F fun _ _ _ _ _ _ us hl => match us, hl with | [_, _, _], _ => rfl⟩
  · obtain ⟨p, _, _, _, _, _, rfl, _⟩ := h
    rfl
  · obtain ⟨p, k, o, xs, rows, B, rfl, hp, hR, hk, ho, hl, hB, hb, q⟩ := h
    have r1 : Room 1 _ := hr.mono (by decide)
    have r2 : Room 2 _ := hr.mono (by decide)
    refine ⟨_, PSs.nox (pss_cons (ps_set (i := 3) scPlane.nd rfl (Or.inl rfl) (pe_call G_line r2 rfl W.g_law_line k_line b_line .nil pass0 (pa_cons (pe_lc (own := [("_law_row_here", 7)]) (g := gName 7) (tt := _) rfl scPlane.nd (pi_list (pv 0)) (blkOk_by (N := ["_law_rows", "_law_at", "_law_other", "_law_found", "_law_k", "_law_one", "_law_two", "_law_row_here"]) (sc := defScope s_plane) (by decide +kernel))
            (fun _ _ _ _ _ => (pg_name (i := 7) scPlane.nd rfl (Or.inl rfl))) (fun _ _ _ _ _ => (pts_one (pt_cmpR op_eq (pe_ix ix_tupH (pe_ix ix_tupH (pv 7) pe_int (fun _ _ => rfl)) (pv 2) (fun _ _ => rfl)) pe_int (nomark _))))
            (fun _ _ _ _ _ => (pv 7))) (pa_cons (pv 1) pa_nil))))
    (pss_cons (ps_for PassesOwn.never rfl (pi_enum rfl W.f_enumerate (pa_cons (pv 0) pa_nil)) (pg_tup rfl (pgs_cons (pg_name (i := 4) scPlane.nd rfl (Or.inl rfl)) (pgs_cons (pg_name (i := 5) scPlane.nd rfl (Or.inl rfl)) pgs_nil))) (pss_one (ps_for PassesOwn.never rfl (pi_list (pe_slice sl_list (pv 0) po_none (po_some (pv 4)))) (pg_name (i := 6) scPlane.nd rfl (Or.inl rfl)) (pss_one (ps_expr (pe_bm PySem.F.plainAttrs_list PySem.F.slot_list_extend PySem.F.type_list_extend mt_extend (pv 3) (pa_cons (pe_call G_meet r2 rfl W.g_law_meet k_meet b_meet .nil pass0 (pa_cons (pv 5) (pa_cons (pv 6) (pa_cons (pv 1) (pa_cons (pv 2) pa_nil))))) pa_nil)))))))
    (pss_one (ps_ret (pv 3))))), ?_⟩
    simp -dsimp [tSeq, tAsg, tRet, tIfS, tIf, tTest, tVar, tCons, tNil, tC, tOp, tUn, rI, rI0, rU, tCB, tLst_A, tTup_A, gName, L2.start, CMul, CPow, CDiv, tDrop, tBM, tBM0, tNext, tPar, gSub, rSetL, rIxL, rIxT, tChain, tB, tNot, tNotV, tAnd, tOr, tAndV, tOrV, tFld, tCall, rIxLH, rIxTH, atI, ixN, upd_same, cxK, ex2, ex3, ex3b, rIs1, rIs2, rNe2, tyN, kb1, kb2, kb3, kb4, kb5, kb6, rEq, rNe, scal, tMake_S, tMakeK_S, tMakeN_S, tFor_iL, tFor_iE]
    refine lc_all (K := K) p xs rows (fun r => decide (tk r o = 0)) id Ri Ri.mono (by omega) hR.1 hp (fun R h => ⟨_, rfl, h⟩) (fun j x r hj hr => ?_) (fun D H1 vs nD s1 hD hvs => ?_)
    · obtain ⟨pr', qr, rfl, hpr, hqr⟩ := hR.2 j x r hj hr
      refine ⟨[some (.ref p), some (.int k), some (.int o), none, none, none, none, some (.ref pr')], rfl, fun H' Kc s h => h, fun H' Qb s h => ?_, fun _ H' R' s h => ⟨_, rfl, h _ _ (Same.refl _) ⟨pr', qr, rfl, s _ _ hpr, s _ _ hqr⟩⟩⟩
      have h1 := s _ _ hpr
      have h2 := s _ _ hqr
      simp -dsimp [tSeq, tAsg, tRet, tIfS, tIf, tTest, tVar, tCons, tNil, tC, tOp, tUn, rI, rI0, rU, tCB, tLst_A, tTup_A, gName, L2.start, CMul, CPow, CDiv, tDrop, tBM, tBM0, tNext, tPar, gSub, rSetL, rIxL, rIxT, tChain, tB, tNot, tNotV, tAnd, tOr, tAndV, tOrV, tFld, tCall, rIxLH, rIxTH, atI, ixN, upd_same, cxK, ex2, ex3, ex3b, rIs1, rIs2, rNe2, tyN, kb1, kb2, kb3, kb4, kb5, kb6, rEq, rNe, scal, tMake_S, tMakeK_S, tMakeN_S, h1, h2, ixE _ _ _ ho]
      exact h _ (Same.refl _)
    rw [List.map_id] at hvs
    have hvl : vs.length ≤ 16 := by
      have := hvs.1
      have := List.length_filter_le (fun r => decide (tk r o = 0)) rows
      have := hR.1
      omega
    refine ⟨D, k, vs, _, rfl, hD, hvs, hk, by omega, fun R ys H2 nR s2 hR2 hys => ⟨⟨xs, SqL.of ((s1.trans s2) _ _ hp)⟩, ?_⟩⟩
    have s12 := s1.trans s2
    have nRH : H R = none := none_same s1 nR
    unfold ForE
    refine for_it (walk_enum (K := K) (a := p) (xs := xs)) (fun i σ' G => ∃ (w4 w5 w6 w7 : Option V) (rs : List V), σ' = [some (.ref p), some (.int k), some (.int o), some (.ref R), w4, w5, w6, w7] ∧ Same H G ∧ G R = some (.lst rs) ∧ Rp Tp G rs (lineF (rows.filter fun r => decide (tk r o = 0)) k ++ pairsF rows k o i)) ⟨_, _, _, _, ys, rfl, s12, hR2, by rw [show pairsF rows k o 0 = [] from rfl, List.append_nil]; exact hys⟩ (fun i σ' G _ h => ?_) ?_ ?_
    · obtain ⟨_, _, _, _, _, _, s, _⟩ := h
      exact SqL.of (s _ _ hp)
    · rintro i x σ' G G' hi ⟨w4, w5, w6, w7, rs, rfl, sG, hRs, hrs⟩ ⟨T, u, y, rfl, nT, rfl, eu, ey⟩
      cases eu
      have sT : Same G (upd G T (HO.tup [V.int (i : Nat), y])) := same_upd nT
      obtain ⟨one, eone, hone⟩ := hR.get ey
      refine tup2n upd_same ?_
      simp -dsimp [tSeq, tAsg, tRet, tIfS, tIf, tTest, tVar, tCons, tNil, tC, tOp, tUn, rI, rI0, rU, tCB, tLst_A, tTup_A, gName, L2.start, CMul, CPow, CDiv, tDrop, tBM, tBM0, tNext, tPar, gSub, rSetL, rIxL, rIxT, tChain, tB, tNot, tNotV, tAnd, tOr, tAndV, tOrV, tFld, tCall, rIxLH, rIxTH, atI, ixN, upd_same, cxK, ex2, ex3, ex3b, rIs1, rIs2, rNe2, tyN, kb1, kb2, kb3, kb4, kb5, kb6, rEq, rNe, scal, tMake_S, tMakeK_S, tMakeN_S, tFor_iL, tSl, tPart, tNoPart, rSlL]
      refine ⟨xs, SqL.of (sT _ _ (sG _ _ hp)), fun S nS => ⟨⟨_, SqL.of upd_same⟩, ?_⟩⟩
      rw [cut_take]
      have sS := sT.trans (same_upd nS (o := HO.lst (xs.take i)))
      have hRS := sS _ _ hRs
      have nSR : R ≠ S := ne_of_none (sT _ _ hRs) nS
      have e0 : lineF (rows.filter fun r => decide (tk r o = 0)) k ++ pairsF rows k o (i + 1) = (lineF (rows.filter fun r => decide (tk r o = 0)) k ++ pairsF rows k o i) ++ metF one k o (rows.take i) := by
        rw [List.append_assoc]
        congr 1
        show pairsF rows k o i ++ (match rows[i]? with | none => [] | some one => metF one k o (rows.take i)) = _
        rw [eone]
      rw [e0]
      have lb : (lineF (rows.filter fun r => decide (tk r o = 0)) k ++ pairsF rows k o i).length ≤ 16 + 256 := by
        rw [List.length_append]
        have h1 := lineF_len (rows.filter fun r => decide (tk r o = 0)) k
        have h2 := List.length_filter_le (fun r => decide (tk r o = 0)) rows
        have h3 := pairsF_len rows k o i
        have h4 := hR.1
        have h5 : i * i ≤ 16 * 16 := Nat.mul_le_mul (by omega) (by omega)
        omega
      have hrS := hrs.mono fun v b h => Tp.mono.same hRs sS h
      have sHS := sG.trans sS
      generalize lineF (rows.filter fun r => decide (tk r o = 0)) k ++ pairsF rows k o i = base at lb hrS
      generalize hGS : upd (upd G T (HO.tup [V.int (i : Nat), y])) S (HO.lst (xs.take i)) = GS at *
      have hSS : GS S = some (.lst (xs.take i)) := by rw [← hGS]; exact upd_same
      unfold ForW
      refine for_list (K := K) (a := S) (xs := xs.take i) (fun j σ' G2 => ∃ (w6 : Option V) (rs : List V), σ' = [some (.ref p), some (.int k), some (.int o), some (.ref R), some (.int i), some y, w6, w7] ∧ Same H G2 ∧ G2 S = some (.lst (xs.take i)) ∧ G2 R = some (.lst rs) ∧ Rp Tp G2 rs (base ++ metF one k o ((rows.take i).take j))) ⟨_, rs, rfl, sHS, hSS, hRS, by rw [List.take_zero, show metF one k o [] = [] from rfl, List.append_nil]; exact hrS⟩ (fun j σ' G2 _ h => ?_) ?_ ?_
      · obtain ⟨_, _, _, _, h, _⟩ := h
        exact SqL.of h
      · rintro j v σ' G2 hj ⟨w6, rs2, rfl, s2', hS2, hR2, hr2⟩
        obtain ⟨two, etwo, htwo⟩ := (hR.take i).get hj
        simp -dsimp [tSeq, tAsg, tRet, tIfS, tIf, tTest, tVar, tCons, tNil, tC, tOp, tUn, rI, rI0, rU, tCB, tLst_A, tTup_A, gName, L2.start, CMul, CPow, CDiv, tDrop, tBM, tBM0, tNext, tPar, gSub, rSetL, rIxL, rIxT, tChain, tB, tNot, tNotV, tAnd, tOr, tAndV, tOrV, tFld, tCall, rIxLH, rIxTH, atI, ixN, upd_same, cxK, ex2, ex3, ex3b, rIs1, rIs2, rNe2, tyN, kb1, kb2, kb3, kb4, kb5, kb6, rEq, rNe, scal, tMake_S, tMakeK_S, tMakeN_S]
        have hkl : KeepL H G2 := .of s2'
        refine ⟨.inl ⟨rfl, _, SqL.of hR2⟩, y, v, k, o, one, two, B, rfl, hone.keepL hkl, htwo.keepL hkl, hk, ho, hB, hb one (List.mem_of_getElem? eone), hb two (List.mem_of_mem_take (List.mem_of_getElem? etwo)), fun m ms H4 nm s4 hm hms => ?_⟩
        have hR4 := s4 _ _ hR2
        have lm := meetF_len one two k o
        rw [← hms.1] at lm
        have l2 := hr2.1
        rw [List.length_append] at l2
        have l3 := flat_len ((rows.take i).take j) (fun two => meetF one two k o) 1 (fun two => meetF_len one two k o)
        have l3 : (metF one k o ((rows.take i).take j)).length ≤ 1 * ((rows.take i).take j).length := l3
        rw [List.length_take, List.length_take] at l3
        have l4 := hR.1
        refine ⟨R, m, rs2, ms, rfl, rfl, hR4, hm, ?_, fun b o e => ?_, ?_, _, upd_same, ?_⟩
        · have : (700 : Nat) ≤ sizeLine := by decide
          omega
        · rw [upd_ne (ne_of_none e nRH)]
          exact s4 _ _ (s2' _ _ e)
        · rw [upd_ne nSR.symm]
          exact s4 _ _ hS2
        · have up : ∀ {v : V} {b : Fr}, Tp v b H4 → Tp v b (upd H4 R (HO.lst (rs2 ++ ms))) := fun {v b} h => Tp.mono b R rs2 v _ _ hR4 .upd h
          rw [metF_take etwo, ← List.append_assoc]
          exact (hr2.mono fun v b h => up (Tp.mono.same hR2 s4 h)).append (hms.mono fun v b h => up h)
      · rintro σ' G2 ⟨w6, rs2, rfl, s2', hS2, hR2, hr2⟩
        have e1 : (rows.take i).take (xs.take i).length = rows.take i := List.take_of_length_le (by rw [List.length_take, List.length_take, hR.1]; exact Nat.le_refl _)
        rw [e1] at hr2
        exact ⟨⟨_, _, _, _, rfl⟩, s2', rs2, hR2, hr2⟩
    · rintro σ' G ⟨w4, w5, w6, w7, rs, rfl, sG, hRs, hrs⟩
      rw [hR.1] at hrs
      simp -dsimp [tSeq, tAsg, tRet, tIfS, tIf, tTest, tVar, tCons, tNil, tC, tOp, tUn, rI, rI0, rU, tCB, tLst_A, tTup_A, gName, L2.start, CMul, CPow, CDiv, tDrop, tBM, tBM0, tNext, tPar, gSub, rSetL, rIxL, rIxT, tChain, tB, tNot, tNotV, tAnd, tOr, tAndV, tOrV, tFld, tCall, rIxLH, rIxTH, atI, ixN, upd_same, cxK, ex2, ex3, ex3b, rIs1, rIs2, rNe2, tyN, kb1, kb2, kb3, kb4, kb5, kb6, rEq, rNe, scal, tMake_S, tMakeK_S, tMakeN_S]
      exact q R rs G sG hRs hrs

/-- three ints -/
def It (v : V) (a : I3) (H : Hp) : Prop := ∃ r, v = .ref r ∧ H r = some (.tup [.int a.1, .int a.2.1, .int a.2.2])
def spDet (K : PySem.W.Frag) : Sp := fun vs H Q _ => ∃ (u v w' : V) (a b c : I3) (B : Nat), vs = [u, v, w'] ∧ It u a H ∧ It v b H ∧ It w' c H ∧ B ≤ 100 ∧ Ib B a ∧ Ib B b ∧ Ib B c ∧ Q (.int (detF a b c)) H
theorem scDet : FnScope ["_law_a", "_law_b", "_law_c", "_law_found"] ["_law_a", "_law_b", "_law_c"] d_det.scope := ⟨rfl, rfl, rfl, by decide +kernel, rfl, by decide +kernel, by decide +kernel⟩
theorem ok_det (W : Wd K mg) : ∃ fd, FnOk P w K mg base CX0 1 (He.ga K "_law_det") fd ["_law_a", "_law_b", "_law_c"] (spDet K) ∧ Binds K fd ["_law_a", "_law_b", "_law_c"] [] := by
  obtain ⟨fd, F⟩ := W.F_det
  refine ⟨fd, F.ok scDet (fun vs H Q E h => ?_) (fun cdv A outer s H vs Q E hr h => ?_), FunD.bindsN F fun _ _ _ _ _ _ us hl => match us, hl with | [_, _, _], _ => rfl⟩
  · obtain ⟨u, v, w2, _, _, _, _, rfl, _⟩ := h
    rfl
  · obtain ⟨u, v, w2, a, b, c, B, rfl, ⟨ra, rfl, ha⟩, ⟨rb, rfl, hb⟩, ⟨rc, rfl, hc⟩, hB, ia, ib, ic, q⟩ := h

    refine ⟨_, PSs.nox (pss_cons (ps_set (i := 3) scDet.nd rfl (Or.inl rfl) (pe_op op_mulX9 (pe_ix ix_tupH (pv 0) pe_int (fun _ _ => rfl)) (pe_op op_sub (pe_op op_mulX9 (pe_ix ix_tupH (pv 1) pe_int (fun _ _ => rfl)) (pe_ix ix_tupH (pv 2) pe_int (fun _ _ => rfl))) (pe_op op_mulX9 (pe_ix ix_tupH (pv 1) pe_int (fun _ _ => rfl)) (pe_ix ix_tupH (pv 2) pe_int (fun _ _ => rfl))))))
    (pss_cons (ps_set (i := 3) scDet.nd rfl (Or.inl rfl) (pe_op op_sub (pv 3) (pe_op op_mulX9 (pe_ix ix_tupH (pv 0) pe_int (fun _ _ => rfl)) (pe_op op_sub (pe_op op_mulX9 (pe_ix ix_tupH (pv 1) pe_int (fun _ _ => rfl)) (pe_ix ix_tupH (pv 2) pe_int (fun _ _ => rfl))) (pe_op op_mulX9 (pe_ix ix_tupH (pv 1) pe_int (fun _ _ => rfl)) (pe_ix ix_tupH (pv 2) pe_int (fun _ _ => rfl)))))))
    (pss_one (ps_ret (pe_op op_add (pv 3) (pe_op op_mulX9 (pe_ix ix_tupH (pv 0) pe_int (fun _ _ => rfl)) (pe_op op_sub (pe_op op_mulX9 (pe_ix ix_tupH (pv 1) pe_int (fun _ _ => rfl)) (pe_ix ix_tupH (pv 2) pe_int (fun _ _ => rfl))) (pe_op op_mulX9 (pe_ix ix_tupH (pv 1) pe_int (fun _ _ => rfl)) (pe_ix ix_tupH (pv 2) pe_int (fun _ _ => rfl)))))))))), ?_⟩
    simp -dsimp [tSeq, tAsg, tRet, tIfS, tIf, tTest, tVar, tCons, tNil, tC, tOp, tUn, rI, rI0, rU, tCB, tLst_A, tTup_A, gName, L2.start, CMul, CPow, CDiv, tDrop, tBM, tBM0, tNext, tPar, gSub, rSetL, rIxL, rIxT, tChain, tB, tNot, tNotV, tAnd, tOr, tAndV, tOrV, tFld, tCall, rIxLH, rIxTH, atI, ixN, upd_same, cxK, ex2, ex3, ex3b, rIs1, rIs2, rNe2, tyN, kb1, kb2, kb3, kb4, kb5, kb6, rEq, rNe, scal, tMake_S, tMakeK_S, tMakeN_S, ha, hb, hc]
    have m1 : ∀ {x : Int}, x.natAbs < 10 ^ B → x.natAbs < bigM := fun h => m100 h (by omega)
    have m2 : ∀ {x y z t : Int}, x.natAbs < 10 ^ B → y.natAbs < 10 ^ B → z.natAbs < 10 ^ B → t.natAbs < 10 ^ B → (x * y - z * t).natAbs < bigM := fun h1 h2 h3 h4 => m100 (sub10 (mul10 h1 h2) (mul10 h3 h4)) (by omega)
    refine ⟨⟨m1 ib.h1, m1 ic.h2⟩, ⟨m1 ib.h2, m1 ic.h1⟩, ⟨m1 ia.h0, m2 ib.h1 ic.h2 ib.h2 ic.h1⟩, ⟨m1 ib.h0, m1 ic.h2⟩, ⟨m1 ib.h2, m1 ic.h0⟩, ⟨m1 ia.h1, m2 ib.h0 ic.h2 ib.h2 ic.h0⟩, ⟨m1 ib.h0, m1 ic.h1⟩, ⟨m1 ib.h1, m1 ic.h0⟩, ⟨m1 ia.h2, m2 ib.h0 ic.h1 ib.h1 ic.h0⟩, q⟩

theorem It.mono {f : I3} : Mono (fun v H => It v f H) := fun D xs v H H' hD s ⟨r, e, h⟩ => ⟨r, e, KeepL.sameN hD s _ _ h (fun ys c => by cases c)⟩
theorem It.same {v : V} {f : I3} {H H' : Hp} (h : It v f H) (s : Same H H') : It v f H' := by
  obtain ⟨r, e, h⟩ := h
  exact ⟨r, e, s _ _ h⟩
theorem Ri.same {v : V} {r : RI} {H H' : Hp} (h : Ri v r H) (s : Same H H') : Ri v r H' := h.keepL (.of s)
/-- three of each of three rows -/
theorem lc_three {te : TE} {F : RI → I3} {σ : List (Option V)} {H : Hp} {Q : V → Hp → Prop} {u v w' : V} {a b c : RI} {tp : Addr} (ht : H tp = some (.tup [u, v, w'])) (ha : Ri u a H) (hb : Ri v b H) (hc : Ri w' c H)
    (hw : ∀ x : V, wipe ((wipe σ [10]).set 10 (some x)) [10] = wipe σ [10])
    (he : ∀ (x : V) (r : RI) (H' : Hp) (R : V → Hp → Prop), Ri x r H' → (∀ y H4, Same H' H4 → It y (F r) H4 → R y H4) → te ((wipe σ [10]).set 10 (some x)) H' R)
    (hq : ∀ (D : Addr) (x y z : V) (H' : Hp), Same H H' → H' D = some (.lst [x, y, z]) → It x (F a) H' → It y (F b) H' → It z (F c) H' → Q (.ref D) H') : tLc (iTup K (tC (.ref tp))) (gName 10) tYes te [10] σ H Q := by
  refine lc_tup (K := K) tp [u, v, w'] (fun j v H => ∃ r, [a, b, c][j]? = some r ∧ It v (F r) H) (by show 3 < 1000; decide) (fun j D xs v H H' hD s ⟨r, e, h⟩ => ⟨r, e, It.mono D xs v H H' hD s h⟩) hw ht (fun R h => h) (fun j x H' R hj s k => ?_) (fun D H' vs s hl hD hs => ?_)
  · match j, hj with
    | 0, hj => cases hj; exact he _ a _ _ (ha.same s) fun y H4 s4 i => k y H4 s4 ⟨a, rfl, i⟩
    | 1, hj => cases hj; exact he _ b _ _ (hb.same s) fun y H4 s4 i => k y H4 s4 ⟨b, rfl, i⟩
    | 2, hj => cases hj; exact he _ c _ _ (hc.same s) fun y H4 s4 i => k y H4 s4 ⟨c, rfl, i⟩
  · match vs, hl with
    | [x, y, z], _ =>
      obtain ⟨_, e0, i0⟩ := hs 0 x rfl
      obtain ⟨_, e1, i1⟩ := hs 1 y rfl
      obtain ⟨_, e2, i2⟩ := hs 2 z rfl
      cases e0; cases e1; cases e2
      exact hq D x y z H' s hD i0 i1 i2
def spTrip (K : PySem.W.Frag) : Sp := fun vs H Q _ => ∃ (u v w' : V) (a b c : RI) (B : Nat), vs = [u, v, w'] ∧ Ri u a H ∧ Ri v b H ∧ Ri w' c H ∧ B ≤ 100 ∧ Rb B a ∧ Rb B b ∧ Rb B c ∧
  ∀ (q : Addr) (ys : List V) H', H q = none → Same H H' → H' q = some (.lst ys) → Rp Tp H' ys (tripF a b c) → Q (.ref q) H'
theorem scTriple : FnScope ["_law_one", "_law_two", "_law_three", "_law_a", "_law_b", "_law_c", "_law_d", "_law_e", "_law_f", "_law_high", "_law_row_here"] ["_law_one", "_law_two", "_law_three"] d_triple.scope := ⟨rfl, rfl, rfl, by decide +kernel, rfl, by decide +kernel, by decide +kernel⟩
theorem ok_triple (W : Wd K mg) : ∃ fd, FnOk P w K mg base CX0 2 (He.ga K "_law_triple") fd ["_law_one", "_law_two", "_law_three"] (spTrip K) ∧ Binds K fd ["_law_one", "_law_two", "_law_three"] [] := by
  obtain ⟨fd_det, G_det, b_det⟩ := ok_det (P := P) (w := w) (base := base) W
  have k_det : PySem.W.keepIn K (.ref (He.ga K "_law_det")) = true := by obtain ⟨fd, F⟩ := W.F_det; exact F.kp
  obtain ⟨fd_root, G_root, b_root⟩ := ok_root (P := P) (w := w) (base := base) W
  have k_root : PySem.W.keepIn K (.ref (He.ga K "_law_root")) = true := by obtain ⟨fd, F⟩ := W.F_root; exact F.kp
  obtain ⟨fd, F⟩ := W.F_triple
  refine ⟨fd, F.ok scTriple (fun vs H Q E h => ?_) (fun cdv A outer s H vs Q E hr h => ?_), FunD.bindsN F fun _ _ _ _ _ _ us hl => match us, hl with | [_, _, _], _ => rfl⟩
  · obtain ⟨u, v, w2, _, _, _, _, rfl, _⟩ := h
    rfl
  · obtain ⟨u, v, w2, a, b, c, B, rfl, ⟨pa, qa, rfl, ha, ga⟩, ⟨pb, qb, rfl, hb, gb⟩, ⟨pc, qc, rfl, hc, gc⟩, hB, ia, ib, ic, q⟩ := h
    have r1 : Room 1 _ := hr.mono (by decide)
    refine ⟨_, PSs.nox (pss_cons (ps_asg (pe_lc (own := [("_law_row_here", 10)]) (g := gName 10) (tt := tYes) rfl scTriple.nd (pi_tup (pe_tup (pa_cons (pv 0) (pa_cons (pv 1) (pa_cons (pv 2) pa_nil))))) (blkOk_by (N := ["_law_one", "_law_two", "_law_three", "_law_a", "_law_b", "_law_c", "_law_d", "_law_e", "_law_f", "_law_high", "_law_row_here"]) (sc := defScope s_triple) (by decide +kernel))
            (fun _ _ _ _ _ => (pg_name (i := 10) scTriple.nd rfl (Or.inl rfl))) (fun _ _ _ _ _ => pts_nil)
            (fun _ _ _ _ _ => (pe_tup (pa_cons (pe_ix ix_tupH (pe_ix ix_tupH (pv 10) pe_int (fun _ _ => rfl)) pe_int (fun _ _ => rfl)) (pa_cons (pe_ix ix_tupH (pe_ix ix_tupH (pv 10) pe_int (fun _ _ => rfl)) pe_int (fun _ _ => rfl)) (pa_cons (pe_ix ix_tupH (pv 10) pe_int (fun _ _ => rfl)) pa_nil)))))) (pg_lst rfl (pgs_cons (pg_name (i := 3) scTriple.nd rfl (Or.inl rfl)) (pgs_cons (pg_name (i := 4) scTriple.nd rfl (Or.inl rfl)) (pgs_cons (pg_name (i := 5) scTriple.nd rfl (Or.inl rfl)) pgs_nil)))))
    (pss_cons (ps_asg (pe_lc (own := [("_law_row_here", 10)]) (g := gName 10) (tt := tYes) rfl scTriple.nd (pi_tup (pe_tup (pa_cons (pv 0) (pa_cons (pv 1) (pa_cons (pv 2) pa_nil))))) (blkOk_by (N := ["_law_one", "_law_two", "_law_three", "_law_a", "_law_b", "_law_c", "_law_d", "_law_e", "_law_f", "_law_high", "_law_row_here"]) (sc := defScope s_triple) (by decide +kernel))
            (fun _ _ _ _ _ => (pg_name (i := 10) scTriple.nd rfl (Or.inl rfl))) (fun _ _ _ _ _ => pts_nil)
            (fun _ _ _ _ _ => (pe_tup (pa_cons (pe_ix ix_tupH (pe_ix ix_tupH (pv 10) pe_int (fun _ _ => rfl)) pe_int (fun _ _ => rfl)) (pa_cons (pe_ix ix_tupH (pe_ix ix_tupH (pv 10) pe_int (fun _ _ => rfl)) pe_int (fun _ _ => rfl)) (pa_cons (pe_ix ix_tupH (pe_ix ix_tupH (pv 10) pe_int (fun _ _ => rfl)) pe_int (fun _ _ => rfl)) pa_nil)))))) (pg_lst rfl (pgs_cons (pg_name (i := 6) scTriple.nd rfl (Or.inl rfl)) (pgs_cons (pg_name (i := 7) scTriple.nd rfl (Or.inl rfl)) (pgs_cons (pg_name (i := 8) scTriple.nd rfl (Or.inl rfl)) pgs_nil)))))
    (pss_cons (ps_set (i := 9) scTriple.nd rfl (Or.inl rfl) (pe_call G_det r1 rfl W.g_law_det k_det b_det .nil pass0 (pa_cons (pv 6) (pa_cons (pv 7) (pa_cons (pv 8) pa_nil)))))
    (pss_one (ps_ret (pe_ifExp (pt_cmpR op_ne (pv 9) pe_int (nomark _)) (pe_lst (pa_cons (pe_call G_root r1 rfl W.g_law_root k_root b_root .nil pass0 (pa_cons (pe_call G_det r1 rfl W.g_law_det k_det b_det .nil pass0 (pa_cons (pv 3) (pa_cons (pv 4) (pa_cons (pv 5) pa_nil)))) (pa_cons (pv 9) pa_nil))) pa_nil)) (pe_lst pa_nil))))))), ?_⟩
    simp -dsimp [tSeq, tAsg, tRet, tIfS, tIf, tTest, tVar, tCons, tNil, tC, tOp, tUn, rI, rI0, rU, tCB, tLst_A, tTup_A, gName, L2.start, CMul, CPow, CDiv, tDrop, tBM, tBM0, tNext, tPar, gSub, rSetL, rIxL, rIxT, tChain, tB, tNot, tNotV, tAnd, tOr, tAndV, tOrV, tFld, tCall, rIxLH, rIxTH, atI, ixN, upd_same, cxK, ex2, ex3, ex3b, rIs1, rIs2, rNe2, tyN, kb1, kb2, kb3, kb4, kb5, kb6, rEq, rNe, scal, tMake_S, tMakeK_S, tMakeN_S]
    rw [show ∀ {gg te σ H Q}, tLc (iTup K (tTup (tCons (tVar 0) (tCons (tVar 1) (tCons (tVar 2) tNil))))) gg tYes te [10] σ H Q = tTup (tCons (tVar 0) (tCons (tVar 1) (tCons (tVar 2) tNil))) σ H fun x H1 => tLc (iTup K (tC x)) gg tYes te [10] σ H1 Q from rfl]
    simp -dsimp [tSeq, tAsg, tRet, tIfS, tIf, tTest, tVar, tCons, tNil, tC, tOp, tUn, rI, rI0, rU, tCB, tLst_A, tTup_A, gName, L2.start, CMul, CPow, CDiv, tDrop, tBM, tBM0, tNext, tPar, gSub, rSetL, rIxL, rIxT, tChain, tB, tNot, tNotV, tAnd, tOr, tAndV, tOrV, tFld, tCall, rIxLH, rIxTH, atI, ixN, upd_same, cxK, ex2, ex3, ex3b, rIs1, rIs2, rNe2, tyN, kb1, kb2, kb3, kb4, kb5, kb6, rEq, rNe, scal, tMake_S, tMakeK_S, tMakeN_S]
    refine ⟨by decide, Alloc.of fun tp H1 n1 e1 s1 => ?_⟩
    have ga' : Ri (.ref pa) a H := ⟨pa, qa, rfl, ha, ga⟩
    have gb' : Ri (.ref pb) b H := ⟨pb, qb, rfl, hb, gb⟩
    have gc' : Ri (.ref pc) c H := ⟨pc, qc, rfl, hc, gc⟩
    refine lc_three (F := nF) e1 (ga'.same s1) (gb'.same s1) (gc'.same s1) (fun x => rfl) (fun x r H' R hr k => ?_) (fun D x1 x2 x3 H2 s2 hD i1 i2 i3 => ?_)
    · obtain ⟨p, q2, rfl, hp, hq2⟩ := hr
      show tTup _ [some (V.ref pa), some (V.ref pb), some (V.ref pc), none, none, none, none, none, none, none, some (V.ref p)] _ _
      simp -dsimp [tSeq, tAsg, tRet, tIfS, tIf, tTest, tVar, tCons, tNil, tC, tOp, tUn, rI, rI0, rU, tCB, tLst_A, tTup_A, gName, L2.start, CMul, CPow, CDiv, tDrop, tBM, tBM0, tNext, tPar, gSub, rSetL, rIxL, rIxT, tChain, tB, tNot, tNotV, tAnd, tOr, tAndV, tOrV, tFld, tCall, rIxLH, rIxTH, atI, ixN, upd_same, cxK, ex2, ex3, ex3b, rIs1, rIs2, rNe2, tyN, kb1, kb2, kb3, kb4, kb5, kb6, rEq, rNe, scal, tMake_S, tMakeK_S, tMakeN_S, hp, hq2]
      exact ⟨by decide, Alloc.of fun y H4 n4 e4 s4 => k _ _ s4 ⟨y, rfl, e4⟩⟩
    have s12 := s1.trans s2
    refine ⟨D, _, rfl, SqL.of hD, rfl, ?_⟩
    refine ⟨x1, [x2, x3], rfl, x2, [x3], rfl, x3, [], rfl, rfl, ?_⟩
    show tSeq _ _ _ [some (V.ref pa), some (V.ref pb), some (V.ref pc), some x1, some x2, some x3, none, none, none, none, none] _
    simp -dsimp [tSeq, tAsg, tRet, tIfS, tIf, tTest, tVar, tCons, tNil, tC, tOp, tUn, rI, rI0, rU, tCB, tLst_A, tTup_A, gName, L2.start, CMul, CPow, CDiv, tDrop, tBM, tBM0, tNext, tPar, gSub, rSetL, rIxL, rIxT, tChain, tB, tNot, tNotV, tAnd, tOr, tAndV, tOrV, tFld, tCall, rIxLH, rIxTH, atI, ixN, upd_same, cxK, ex2, ex3, ex3b, rIs1, rIs2, rNe2, tyN, kb1, kb2, kb3, kb4, kb5, kb6, rEq, rNe, scal, tMake_S, tMakeK_S, tMakeN_S]
    rw [show ∀ {gg te σ H Q}, tLc (iTup K (tTup (tCons (tVar 0) (tCons (tVar 1) (tCons (tVar 2) tNil))))) gg tYes te [10] σ H Q = tTup (tCons (tVar 0) (tCons (tVar 1) (tCons (tVar 2) tNil))) σ H fun x H1 => tLc (iTup K (tC x)) gg tYes te [10] σ H1 Q from rfl]
    simp -dsimp [tSeq, tAsg, tRet, tIfS, tIf, tTest, tVar, tCons, tNil, tC, tOp, tUn, rI, rI0, rU, tCB, tLst_A, tTup_A, gName, L2.start, CMul, CPow, CDiv, tDrop, tBM, tBM0, tNext, tPar, gSub, rSetL, rIxL, rIxT, tChain, tB, tNot, tNotV, tAnd, tOr, tAndV, tOrV, tFld, tCall, rIxLH, rIxTH, atI, ixN, upd_same, cxK, ex2, ex3, ex3b, rIs1, rIs2, rNe2, tyN, kb1, kb2, kb3, kb4, kb5, kb6, rEq, rNe, scal, tMake_S, tMakeK_S, tMakeN_S]
    refine ⟨by decide, Alloc.of fun tp2 H3 n3 e3 s3 => ?_⟩
    refine lc_three (F := xF) e3 (ga'.same (s12.trans s3)) (gb'.same (s12.trans s3)) (gc'.same (s12.trans s3)) (fun x => rfl) (fun x r H' R hr k => ?_) (fun D2 y1 y2 y3 H4 s4 hD2 j1 j2 j3 => ?_)
    · obtain ⟨p, q2, rfl, hp, hq2⟩ := hr
      show tTup _ [some (V.ref pa), some (V.ref pb), some (V.ref pc), some x1, some x2, some x3, none, none, none, none, some (V.ref p)] _ _
      simp -dsimp [tSeq, tAsg, tRet, tIfS, tIf, tTest, tVar, tCons, tNil, tC, tOp, tUn, rI, rI0, rU, tCB, tLst_A, tTup_A, gName, L2.start, CMul, CPow, CDiv, tDrop, tBM, tBM0, tNext, tPar, gSub, rSetL, rIxL, rIxT, tChain, tB, tNot, tNotV, tAnd, tOr, tAndV, tOrV, tFld, tCall, rIxLH, rIxTH, atI, ixN, upd_same, cxK, ex2, ex3, ex3b, rIs1, rIs2, rNe2, tyN, kb1, kb2, kb3, kb4, kb5, kb6, rEq, rNe, scal, tMake_S, tMakeK_S, tMakeN_S, hp, hq2]
      exact ⟨by decide, Alloc.of fun y H4 n4 e4 s4 => k _ _ s4 ⟨y, rfl, e4⟩⟩
    refine ⟨D2, _, rfl, SqL.of hD2, rfl, ?_⟩
    refine ⟨y1, [y2, y3], rfl, y2, [y3], rfl, y3, [], rfl, rfl, ?_⟩
    show tSeq _ _ _ [some (V.ref pa), some (V.ref pb), some (V.ref pc), some x1, some x2, some x3, some y1, some y2, some y3, none, none] _
    have s34 := s3.trans s4
    have s14 := s12.trans s34
    simp -dsimp [tSeq, tAsg, tRet, tIfS, tIf, tTest, tVar, tCons, tNil, tC, tOp, tUn, rI, rI0, rU, tCB, tLst_A, tTup_A, gName, L2.start, CMul, CPow, CDiv, tDrop, tBM, tBM0, tNext, tPar, gSub, rSetL, rIxL, rIxT, tChain, tB, tNot, tNotV, tAnd, tOr, tAndV, tOrV, tFld, tCall, rIxLH, rIxTH, atI, ixN, upd_same, cxK, ex2, ex3, ex3b, rIs1, rIs2, rNe2, tyN, kb1, kb2, kb3, kb4, kb5, kb6, rEq, rNe, scal, tMake_S, tMakeK_S, tMakeN_S]
    refine ⟨y1, y2, y3, xF a, xF b, xF c, B, rfl, j1, j2, j3, hB, ia.xF, ib.xF, ic.xF, rfl, ?_⟩
    by_cases h0 : detF (xF a) (xF b) (xF c) = 0
    · refine .inl ⟨by rw [h0], Alloc.of fun R H5 n5 e5 s5 => q R _ _ (none_same s14 n5) (s14.trans s5) e5 ?_⟩
      unfold tripF
      rw [if_neg (fun h => h h0)]
      exact Rp.nil
    refine .inr ⟨fun e => h0 (by injection e), x1, x2, x3, nF a, nF b, nF c, B, rfl, i1.same s34, i2.same s34, i3.same s34, hB, ia.nF, ib.nF, ic.nF, _, _, rfl, fun r H5 s5 hr => ⟨by decide, Alloc.of fun R H6 n6 e6 s6 => ?_⟩⟩
    refine q R _ _ (none_same (s14.trans s5) n6) ((s14.trans s5).trans s6) e6 ?_
    unfold tripF
    rw [if_pos h0]
    exact Rp.cons ⟨r, rfl, s6 _ _ hr⟩ Rp.nil

end
section
variable {P : Program} {w : World} {K : PySem.W.Frag} {mg : Str → Option Value} {base : Heap} {fd : FuncData}
/-- what one row, and earlier ones with the first j, have in room -/
def trisF (one two : RI) (l : List RI) : List Fr := l.flatMap fun three => tripF one two three
theorem trisF_take {one two three : RI} {l : List RI} {j : Nat} (h : l[j]? = some three) : trisF one two (l.take (j + 1)) = trisF one two (l.take j) ++ tripF one two three := by
  unfold trisF
  rw [List.take_add_one, h]
  show (l.take j ++ [three]).flatMap _ = _
  rw [List.flatMap_append, List.flatMap_cons, List.flatMap_nil, List.append_nil]
def spRoom (K : PySem.W.Frag) : Sp := fun vs H Q _ => ∃ (p : Addr) (xs : List V) (rows : List RI) (B : Nat), vs = [.ref p] ∧ H p = some (.lst xs) ∧ Rp Ri H xs rows ∧ xs.length ≤ 8 ∧ B ≤ 100 ∧ (∀ r ∈ rows, Rb B r) ∧
  ∀ (q : Addr) (ys : List V) H', Same H H' → H' q = some (.lst ys) → Rp Tp H' ys (roomF rows) → Q (.ref q) H'
theorem scRoom : FnScope ["_law_rows", "_law_found", "_law_k", "_law_one", "_law_m", "_law_two", "_law_three", "_law_row_here"] ["_law_rows"] d_room.scope := ⟨rfl, rfl, rfl, by decide +kernel, rfl, by decide +kernel, by decide +kernel⟩
theorem ok_room (W : Wd K mg) : ∃ fd, FnOk P w K mg base CX0 3 (He.ga K "_law_room") fd ["_law_rows"] (spRoom K) ∧ Binds K fd ["_law_rows"] [] := by
  obtain ⟨fd_line, G_line, b_line⟩ := ok_line (P := P) (w := w) (base := base) W
  have k_line : PySem.W.keepIn K (.ref (He.ga K "_law_line")) = true := by obtain ⟨fd, F⟩ := W.F_line; exact F.kp
  obtain ⟨fd_meet, G_meet, b_meet⟩ := ok_meet (P := P) (w := w) (base := base) W
  have k_meet : PySem.W.keepIn K (.ref (He.ga K "_law_meet")) = true := by obtain ⟨fd, F⟩ := W.F_meet; exact F.kp
  obtain ⟨fd_triple, G_triple, b_triple⟩ := ok_triple (P := P) (w := w) (base := base) W
  have k_triple : PySem.W.keepIn K (.ref (He.ga K "_law_triple")) = true := by obtain ⟨fd, F⟩ := W.F_triple; exact F.kp
  obtain ⟨fd, F⟩ := W.F_room
  refine ⟨fd, F.ok scRoom (fun vs H Q E h => ?_) (fun cdv A outer s H vs Q E hr h => ?_), FunD.bindsN F fun _ _ _ _ _ _ us hl => match us, hl with | [_], _ => rfl⟩
  · obtain ⟨p, _, _, _, rfl, _⟩ := h
    rfl
  · obtain ⟨p, xs, rows, B, rfl, hp, hR, hl, hB, hb, q⟩ := h
    have r1 : Room 1 _ := hr.mono (by decide)
    have r2 : Room 2 _ := hr.mono (by decide)
    refine ⟨_, PSs.nox (pss_cons (ps_set (i := 1) scRoom.nd rfl (Or.inl rfl) (pe_call G_line r2 rfl W.g_law_line k_line b_line .nil pass0 (pa_cons (pe_lc (own := [("_law_row_here", 7)]) (g := gName 7) (tt := _) rfl scRoom.nd (pi_list (pv 0)) (blkOk_by (N := ["_law_rows", "_law_found", "_law_k", "_law_one", "_law_m", "_law_two", "_law_three", "_law_row_here"]) (sc := defScope s_room) (by decide +kernel))
            (fun _ _ _ _ _ => (pg_name (i := 7) scRoom.nd rfl (Or.inl rfl))) (fun _ _ _ _ _ => (pts_one (PW.pt (pw_and (pt_cmpR op_eq (pe_ix ix_tupH (pe_ix ix_tupH (pv 7) pe_int (fun _ _ => rfl)) pe_int (fun _ _ => rfl)) pe_int (nomark _)) (pw_and1 (pt_cmpR op_eq (pe_ix ix_tupH (pe_ix ix_tupH (pv 7) pe_int (fun _ _ => rfl)) pe_int (fun _ _ => rfl)) pe_int (nomark _)))))))
            (fun _ _ _ _ _ => (pv 7))) (pa_cons pe_int pa_nil))))
    (pss_cons (ps_for PassesOwn.never rfl (pi_enum rfl W.f_enumerate (pa_cons (pv 0) pa_nil)) (pg_tup rfl (pgs_cons (pg_name (i := 2) scRoom.nd rfl (Or.inl rfl)) (pgs_cons (pg_name (i := 3) scRoom.nd rfl (Or.inl rfl)) pgs_nil))) (pss_one (ps_for PassesOwn.never rfl (pi_enum rfl W.f_enumerate (pa_cons (pe_slice sl_list (pv 0) po_none (po_some (pv 2))) pa_nil)) (pg_tup rfl (pgs_cons (pg_name (i := 4) scRoom.nd rfl (Or.inl rfl)) (pgs_cons (pg_name (i := 5) scRoom.nd rfl (Or.inl rfl)) pgs_nil))) (C8.pss_cut (ps_if (pt_cmpR op_eq (pe_op op_mulX9 (pe_ix ix_tupH (pe_ix ix_tupH (pv 3) pe_int (fun _ _ => rfl)) pe_int (fun _ _ => rfl)) (pe_ix ix_tupH (pe_ix ix_tupH (pv 5) pe_int (fun _ _ => rfl)) pe_int (fun _ _ => rfl))) (pe_op op_mulX9 (pe_ix ix_tupH (pe_ix ix_tupH (pv 3) pe_int (fun _ _ => rfl)) pe_int (fun _ _ => rfl)) (pe_ix ix_tupH (pe_ix ix_tupH (pv 5) pe_int (fun _ _ => rfl)) pe_int (fun _ _ => rfl))) (nomark _)) (pss_one (ps_expr (pe_bm PySem.F.plainAttrs_list PySem.F.slot_list_extend PySem.F.type_list_extend mt_extend (pv 1) (pa_cons (pe_op op_cat (pe_call G_meet r2 rfl W.g_law_meet k_meet b_meet .nil pass0 (pa_cons (pv 3) (pa_cons (pv 5) (pa_cons pe_int (pa_cons pe_int pa_nil))))) (pe_call G_meet r2 rfl W.g_law_meet k_meet b_meet .nil pass0 (pa_cons (pv 3) (pa_cons (pv 5) (pa_cons pe_int (pa_cons pe_int pa_nil)))))) pa_nil)))) pss_nil)
    (pss_one (ps_for PassesOwn.never rfl (pi_list (pe_slice sl_list (pv 0) po_none (po_some (pv 4)))) (pg_name (i := 6) scRoom.nd rfl (Or.inl rfl)) (pss_one (ps_expr (pe_bm PySem.F.plainAttrs_list PySem.F.slot_list_extend PySem.F.type_list_extend mt_extend (pv 1) (pa_cons (pe_call G_triple r2 rfl W.g_law_triple k_triple b_triple .nil pass0 (pa_cons (pv 3) (pa_cons (pv 5) (pa_cons (pv 6) pa_nil)))) pa_nil))))))))))
    (pss_one (ps_ret (pv 1))))), ?_⟩
    simp -dsimp [tSeq, tAsg, tRet, tIfS, tIf, tTest, tVar, tCons, tNil, tC, tOp, tUn, rI, rI0, rU, tCB, tLst_A, tTup_A, gName, L2.start, CMul, CPow, CDiv, tDrop, tBM, tBM0, tNext, tPar, gSub, rSetL, rIxL, rIxT, tChain, tB, tNot, tNotV, tAnd, tOr, tAndV, tOrV, tFld, tCall, rIxLH, rIxTH, atI, ixN, upd_same, cxK, ex2, ex3, ex3b, rIs1, rIs2, rNe2, tyN, kb1, kb2, kb3, kb4, kb5, kb6, rEq, rNe, scal, tMake_S, tMakeK_S, tMakeN_S, tFor_iL, tFor_iE]
    refine lc_all (K := K) p xs rows (fun r => decide (tk r 1 = 0) && decide (tk r 2 = 0)) id Ri Ri.mono (by omega) hR.1 hp (fun R h => ⟨_, rfl, h⟩) (fun j x r hj hr => ?_) (fun D H1 vs nD s1 hD hvs => ?_)
    · obtain ⟨pr', qr, rfl, hpr, hqr⟩ := hR.2 j x r hj hr
      refine ⟨[some (.ref p), none, none, none, none, none, none, some (.ref pr')], rfl, fun H' Kc s h => h, fun H' Qb s h => ?_, fun _ H' R' s h => ⟨_, rfl, h _ _ (Same.refl _) ⟨pr', qr, rfl, s _ _ hpr, s _ _ hqr⟩⟩⟩
      have h1 := s _ _ hpr
      have h2 := s _ _ hqr
      have h3 := h _ (Same.refl _)
      simp -dsimp [tSeq, tAsg, tRet, tIfS, tIf, tTest, tVar, tCons, tNil, tC, tOp, tUn, rI, rI0, rU, tCB, tLst_A, tTup_A, gName, L2.start, CMul, CPow, CDiv, tDrop, tBM, tBM0, tNext, tPar, gSub, rSetL, rIxL, rIxT, tChain, tB, tNot, tNotV, tAnd, tOr, tAndV, tOrV, tFld, tCall, rIxLH, rIxTH, atI, ixN, upd_same, cxK, ex2, ex3, ex3b, rIs1, rIs2, rNe2, tyN, kb1, kb2, kb3, kb4, kb5, kb6, rEq, rNe, scal, tMake_S, tMakeK_S, tMakeN_S, h1, h2]
      split
      · rename_i e0
        rw [show tk r 1 = r.2.2.1 from rfl, decide_eq_true e0, Bool.true_and] at h3
        exact h3
      · rename_i e0
        rw [show tk r 1 = r.2.2.1 from rfl, decide_eq_false e0, Bool.false_and] at h3
        exact h3
    rw [List.map_id] at hvs
    have hvl : vs.length ≤ 8 := by
      have := hvs.1
      have := List.length_filter_le (fun r => decide (tk r 1 = 0) && decide (tk r 2 = 0)) rows
      have := hR.1
      omega
    refine ⟨D, 0, vs, _, rfl, hD, hvs, by decide, by omega, fun R ys H2 nR s2 hR2 hys => ⟨⟨xs, SqL.of ((s1.trans s2) _ _ hp)⟩, ?_⟩⟩
    have s12 := s1.trans s2
    have nRH : H R = none := none_same s1 nR
    unfold ForE
    refine for_it (walk_enum (K := K) (a := p) (xs := xs)) (fun i σ' G => ∃ (w2 w3 w4 w5 w6 w7 : Option V) (rs : List V), σ' = [some (.ref p), some (.ref R), w2, w3, w4, w5, w6, w7] ∧ Same H G ∧ G R = some (.lst rs) ∧ Rp Tp G rs (lineF (rows.filter fun r => decide (tk r 1 = 0) && decide (tk r 2 = 0)) 0 ++ room0F rows i)) ⟨_, _, _, _, _, _, ys, rfl, s12, hR2, by rw [show room0F rows 0 = [] from rfl, List.append_nil]; exact hys⟩ (fun i σ' G _ h => ?_) ?_ ?_
    · obtain ⟨_, _, _, _, _, _, _, _, s, _⟩ := h
      exact SqL.of (s _ _ hp)
    · rintro i x σ' G G' hi ⟨w2, w3, w4, w5, w6, w7, rs, rfl, sG, hRs, hrs⟩ ⟨T, u, y, rfl, nT, rfl, eu, ey⟩
      cases eu
      have sT : Same G (upd G T (HO.tup [V.int (i : Nat), y])) := same_upd nT
      obtain ⟨one, eone, hone⟩ := hR.get ey
      refine tup2n upd_same ?_
      simp -dsimp [tSeq, tAsg, tRet, tIfS, tIf, tTest, tVar, tCons, tNil, tC, tOp, tUn, rI, rI0, rU, tCB, tLst_A, tTup_A, gName, L2.start, CMul, CPow, CDiv, tDrop, tBM, tBM0, tNext, tPar, gSub, rSetL, rIxL, rIxT, tChain, tB, tNot, tNotV, tAnd, tOr, tAndV, tOrV, tFld, tCall, rIxLH, rIxTH, atI, ixN, upd_same, cxK, ex2, ex3, ex3b, rIs1, rIs2, rNe2, tyN, kb1, kb2, kb3, kb4, kb5, kb6, rEq, rNe, scal, tMake_S, tMakeK_S, tMakeN_S, tFor_iE, tSl, tPart, tNoPart, rSlL]
      refine ⟨xs, SqL.of (sT _ _ (sG _ _ hp)), fun S nS => ⟨⟨_, SqL.of upd_same⟩, ?_⟩⟩
      rw [cut_take]
      have sS := sT.trans (same_upd nS (o := HO.lst (xs.take i)))
      have hRS := sS _ _ hRs
      have nSR : R ≠ S := ne_of_none (sT _ _ hRs) nS
      have il : i < 8 := by
        have := (List.getElem?_eq_some_iff.mp ey).1
        omega
      have tl : (rows.take i).length = i := by
        rw [List.length_take]
        have := (List.getElem?_eq_some_iff.mp ey).1
        have := hR.1
        omega
      have e0 : lineF (rows.filter fun r => decide (tk r 1 = 0) && decide (tk r 2 = 0)) 0 ++ room0F rows (i + 1) = (lineF (rows.filter fun r => decide (tk r 1 = 0) && decide (tk r 2 = 0)) 0 ++ room0F rows i) ++ cornsF (rows.take i) one (rows.take i).length := by
        rw [List.append_assoc]
        congr 1
        show room0F rows i ++ (match rows[i]? with | none => [] | some one => cornsF (rows.take i) one (rows.take i).length) = _
        rw [eone]
      rw [e0]
      have lb : (lineF (rows.filter fun r => decide (tk r 1 = 0) && decide (tk r 2 = 0)) 0 ++ room0F rows i).length ≤ 8 + 512 := by
        rw [List.length_append]
        have h1 := lineF_len (rows.filter fun r => decide (tk r 1 = 0) && decide (tk r 2 = 0)) 0
        have h2 := List.length_filter_le (fun r => decide (tk r 1 = 0) && decide (tk r 2 = 0)) rows
        have h3 := room0F_len rows i
        have h4 := hR.1
        have h5 : i * (i * (i + 1)) ≤ 8 * (8 * 8) := Nat.mul_le_mul (by omega) (Nat.mul_le_mul (by omega) (by omega))
        omega
      have hrS := hrs.mono fun v b h => Tp.mono.same hRs sS h
      have hSR := hR.mono fun v b h => h.same (sG.trans sS)
      have hSR := hSR.take i
      have hone := hone.same (sG.trans sS)
      have sHS := sG.trans sS
      have b1 := hb one (List.mem_of_getElem? eone)
      generalize lineF (rows.filter fun r => decide (tk r 1 = 0) && decide (tk r 2 = 0)) 0 ++ room0F rows i = base at lb hrS
      generalize hGS : upd (upd G T (HO.tup [V.int (i : Nat), y])) S (HO.lst (xs.take i)) = GS at *
      have hSS : GS S = some (.lst (xs.take i)) := by rw [← hGS]; exact upd_same
      unfold ForE
      refine for_it (walk_enum (K := K) (a := S) (xs := xs.take i)) (fun j σ' G2 => ∃ (w4 w5 w6 w7 : Option V) (rs : List V), σ' = [some (.ref p), some (.ref R), some (.int (i : Nat)), some y, w4, w5, w6, w7] ∧ KeepL GS G2 ∧ Same H G2 ∧ G2 S = some (.lst (xs.take i)) ∧ G2 R = some (.lst rs) ∧ Rp Tp G2 rs (base ++ cornsF (rows.take i) one j)) ⟨_, _, _, _, rs, rfl, .of (Same.refl _), sHS, hSS, hRS, by rw [show cornsF (rows.take i) one 0 = [] from rfl, List.append_nil]; exact hrS⟩ (fun j σ' G2 _ h => ?_) ?_ ?_
      · obtain ⟨_, _, _, _, _, _, _, _, h, _⟩ := h
        exact SqL.of h
      · rintro j x σ' G2 G3 hj ⟨w4, w5, w6, w7, rs2, rfl, k2, s2', hS2, hR2, hr2⟩ ⟨T2, u2, y2, rfl, nT2, rfl, eu2, ey2⟩
        cases eu2
        obtain ⟨two, etwo, htwo⟩ := hSR.get ey2
        have b2 := hb two (List.mem_of_mem_take (List.mem_of_getElem? etwo))
        have sT2 : Same G2 (upd G2 T2 (HO.tup [V.int (j : Nat), y2])) := same_upd nT2
        refine tup2n upd_same ?_
        have kT := k2.trans (.of sT2)
        have hone2 := hone.keepL kT
        have htwo2 := htwo.keepL kT
        have hRT := sT2 _ _ hR2
        have hST := sT2 _ _ hS2
        have hrT := hr2.mono fun v b h => Tp.mono.same hR2 sT2 h
        have sHT := s2'.trans sT2
        generalize upd G2 T2 (HO.tup [V.int (j : Nat), y2]) = GT at *
        obtain ⟨p1, q1, rfl, h1, g1⟩ := hone2
        obtain ⟨p2, q2, rfl, h2, g2⟩ := htwo2
        have tB1 : ∀ j, (tk one j).natAbs < bigM := fun j => m100 (b1.t j) (by omega)
        have tB2 : ∀ j, (tk two j).natAbs < bigM := fun j => m100 (b2.t j) (by omega)
        have jl : j < i := by
          have := (List.getElem?_eq_some_iff.mp ey2).1
          rw [List.length_take] at this
          omega
        have lb2 : (base ++ cornsF (rows.take i) one j).length ≤ 520 + 72 := by
          rw [List.length_append]
          have h1 := cornsF_len (rows.take i) one j
          have h5 : j * (j + 1) ≤ 8 * 9 := Nat.mul_le_mul (by omega) (by omega)
          omega
        have e1 : base ++ cornsF (rows.take i) one (j + 1) = (base ++ cornsF (rows.take i) one j) ++ (if parF one two then meetF one two 0 1 ++ meetF one two 0 2 else []) ++ trisF one two (rows.take j) := by
          show base ++ (cornsF (rows.take i) one j ++ cornF (rows.take i) one j) = _
          rw [← List.append_assoc, List.append_assoc (base ++ cornsF (rows.take i) one j)]
          congr 1
          unfold cornF trisF
          rw [etwo]
          show _ ++ ((rows.take i).take j).flatMap _ = _
          rw [List.take_take, Nat.min_eq_left (Nat.le_of_lt jl)]
        rw [e1]
        generalize base ++ cornsF (rows.take i) one j = bs2 at lb2 hrT
        refine ⟨fun σ2 G4 => σ2 = [some (.ref p), some (.ref R), some (.int (i : Nat)), some (.ref p1), some (.int (j : Nat)), some (.ref p2), w6, w7] ∧ KeepL GT G4 ∧ Same H G4 ∧ G4 S = some (.lst (xs.take i)) ∧ ∃ rs3, G4 R = some (.lst rs3) ∧ Rp Tp G4 rs3 (bs2 ++ (if parF one two then meetF one two 0 1 ++ meetF one two 0 2 else [])), ?_, ?_⟩
        · simp -dsimp [tSeq, tAsg, tRet, tIfS, tIf, tTest, tVar, tCons, tNil, tC, tOp, tUn, rI, rI0, rU, tCB, tLst_A, tTup_A, gName, L2.start, CMul, CPow, CDiv, tDrop, tBM, tBM0, tNext, tPar, gSub, rSetL, rIxL, rIxT, tChain, tB, tNot, tNotV, tAnd, tOr, tAndV, tOrV, tFld, tCall, rIxLH, rIxTH, atI, ixN, upd_same, cxK, ex2, ex3, ex3b, rIs1, rIs2, rNe2, tyN, kb1, kb2, kb3, kb4, kb5, kb6, rEq, rNe, scal, tMake_S, tMakeK_S, tMakeN_S, h1, g1, h2, g2]
          refine ⟨⟨tB1 1, tB2 2⟩, ⟨tB1 2, tB2 1⟩, ?_⟩
          have o1 : Ri (.ref p1) one GT := ⟨p1, q1, rfl, h1, g1⟩
          have o2 : Ri (.ref p2) two GT := ⟨p2, q2, rfl, h2, g2⟩
          split
          · rename_i e
            have hp' : parF one two = true := decide_eq_true e
            rw [if_pos hp']
            refine ⟨.inl ⟨rfl, _, SqL.of hRT⟩, .ref p1, .ref p2, 0, 1, one, two, B, rfl, o1, o2, by decide, by decide, by omega, b1, b2, fun m1 ms1 H5 n5 s5 hm1 hr5 => ?_⟩
            refine ⟨.ref p1, .ref p2, 0, 2, one, two, B, rfl, o1.same s5, o2.same s5, by decide, by decide, by omega, b1, b2, fun m2 ms2 H6 n6 s6 hm2 hr6 => ?_⟩
            have l1 := meetF_len one two 0 1
            have l2 := meetF_len one two 0 2
            rw [← hr5.1] at l1
            rw [← hr6.1] at l2
            refine ⟨m1, m2, ms1, ms2, rfl, rfl, s6 _ _ hm1, hm2, ?_, fun m3 n7 => ?_⟩
            · have : (700 : Nat) ≤ sizeLine := by decide
              omega
            have s7 := same_upd n7 (o := HO.lst (ms1 ++ ms2))
            have s57 := (s5.trans s6).trans s7
            have hR7 := s57 _ _ hRT
            have hm3 : upd H6 m3 (HO.lst (ms1 ++ ms2)) m3 = some (.lst (ms1 ++ ms2)) := upd_same
            have hms : Rp Tp (upd H6 m3 (HO.lst (ms1 ++ ms2))) (ms1 ++ ms2) (meetF one two 0 1 ++ meetF one two 0 2) := (hr5.mono fun v b h => Tp.mono.same hm1 (s6.trans s7) h).append (hr6.mono fun v b h => Tp.mono.same hm2 s7 h)
            have hrT7 := hrT.mono fun v b h => Tp.mono.same hRT s57 h
            have sH7 := sHT.trans s57
            have hS7 := s57 _ _ hST
            have k7 : KeepL GT (upd H6 m3 (HO.lst (ms1 ++ ms2))) := .of s57
            generalize upd H6 m3 (HO.lst (ms1 ++ ms2)) = H7 at *
            have l3 := hrT7.1
            refine ⟨R, m3, rs2, ms1 ++ ms2, rfl, rfl, hR7, hm3, ?_, k7.trans (KeepL.sameN hR7 .upd), fun b o e => ?_, ?_, _, upd_same, ?_⟩
            · have : (700 : Nat) ≤ sizeLine := by decide
              rw [List.length_append]
              omega
            · rw [upd_ne (ne_of_none e nRH)]
              exact sH7 _ _ e
            · rw [upd_ne nSR.symm]
              exact hS7
            · exact (hrT7.mono fun v b h => Tp.mono b R rs2 v _ _ hR7 .upd h).append (hms.mono fun v b h => Tp.mono b R rs2 v _ _ hR7 .upd h)
          · rename_i e
            have hp' : ¬ parF one two = true := fun h => e (of_decide_eq_true h)
            rw [if_neg hp', List.append_nil]
            exact ⟨.of (Same.refl _), sHT, hST, rs2, hRT, hrT⟩
        · rintro σ2 G4 ⟨rfl, k4, s4, hS4, rs3, hR4, hr4⟩
          simp -dsimp [tSeq, tAsg, tRet, tIfS, tIf, tTest, tVar, tCons, tNil, tC, tOp, tUn, rI, rI0, rU, tCB, tLst_A, tTup_A, gName, L2.start, CMul, CPow, CDiv, tDrop, tBM, tBM0, tNext, tPar, gSub, rSetL, rIxL, rIxT, tChain, tB, tNot, tNotV, tAnd, tOr, tAndV, tOrV, tFld, tCall, rIxLH, rIxTH, atI, ixN, upd_same, cxK, ex2, ex3, ex3b, rIs1, rIs2, rNe2, tyN, kb1, kb2, kb3, kb4, kb5, kb6, rEq, rNe, scal, tMake_S, tMakeK_S, tMakeN_S, tFor_iL, tSl, tPart, tNoPart, rSlL]
          refine ⟨xs, SqL.of (s4 _ _ hp), fun S2 nS2 => ⟨⟨_, SqL.of upd_same⟩, ?_⟩⟩
          rw [cut_take]
          have s5 := same_upd nS2 (o := HO.lst (xs.take j))
          have hR5 := s5 _ _ hR4
          have nS2R : R ≠ S2 := ne_of_none hR4 nS2
          have lb3 : (bs2 ++ (if parF one two then meetF one two 0 1 ++ meetF one two 0 2 else [])).length ≤ 592 + 2 := by
            rw [List.length_append]
            have h4 : (if parF one two then meetF one two 0 1 ++ meetF one two 0 2 else []).length ≤ 2 := by
              split
              · rw [List.length_append]
                have := meetF_len one two 0 1
                have := meetF_len one two 0 2
                omega
              · exact Nat.zero_le _
            omega
          rw [← List.append_assoc]
          have hr5 := hr4.mono fun v b h => Tp.mono.same hR4 s5 h
          have sH5 := s4.trans s5
          have hSS5 := s5 _ _ hS4
          have k5 := kT.trans (k4.trans (.of s5))
          have hRj := (hR.take j).mono fun v b h => Ri.same h sH5
          have o1 : Ri (.ref p1) one (upd G4 S2 (HO.lst (xs.take j))) := Ri.keepL ⟨p1, q1, rfl, h1, g1⟩ (k4.trans (.of s5))
          have o2 : Ri (.ref p2) two (upd G4 S2 (HO.lst (xs.take j))) := Ri.keepL ⟨p2, q2, rfl, h2, g2⟩ (k4.trans (.of s5))
          generalize bs2 ++ (if parF one two then meetF one two 0 1 ++ meetF one two 0 2 else []) = bs3 at lb3 hr5
          have hSS2 : (upd G4 S2 (HO.lst (xs.take j))) S2 = some (.lst (xs.take j)) := upd_same
          generalize upd G4 S2 (HO.lst (xs.take j)) = G5 at *
          unfold ForW
          refine for_list (K := K) (a := S2) (xs := xs.take j) (fun l σ' G6 => ∃ (w6 : Option V) (rs : List V), σ' = [some (.ref p), some (.ref R), some (.int (i : Nat)), some (.ref p1), some (.int (j : Nat)), some (.ref p2), w6, w7] ∧ KeepL G5 G6 ∧ Same H G6 ∧ G6 S = some (.lst (xs.take i)) ∧ G6 S2 = some (.lst (xs.take j)) ∧ G6 R = some (.lst rs) ∧ Rp Tp G6 rs (bs3 ++ trisF one two ((rows.take j).take l))) ⟨_, rs3, rfl, .of (Same.refl _), sH5, hSS5, hSS2, hR5, by rw [List.take_zero, show trisF one two [] = [] from rfl, List.append_nil]; exact hr5⟩ (fun l σ' G6 _ h => ?_) ?_ ?_
          · obtain ⟨_, _, _, _, _, _, h, _⟩ := h
            exact SqL.of h
          · rintro l v σ' G6 hl6 ⟨w6, rs6, rfl, k6, s6, hS6, hS26, hR6, hr6⟩
            obtain ⟨three, ethree, hthree⟩ := hRj.get hl6
            have b3 := hb three (List.mem_of_mem_take (List.mem_of_getElem? ethree))
            have ll : l < 8 := by
              have := (List.getElem?_eq_some_iff.mp hl6).1
              rw [List.length_take] at this
              omega
            simp -dsimp [tSeq, tAsg, tRet, tIfS, tIf, tTest, tVar, tCons, tNil, tC, tOp, tUn, rI, rI0, rU, tCB, tLst_A, tTup_A, gName, L2.start, CMul, CPow, CDiv, tDrop, tBM, tBM0, tNext, tPar, gSub, rSetL, rIxL, rIxT, tChain, tB, tNot, tNotV, tAnd, tOr, tAndV, tOrV, tFld, tCall, rIxLH, rIxTH, atI, ixN, upd_same, cxK, ex2, ex3, ex3b, rIs1, rIs2, rNe2, tyN, kb1, kb2, kb3, kb4, kb5, kb6, rEq, rNe, scal, tMake_S, tMakeK_S, tMakeN_S]
            refine ⟨.inl ⟨rfl, _, SqL.of hR6⟩, .ref p1, .ref p2, v, one, two, three, B, rfl, o1.keepL k6, o2.keepL k6, hthree.keepL k6, hB, b1, b2, b3, fun m ms H7 nm s7 hm hms => ?_⟩
            have hR7 := s7 _ _ hR6
            have lm := tripF_len one two three
            rw [← hms.1] at lm
            have l2 := hr6.1
            rw [List.length_append] at l2
            have l3 := flat_len ((rows.take j).take l) (fun three => tripF one two three) 1 (fun three => tripF_len one two three)
            have l3 : (trisF one two ((rows.take j).take l)).length ≤ 1 * ((rows.take j).take l).length := l3
            rw [List.length_take, List.length_take] at l3
            refine ⟨R, m, rs6, ms, rfl, rfl, hR7, hm, ?_, (k6.trans (.of s7)).trans (KeepL.sameN hR7 .upd), fun b o e => ?_, ?_, ?_, _, upd_same, ?_⟩
            · have : (700 : Nat) ≤ sizeLine := by decide
              omega
            · rw [upd_ne (ne_of_none e nRH)]
              exact s7 _ _ (s6 _ _ e)
            · rw [upd_ne nSR.symm]
              exact s7 _ _ hS6
            · rw [upd_ne nS2R.symm]
              exact s7 _ _ hS26
            · have up : ∀ {v : V} {b : Fr}, Tp v b H7 → Tp v b (upd H7 R (HO.lst (rs6 ++ ms))) := fun {v b} h => Tp.mono b R rs6 v _ _ hR7 .upd h
              rw [trisF_take ethree, ← List.append_assoc]
              exact (hr6.mono fun v b h => up (Tp.mono.same hR6 s7 h)).append (hms.mono fun v b h => up h)
          · rintro σ' G6 ⟨w6, rs6, rfl, k6, s6, hS6, hS26, hR6, hr6⟩
            have e2 : (rows.take j).take (xs.take j).length = rows.take j := List.take_of_length_le (by rw [List.length_take, List.length_take, hR.1]; exact Nat.le_refl _)
            rw [e2] at hr6
            exact ⟨⟨_, _, _, _, rfl⟩, k5.trans k6, s6, hS6, rs6, hR6, hr6⟩
      · rintro σ' G2 ⟨w4, w5, w6, w7, rs2, rfl, k2, s2', hS2, hR2, hr2⟩
        have e1 : (xs.take i).length = (rows.take i).length := by rw [List.length_take, List.length_take, hR.1]
        rw [e1] at hr2
        exact ⟨⟨_, _, _, _, _, _, rfl⟩, s2', rs2, hR2, hr2⟩
    · rintro σ' G ⟨w2, w3, w4, w5, w6, w7, rs, rfl, sG, hRs, hrs⟩
      rw [hR.1] at hrs
      simp -dsimp [tSeq, tAsg, tRet, tIfS, tIf, tTest, tVar, tCons, tNil, tC, tOp, tUn, rI, rI0, rU, tCB, tLst_A, tTup_A, gName, L2.start, CMul, CPow, CDiv, tDrop, tBM, tBM0, tNext, tPar, gSub, rSetL, rIxL, rIxT, tChain, tB, tNot, tNotV, tAnd, tOr, tAndV, tOrV, tFld, tCall, rIxLH, rIxTH, atI, ixN, upd_same, cxK, ex2, ex3, ex3b, rIs1, rIs2, rNe2, tyN, kb1, kb2, kb3, kb4, kb5, kb6, rEq, rNe, scal, tMake_S, tMakeK_S, tMakeN_S]
      exact q R rs G sG hRs hrs

end
/-! ### points on all faces -/
abbrev Pn := Fr × Fr × Fr
def xsF (rows : List RI) (n : Nat) : List Fr := worthsF (if n = 1 then lineF rows 0 else if n = 2 then planeF rows 0 1 else roomF rows)
def ysF (rows : List RI) (n : Nat) : List Fr := worthsF (if n = 2 then lineF rows 1 else planeF rows 1 2)
def zsF (rows : List RI) (y : Fr) : List Fr := worthsF (lineF (rows.map (fixF 1 y)) 2)
def ptF (rows : List RI) (n : Nat) (x y : Fr) : List Pn := if n = 2 then [(x, y, (0, 1))] else (zsF rows y).map fun z => (x, y, z)
def pxF (rows : List RI) (n : Nat) (x : Fr) : List Pn := if n = 1 then [(x, (0, 1), (0, 1))] else (ysF (rows.map (fixF 0 x)) n).flatMap fun y => ptF (rows.map (fixF 0 x)) n x y
def facesF (rows : List RI) (n : Nat) : List Pn := (xsF rows n).flatMap fun x => pxF rows n x
/-- rows of which the faces are told -/
structure Fc (rows : List RI) (n B : Nat) : Prop where
  n0 : 0 < n
  n3 : n ≤ 3
  l : rows.length ≤ 8
  l3 : n = 3 → rows.length ≤ 6
  B0 : 0 < B
  B1 : B ≤ 10
  b : ∀ r ∈ rows, Rb B r
theorem map_rb {B C k : Nat} {f : Fr} {rows : List RI} (h : ∀ r ∈ rows, Rb B r) (hf : Ff C f) : ∀ r ∈ rows.map (fixF k f), Rb (B + C + 1) r := by
  intro r hr
  obtain ⟨s, hs, rfl⟩ := List.mem_map.mp hr
  exact fixF_rb (h s hs) hf
theorem Fc.xs0 {rows : List RI} {n B : Nat} (h : Fc rows n B) : (∀ f ∈ (if n = 1 then lineF rows 0 else if n = 2 then planeF rows 0 1 else roomF rows), Ff 33 f) ∧ (if n = 1 then lineF rows 0 else if n = 2 then planeF rows 0 1 else roomF rows).length ≤ 300 := by
  have hl := h.l
  have hB := h.B1
  split
  · exact ⟨fun f hf => (lineF_ff h.b f hf).mono (by omega), by have := lineF_len rows 0; omega⟩
  split
  · refine ⟨fun f hf => (planeF_ff h.b f hf).mono (by omega), ?_⟩
    have h1 := planeF_len rows 0 1
    have h2 : rows.length * rows.length ≤ 8 * 8 := Nat.mul_le_mul hl hl
    omega
  · refine ⟨fun f hf => (roomF_ff h.b f hf).mono (by omega), ?_⟩
    have h1 := roomF_len rows
    have l3 := h.l3 (by have := h.n0; have := h.n3; omega)
    have h2 : rows.length * (rows.length * (rows.length + 1)) ≤ 6 * (6 * 7) := Nat.mul_le_mul l3 (Nat.mul_le_mul l3 (by omega))
    omega
theorem Fc.xs {rows : List RI} {n B : Nat} (h : Fc rows n B) : ∀ f ∈ xsF rows n, Ff 34 f := worthsF_all (by decide) h.xs0.1
theorem Fc.xsl {rows : List RI} {n B : Nat} (h : Fc rows n B) : (xsF rows n).length ≤ 601 ∧ 0 < (xsF rows n).length := by
  have h1 := worthsF_len (if n = 1 then lineF rows 0 else if n = 2 then planeF rows 0 1 else roomF rows)
  have h2 := h.xs0.2
  unfold xsF
  omega
/-- the rows of a plane -/
theorem Fc.fix {rows : List RI} {n B : Nat} (h : Fc rows n B) {x : Fr} (hx : Ff 34 x) : ∀ r ∈ rows.map (fixF 0 x), Rb 45 r := fun r hr => (map_rb h.b hx r hr).mono (by have := h.B1; omega)
theorem ys0 {rows : List RI} {n : Nat} (hl : rows.length ≤ 8) (hb : ∀ r ∈ rows, Rb 45 r) : (∀ f ∈ (if n = 2 then lineF rows 1 else planeF rows 1 2), Ff 91 f) ∧ (if n = 2 then lineF rows 1 else planeF rows 1 2).length ≤ 72 := by
  split
  · exact ⟨fun f hf => (lineF_ff hb f hf).mono (by omega), by have := lineF_len rows 1; omega⟩
  · refine ⟨fun f hf => (planeF_ff hb f hf).mono (by omega), ?_⟩
    have h1 := planeF_len rows 1 2
    have h2 : rows.length * rows.length ≤ 8 * 8 := Nat.mul_le_mul hl hl
    omega
theorem ysF_ff {rows : List RI} {n : Nat} (hl : rows.length ≤ 8) (hb : ∀ r ∈ rows, Rb 45 r) : ∀ f ∈ ysF rows n, Ff 92 f := worthsF_all (by decide) (ys0 hl hb).1
theorem ysF_len {rows : List RI} {n : Nat} (hl : rows.length ≤ 8) (hb : ∀ r ∈ rows, Rb 45 r) : (ysF rows n).length ≤ 145 ∧ 0 < (ysF rows n).length := by
  have h1 := worthsF_len (if n = 2 then lineF rows 1 else planeF rows 1 2)
  have h2 := (ys0 (n := n) hl hb).2
  unfold ysF
  omega
theorem fix2 {rows : List RI} (hb : ∀ r ∈ rows, Rb 45 r) {y : Fr} (hy : Ff 92 y) : ∀ r ∈ rows.map (fixF 1 y), Rb 138 r := map_rb hb hy
theorem zsF_ff {rows : List RI} (hb : ∀ r ∈ rows, Rb 45 r) {y : Fr} (hy : Ff 92 y) : ∀ f ∈ zsF rows y, Ff 139 f := worthsF_all (by decide) (lineF_ff (fix2 hb hy))
theorem zsF_len {rows : List RI} {y : Fr} (hl : rows.length ≤ 8) : (zsF rows y).length ≤ 17 ∧ 0 < (zsF rows y).length := by
  have h1 := worthsF_len (lineF (rows.map (fixF 1 y)) 2)
  have h2 := lineF_len (rows.map (fixF 1 y)) 2
  rw [List.length_map] at h2
  unfold zsF
  omega
theorem ptF_len {rows : List RI} {n : Nat} {x y : Fr} (hl : rows.length ≤ 8) : (ptF rows n x y).length ≤ 17 ∧ 0 < (ptF rows n x y).length := by
  unfold ptF
  split
  · exact ⟨by show 1 ≤ 17; decide, by show 0 < 1; decide⟩
  · rw [List.length_map]
    exact zsF_len hl
theorem flat_pos {α β : Type} {l : List α} {f : α → List β} (h : 0 < l.length) (k : ∀ a ∈ l, 0 < (f a).length) : 0 < (l.flatMap f).length := by
  match l, h with
  | a :: l, _ =>
    rw [List.flatMap_cons, List.length_append]
    have := k a (List.mem_cons_self ..)
    omega
theorem pxF_len {rows : List RI} {n B : Nat} (h : Fc rows n B) {x : Fr} (hx : Ff 34 x) : (pxF rows n x).length ≤ 17 * 145 ∧ 0 < (pxF rows n x).length := by
  unfold pxF
  split
  · exact ⟨by show 1 ≤ 17 * 145; decide, by show 0 < 1; decide⟩
  · have hl : (rows.map (fixF 0 x)).length ≤ 8 := by rw [List.length_map]; exact h.l
    have hy := ysF_len (n := n) hl (h.fix hx)
    have h1 := flat_len (ysF (rows.map (fixF 0 x)) n) (fun y => ptF (rows.map (fixF 0 x)) n x y) 17 (fun y => (ptF_len hl).1)
    exact ⟨by omega, flat_pos hy.2 fun y _ => (ptF_len hl).2⟩
theorem flat_lenM {α β : Type} (l : List α) (f : α → List β) (c : Nat) (h : ∀ a ∈ l, (f a).length ≤ c) : (l.flatMap f).length ≤ c * l.length := by
  induction l with
  | nil => exact Nat.zero_le _
  | cons a l ih =>
    rw [List.flatMap_cons, List.length_append, List.length_cons, Nat.mul_succ]
    have := h a (List.mem_cons_self ..)
    have := ih fun b hb => h b (List.mem_cons_of_mem _ hb)
    omega
theorem facesF_len {rows : List RI} {n B : Nat} (h : Fc rows n B) : (facesF rows n).length ≤ 1500000 ∧ 0 < (facesF rows n).length := by
  have hx := h.xsl
  have h1 := flat_lenM (xsF rows n) (fun x => pxF rows n x) (17 * 145) (fun x hx => (pxF_len h (h.xs x hx)).1)
  have h2 : 0 < (facesF rows n).length := flat_pos hx.2 fun x hx => (pxF_len h (h.xs x hx)).2
  refine ⟨?_, h2⟩
  unfold facesF
  omega
theorem facesF_all {rows : List RI} {n B : Nat} (h : Fc rows n B) : ∀ t ∈ facesF rows n, Ff 139 t.1 ∧ Ff 139 t.2.1 ∧ Ff 139 t.2.2 := by
  intro t ht
  have z : Ff 139 (0, 1) := Ff.zero (by decide)
  obtain ⟨x, hx, ht⟩ := List.mem_flatMap.mp ht
  have fx := h.xs x hx
  unfold pxF at ht
  split at ht
  · rw [List.mem_singleton.mp ht]
    exact ⟨fx.mono (by decide), z, z⟩
  · have hl : (rows.map (fixF 0 x)).length ≤ 8 := by rw [List.length_map]; exact h.l
    obtain ⟨y, hy, ht⟩ := List.mem_flatMap.mp ht
    have fy := ysF_ff hl (h.fix fx) y hy
    unfold ptF at ht
    split at ht
    · rw [List.mem_singleton.mp ht]
      exact ⟨fx.mono (by decide), fy.mono (by decide), z⟩
    · obtain ⟨v, hv, rfl⟩ := List.mem_map.mp ht
      exact ⟨fx.mono (by decide), fy.mono (by decide), zsF_ff (h.fix fx) fy v hv⟩
section
variable {P : Program} {w : World} {K : PySem.W.Frag} {mg : Str → Option Value} {base : Heap} {fd : FuncData}
/-- a point of three fractions -/
def Pr (v : V) (t : Pn) (H : Hp) : Prop := ∃ r a b c, v = .ref r ∧ H r = some (.tup [a, b, c]) ∧ Tp a t.1 H ∧ Tp b t.2.1 H ∧ Tp c t.2.2 H
theorem Pr.keepL {v : V} {t : Pn} {H H' : Hp} (h : Pr v t H) (k : KeepL H H') : Pr v t H' := by
  obtain ⟨r, a, b, c, e, h, ha, hb, hc⟩ := h
  exact ⟨r, a, b, c, e, k _ _ h (fun xs e => by cases e), ha.keepL k, hb.keepL k, hc.keepL k⟩
theorem Pr.mono : MonoR Pr := fun b D xs v H H' hD s h => h.keepL (KeepL.sameN hD s)
theorem Tp.same {v : V} {f : Fr} {H H' : Hp} (h : Tp v f H) (s : Same H H') : Tp v f H' := h.keepL (.of s)
theorem Pr.app {F t : Addr} {rs : List V} {bs : List Pn} {pt : Pn} {H : Hp} (hF : H F = some (.lst rs)) (h : Rp Pr H rs bs) (ht : Pr (.ref t) pt H) : Rp Pr (upd H F (.lst (rs ++ [.ref t]))) (rs ++ [.ref t]) (bs ++ [pt]) := (h.mono fun v b h => Pr.mono b F rs v _ _ hF .upd h).append (Rp.one (Pr.mono _ F rs _ _ _ hF .upd ht))
def spFaces (K : PySem.W.Frag) : Sp := fun vs H Q _ => ∃ (p : Addr) (n : Nat) (xs : List V) (rows : List RI) (B : Nat), vs = [.ref p, .int n] ∧ H p = some (.lst xs) ∧ Rp Ri H xs rows ∧ Fc rows n B ∧
  ∀ (q : Addr) (ys : List V) H', Same H H' → H' q = some (.lst ys) → Rp Pr H' ys (facesF rows n) → Q (.ref q) H'
theorem scFaces : FnScope ["_law_rows", "_law_many", "_law_found", "_law_nought", "_law_x", "_law_lines", "_law_y", "_law_z"] ["_law_rows", "_law_many"] d_faces.scope := ⟨rfl, rfl, rfl, by decide +kernel, rfl, by decide +kernel, by decide +kernel⟩
theorem ok_faces (W : Wd K mg) : ∃ fd, FnOk P w K mg base CX0 4 (He.ga K "_law_faces") fd ["_law_rows", "_law_many"] (spFaces K) ∧ Binds K fd ["_law_rows", "_law_many"] [] := by
  obtain ⟨fd_worths, G_worths, b_worths⟩ := ok_worths (P := P) (w := w) (base := base) W
  have k_worths : PySem.W.keepIn K (.ref (He.ga K "_law_worths")) = true := by obtain ⟨fd, F⟩ := W.F_worths; exact F.kp
  obtain ⟨fd_room, G_room, b_room⟩ := ok_room (P := P) (w := w) (base := base) W
  have k_room : PySem.W.keepIn K (.ref (He.ga K "_law_room")) = true := by obtain ⟨fd, F⟩ := W.F_room; exact F.kp
  obtain ⟨fd_plane, G_plane, b_plane⟩ := ok_plane (P := P) (w := w) (base := base) W
  have k_plane : PySem.W.keepIn K (.ref (He.ga K "_law_plane")) = true := by obtain ⟨fd, F⟩ := W.F_plane; exact F.kp
  obtain ⟨fd_line, G_line, b_line⟩ := ok_line (P := P) (w := w) (base := base) W
  have k_line : PySem.W.keepIn K (.ref (He.ga K "_law_line")) = true := by obtain ⟨fd, F⟩ := W.F_line; exact F.kp
  obtain ⟨fd_fixed, G_fixed, b_fixed⟩ := ok_fixed (P := P) (w := w) (base := base) W
  have k_fixed : PySem.W.keepIn K (.ref (He.ga K "_law_fixed")) = true := by obtain ⟨fd, F⟩ := W.F_fixed; exact F.kp
  obtain ⟨fd, F⟩ := W.F_faces
  refine ⟨fd, F.ok scFaces (fun vs H Q E h => ?_) (fun cdv A outer s H vs Q E hr h => ?_), FunD.bindsN F fun _ _ _ _ _ _ us hl => match us, hl with | [_, _], _ => rfl⟩
  · obtain ⟨p, n, _, _, _, rfl, _⟩ := h
    rfl
  · obtain ⟨p, n, xs, rows, B, rfl, hp, hR, hF, q⟩ := h
    have r1 : Room 1 _ := hr.mono (by decide)
    have r2 : Room 2 _ := hr.mono (by decide)
    have r3 : Room 3 _ := hr.mono (by decide)
    refine ⟨_, PSs.nox (pss_cons (ps_par (i := 2) (j := 3) rfl scFaces.nd rfl rfl (by decide) rfl rfl (pa_cons (pe_lst pa_nil) (pa_cons (pe_tup (pa_cons pe_int (pa_cons pe_int pa_nil))) pa_nil)) rfl)
    (pss_cons (ps_for PassesOwn.never rfl (pi_list (pe_call G_worths r2 rfl W.g_law_worths k_worths b_worths .nil pass0 (pa_cons (pe_ix ix_lstH (pe_lst (pa_cons (pe_call G_line r2 rfl W.g_law_line k_line b_line .nil pass0 (pa_cons (pv 0) (pa_cons pe_int pa_nil))) (pa_cons (pe_call G_plane r3 rfl W.g_law_plane k_plane b_plane .nil pass0 (pa_cons (pv 0) (pa_cons pe_int (pa_cons pe_int pa_nil)))) (pa_cons (pe_call G_room r3 rfl W.g_law_room k_room b_room .nil pass0 (pa_cons (pv 0) pa_nil)) pa_nil)))) (pe_op op_sub (pv 1) pe_int) (fun _ _ => rfl)) pa_nil))) (pg_name (i := 4) scFaces.nd rfl (Or.inl rfl)) (C8.pss_cut (ps_if (pt_cmpR op_eq (pv 1) pe_int (nomark _)) (pss_cons (ps_expr (pe_bm PySem.F.plainAttrs_list PySem.F.slot_list_append PySem.F.type_list_append mt_append (pv 2) (pa_cons (pe_tup (pa_cons (pv 4) (pa_cons (pv 3) (pa_cons (pv 3) pa_nil)))) pa_nil)))
    (pss_one ps_continue)) pss_nil)
    (pss_cons (ps_set (i := 5) scFaces.nd rfl (Or.inl rfl) (pe_call G_fixed r1 rfl W.g_law_fixed k_fixed b_fixed .nil pass0 (pa_cons (pv 0) (pa_cons pe_int (pa_cons (pv 4) pa_nil)))))
    (pss_one (ps_for PassesOwn.never rfl (pi_list (pe_call G_worths r2 rfl W.g_law_worths k_worths b_worths .nil pass0 (pa_cons (pe_ix ix_lstH (pe_lst (pa_cons (pe_call G_line r2 rfl W.g_law_line k_line b_line .nil pass0 (pa_cons (pv 5) (pa_cons pe_int pa_nil))) (pa_cons (pe_call G_plane r3 rfl W.g_law_plane k_plane b_plane .nil pass0 (pa_cons (pv 5) (pa_cons pe_int (pa_cons pe_int pa_nil)))) pa_nil))) (pe_op op_sub (pv 1) pe_int) (fun _ _ => rfl)) pa_nil))) (pg_name (i := 6) scFaces.nd rfl (Or.inl rfl)) (C8.pss_cut (ps_if (pt_cmpR op_eq (pv 1) pe_int (nomark _)) (pss_cons (ps_expr (pe_bm PySem.F.plainAttrs_list PySem.F.slot_list_append PySem.F.type_list_append mt_append (pv 2) (pa_cons (pe_tup (pa_cons (pv 4) (pa_cons (pv 6) (pa_cons (pv 3) pa_nil)))) pa_nil)))
    (pss_one ps_continue)) pss_nil)
    (pss_one (ps_for PassesOwn.never rfl (pi_list (pe_call G_worths r2 rfl W.g_law_worths k_worths b_worths .nil pass0 (pa_cons (pe_call G_line r2 rfl W.g_law_line k_line b_line .nil pass0 (pa_cons (pe_call G_fixed r1 rfl W.g_law_fixed k_fixed b_fixed .nil pass0 (pa_cons (pv 5) (pa_cons pe_int (pa_cons (pv 6) pa_nil)))) (pa_cons pe_int pa_nil))) pa_nil))) (pg_name (i := 7) scFaces.nd rfl (Or.inl rfl)) (pss_one (ps_expr (pe_bm PySem.F.plainAttrs_list PySem.F.slot_list_append PySem.F.type_list_append mt_append (pv 2) (pa_cons (pe_tup (pa_cons (pv 4) (pa_cons (pv 6) (pa_cons (pv 7) pa_nil)))) pa_nil))))))))))))
    (pss_one (ps_ret (pv 2))))), ?_⟩
    simp -dsimp [tSeq, tAsg, tRet, tIfS, tIf, tTest, tVar, tCons, tNil, tC, tOp, tUn, rI, rI0, rU, tCB, tLst_A, tTup_A, gName, L2.start, CMul, CPow, CDiv, tDrop, tBM, tBM0, tNext, tPar, gSub, rSetL, rIxL, rIxT, tChain, tB, tNot, tNotV, tAnd, tOr, tAndV, tOrV, tFld, tCall, rIxLH, rIxTH, atI, ixN, upd_same, cxK, ex2, ex3, ex3b, rIs1, rIs2, rNe2, tyN, kb1, kb2, kb3, kb4, kb5, kb6, rEq, rNe, scal, tMake_S, tMakeK_S, tMakeN_S, tFor_iL]
    have f0 := hF.n0
    have f3 := hF.n3
    have hB := hF.B1
    have hl : xs.length ≤ 8 := by have := hR.1; have := hF.l; omega
    refine Alloc.of fun F H1 n1 e1 s1 => ⟨le2, Alloc.of fun z0 H2 n2 e2 s2 => ?_⟩
    have s12 := s1.trans s2
    have hp2 := s12 _ _ hp
    have hR2 := hR.mono fun v b h => Ri.same h s12
    refine ⟨p, 0, xs, rows, rfl, hp2, hR2, by decide, by omega, fun q1 ys1 H3 m1 s3 hq1 hr1 => ?_⟩
    have hp3 := s3 _ _ hp2
    have hR3 := hR2.mono fun v b h => Ri.same h s3
    refine ⟨p, 0, 1, xs, rows, B, rfl, hp3, hR3, by decide, by decide, by omega, by omega, hF.b, fun q2 ys2 H4 s4 hq2 hr2 => ?_⟩
    have hp4 := s4 _ _ hp3
    have hR4 := hR3.mono fun v b h => Ri.same h s4
    refine ⟨p, xs, rows, B, rfl, hp4, hR4, hl, by omega, hF.b, fun q3 ys3 H5 s5 hq3 hr3 => ⟨by decide, Alloc.of fun L H6 n6 e6 s6 => ?_⟩⟩
    have e1' := s6 _ _ (s5 _ _ (s4 _ _ (s3 _ _ (s2 _ _ e1))))
    have s36 := ((s3.trans s4).trans s5).trans s6
    have sH6 := s12.trans s36
    have hp6 := sH6 _ _ hp
    have hR6 := hR.mono fun v b h => Ri.same h sH6
    have ez6 := s36 _ _ e2
    have pick : ∃ (q : Addr) (ys : List V), ((if 1 ≤ (n : Int) then if (n : Int) - 1 < (([V.ref q1, V.ref q2, V.ref q3] : List V).length : Nat) then some (n - 1) else none else if -(([V.ref q1, V.ref q2, V.ref q3] : List V).length : Int) ≤ (n : Int) - 1 then some ((n : Int) - 1 + (([V.ref q1, V.ref q2, V.ref q3] : List V).length : Nat)).toNat else none).bind fun j => ([V.ref q1, V.ref q2, V.ref q3] : List V)[j]?) = some (.ref q) ∧ H6 q = some (.lst ys) ∧ Rp Tp H6 ys (if n = 1 then lineF rows 0 else if n = 2 then planeF rows 0 1 else roomF rows) := by
      have up := fun {H : Hp} {q : Addr} {ys : List V} {fs : List Fr} (s : Same H H6) (h : Rp Tp H ys fs) => h.mono fun v b h => Tp.same h s
      match n, f0, f3 with
      | 1, _, _ => exact ⟨q1, ys1, rfl, ((s4.trans s5).trans s6) _ _ hq1, up (q := q1) ((s4.trans s5).trans s6) hr1⟩
      | 2, _, _ => exact ⟨q2, ys2, rfl, (s5.trans s6) _ _ hq2, up (q := q2) (s5.trans s6) hr2⟩
      | 3, _, _ => exact ⟨q3, ys3, rfl, s6 _ _ hq3, up (q := q3) s6 hr3⟩
    obtain ⟨q4, ys4, ix4, hq4, hr4⟩ := pick
    refine ⟨L, rfl, _, e6, _, ix4, q4, ys4, _, 33, rfl, hq4, hr4, by decide, by decide, by have := hr4.1; have := hF.xs0.2; omega, hF.xs0.1, fun W ws H7 nW s7 hW hw => ⟨W, rfl, ⟨_, SqL.of hW⟩, ?_⟩⟩
    have hF7 := s7 _ _ e1'
    have nFW : F ≠ W := ne_of_none e1' nW
    have sH7 := sH6.trans s7
    have ez7 := s7 _ _ ez6
    unfold ForW
    refine for_list (K := K) (a := W) (xs := ws) (fun i σ' G => ∃ (w4 w5 w6 w7 : Option V) (rs : List V), σ' = [some (.ref p), some (.int n), some (.ref F), some (.ref z0), w4, w5, w6, w7] ∧ KeepL H7 G ∧ Same H G ∧ G W = some (.lst ws) ∧ G F = some (.lst rs) ∧ Rp Pr G rs (((xsF rows n).take i).flatMap fun x => pxF rows n x)) ⟨_, _, _, _, [], rfl, .of (Same.refl _), sH7, hW, hF7, Rp.nil⟩ (fun i σ' G _ h => ?_) ?_ ?_
    · obtain ⟨_, _, _, _, _, _, _, _, h, _⟩ := h
      exact SqL.of h
    · rintro i v σ' G hi ⟨w4, w5, w6, w7, rs, rfl, kG, sG, hWG, hFG, hrG⟩
      obtain ⟨x, ex, hx⟩ := hw.get hi
      have ex : (xsF rows n)[i]? = some x := ex
      have hx := hx.keepL kG
      simp -dsimp [tSeq, tAsg, tRet, tIfS, tIf, tTest, tVar, tCons, tNil, tC, tOp, tUn, rI, rI0, rU, tCB, tLst_A, tTup_A, gName, L2.start, CMul, CPow, CDiv, tDrop, tBM, tBM0, tNext, tPar, gSub, rSetL, rIxL, rIxT, tChain, tB, tNot, tNotV, tAnd, tOr, tAndV, tOrV, tFld, tCall, rIxLH, rIxTH, atI, ixN, upd_same, cxK, ex2, ex3, ex3b, rIs1, rIs2, rNe2, tyN, kb1, kb2, kb3, kb4, kb5, kb6, rEq, rNe, scal, tMake_S, tMakeK_S, tMakeN_S, tFor_iL]
      have fx := hF.xs x (List.mem_of_getElem? ex)
      have e1 : ((xsF rows n).take (i + 1)).flatMap (fun x => pxF rows n x) = ((xsF rows n).take i).flatMap (fun x => pxF rows n x) ++ pxF rows n x := by
        rw [List.take_add_one, ex]
        show ((xsF rows n).take i ++ [x]).flatMap _ = _
        rw [List.flatMap_append, List.flatMap_cons, List.flatMap_nil, List.append_nil]
      rw [e1]
      have lb : (((xsF rows n).take i).flatMap fun x => pxF rows n x).length ≤ 1490000 := by
        have h1 := flat_lenM ((xsF rows n).take i) (fun x => pxF rows n x) (17 * 145) (fun x hx => (pxF_len hF (hF.xs x (List.mem_of_mem_take hx))).1)
        have h2 := hF.xsl
        rw [List.length_take] at h1
        omega
      have szL : (1500000 : Nat) ≤ sizeLine := by decide
      generalize ((xsF rows n).take i).flatMap (fun x => pxF rows n x) = bs at lb hrG
      have ezG : G z0 = some (.tup [.int 0, .int 1]) := kG _ _ ez7 (fun xs e => by cases e)
      have hz : Tp (.ref z0) (0, 1) G := ⟨z0, rfl, ezG⟩
      have nFH : H F = none := n1
      refine ⟨fun σ2 G2 => n ≠ 1 ∧ σ2 = [some (.ref p), some (.int n), some (.ref F), some (.ref z0), some v, w5, w6, w7] ∧ G2 = G, ?_, ?_⟩
      · simp -dsimp [tSeq, tAsg, tRet, tIfS, tIf, tTest, tVar, tCons, tNil, tC, tOp, tUn, rI, rI0, rU, tCB, tLst_A, tTup_A, gName, L2.start, CMul, CPow, CDiv, tDrop, tBM, tBM0, tNext, tPar, gSub, rSetL, rIxL, rIxT, tChain, tB, tNot, tNotV, tAnd, tOr, tAndV, tOrV, tFld, tCall, rIxLH, rIxTH, atI, ixN, upd_same, cxK, ex2, ex3, ex3b, rIs1, rIs2, rNe2, tyN, kb1, kb2, kb3, kb4, kb5, kb6, rEq, rNe, scal, tMake_S, tMakeK_S, tMakeN_S]
        split
        · rename_i e
          have e : n = 1 := by omega
          have ep : pxF rows n x = [(x, (0, 1), (0, 1))] := by
            unfold pxF
            rw [if_pos e]
          rw [ep]
          refine ⟨.inl ⟨rfl, _, SqL.of hFG⟩, by decide, Alloc.of fun t H8 n8 e8 s8 => ?_⟩
          have hF8 := s8 _ _ hFG
          have lr := hrG.1
          refine ⟨F, rs, _, rfl, rfl, hF8, by omega, ?_⟩
          show _ ∧ _
          exact ⟨⟨_, _, _, _, rfl⟩, (kG.trans (.of s8)).trans (KeepL.sameN hF8 .upd), fun b o e => by rw [upd_ne (ne_of_none e nFH)]; exact s8 _ _ (sG _ _ e), by rw [upd_ne nFW.symm]; exact s8 _ _ hWG, _, upd_same, Pr.app hF8 (hrG.mono fun v b h => Pr.mono.same hFG s8 h) ⟨t, v, .ref z0, .ref z0, rfl, e8, hx.same s8, hz.same s8, hz.same s8⟩⟩
        · rename_i e
          omega
      · rintro σ2 G2 ⟨hn1, rfl, rfl⟩
        simp -dsimp [tSeq, tAsg, tRet, tIfS, tIf, tTest, tVar, tCons, tNil, tC, tOp, tUn, rI, rI0, rU, tCB, tLst_A, tTup_A, gName, L2.start, CMul, CPow, CDiv, tDrop, tBM, tBM0, tNext, tPar, gSub, rSetL, rIxL, rIxT, tChain, tB, tNot, tNotV, tAnd, tOr, tAndV, tOrV, tFld, tCall, rIxLH, rIxTH, atI, ixN, upd_same, cxK, ex2, ex3, ex3b, rIs1, rIs2, rNe2, tyN, kb1, kb2, kb3, kb4, kb5, kb6, rEq, rNe, scal, tMake_S, tMakeK_S, tMakeN_S, tFor_iL]
        obtain ⟨rx, rfl, hrx⟩ := hx
        have hpG := sG _ _ hp
        have hRG := hR.mono fun v b h => Ri.same h sG
        refine ⟨p, rx, 0, xs, rows, x, B, 34, rfl, hpG, hRG, hrx, by decide, by omega, by omega, by decide, hF.b, fx, fun L1 ls H8 nL s8 hL hrl => ?_⟩
        have hb1 := hF.fix fx
        have lr1 : (rows.map (fixF 0 x)).length ≤ 8 := by rw [List.length_map]; exact hF.l
        have epx : pxF rows n x = (ysF (rows.map (fixF 0 x)) n).flatMap fun y => ptF (rows.map (fixF 0 x)) n x y := by
          unfold pxF
          rw [if_neg hn1]
        rw [epx]
        generalize rows.map (fixF 0 x) = rows1 at hrl hb1 lr1
        have ll : ls.length ≤ 8 := by rw [hrl.1]; exact lr1
        refine ⟨L1, 1, ls, rows1, rfl, hL, hrl, by decide, by omega, fun q5 ys5 H9 n9 s9 hq5 hr5 => ?_⟩
        refine ⟨L1, 1, 2, ls, rows1, 45, rfl, s9 _ _ hL, hrl.mono fun v b h => Ri.same h s9, by decide, by decide, by omega, by decide, hb1, fun q6 ys6 H10 s10 hq6 hr6 => ⟨le2, Alloc.of fun Lq H11 n11 e11 s11 => ?_⟩⟩
        have s911 := (s9.trans s10).trans s11
        have s811 := s8.trans s911
        have pick : ∃ (q : Addr) (ys : List V), ((if 2 ≤ (n : Int) then if (n : Int) - 2 < (([V.ref q5, V.ref q6] : List V).length : Nat) then some ((n : Int) - 2).toNat else none else if -(([V.ref q5, V.ref q6] : List V).length : Int) ≤ (n : Int) - 2 then some ((n : Int) - 2 + (([V.ref q5, V.ref q6] : List V).length : Nat)).toNat else none).bind fun j => ([V.ref q5, V.ref q6] : List V)[j]?) = some (.ref q) ∧ H11 q = some (.lst ys) ∧ Rp Tp H11 ys (if n = 2 then lineF rows1 1 else planeF rows1 1 2) := by
          have up := fun {H : Hp} {q : Addr} {ys : List V} {fs : List Fr} (s : Same H H11) (h : Rp Tp H ys fs) => h.mono fun v b h => Tp.same h s
          match n, hn1, f0, f3 with
          | 2, _, _, _ => exact ⟨q5, ys5, rfl, (s10.trans s11) _ _ hq5, up (q := q5) (s10.trans s11) hr5⟩
          | 3, _, _, _ => exact ⟨q6, ys6, rfl, s11 _ _ hq6, up (q := q6) s11 hr6⟩
        obtain ⟨q7, ys7, ix7, hq7, hr7⟩ := pick
        have y0 := ys0 (n := n) lr1 hb1
        refine ⟨Lq, rfl, _, e11, _, ix7, q7, ys7, _, 91, rfl, hq7, hr7, by decide, by decide, by have := hr7.1; have := y0.2; omega, y0.1, fun W2 ws2 H12 nW2 s12' hW2 hw2 => ⟨W2, rfl, ⟨_, SqL.of hW2⟩, ?_⟩⟩
        have s812 := s811.trans s12'
        have sH12 := sG.trans s812
        have hF11 := s811 _ _ hFG
        have hF12 := s812 _ _ hFG
        have nFW2 : F ≠ W2 := ne_of_none hF11 nW2
        have nFL : F ≠ L1 := ne_of_none hFG nL
        have hL12 := (s911.trans s12') _ _ hL
        have hW12 := s812 _ _ hWG
        have hr12 := hrG.mono fun v b h => Pr.mono.same hFG s812 h
        have hrl12 := hrl.mono fun v b h => Ri.same h (s911.trans s12')
        have hx12 : Tp (.ref rx) x H12 := ⟨rx, rfl, s812 _ _ hrx⟩
        have hz12 := hz.same s812
        have k12 : KeepL H7 H12 := kG.trans (.of s812)
        unfold ForW
        refine for_list (K := K) (a := W2) (xs := ws2) (fun j σ' G3 => ∃ (w6 w7 : Option V) (rs : List V), σ' = [some (.ref p), some (.int n), some (.ref F), some (.ref z0), some (.ref rx), some (.ref L1), w6, w7] ∧ KeepL H12 G3 ∧ Same H G3 ∧ G3 W = some (.lst ws) ∧ G3 L1 = some (.lst ls) ∧ G3 W2 = some (.lst ws2) ∧ G3 F = some (.lst rs) ∧ Rp Pr G3 rs (bs ++ ((ysF rows1 n).take j).flatMap fun y => ptF rows1 n x y)) ⟨_, _, rs, rfl, .of (Same.refl _), sH12, hW12, hL12, hW2, hF12, by rw [List.take_zero, List.flatMap_nil, List.append_nil]; exact hr12⟩ (fun j σ' G3 _ h => ?_) ?_ ?_
        · obtain ⟨_, _, _, _, _, _, _, _, h, _⟩ := h
          exact SqL.of h
        · rintro j v2 σ' G3 hj ⟨w6, w7, rs2, rfl, k3, s3', hW3, hL3, hW23, hF3, hr3⟩
          obtain ⟨y, ey, hy⟩ := hw2.get hj
          have ey : (ysF rows1 n)[j]? = some y := ey
          have hy := hy.keepL k3
          have fy := ysF_ff lr1 hb1 y (List.mem_of_getElem? ey)
          have e2 : ((ysF rows1 n).take (j + 1)).flatMap (fun y => ptF rows1 n x y) = ((ysF rows1 n).take j).flatMap (fun y => ptF rows1 n x y) ++ ptF rows1 n x y := by
            rw [List.take_add_one, ey]
            show ((ysF rows1 n).take j ++ [y]).flatMap _ = _
            rw [List.flatMap_append, List.flatMap_cons, List.flatMap_nil, List.append_nil]
          rw [e2, ← List.append_assoc]
          have lb2 : (bs ++ ((ysF rows1 n).take j).flatMap fun y => ptF rows1 n x y).length ≤ 1490000 + 17 * 145 := by
            have h1 := flat_len ((ysF rows1 n).take j) (fun y => ptF rows1 n x y) 17 (fun y => (ptF_len lr1).1)
            have h2 := ysF_len (n := n) lr1 hb1
            rw [List.length_take] at h1
            rw [List.length_append]
            omega
          generalize bs ++ ((ysF rows1 n).take j).flatMap (fun y => ptF rows1 n x y) = bs2 at lb2 hr3
          refine ⟨fun σ2 G4 => n ≠ 2 ∧ σ2 = [some (.ref p), some (.int n), some (.ref F), some (.ref z0), some (.ref rx), some (.ref L1), some v2, w7] ∧ G4 = G3, ?_, ?_⟩
          · simp -dsimp [tSeq, tAsg, tRet, tIfS, tIf, tTest, tVar, tCons, tNil, tC, tOp, tUn, rI, rI0, rU, tCB, tLst_A, tTup_A, gName, L2.start, CMul, CPow, CDiv, tDrop, tBM, tBM0, tNext, tPar, gSub, rSetL, rIxL, rIxT, tChain, tB, tNot, tNotV, tAnd, tOr, tAndV, tOrV, tFld, tCall, rIxLH, rIxTH, atI, ixN, upd_same, cxK, ex2, ex3, ex3b, rIs1, rIs2, rNe2, tyN, kb1, kb2, kb3, kb4, kb5, kb6, rEq, rNe, scal, tMake_S, tMakeK_S, tMakeN_S]
            split
            · rename_i e
              have e : n = 2 := by omega
              have ep : ptF rows1 n x y = [(x, y, (0, 1))] := by
                unfold ptF
                rw [if_pos e]
              rw [ep]
              refine ⟨.inl ⟨rfl, _, SqL.of hF3⟩, by decide, Alloc.of fun t H4 n4 e4 s4 => ?_⟩
              have hF4 := s4 _ _ hF3
              have lr := hr3.1
              refine ⟨F, rs2, _, rfl, rfl, hF4, by omega, ?_⟩
              show _ ∧ _
              exact ⟨⟨_, _, rfl⟩, (k3.trans (.of s4)).trans (KeepL.sameN hF4 .upd), fun b o e => by rw [upd_ne (ne_of_none e nFH)]; exact s4 _ _ (s3' _ _ e), by rw [upd_ne nFW.symm]; exact s4 _ _ hW3, by rw [upd_ne nFL.symm]; exact s4 _ _ hL3, by rw [upd_ne nFW2.symm]; exact s4 _ _ hW23, _, upd_same, Pr.app hF4 (hr3.mono fun v b h => Pr.mono.same hF3 s4 h) ⟨t, .ref rx, v2, .ref z0, rfl, e4, (hx12.keepL k3).same s4, hy.same s4, (hz12.keepL k3).same s4⟩⟩
            · rename_i e
              omega
          · rintro σ2 G4 ⟨hn2, rfl, rfl⟩
            simp -dsimp [tSeq, tAsg, tRet, tIfS, tIf, tTest, tVar, tCons, tNil, tC, tOp, tUn, rI, rI0, rU, tCB, tLst_A, tTup_A, gName, L2.start, CMul, CPow, CDiv, tDrop, tBM, tBM0, tNext, tPar, gSub, rSetL, rIxL, rIxT, tChain, tB, tNot, tNotV, tAnd, tOr, tAndV, tOrV, tFld, tCall, rIxLH, rIxTH, atI, ixN, upd_same, cxK, ex2, ex3, ex3b, rIs1, rIs2, rNe2, tyN, kb1, kb2, kb3, kb4, kb5, kb6, rEq, rNe, scal, tMake_S, tMakeK_S, tMakeN_S, tFor_iL]
            obtain ⟨ry, rfl, hry⟩ := hy
            have hrl3 := hrl12.mono fun v b h => Ri.keepL h k3
            refine ⟨L1, ry, 1, ls, rows1, y, 45, 92, rfl, hL3, hrl3, hry, by decide, by omega, by decide, by decide, hb1, fy, fun M ms H5 nM s5 hM hrm => ?_⟩
            have lm : ms.length ≤ 8 := by rw [hrm.1, List.length_map]; exact lr1
            refine ⟨M, 2, ms, _, rfl, hM, hrm, by decide, by omega, fun q8 ys8 H6' n6' s6' hq8 hr8 => ?_⟩
            have hb2 := lineF_ff (k := 2) (fix2 hb1 fy)
            have l8 := lineF_len (rows1.map (fixF 1 y)) 2
            rw [List.length_map] at l8
            refine ⟨q8, ys8, _, 138, rfl, hq8, hr8, by decide, by decide, by have := hr8.1; omega, hb2, fun W3 ws3 H8' nW3 s8' hW3' hw3 => ⟨W3, rfl, ⟨_, SqL.of hW3'⟩, ?_⟩⟩
            have ept : ptF rows1 n x y = (zsF rows1 y).map fun z => (x, y, z) := by
              unfold ptF
              rw [if_neg hn2]
            rw [ept]
            have s58 := (s5.trans s6').trans s8'
            have hF8' := s58 _ _ hF3
            have nFW3 : F ≠ W3 := ne_of_none ((s5.trans s6') _ _ hF3) nW3
            have hr8' := hr3.mono fun v b h => Pr.mono.same hF3 s58 h
            have sH8 := s3'.trans s58
            have hW8 := s58 _ _ hW3
            have hL8 := s58 _ _ hL3
            have hW28 := s58 _ _ hW23
            have hx8 := (hx12.keepL k3).same s58
            have hy8 : Tp (.ref ry) y H8' := ⟨ry, rfl, s58 _ _ hry⟩
            have k58 : KeepL H12 H8' := k3.trans (.of s58)
            have l17 := (zsF_len (y := y) lr1).1
            unfold ForW
            refine for_list (K := K) (a := W3) (xs := ws3) (fun l σ' G5 => ∃ (w7 : Option V) (rs : List V), σ' = [some (.ref p), some (.int n), some (.ref F), some (.ref z0), some (.ref rx), some (.ref L1), some (.ref ry), w7] ∧ KeepL H8' G5 ∧ Same H G5 ∧ G5 W = some (.lst ws) ∧ G5 L1 = some (.lst ls) ∧ G5 W2 = some (.lst ws2) ∧ G5 W3 = some (.lst ws3) ∧ G5 F = some (.lst rs) ∧ Rp Pr G5 rs (bs2 ++ ((zsF rows1 y).take l).map fun z => (x, y, z))) ⟨_, rs2, rfl, .of (Same.refl _), sH8, hW8, hL8, hW28, hW3', hF8', by rw [List.take_zero, List.map_nil, List.append_nil]; exact hr8'⟩ (fun l σ' G5 _ h => ?_) ?_ ?_
            · obtain ⟨_, _, _, _, _, _, _, _, h, _⟩ := h
              exact SqL.of h
            · rintro l v3 σ' G5 hl5 ⟨w7', rs5, rfl, k5, s5', hW5, hL5, hW25, hW35, hF5, hr5'⟩
              obtain ⟨z, ez, hz5⟩ := hw3.get hl5
              have ez : (zsF rows1 y)[l]? = some z := ez
              have hz5 := hz5.keepL k5
              have ll5 : l < 17 := by
                have := (List.getElem?_eq_some_iff.mp ez).1
                omega
              have lr := hr5'.1
              rw [List.length_append, List.length_map, List.length_take] at lr
              simp -dsimp [tSeq, tAsg, tRet, tIfS, tIf, tTest, tVar, tCons, tNil, tC, tOp, tUn, rI, rI0, rU, tCB, tLst_A, tTup_A, gName, L2.start, CMul, CPow, CDiv, tDrop, tBM, tBM0, tNext, tPar, gSub, rSetL, rIxL, rIxT, tChain, tB, tNot, tNotV, tAnd, tOr, tAndV, tOrV, tFld, tCall, rIxLH, rIxTH, atI, ixN, upd_same, cxK, ex2, ex3, ex3b, rIs1, rIs2, rNe2, tyN, kb1, kb2, kb3, kb4, kb5, kb6, rEq, rNe, scal, tMake_S, tMakeK_S, tMakeN_S]
              refine ⟨.inl ⟨rfl, _, SqL.of hF5⟩, by decide, Alloc.of fun t H9' n9' e9' s9' => ?_⟩
              have hF9 := s9' _ _ hF5
              refine ⟨F, rs5, _, rfl, rfl, hF9, by omega, ?_⟩
              refine ⟨(k5.trans (.of s9')).trans (KeepL.sameN hF9 .upd), fun b o e => by rw [upd_ne (ne_of_none e nFH)]; exact s9' _ _ (s5' _ _ e), by rw [upd_ne nFW.symm]; exact s9' _ _ hW5, by rw [upd_ne nFL.symm]; exact s9' _ _ hL5, by rw [upd_ne nFW2.symm]; exact s9' _ _ hW25, by rw [upd_ne nFW3.symm]; exact s9' _ _ hW35, _, upd_same, ?_⟩
              rw [← List.map_take, List.take_add_one, ez]
              show Rp Pr _ _ (bs2 ++ ((zsF rows1 y).take l ++ [z]).map _)
              rw [List.map_append, ← List.append_assoc]
              exact Pr.app hF9 (hr5'.mono fun v b h => Pr.mono.same hF5 s9' h) ⟨t, .ref rx, .ref ry, v3, rfl, e9', (hx8.keepL k5).same s9', (hy8.keepL k5).same s9', hz5.same s9'⟩
            · rintro σ' G5 ⟨w7', rs5, rfl, k5, s5', hW5, hL5, hW25, hW35, hF5, hr5'⟩
              have e : (zsF rows1 y).take ws3.length = zsF rows1 y := List.take_of_length_le (by rw [hw3.1]; exact Nat.le_refl _)
              rw [e] at hr5'
              exact ⟨⟨_, _, rfl⟩, k58.trans k5, s5', hW5, hL5, hW25, rs5, hF5, hr5'⟩
        · rintro σ' G3 ⟨w6, w7, rs2, rfl, k3, s3', hW3, hL3, hW23, hF3, hr3⟩
          have e : (ysF rows1 n).take ws2.length = ysF rows1 n := List.take_of_length_le (by rw [hw2.1]; exact Nat.le_refl _)
          rw [e] at hr3
          exact ⟨⟨_, _, _, _, rfl⟩, k12.trans k3, s3', hW3, rs2, hF3, hr3⟩
    · rintro σ' G ⟨w4, w5, w6, w7, rs, rfl, kG, sG, hWG, hFG, hrG⟩
      simp -dsimp [tSeq, tAsg, tRet, tIfS, tIf, tTest, tVar, tCons, tNil, tC, tOp, tUn, rI, rI0, rU, tCB, tLst_A, tTup_A, gName, L2.start, CMul, CPow, CDiv, tDrop, tBM, tBM0, tNext, tPar, gSub, rSetL, rIxL, rIxT, tChain, tB, tNot, tNotV, tAnd, tOr, tAndV, tOrV, tFld, tCall, rIxLH, rIxTH, atI, ixN, upd_same, cxK, ex2, ex3, ex3b, rIs1, rIs2, rNe2, tyN, kb1, kb2, kb3, kb4, kb5, kb6, rEq, rNe, scal, tMake_S, tMakeK_S, tMakeN_S]
      have e : (xsF rows n).take ws.length = xsF rows n := List.take_of_length_le (by rw [hw.1]; exact Nat.le_refl _)
      rw [e] at hrG
      exact q F rs G sG hFG hrG

end
def numF (r : RI) (t : Pn) : Int := r.1 * t.1.2 * t.2.1.2 * t.2.2.2 + r.2.1 * t.1.1 * t.2.1.2 * t.2.2.2 + r.2.2.1 * t.2.1.1 * t.1.2 * t.2.2.2 + r.2.2.2 * t.2.2.1 * t.1.2 * t.2.1.2
def hldF (r : RI) (st : Bool) (t : Pn) : Bool := decide (0 < numF r t) || (decide (numF r t = 0) && !st)
section
variable {P : Program} {w : World} {K : PySem.W.Frag} {mg : Str → Option Value} {base : Heap} {fd : FuncData}
def spNum (K : PySem.W.Frag) : Sp := fun vs H Q _ => ∃ (p q : Addr) (v : V) (r : RI) (t : Pn) (rest : List V) (B C : Nat), vs = [.ref p, v] ∧ H p = some (.tup (.int r.1 :: .ref q :: rest)) ∧ H q = some (.tup [.int r.2.1, .int r.2.2.1, .int r.2.2.2]) ∧ Pr v t H ∧ B ≤ 100 ∧ C ≤ 150 ∧ Rb B r ∧ Ff C t.1 ∧ Ff C t.2.1 ∧ Ff C t.2.2 ∧ Q (.int (numF r t)) H
theorem scNumber : FnScope ["_law_row_here", "_law_point", "_law_a", "_law_d", "_law_b", "_law_e", "_law_c", "_law_f", "_law_found"] ["_law_row_here", "_law_point"] d_number.scope := ⟨rfl, rfl, rfl, by decide +kernel, rfl, by decide +kernel, by decide +kernel⟩
theorem ok_number (W : Wd K mg) : ∃ fd, FnOk P w K mg base CX0 1 (He.ga K "_law_number") fd ["_law_row_here", "_law_point"] (spNum K) ∧ Binds K fd ["_law_row_here", "_law_point"] [] := by
  obtain ⟨fd, F⟩ := W.F_number
  refine ⟨fd, F.ok scNumber (fun vs H Q E h => ?_) (fun cdv A outer s H vs Q E hr h => ?_), FunD.bindsN F fun _ _ _ _ _ _ us hl => match us, hl with | [_, _], _ => rfl⟩
  · obtain ⟨p, q, v, _, _, _, _, _, rfl, _⟩ := h
    rfl
  · obtain ⟨p, q, v, r, t, rest, B, C, rfl, hp, hq, hv, hB, hC, hr, fx, fy, fz, k⟩ := h

    refine ⟨_, PSs.nox (pss_cons (ps_asg (pv 1) (pg_tup rfl (pgs_cons (pg_tup rfl (pgs_cons (pg_name (i := 2) scNumber.nd rfl (Or.inl rfl)) (pgs_cons (pg_name (i := 3) scNumber.nd rfl (Or.inl rfl)) pgs_nil))) (pgs_cons (pg_tup rfl (pgs_cons (pg_name (i := 4) scNumber.nd rfl (Or.inl rfl)) (pgs_cons (pg_name (i := 5) scNumber.nd rfl (Or.inl rfl)) pgs_nil))) (pgs_cons (pg_tup rfl (pgs_cons (pg_name (i := 6) scNumber.nd rfl (Or.inl rfl)) (pgs_cons (pg_name (i := 7) scNumber.nd rfl (Or.inl rfl)) pgs_nil))) pgs_nil)))))
    (pss_cons (ps_set (i := 8) scNumber.nd rfl (Or.inl rfl) (pe_op op_mulX9 (pe_op op_mulX9 (pe_op op_mulX9 (pe_ix ix_tupH (pv 0) pe_int (fun _ _ => rfl)) (pv 3)) (pv 5)) (pv 7)))
    (pss_cons (ps_set (i := 8) scNumber.nd rfl (Or.inl rfl) (pe_op op_add (pv 8) (pe_op op_mulX9 (pe_op op_mulX9 (pe_op op_mulX9 (pe_ix ix_tupH (pe_ix ix_tupH (pv 0) pe_int (fun _ _ => rfl)) pe_int (fun _ _ => rfl)) (pv 2)) (pv 5)) (pv 7))))
    (pss_cons (ps_set (i := 8) scNumber.nd rfl (Or.inl rfl) (pe_op op_add (pv 8) (pe_op op_mulX9 (pe_op op_mulX9 (pe_op op_mulX9 (pe_ix ix_tupH (pe_ix ix_tupH (pv 0) pe_int (fun _ _ => rfl)) pe_int (fun _ _ => rfl)) (pv 4)) (pv 3)) (pv 7))))
    (pss_one (ps_ret (pe_op op_add (pv 8) (pe_op op_mulX9 (pe_op op_mulX9 (pe_op op_mulX9 (pe_ix ix_tupH (pe_ix ix_tupH (pv 0) pe_int (fun _ _ => rfl)) pe_int (fun _ _ => rfl)) (pv 6)) (pv 3)) (pv 5))))))))), ?_⟩
    obtain ⟨pa, a, b, c, rfl, ha, ⟨ra, rfl, hra⟩, ⟨rb, rfl, hrb⟩, ⟨rc, rfl, hrc⟩⟩ := hv
    simp -dsimp [tSeq, tAsg, tRet, tIfS, tIf, tTest, tVar, tCons, tNil, tC, tOp, tUn, rI, rI0, rU, tCB, tLst_A, tTup_A, gName, L2.start, CMul, CPow, CDiv, tDrop, tBM, tBM0, tNext, tPar, gSub, rSetL, rIxL, rIxT, tChain, tB, tNot, tNotV, tAnd, tOr, tAndV, tOrV, tFld, tCall, rIxLH, rIxTH, atI, ixN, upd_same, cxK, ex2, ex3, ex3b, rIs1, rIs2, rNe2, tyN, kb1, kb2, kb3, kb4, kb5, kb6, rEq, rNe, scal, tMake_S, tMakeK_S, tMakeN_S, hp, hq, ha, hra, hrb, hrc]
    refine ⟨pa, _, rfl, SqT.of ha, rfl, _, _, rfl, ra, _, rfl, SqT.of hra, rfl, _, _, rfl, _, _, rfl, rfl, _, _, rfl, rb, _, rfl, SqT.of hrb, rfl, _, _, rfl, _, _, rfl, rfl, _, _, rfl, rc, _, rfl, SqT.of hrc, rfl, _, _, rfl, _, _, rfl, rfl, rfl, ?_⟩
    show tSeq _ _ _ [some (.ref p), some (.ref pa), some (.int t.1.1), some (.int t.1.2), some (.int t.2.1.1), some (.int t.2.1.2), some (.int t.2.2.1), some (.int t.2.2.2), none] _
    have i1 : ((if (1 : Int) < (rest.length : Int) + 1 + 1 then some 1 else none).bind fun j => (V.int r.1 :: V.ref q :: rest)[j]?) = some (.ref q) := by
      rw [if_pos (by omega)]
      rfl
    simp -dsimp [tSeq, tAsg, tRet, tIfS, tIf, tTest, tVar, tCons, tNil, tC, tOp, tUn, rI, rI0, rU, tCB, tLst_A, tTup_A, gName, L2.start, CMul, CPow, CDiv, tDrop, tBM, tBM0, tNext, tPar, gSub, rSetL, rIxL, rIxT, tChain, tB, tNot, tNotV, tAnd, tOr, tAndV, tOrV, tFld, tCall, rIxLH, rIxTH, atI, ixN, upd_same, cxK, ex2, ex3, ex3b, rIs1, rIs2, rNe2, tyN, kb1, kb2, kb3, kb4, kb5, kb6, rEq, rNe, scal, tMake_S, tMakeK_S, tMakeN_S, hp, hq, i1]
    have r0 := hr.n
    have r1 : r.2.1.natAbs < 10 ^ B := hr.t 0
    have r2 : r.2.2.1.natAbs < 10 ^ B := hr.t 1
    have r3 : r.2.2.2.natAbs < 10 ^ B := hr.t 2
    have mB : ∀ {x : Int}, x.natAbs < 10 ^ B → x.natAbs < bigM := fun h => m100 h (by omega)
    have mC : ∀ {x : Int}, x.natAbs < 10 ^ C → x.natAbs < bigM := fun h => m100 h (by omega)
    have p2 : ∀ {x y : Int}, x.natAbs < 10 ^ B → y.natAbs < 10 ^ C → (x * y).natAbs < bigM := fun h1 h2 => m100 (mul10 h1 h2) (by omega)
    have p3 : ∀ {x y z : Int}, x.natAbs < 10 ^ B → y.natAbs < 10 ^ C → z.natAbs < 10 ^ C → (x * y * z).natAbs < bigM := fun h1 h2 h3 => m100 (mul10 (mul10 h1 h2) h3) (by omega)
    exact ⟨⟨mB r0, mC fx.n2⟩, ⟨p2 r0 fx.n2, mC fy.n2⟩, ⟨p3 r0 fx.n2 fy.n2, mC fz.n2⟩, ⟨mB r1, mC fx.n1⟩, ⟨p2 r1 fx.n1, mC fy.n2⟩, ⟨p3 r1 fx.n1 fy.n2, mC fz.n2⟩, ⟨mB r2, mC fy.n1⟩, ⟨p2 r2 fy.n1, mC fx.n2⟩, ⟨p3 r2 fy.n1 fx.n2, mC fz.n2⟩, ⟨mB r3, mC fz.n1⟩, ⟨p2 r3 fz.n1, mC fx.n2⟩, ⟨p3 r3 fz.n1 fx.n2, mC fy.n2⟩, k⟩

def spHld (K : PySem.W.Frag) : Sp := fun vs H Q _ => ∃ (p q : Addr) (v : V) (r : RI) (t : Pn) (st : Bool) (rest : List V) (B C : Nat), vs = [.ref p, v] ∧ H p = some (.tup (.int r.1 :: .ref q :: .bl st :: rest)) ∧ H q = some (.tup [.int r.2.1, .int r.2.2.1, .int r.2.2.2]) ∧ Pr v t H ∧ B ≤ 100 ∧ C ≤ 150 ∧ Rb B r ∧ Ff C t.1 ∧ Ff C t.2.1 ∧ Ff C t.2.2 ∧ Q (.bl (hldF r st t)) H
theorem scHolds : FnScope ["_law_row_here", "_law_point", "_law_number_here"] ["_law_row_here", "_law_point"] d_holds.scope := ⟨rfl, rfl, rfl, by decide +kernel, rfl, by decide +kernel, by decide +kernel⟩
theorem ok_holds (W : Wd K mg) : ∃ fd, FnOk P w K mg base CX0 2 (He.ga K "_law_holds") fd ["_law_row_here", "_law_point"] (spHld K) ∧ Binds K fd ["_law_row_here", "_law_point"] [] := by
  obtain ⟨fd_number, G_number, b_number⟩ := ok_number (P := P) (w := w) (base := base) W
  have k_number : PySem.W.keepIn K (.ref (He.ga K "_law_number")) = true := by obtain ⟨fd, F⟩ := W.F_number; exact F.kp
  obtain ⟨fd, F⟩ := W.F_holds
  refine ⟨fd, F.ok scHolds (fun vs H Q E h => ?_) (fun cdv A outer s H vs Q E hr h => ?_), FunD.bindsN F fun _ _ _ _ _ _ us hl => match us, hl with | [_, _], _ => rfl⟩
  · obtain ⟨p, q, v, _, _, _, _, _, _, rfl, _⟩ := h
    rfl
  · obtain ⟨p, q, v, r, t, st, rest, B, C, rfl, hp, hq, hv, hB, hC, hrb, fx, fy, fz, k⟩ := h
    have r1 : Room 1 _ := hr.mono (by decide)
    refine ⟨_, PSs.nox (pss_cons (ps_set (i := 2) scHolds.nd rfl (Or.inl rfl) (pe_call G_number r1 rfl W.g_law_number k_number b_number .nil pass0 (pa_cons (pv 0) (pa_cons (pv 1) pa_nil))))
    (pss_one (ps_ret (pe_or (pe_cmpR op_gt (pv 2) pe_int (nomark _)) (pe_one (pe_and (pe_cmpR op_eq (pv 2) pe_int (nomark _)) (pe_one (pe_not (pe_ix ix_tupH (pv 0) pe_int (fun _ _ => rfl)))))))))), ?_⟩
    simp -dsimp [tSeq, tAsg, tRet, tIfS, tIf, tTest, tVar, tCons, tNil, tC, tOp, tUn, rI, rI0, rU, tCB, tLst_A, tTup_A, gName, L2.start, CMul, CPow, CDiv, tDrop, tBM, tBM0, tNext, tPar, gSub, rSetL, rIxL, rIxT, tChain, tB, tNot, tNotV, tAnd, tOr, tAndV, tOrV, tFld, tCall, rIxLH, rIxTH, atI, ixN, upd_same, cxK, ex2, ex3, ex3b, rIs1, rIs2, rNe2, tyN, kb1, kb2, kb3, kb4, kb5, kb6, rEq, rNe, scal, tMake_S, tMakeK_S, tMakeN_S]
    refine ⟨p, q, v, r, t, _, B, C, rfl, hp, hq, hv, hB, hC, hrb, fx, fy, fz, ?_⟩
    have i2 : ((if (2 : Int) < (rest.length : Int) + 1 + 1 + 1 then some 2 else none).bind fun j => (V.int r.1 :: V.ref q :: V.bl st :: rest)[j]?) = some (.bl st) := by
      rw [if_pos (by omega)]
      rfl
    simp -dsimp [tSeq, tAsg, tRet, tIfS, tIf, tTest, tVar, tCons, tNil, tC, tOp, tUn, rI, rI0, rU, tCB, tLst_A, tTup_A, gName, L2.start, CMul, CPow, CDiv, tDrop, tBM, tBM0, tNext, tPar, gSub, rSetL, rIxL, rIxT, tChain, tB, tNot, tNotV, tAnd, tOr, tAndV, tOrV, tFld, tCall, rIxLH, rIxTH, atI, ixN, upd_same, cxK, ex2, ex3, ex3b, rIs1, rIs2, rNe2, tyN, kb1, kb2, kb3, kb4, kb5, kb6, rEq, rNe, scal, tMake_S, tMakeK_S, tMakeN_S, hp, i2]
    unfold hldF at k
    split
    · rename_i h
      rw [decide_eq_true h, Bool.true_or] at k
      exact k
    · rename_i h
      rw [decide_eq_false h, Bool.false_or] at k
      split
      · rename_i h0
        rw [decide_eq_true h0, Bool.true_and] at k
        cases st
        · exact .inl ⟨rfl, k⟩
        · exact .inr ⟨rfl, k⟩
      · rename_i h0
        rw [decide_eq_false h0, Bool.false_and] at k
        exact k

end
/-! ### ask trees of rows of ints -/
abbrev RT := RI × Bool × Int
inductive GT where
  | leaf (v : V)
  | ask (r : RT) (no yes : GT)
def GT.ht : GT → Nat
  | .leaf _ => 0
  | .ask _ n y => max n.ht y.ht + 1
def GT.rows : GT → List RT
  | .leaf _ => []
  | .ask r n y => r :: n.rows ++ y.rows
def GT.go (f : RT → Bool) : GT → V
  | .leaf v => v
  | .ask r n y => if f r then y.go f else n.go f
def GT.paths : GT → List (RT × Bool) → List (List (RT × Bool) × V)
  | .leaf v, p => [(p, v)]
  | .ask r n y, p => n.paths (p ++ [(r, false)]) ++ y.paths (p ++ [(r, true)])
theorem GT.rows_len : ∀ t : GT, t.rows.length + 1 ≤ 2 ^ t.ht
  | .leaf _ => Nat.le_refl _
  | .ask r n y => by
    have hn := rows_len n
    have hy := rows_len y
    show (r :: n.rows ++ y.rows).length + 1 ≤ 2 ^ (max n.ht y.ht + 1)
    have h1 : 2 ^ n.ht ≤ 2 ^ max n.ht y.ht := Nat.pow_le_pow_right (by decide) (Nat.le_max_left _ _)
    have h2 : 2 ^ y.ht ≤ 2 ^ max n.ht y.ht := Nat.pow_le_pow_right (by decide) (Nat.le_max_right _ _)
    rw [Nat.pow_succ, List.length_append, List.length_cons]
    omega
theorem GT.paths_len : ∀ (t : GT) (p : List (RT × Bool)), (t.paths p).length ≤ 2 ^ t.ht
  | .leaf _, _ => Nat.le_refl _
  | .ask r n y, p => by
    have hn := paths_len n (p ++ [(r, false)])
    have hy := paths_len y (p ++ [(r, true)])
    show (n.paths _ ++ y.paths _).length ≤ 2 ^ (max n.ht y.ht + 1)
    have h1 : 2 ^ n.ht ≤ 2 ^ max n.ht y.ht := Nat.pow_le_pow_right (by decide) (Nat.le_max_left _ _)
    have h2 : 2 ^ y.ht ≤ 2 ^ max n.ht y.ht := Nat.pow_le_pow_right (by decide) (Nat.le_max_right _ _)
    rw [Nat.pow_succ, List.length_append]
    omega
theorem GT.paths_in : ∀ (t : GT) (p : List (RT × Bool)), ∀ e ∈ t.paths p, e.1.length ≤ p.length + t.ht
  | .leaf v, p, e, h => by
    rw [List.mem_singleton.mp h]
    exact Nat.le_refl _
  | .ask r n y, p, e, h => by
    show e.1.length ≤ p.length + (max n.ht y.ht + 1)
    rcases List.mem_append.mp h with h | h
    · have := paths_in n _ e h
      rw [List.length_append, List.length_singleton] at this
      omega
    · have := paths_in y _ e h
      rw [List.length_append, List.length_singleton] at this
      omega
/-- the longest path, over the length of what is ahead -/
theorem GT.paths_max : ∀ (t : GT) (p : List (RT × Bool)), ∃ e ∈ t.paths p, e.1.length = p.length + t.ht
  | .leaf v, p => ⟨(p, v), List.mem_singleton.mpr rfl, rfl⟩
  | .ask r n y, p => by
    show ∃ e ∈ n.paths _ ++ y.paths _, e.1.length = p.length + (max n.ht y.ht + 1)
    rcases Nat.le_total n.ht y.ht with h | h
    · obtain ⟨e, he, hl⟩ := paths_max y (p ++ [(r, true)])
      exact ⟨e, List.mem_append_right _ he, by rw [hl, List.length_append, List.length_singleton, Nat.max_eq_right h]; omega⟩
    · obtain ⟨e, he, hl⟩ := paths_max n (p ++ [(r, false)])
      exact ⟨e, List.mem_append_left _ he, by rw [hl, List.length_append, List.length_singleton, Nat.max_eq_left h]; omega⟩
/-- how a row of a tree is drawn -/
structure Ok10 (m : Nat) (r : RT) : Prop where
  n : r.1.1.natAbs ≤ 3
  t : ∀ j, (tk r.1 j).natAbs ≤ 2
  z : ∀ j : Nat, j < 3 → m ≤ j → tk r.1 j = 0
  w0 : 0 ≤ r.2.2
  w4 : r.2.2 < 4
theorem Ok10.rb {m : Nat} {r : RT} (h : Ok10 m r) : Rb 1 r.1 := ⟨by have := h.n; show _ < 10; omega, fun k => by have := h.t k; show _ < 10; omega⟩
def IsR (H : Hp) (p : Addr) (r : RT) : Prop := IsRo H p r.1.1 r.1.2.1 r.1.2.2.1 r.1.2.2.2 r.2.1 r.2.2
/-- a row of terms that says what a row of ints says -/
def RwR (K : PySem.W.Frag) (H : Hp) (z : Addr) (r : RT) : Prop := IsP K H z r.2.1 r.1.1 r.1.2.1 r.1.2.2.1 r.1.2.2.2
/-- values of leaves -/
def Lv (v : V) (H : Hp) : Prop := (∃ i, v = .int i) ∨ (∃ b, v = .bl b) ∨ (∃ x, v = .str x) ∨ v = .non ∨ ∃ r, v = .ref r ∧ H r = some (.tup [.int 1, .int 2])
theorem Lv.keepL {v : V} {H H' : Hp} (h : Lv v H) (k : KeepL H H') : Lv v H' := by
  rcases h with h | h | h | h | ⟨r, e, h⟩
  · exact .inl h
  · exact .inr (.inl h)
  · exact .inr (.inr (.inl h))
  · exact .inr (.inr (.inr (.inl h)))
  · exact .inr (.inr (.inr (.inr ⟨r, e, k _ _ h (fun xs e => by cases e)⟩)))
theorem Lv.sm {K : PySem.W.Frag} {v : V} {H : Hp} (n : Nat) (h : Lv v H) : SmV K H (n + 1) v v := by
  rcases h with ⟨i, rfl⟩ | ⟨b, rfl⟩ | ⟨x, rfl⟩ | rfl | ⟨r, rfl, h⟩
  · exact .int _ i
  · exact .bl _ b
  · exact .thp _ (.str x)
  · exact .thp _ .non
  · refine .tup n h h rfl (by decide) fun i x y ex ey => ?_
    rw [ex] at ey
    cases ey
    match i, ex with
    | 0, ex => cases ex; exact .int _ _
    | 1, ex => cases ex; exact .int _ _
theorem IsR.keepL {H H' : Hp} {p : Addr} {r : RT} (h : IsR H p r) (k : KeepL H H') : IsR H' p r := IsRo.keepL h k
theorem RwR.keepL {K : PySem.W.Frag} {H H' : Hp} {z : Addr} {r : RT} (h : RwR K H z r) (k : KeepL H H') : RwR K H' z r := by
  obtain ⟨d, t, e, it⟩ := h
  exact ⟨d, t, k _ _ e (fun xs e => by cases e), it.keepL k⟩
/-- a tree of rows of ints -/
inductive IsG (H : Hp) (m : Nat) : V → GT → Prop where
  | leaf {p : Addr} {v : V} (hp : H p = some (.tup [.str "leaf", v])) (hv : Lv v H) : IsG H m (.ref p) (.leaf v)
  | ask {p q : Addr} {r : RT} {n y : V} {tn ty : GT} (hp : H p = some (.tup [.str "ask", .ref q, n, y])) (hq : IsR H q r) (ok : Ok10 m r) (hn : IsG H m n tn) (hy : IsG H m y ty) : IsG H m (.ref p) (.ask r tn ty)
/-- a tree of rows of terms -/
inductive IsW (K : PySem.W.Frag) (H : Hp) : V → GT → Prop where
  | leaf {p : Addr} {v : V} (hp : H p = some (.tup [.str "leaf", v])) (hv : Lv v H) : IsW K H (.ref p) (.leaf v)
  | ask {p z : Addr} {r : RT} {n y : V} {tn ty : GT} (hp : H p = some (.tup [.str "ask", .ref z, n, y])) (hz : RwR K H z r) (hn : IsW K H n tn) (hy : IsW K H y ty) : IsW K H (.ref p) (.ask r tn ty)
theorem IsG.keepL {H H' : Hp} {m : Nat} {v : V} {t : GT} (h : IsG H m v t) (k : KeepL H H') : IsG H' m v t := by
  induction h with
  | leaf hp hv => exact .leaf (k _ _ hp (fun xs e => by cases e)) (hv.keepL k)
  | ask hp hq ok hn hy ihn ihy => exact .ask (k _ _ hp (fun xs e => by cases e)) (hq.keepL k) ok ihn ihy
theorem IsW.keepL {K : PySem.W.Frag} {H H' : Hp} {v : V} {t : GT} (h : IsW K H v t) (k : KeepL H H') : IsW K H' v t := by
  induction h with
  | leaf hp hv => exact .leaf (k _ _ hp (fun xs e => by cases e)) (hv.keepL k)
  | ask hp hz hn hy ihn ihy => exact .ask (k _ _ hp (fun xs e => by cases e)) (hz.keepL k) ihn ihy
theorem IsG.same {H H' : Hp} {m : Nat} {v : V} {t : GT} (h : IsG H m v t) (s : Same H H') : IsG H' m v t := h.keepL (.of s)
theorem IsW.same {K : PySem.W.Frag} {H H' : Hp} {v : V} {t : GT} (h : IsW K H v t) (s : Same H H') : IsW K H' v t := h.keepL (.of s)
/-- an ask and its answer -/
def Ia (K : PySem.W.Frag) (v : V) (a : RT × Bool) (H : Hp) : Prop := ∃ p z, v = .ref p ∧ H p = some (.tup [.ref z, .bl a.2]) ∧ RwR K H z a.1
/-- a path -/
def Ip (K : PySem.W.Frag) (v : V) (p : List (RT × Bool)) (H : Hp) : Prop := ∃ a xs, v = .ref a ∧ H a = some (.tup xs) ∧ Rp (Ia K) H xs p
/-- a path and a value -/
def Il (K : PySem.W.Frag) (v : V) (e : List (RT × Bool) × V) (H : Hp) : Prop := ∃ a p, v = .ref a ∧ H a = some (.tup [p, e.2]) ∧ Ip K p e.1 H ∧ Lv e.2 H
theorem Ia.keepL {K : PySem.W.Frag} {v : V} {a : RT × Bool} {H H' : Hp} (h : Ia K v a H) (k : KeepL H H') : Ia K v a H' := by
  obtain ⟨p, z, e, hp, hz⟩ := h
  exact ⟨p, z, e, k _ _ hp (fun xs e => by cases e), hz.keepL k⟩
theorem Ip.keepL {K : PySem.W.Frag} {v : V} {p : List (RT × Bool)} {H H' : Hp} (h : Ip K v p H) (k : KeepL H H') : Ip K v p H' := by
  obtain ⟨a, xs, e, ha, hr⟩ := h
  exact ⟨a, xs, e, k _ _ ha (fun xs e => by cases e), hr.mono fun v b h => h.keepL k⟩
theorem Il.keepL {K : PySem.W.Frag} {v : V} {e : List (RT × Bool) × V} {H H' : Hp} (h : Il K v e H) (k : KeepL H H') : Il K v e H' := by
  obtain ⟨a, p, ev, ha, hp, hv⟩ := h
  exact ⟨a, p, ev, k _ _ ha (fun xs e => by cases e), hp.keepL k, hv.keepL k⟩
theorem Il.mono {K : PySem.W.Frag} : MonoR (Il K) := fun b D xs v H H' hD s h => h.keepL (KeepL.sameN hD s)
section
variable {P : Program} {w : World} {K : PySem.W.Frag} {mg : Str → Option Value} {base : Heap} {fd : FuncData}
def spGrown (K : PySem.W.Frag) (n : Nat) : Sp := fun vs H Q _ => ∃ (l : Addr) (d0 d1 d2 : Int) (many dp : Nat), vs = [.ref l, .int many, .int dp] ∧ dp ≤ n ∧ H l = some (draws d0 d1 d2) ∧ 0 < many ∧ many ≤ 3 ∧
  ∀ (v : V) (H' : Hp) (t : GT) (e0 e1 e2 : Int), SameN l H H' → H' l = some (draws e0 e1 e2) → IsG H' many v t → t.ht ≤ dp → Q v H'
theorem scGrown : FnScope ["_law_draws", "_law_many", "_law_deep"] ["_law_draws", "_law_many", "_law_deep"] d_grown.scope := ⟨rfl, rfl, rfl, by decide +kernel, rfl, by decide +kernel, by decide +kernel⟩
theorem ok_grown0 (W : Wd K mg) (n : Nat) (deep : n = 0 ∨ ∃ (k : Nat) (fd : FuncData), n = k + 1 ∧ FnOk P w K mg base CX0 (k + 10) (He.ga K "_law_grown") fd ["_law_draws", "_law_many", "_law_deep"] (spGrown K k) ∧ Binds K fd ["_law_draws", "_law_many", "_law_deep"] []) :
    ∃ fd, FnOk P w K mg base CX0 (n + 10) (He.ga K "_law_grown") fd ["_law_draws", "_law_many", "_law_deep"] (spGrown K n) ∧ Binds K fd ["_law_draws", "_law_many", "_law_deep"] [] := by
  obtain ⟨fd_draw, G_draw, b_draw⟩ := ok_draw (P := P) (w := w) (base := base) W
  have k_draw : PySem.W.keepIn K (.ref (He.ga K "_law_draw")) = true := by obtain ⟨fd, F⟩ := W.F_draw; exact F.kp
  obtain ⟨fd_pick, G_pick, b_pick⟩ := ok_pick (P := P) (w := w) (base := base) W
  have k_pick : PySem.W.keepIn K (.ref (He.ga K "_law_pick")) = true := by obtain ⟨fd, F⟩ := W.F_pick; exact F.kp
  obtain ⟨fd_row, G_row, b_row⟩ := ok_row (P := P) (w := w) (base := base) W
  have k_row : PySem.W.keepIn K (.ref (He.ga K "_law_row")) = true := by obtain ⟨fd, F⟩ := W.F_row; exact F.kp
  obtain ⟨fd, F⟩ := W.F_grown
  refine ⟨fd, F.ok scGrown (fun vs H Q E h => ?_) (fun cdv A outer s H vs Q E hr h => ?_), FunD.bindsN F fun _ _ _ _ _ _ us hl => match us, hl with | [_, _, _], _ => rfl⟩
  · obtain ⟨l, _, _, _, _, _, rfl, _⟩ := h
    rfl
  · obtain ⟨l, d0, d1, d2, many, dp, rfl, hdp, hl, m0, m3, q⟩ := h
    have r1 : Room 1 _ := hr.mono (by omega)
    have r2 : Room 2 _ := hr.mono (by omega)
    have r3 : Room 3 _ := hr.mono (by omega)
    have r4 : Room 4 _ := hr.mono (by omega)
    have r5 : Room 5 _ := hr.mono (by omega)
    have r6 : Room 6 _ := hr.mono (by omega)
    have r7 : Room 7 _ := hr.mono (by omega)
    have r8 : Room 8 _ := hr.mono (by omega)
    have r9 : Room 9 _ := hr.mono (by omega)
    have pk : ∀ {G : Hp} {g0 g1 g2 : Int}, SameN l H G → G l = some (draws g0 g1 g2) → Alloc G (HO.tup [.int 1, .int 2]) (fun x H1 => 7 ≤ sizeLine ∧ Alloc H1 (HO.lst [.int 0, .int 1, .str "a", x, .non, .bl true, .int 1000000000]) fun y H2 => spPick K [.ref l, y] H2 (fun x H1 => 2 ≤ sizeLine ∧ Alloc H1 (HO.tup [.str "leaf", x]) Q) E0) := fun {G g0 g1 g2} N L => Alloc.of fun t H1 n1 e1 s1 => ⟨by decide, Alloc.of fun F H2 n2 e2 s2 => by
      have L2' := s2 _ _ (s1 _ _ L)
      refine ⟨l, F, g0, g1, g2, _, rfl, L2', e2, (ne_of_none (s1 _ _ L) n2).symm, by show 0 < 7; decide, by show 7 < 1000; decide, fun j v e0 e1' e2' hj => ⟨le2, Alloc.of fun p H4 n4 e4 s4 => ?_⟩⟩
      have N4 : SameN l H H4 := (((N.trans (.of s1)).trans (.of s2)).trans .upd).trans (.of s4)
      have ht : H4 t = some (.tup [.int 1, .int 2]) := s4 _ _ (by rw [upd_ne (fun e => by subst e; rw [s1 _ _ L] at e1; cases e1)]; exact s2 _ _ e1)
      have hv : Lv v H4 := by
        match j, hj with
        | 0, hj => cases hj; exact .inl ⟨_, rfl⟩
        | 1, hj => cases hj; exact .inl ⟨_, rfl⟩
        | 2, hj => cases hj; exact .inr (.inr (.inl ⟨_, rfl⟩))
        | 3, hj => cases hj; exact .inr (.inr (.inr (.inr ⟨t, rfl, ht⟩)))
        | 4, hj => cases hj; exact .inr (.inr (.inr (.inl rfl)))
        | 5, hj => cases hj; exact .inr (.inl ⟨_, rfl⟩)
        | 6, hj => cases hj; exact .inl ⟨_, rfl⟩
      exact q _ H4 (.leaf v) e0 e1' e2' N4 (s4 _ _ upd_same) (.leaf e4 hv) (Nat.zero_le _)⟩
    rcases Nat.eq_zero_or_pos dp with rfl | hd0
    · refine ⟨_, PSs.nox (pss_cons (ps_if (PW.pt (pw_or (pt_cmpR op_eq (pv 2) pe_int (nomark _)) (pw_or1 (pt_cmpR op_eq (pe_call G_draw r1 rfl W.g_law_draw k_draw b_draw .nil pass0 (pa_cons (pv 0) (pa_cons pe_int pa_nil))) pe_int (nomark _))))) (pss_one (ps_ret (pe_tup (pa_cons pe_str (pa_cons (pe_call G_pick r2 rfl W.g_law_pick k_pick b_pick .nil pass0 (pa_cons (pv 0) (pa_cons (pe_lst (pa_cons pe_int (pa_cons pe_int (pa_cons pe_str (pa_cons (pe_tup (pa_cons pe_int (pa_cons pe_int pa_nil))) (pa_cons pe_non (pa_cons pe_bl (pa_cons (pe_op op_pow pe_int pe_int) pa_nil)))))))) pa_nil))) pa_nil))))) pss_nil)
    pss_never), ?_⟩
      simp -dsimp [tSeq, tAsg, tRet, tIfS, tIf, tTest, tVar, tCons, tNil, tC, tOp, tUn, rI, rI0, rU, tCB, tLst_A, tTup_A, gName, L2.start, CMul, CPow, CDiv, tDrop, tBM, tBM0, tNext, tPar, gSub, rSetL, rIxL, rIxT, tChain, tB, tNot, tNotV, tAnd, tOr, tAndV, tOrV, tFld, tCall, rIxLH, rIxTH, atI, ixN, upd_same, cxK, ex2, ex3, ex3b, rIs1, rIs2, rNe2, tyN, kb1, kb2, kb3, kb4, kb5, kb6, rEq, rNe, scal, tMake_S, tMakeK_S, tMakeN_S]
      exact ⟨le2, pk (SameN.of (Same.refl _)) hl⟩
    · obtain ⟨k, fdI, rfl, GI, bI⟩ : ∃ (k : Nat) (fd : FuncData), n = k + 1 ∧ FnOk P w K mg base CX0 (k + 10) (He.ga K "_law_grown") fd ["_law_draws", "_law_many", "_law_deep"] (spGrown K k) ∧ Binds K fd ["_law_draws", "_law_many", "_law_deep"] [] := by
        rcases deep with e | h
        · omega
        · exact h
      obtain ⟨dq, rfl⟩ : ∃ dq, dp = dq + 1 := ⟨dp - 1, by omega⟩
      have hI : Room (k + 10) _ := hr.mono (by omega)
      refine ⟨_, PSs.nox (pss_cons (ps_if (PW.pt (pw_or (pt_cmpR op_eq (pv 2) pe_int (nomark _)) (pw_or1 (pt_cmpR op_eq (pe_call G_draw r1 rfl W.g_law_draw k_draw b_draw .nil pass0 (pa_cons (pv 0) (pa_cons pe_int pa_nil))) pe_int (nomark _))))) (pss_one (ps_ret (pe_tup (pa_cons pe_str (pa_cons (pe_call G_pick r2 rfl W.g_law_pick k_pick b_pick .nil pass0 (pa_cons (pv 0) (pa_cons (pe_lst (pa_cons pe_int (pa_cons pe_int (pa_cons pe_str (pa_cons (pe_tup (pa_cons pe_int (pa_cons pe_int pa_nil))) (pa_cons pe_non (pa_cons pe_bl (pa_cons (pe_op op_pow pe_int pe_int) pa_nil)))))))) pa_nil))) pa_nil))))) pss_nil)
    (pss_one (ps_ret (pe_tup (pa_cons pe_str (pa_cons (pe_call G_row r3 rfl W.g_law_row k_row b_row .nil pass0 (pa_cons (pv 0) (pa_cons (pv 1) pa_nil))) (pa_cons (pe_call GI hI rfl W.g_law_grown F.kp bI .nil pass0 (pa_cons (pv 0) (pa_cons (pv 1) (pa_cons (pe_op op_sub (pv 2) pe_int) pa_nil)))) (pa_cons (pe_call GI hI rfl W.g_law_grown F.kp bI .nil pass0 (pa_cons (pv 0) (pa_cons (pv 1) (pa_cons (pe_op op_sub (pv 2) pe_int) pa_nil)))) pa_nil)))))))), ?_⟩
      simp -dsimp [tSeq, tAsg, tRet, tIfS, tIf, tTest, tVar, tCons, tNil, tC, tOp, tUn, rI, rI0, rU, tCB, tLst_A, tTup_A, gName, L2.start, CMul, CPow, CDiv, tDrop, tBM, tBM0, tNext, tPar, gSub, rSetL, rIxL, rIxT, tChain, tB, tNot, tNotV, tAnd, tOr, tAndV, tOrV, tFld, tCall, rIxLH, rIxTH, atI, ixN, upd_same, cxK, ex2, ex3, ex3b, rIs1, rIs2, rNe2, tyN, kb1, kb2, kb3, kb4, kb5, kb6, rEq, rNe, scal, tMake_S, tMakeK_S, tMakeN_S]
      rw [if_neg (by omega)]
      refine ⟨l, d0, d1, d2, 4, rfl, hl, by decide, by decide, fun x e0 e1 e2 _ _ => ⟨rfl, ?_⟩⟩
      have N1 : SameN l H (upd H l (draws e0 e1 e2)) := .upd
      have L1 : (upd H l (draws e0 e1 e2)) l = some (draws e0 e1 e2) := upd_same
      generalize upd H l (draws e0 e1 e2) = H1 at N1 L1
      split
      · exact ⟨le2, pk N1 L1⟩
      refine ⟨l, e0, e1, e2, many, rfl, L1, fun p H2 f0 f1 f2 n t0 t1 t2 wy st N2 L2' hro hn ht hz w0 w4 => ?_⟩
      have N4 : SameN l H H2 := N1.trans N2
      refine ⟨l, f0, f1, f2, many, dq, rfl, by omega, L2', m0, m3, fun vn H5 tn g0 g1 g2 N5 L5 hTn htn => ?_⟩
      have N5' := N4.trans N5
      refine ⟨l, g0, g1, g2, many, dq, rfl, by omega, L5, m0, m3, fun vy H6 ty h0 h1 h2 N6 L6 hTy hty => ?_⟩
      refine ⟨by decide, Alloc.of fun e H7 n7 e7 s7 => ?_⟩
      have k6 : KeepL H5 H7 := (KeepL.sameN L5 N6).trans (.of s7)
      refine q _ H7 (.ask ((n, t0, t1, t2), st, wy) tn ty) h0 h1 h2 ((N5'.trans N6).trans (.of s7)) (s7 _ _ L6) (.ask e7 (IsR.keepL hro ((KeepL.sameN L2' N5).trans k6)) ⟨hn, ht, fun j h3 hj => hz j h3 (by omega), w0, w4⟩ (hTn.keepL k6) (hTy.same s7)) ?_
      show max tn.ht ty.ht + 1 ≤ dq + 1
      omega
theorem ok_grown (W : Wd K mg) (n : Nat) : ∃ fd, FnOk P w K mg base CX0 (n + 10) (He.ga K "_law_grown") fd ["_law_draws", "_law_many", "_law_deep"] (spGrown K n) ∧ Binds K fd ["_law_draws", "_law_many", "_law_deep"] [] := by
  induction n with
  | zero => exact ok_grown0 W 0 (.inl rfl)
  | succ n ih =>
    obtain ⟨fd, G, b⟩ := ih
    exact ok_grown0 W (n + 1) (.inr ⟨n, fd, rfl, G, b⟩)
end
/-- a piece that is never come to -/
def tNeverE : TE := fun _ _ _ => False
theorem pe_never {X : Cx} {e : Expr} : PE X e tNeverE := ⟨fun _ _ _ _ _ _ h => h.elim⟩
section
variable {P : Program} {w : World} {K : PySem.W.Frag} {mg : Str → Option Value} {base : Heap} {fd : FuncData}
theorem scOfTerms : FnScope ["_law_code", "_law_x"] ["_law_code", "_law_x"] d_of_terms.scope := ⟨rfl, rfl, rfl, by decide +kernel, rfl, by decide +kernel, by decide +kernel⟩
def spOf (K : PySem.W.Frag) (n : Nat) : Sp := fun vs H Q _ => ∃ (m : Nat) (v : V) (t : GT) (px : Addr), vs = [v, .ref px] ∧ IsG H m v t ∧ XT K H px m ∧ 0 < m ∧ m ≤ 3 ∧ t.ht ≤ n ∧ ∀ v' H', Same H H' → IsW K H' v' t → Q v' H'
theorem ok_of_terms0 (W : Wd K mg) (n : Nat) (deep : n = 0 ∨ ∃ (k : Nat) (fd : FuncData), n = k + 1 ∧ FnOk P w K mg base CX0 (k + 10) (He.ga K "_law_of_terms") fd ["_law_code", "_law_x"] (spOf K k) ∧ Binds K fd ["_law_code", "_law_x"] []) :
    ∃ fd, FnOk P w K mg base CX0 (n + 10) (He.ga K "_law_of_terms") fd ["_law_code", "_law_x"] (spOf K n) ∧ Binds K fd ["_law_code", "_law_x"] [] := by
  obtain ⟨fd_said, G_said, b_said⟩ := ok_said (P := P) (w := w) (base := base) W
  have k_said : PySem.W.keepIn K (.ref (He.ga K "_law_said")) = true := by obtain ⟨fd, F⟩ := W.F_said; exact F.kp
  obtain ⟨fd, F⟩ := W.F_of_terms
  refine ⟨fd, F.ok scOfTerms (fun vs H Q E h => ?_) (fun cdv A outer s H vs Q E hr h => ?_), FunD.bindsN F fun _ _ _ _ _ _ us hl => match us, hl with | [_, _], _ => rfl⟩
  · obtain ⟨m, v, t, px, rfl, _⟩ := h
    rfl
  · obtain ⟨m, v, t, px, rfl, hT, hX, m0, m3, ht, q⟩ := h
    have r1 : Room 1 _ := hr.mono (by omega)
    have r2 : Room 2 _ := hr.mono (by omega)
    have r3 : Room 3 _ := hr.mono (by omega)
    have r4 : Room 4 _ := hr.mono (by omega)
    have r5 : Room 5 _ := hr.mono (by omega)
    have r6 : Room 6 _ := hr.mono (by omega)
    have r7 : Room 7 _ := hr.mono (by omega)
    have r8 : Room 8 _ := hr.mono (by omega)
    have r9 : Room 9 _ := hr.mono (by omega)
    cases hT with
    | @leaf p v' hp hv =>
      refine ⟨_, PSs.nox (pss_cons (ps_if (pt_cmpR op_eq (pe_ix ix_tupH (pv 0) pe_int (fun _ _ => rfl)) pe_str (nomark _)) (pss_one (ps_ret (pv 0))) pss_nil)
    pss_never), ?_⟩
      simp -dsimp [tSeq, tAsg, tRet, tIfS, tIf, tTest, tVar, tCons, tNil, tC, tOp, tUn, rI, rI0, rU, tCB, tLst_A, tTup_A, gName, L2.start, CMul, CPow, CDiv, tDrop, tBM, tBM0, tNext, tPar, gSub, rSetL, rIxL, rIxT, tChain, tB, tNot, tNotV, tAnd, tOr, tAndV, tOrV, tFld, tCall, rIxLH, rIxTH, atI, ixN, upd_same, cxK, ex2, ex3, ex3b, rIs1, rIs2, rNe2, tyN, kb1, kb2, kb3, kb4, kb5, kb6, rEq, rNe, scal, tMake_S, tMakeK_S, tMakeN_S, hp]
      exact q _ _ (Same.refl _) (.leaf hp hv)
    | @ask p z r no yes tn ty hp hz ok hn hy =>
      have ht : max tn.ht ty.ht + 1 ≤ n := ht
      obtain ⟨k, fdI, en, GI, bI⟩ : ∃ (k : Nat) (fdI : FuncData), n = k + 1 ∧ FnOk P w K mg base CX0 (k + 10) (He.ga K "_law_of_terms") fdI ["_law_code", "_law_x"] (spOf K k) ∧ Binds K fdI ["_law_code", "_law_x"] [] := by
        rcases deep with e | ⟨k', fd', e, G, b⟩
        · omega
        · exact ⟨k', fd', e, G, b⟩
      subst en
      have hI : Room (k + 10) _ := hr.mono (by omega)
      refine ⟨_, PSs.nox (pss_cons (ps_if (pt_cmpR op_eq (pe_ix ix_tupH (pv 0) pe_int (fun _ _ => rfl)) pe_str (nomark _)) pss_never pss_nil)
    (pss_one (ps_ret (pe_tup (pa_cons pe_str (pa_cons (pe_call G_said r9 rfl W.g_law_said k_said b_said .nil pass0 (pa_cons (pe_ix ix_tupH (pv 0) pe_int (fun _ _ => rfl)) (pa_cons (pv 1) pa_nil))) (pa_cons (pe_call GI hI rfl W.g_law_of_terms F.kp bI .nil pass0 (pa_cons (pe_ix ix_tupH (pv 0) pe_int (fun _ _ => rfl)) (pa_cons (pv 1) pa_nil))) (pa_cons (pe_call GI hI rfl W.g_law_of_terms F.kp bI .nil pass0 (pa_cons (pe_ix ix_tupH (pv 0) pe_int (fun _ _ => rfl)) (pa_cons (pv 1) pa_nil))) pa_nil)))))))), ?_⟩
      simp -dsimp [tSeq, tAsg, tRet, tIfS, tIf, tTest, tVar, tCons, tNil, tC, tOp, tUn, rI, rI0, rU, tCB, tLst_A, tTup_A, gName, L2.start, CMul, CPow, CDiv, tDrop, tBM, tBM0, tNext, tPar, gSub, rSetL, rIxL, rIxT, tChain, tB, tNot, tNotV, tAnd, tOr, tAndV, tOrV, tFld, tCall, rIxLH, rIxTH, atI, ixN, upd_same, cxK, ex2, ex3, ex3b, rIs1, rIs2, rNe2, tyN, kb1, kb2, kb3, kb4, kb5, kb6, rEq, rNe, scal, tMake_S, tMakeK_S, tMakeN_S, hp]
      rw [if_neg (by decide +kernel)]
      refine ⟨z, px, r.1.1, r.1.2.1, r.1.2.2.1, r.1.2.2.2, r.2.2, r.2.1, m, rfl, hz, hX, m0, m3, ok.n, ok.t, ok.z, ok.w0, ok.w4, fun w1 H1 s1 iw => ⟨_, s1 _ _ hp, no, rfl, m, no, tn, px, rfl, hn.same s1, hX.keepL (.of s1), m0, m3, by omega, fun vn H2 s2 hn2 => ⟨_, (s1.trans s2) _ _ hp, yes, rfl, m, yes, ty, px, rfl, hy.same (s1.trans s2), hX.keepL (.of (s1.trans s2)), m0, m3, by omega, fun vy H3 s3 hy3 => ⟨by decide, Alloc.of fun e H4 n4 e4 s4 => q _ _ (((s1.trans s2).trans s3).trans s4) (.ask e4 (RwR.keepL iw (.of ((s2.trans s3).trans s4))) (hn2.same (s3.trans s4)) (hy3.same s4))⟩⟩⟩⟩
theorem ok_of_terms (W : Wd K mg) (n : Nat) : ∃ fd, FnOk P w K mg base CX0 (n + 10) (He.ga K "_law_of_terms") fd ["_law_code", "_law_x"] (spOf K n) ∧ Binds K fd ["_law_code", "_law_x"] [] := by
  induction n with
  | zero => exact ok_of_terms0 W 0 (.inl rfl)
  | succ n ih =>
    obtain ⟨fd, G, b⟩ := ih
    exact ok_of_terms0 W (n + 1) (.inr ⟨n, fd, rfl, G, b⟩)
theorem scRowsOf : FnScope ["_law_code"] ["_law_code"] d_rows_of.scope := ⟨rfl, rfl, rfl, by decide +kernel, rfl, by decide +kernel, by decide +kernel⟩
/-- a row of ints at v -/
def Rr (m : Nat) (v : V) (r : RT) (H : Hp) : Prop := ∃ p, v = .ref p ∧ IsR H p r ∧ Ok10 m r
theorem Rr.keepL {m : Nat} {v : V} {r : RT} {H H' : Hp} (h : Rr m v r H) (k : KeepL H H') : Rr m v r H' := by
  obtain ⟨p, e, h, o⟩ := h
  exact ⟨p, e, h.keepL k, o⟩
theorem Rr.mono {m : Nat} : MonoR (Rr m) := fun b D xs v H H' hD s h => h.keepL (KeepL.sameN hD s)
def spRo2 (K : PySem.W.Frag) (n : Nat) : Sp := fun vs H Q _ => ∃ (m : Nat) (v : V) (t : GT), vs = [v] ∧ IsG H m v t ∧ t.ht ≤ n ∧ t.ht ≤ 10 ∧ ∀ (q : Addr) (ys : List V) H', Same H H' → H' q = some (.lst ys) → Rp (Rr m) H' ys t.rows → Q (.ref q) H'
theorem ok_rows_of0 (W : Wd K mg) (n : Nat) (deep : n = 0 ∨ ∃ (k : Nat) (fd : FuncData), n = k + 1 ∧ FnOk P w K mg base CX0 (k + 1) (He.ga K "_law_rows_of") fd ["_law_code"] (spRo2 K k) ∧ Binds K fd ["_law_code"] []) :
    ∃ fd, FnOk P w K mg base CX0 (n + 1) (He.ga K "_law_rows_of") fd ["_law_code"] (spRo2 K n) ∧ Binds K fd ["_law_code"] [] := by
  obtain ⟨fd, F⟩ := W.F_rows_of
  refine ⟨fd, F.ok scRowsOf (fun vs H Q E h => ?_) (fun cdv A outer s H vs Q E hr h => ?_), FunD.bindsN F fun _ _ _ _ _ _ us hl => match us, hl with | [_], _ => rfl⟩
  · obtain ⟨m, v, t, rfl, _⟩ := h
    rfl
  · obtain ⟨m, v, t, rfl, hT, ht, h10, q⟩ := h

    cases hT with
    | @leaf p v' hp hv =>
      refine ⟨_, PSs.nox (pss_cons (ps_if (pt_cmpR op_eq (pe_ix ix_tupH (pv 0) pe_int (fun _ _ => rfl)) pe_str (nomark _)) (pss_one (ps_ret (pe_lst pa_nil))) pss_nil)
    pss_never), ?_⟩
      simp -dsimp [tSeq, tAsg, tRet, tIfS, tIf, tTest, tVar, tCons, tNil, tC, tOp, tUn, rI, rI0, rU, tCB, tLst_A, tTup_A, gName, L2.start, CMul, CPow, CDiv, tDrop, tBM, tBM0, tNext, tPar, gSub, rSetL, rIxL, rIxT, tChain, tB, tNot, tNotV, tAnd, tOr, tAndV, tOrV, tFld, tCall, rIxLH, rIxTH, atI, ixN, upd_same, cxK, ex2, ex3, ex3b, rIs1, rIs2, rNe2, tyN, kb1, kb2, kb3, kb4, kb5, kb6, rEq, rNe, scal, tMake_S, tMakeK_S, tMakeN_S, hp]
      exact Alloc.of fun R H1 n1 e1 s1 => q R [] H1 s1 e1 Rp.nil
    | @ask p z r no yes tn ty hp hz ok hn hy =>
      have ht : max tn.ht ty.ht + 1 ≤ n := ht
      obtain ⟨k, fdI, en, GI, bI⟩ : ∃ (k : Nat) (fdI : FuncData), n = k + 1 ∧ FnOk P w K mg base CX0 (k + 1) (He.ga K "_law_rows_of") fdI ["_law_code"] (spRo2 K k) ∧ Binds K fdI ["_law_code"] [] := by
        rcases deep with e | ⟨k', fd', e, G, b⟩
        · omega
        · exact ⟨k', fd', e, G, b⟩
      subst en
      have hI : Room (k + 1) _ := hr.mono (by omega)
      refine ⟨_, PSs.nox (pss_cons (ps_if (pt_cmpR op_eq (pe_ix ix_tupH (pv 0) pe_int (fun _ _ => rfl)) pe_str (nomark _)) pss_never pss_nil)
    (pss_one (ps_ret (pe_op op_cat (pe_op op_cat (pe_lst (pa_cons (pe_ix ix_tupH (pv 0) pe_int (fun _ _ => rfl)) pa_nil)) (pe_call GI hI rfl W.g_law_rows_of F.kp bI .nil pass0 (pa_cons (pe_ix ix_tupH (pv 0) pe_int (fun _ _ => rfl)) pa_nil))) (pe_call GI hI rfl W.g_law_rows_of F.kp bI .nil pass0 (pa_cons (pe_ix ix_tupH (pv 0) pe_int (fun _ _ => rfl)) pa_nil)))))), ?_⟩
      simp -dsimp [tSeq, tAsg, tRet, tIfS, tIf, tTest, tVar, tCons, tNil, tC, tOp, tUn, rI, rI0, rU, tCB, tLst_A, tTup_A, gName, L2.start, CMul, CPow, CDiv, tDrop, tBM, tBM0, tNext, tPar, gSub, rSetL, rIxL, rIxT, tChain, tB, tNot, tNotV, tAnd, tOr, tAndV, tOrV, tFld, tCall, rIxLH, rIxTH, atI, ixN, upd_same, cxK, ex2, ex3, ex3b, rIs1, rIs2, rNe2, tyN, kb1, kb2, kb3, kb4, kb5, kb6, rEq, rNe, scal, tMake_S, tMakeK_S, tMakeN_S, hp]
      rw [if_neg (by decide +kernel)]
      have h10 : max tn.ht ty.ht + 1 ≤ 10 := h10
      have pw : ∀ {t : GT}, t.ht ≤ 10 → t.rows.length ≤ 1024 := fun {t} h => by
        have h1 := t.rows_len
        have h2 : 2 ^ t.ht ≤ 2 ^ 10 := Nat.pow_le_pow_right (by decide) h
        have h3 : (2 : Nat) ^ 10 = 1024 := by decide
        omega
      have szL : (5000 : Nat) ≤ sizeLine := by decide
      have ln := pw (t := tn) (by omega)
      have ly := pw (t := ty) (by omega)
      refine ⟨by decide, Alloc.of fun A1 H1 n1 e1 s1 => ⟨_, s1 _ _ hp, no, rfl, m, no, tn, rfl, hn.same s1, by omega, by omega, fun q1 ys1 H2 s2 hq1 hr1 => ?_⟩⟩
      have l1 := hr1.1
      refine ⟨A1, q1, [.ref z], ys1, rfl, rfl, s2 _ _ e1, hq1, by show 1 + ys1.length ≤ _; omega, fun A2 n2 => ?_⟩
      have s3 := same_upd n2 (o := HO.lst ([.ref z] ++ ys1))
      have s13 := (s1.trans s2).trans s3
      refine ⟨_, s13 _ _ hp, yes, rfl, m, yes, ty, rfl, hy.same s13, by omega, by omega, fun q2 ys2 H4 s4 hq2 hr2 => ?_⟩
      have l2 := hr2.1
      refine ⟨A2, q2, _, ys2, rfl, rfl, s4 _ _ upd_same, hq2, by rw [List.length_append]; show 1 + ys1.length + ys2.length ≤ _; omega, fun A3 n3 => ?_⟩
      have s5 := same_upd n3 (o := HO.lst ([.ref z] ++ ys1 ++ ys2))
      have k35 : KeepL H2 (upd H4 A3 (HO.lst ([.ref z] ++ ys1 ++ ys2))) := .of ((s3.trans s4).trans s5)
      exact q A3 _ _ (s13.trans (s4.trans s5)) upd_same ((Rp.cons ⟨z, rfl, hz.keepL (.of (s13.trans (s4.trans s5))), ok⟩ (hr1.mono fun v b h => h.keepL k35)).append (hr2.mono fun v b h => h.keepL (.of s5)))
theorem ok_rows_of (W : Wd K mg) (n : Nat) : ∃ fd, FnOk P w K mg base CX0 (n + 1) (He.ga K "_law_rows_of") fd ["_law_code"] (spRo2 K n) ∧ Binds K fd ["_law_code"] [] := by
  induction n with
  | zero => exact ok_rows_of0 W 0 (.inl rfl)
  | succ n ih =>
    obtain ⟨fd, G, b⟩ := ih
    exact ok_rows_of0 W (n + 1) (.inr ⟨n, fd, rfl, G, b⟩)
def spLed (K : PySem.W.Frag) : Sp := fun vs H Q _ => ∃ (m : Nat) (v vp : V) (t : GT) (pt : Pn) (C : Nat), vs = [v, vp] ∧ IsG H m v t ∧ Pr vp pt H ∧ C ≤ 150 ∧ Ff C pt.1 ∧ Ff C pt.2.1 ∧ Ff C pt.2.2 ∧ Q (t.go fun r => hldF r.1 r.2.1 pt) H
theorem scLed : FnScope ["_law_code", "_law_point"] ["_law_code", "_law_point"] d_led.scope := ⟨rfl, rfl, rfl, by decide +kernel, rfl, by decide +kernel, by decide +kernel⟩
theorem ok_led (W : Wd K mg) : ∃ fd, FnOk P w K mg base CX0 3 (He.ga K "_law_led") fd ["_law_code", "_law_point"] (spLed K) ∧ Binds K fd ["_law_code", "_law_point"] [] := by
  obtain ⟨fd_holds, G_holds, b_holds⟩ := ok_holds (P := P) (w := w) (base := base) W
  have k_holds : PySem.W.keepIn K (.ref (He.ga K "_law_holds")) = true := by obtain ⟨fd, F⟩ := W.F_holds; exact F.kp
  obtain ⟨fd, F⟩ := W.F_led
  refine ⟨fd, F.ok scLed (fun vs H Q E h => ?_) (fun cdv A outer s H vs Q E hr h => ?_), FunD.bindsN F fun _ _ _ _ _ _ us hl => match us, hl with | [_, _], _ => rfl⟩
  · obtain ⟨m, v, vp, t, pt, C, rfl, _⟩ := h
    rfl
  · obtain ⟨m, v, vp, t, pt, C, rfl, hT, hv, hC, fx, fy, fz, q⟩ := h
    have r1 : Room 1 _ := hr.mono (by decide)
    have r2 : Room 2 _ := hr.mono (by decide)
    refine ⟨_, PSs.nox (pss_cons (ps_while PassesOwn.never (pt_cmpR op_eq (pe_ix ix_tupH (pv 0) pe_int (fun _ _ => rfl)) pe_str (nomark _)) (pss_one (ps_set (i := 0) scLed.nd rfl (Or.inl rfl) (pe_ifExp (pt_val (pe_call G_holds r2 rfl W.g_law_holds k_holds b_holds .nil pass0 (pa_cons (pe_ix ix_tupH (pv 0) pe_int (fun _ _ => rfl)) (pa_cons (pv 1) pa_nil)))) (pe_ix ix_tupH (pv 0) pe_int (fun _ _ => rfl)) (pe_ix ix_tupH (pv 0) pe_int (fun _ _ => rfl))))))
    (pss_one (ps_ret (pe_ix ix_tupH (pv 0) pe_int (fun _ _ => rfl))))), ?_⟩
    refine ⟨fun k σ' G => ∃ (u : V) (t' : GT), k = t'.ht ∧ σ' = [some u, some vp] ∧ G = H ∧ IsG H m u t' ∧ (t'.go fun r => hldF r.1 r.2.1 pt) = (t.go fun r => hldF r.1 r.2.1 pt), ⟨_, v, t, rfl, rfl, rfl, hT, rfl⟩, ?_⟩
    rintro k σ' G ⟨u, t', rfl, rfl, rfl, hT', eg⟩
    cases hT' with
    | @leaf p w hp' hv' =>
      simp -dsimp [tSeq, tAsg, tRet, tIfS, tIf, tTest, tVar, tCons, tNil, tC, tOp, tUn, rI, rI0, rU, tCB, tLst_A, tTup_A, gName, L2.start, CMul, CPow, CDiv, tDrop, tBM, tBM0, tNext, tPar, gSub, rSetL, rIxL, rIxT, tChain, tB, tNot, tNotV, tAnd, tOr, tAndV, tOrV, tFld, tCall, rIxLH, rIxTH, atI, ixN, upd_same, cxK, ex2, ex3, ex3b, rIs1, rIs2, rNe2, tyN, kb1, kb2, kb3, kb4, kb5, kb6, rEq, rNe, scal, tMake_S, tMakeK_S, tMakeN_S, hp']
      rw [if_neg (by decide +kernel)]
      rw [← eg] at q
      exact q
    | @ask p z r no yes tn ty hp' hz ok hn hy =>
      simp -dsimp [tSeq, tAsg, tRet, tIfS, tIf, tTest, tVar, tCons, tNil, tC, tOp, tUn, rI, rI0, rU, tCB, tLst_A, tTup_A, gName, L2.start, CMul, CPow, CDiv, tDrop, tBM, tBM0, tNext, tPar, gSub, rSetL, rIxL, rIxT, tChain, tB, tNot, tNotV, tAnd, tOr, tAndV, tOrV, tFld, tCall, rIxLH, rIxTH, atI, ixN, upd_same, cxK, ex2, ex3, ex3b, rIs1, rIs2, rNe2, tyN, kb1, kb2, kb3, kb4, kb5, kb6, rEq, rNe, scal, tMake_S, tMakeK_S, tMakeN_S, hp']
      refine ⟨fun σ' H' => ∃ u t'', GT.ht t'' < (GT.ask r tn ty).ht ∧ σ' = [some u, some vp] ∧ H' = G ∧ IsG G m u t'' ∧ (t''.go fun r => hldF r.1 r.2.1 pt) = (t.go fun r => hldF r.1 r.2.1 pt), fun σ' H' ⟨u, t'', h1, h2⟩ => ⟨t''.ht, h1, u, t'', rfl, h2⟩, ?_⟩
      obtain ⟨q0, hz1, hz2⟩ := hz
      refine ⟨z, q0, vp, r.1, pt, r.2.1, _, 1, C, rfl, hz1, hz2, hv, by decide, hC, ok.rb, fx, fy, fz, ?_⟩
      have eg : (if hldF r.1 r.2.1 pt then ty.go fun r => hldF r.1 r.2.1 pt else tn.go fun r => hldF r.1 r.2.1 pt) = (t.go fun r => hldF r.1 r.2.1 pt) := eg
      cases hf : hldF r.1 r.2.1 pt with
      | true =>
        rw [hf, if_pos rfl] at eg
        exact .inr ⟨rfl, _, hp', yes, rfl, yes, ty, by show ty.ht < max tn.ht ty.ht + 1; omega, rfl, rfl, hy, eg⟩
      | false =>
        rw [hf, if_neg (by decide)] at eg
        exact .inl ⟨rfl, _, hp', no, rfl, no, tn, by show tn.ht < max tn.ht ty.ht + 1; omega, rfl, rfl, hn, eg⟩

end
/-! ### the sign of a row at a point -/
theorem add_w {m n : Int × Int} {a b d e : Int} (hm : m.2 ≠ 0) (hn : n.2 ≠ 0) (h1 : Cm m a d) (h2 : Cm n b e) : (pAdd m n).1 * (d * e) = (a * e + b * d) * (pAdd m n).2 := by
  have hy : m.2 * n.2 ≠ 0 := Int.mul_ne_zero hm hn
  have c := lo_cross (x := m.1 * n.2 + n.1 * m.2) hy
  have c' : (pAdd m n).1 * (m.2 * n.2) = (m.1 * n.2 + n.1 * m.2) * (pAdd m n).2 := c
  unfold Cm at h1 h2
  refine Int.eq_of_mul_eq_mul_right hy ?_
  generalize pAdd m n = p at c'
  grind
theorem Cm.add {m n : Int × Int} {a b d e : Int} (hm : m.2 ≠ 0) (hn : n.2 ≠ 0) (h1 : Cm m a d) (h2 : Cm n b e) : Cm (pAdd m n) (a * e + b * d) (d * e) := add_w hm hn h1 h2
theorem Cm.mulC {a : Int} {c : Int × Int} {A d : Int} (hc : c.2 ≠ 0) (h : Cm c A d) : Cm (pMul (a, 1) c) (a * A) d := by
  have h1 := Cm.mul a hc
  unfold Cm at *
  refine Int.eq_of_mul_eq_mul_right hc ?_
  generalize pMul (a, 1) c = p at h1
  grind
theorem Cm.sign {u : Int × Int} {S D : Int} (h : Cm u S D) (hu : 0 < u.2) (hD : 0 < D) : (0 < u.1 ↔ 0 < S) ∧ (0 ≤ u.1 ↔ 0 ≤ S) := by
  unfold Cm at h
  have p1 : 0 < u.1 → 0 < u.1 * D := fun k => Int.mul_pos k hD
  have p2 : 0 < S → 0 < S * u.2 := fun k => Int.mul_pos k hu
  have n1 : u.1 < 0 → u.1 * D < 0 := fun k => Int.mul_neg_of_neg_of_pos k hD
  have n2 : S < 0 → S * u.2 < 0 := fun k => Int.mul_neg_of_neg_of_pos k hu
  have z1 : u.1 = 0 → u.1 * D = 0 := fun k => by rw [k, Int.zero_mul]
  have z2 : S = 0 → S * u.2 = 0 := fun k => by rw [k, Int.zero_mul]
  refine ⟨⟨fun k => ?_, fun k => ?_⟩, ⟨fun k => ?_, fun k => ?_⟩⟩
  all_goals (rcases Int.lt_trichotomy u.1 0 with a | a | a <;> rcases Int.lt_trichotomy S 0 with b | b | b <;> first | omega | (have := n1 a; have := p2 b; omega) | (have := n1 a; have := z2 b; omega) | (have := z1 a; have := n2 b; omega) | (have := z1 a; have := p2 b; omega) | (have := p1 a; have := n2 b; omega) | (have := p1 a; have := z2 b; omega))
def sN (b0 : Int) (b A d : Nat → Int) : Nat → Int × Int
  | 0 => (b0, 1)
  | k + 1 => ((sN b0 b A d k).1 * d k + b k * A k * (sN b0 b A d k).2, (sN b0 b A d k).2 * d k)
theorem wat_sN {b0 : Int} {b A d : Nat → Int} {c : Nat → Int × Int} {n : Nat} (h0 : b0.natAbs < 10 ^ 13) (hb : ∀ j, (b j).natAbs < 10 ^ 13) (hg : ∀ j, j < n → Gd 40 (c j)) (hc : ∀ j, j < n → Cm (c j) (A j) (d j) ∧ 0 < d j) : ∀ k, k ≤ n → 0 < (sN b0 b A d k).2 ∧ Cm (wat (b0, 1) (fun j => (b j, 1)) c k) (sN b0 b A d k).1 (sN b0 b A d k).2
  | 0, _ => ⟨(by decide : (0 : Int) < 1), rfl⟩
  | k + 1, h => by
    obtain ⟨h1, h2⟩ := wat_sN h0 hb hg hc k (by omega)
    obtain ⟨c1, c2⟩ := hc k (by omega)
    have gc := hg k (by omega)
    have gn : ∀ j, Gd 13 ((fun j => (b j, 1) : Nat → Int × Int) j) := fun j => Gd.int (hb j)
    have w1 := wat_gd (m := (b0, 1)) (t := fun j => (b j, 1)) (Gd.int h0) gn hg k (by omega)
    exact ⟨Int.mul_pos h1 c2, Cm.add w1.ne ((gn k).mul gc).ne h2 (c1.mulC gc.ne)⟩
def pN (t : Pn) : Nat → Fr
  | 0 => t.1
  | 1 => t.2.1
  | _ => t.2.2
theorem n3_ints (a b c : Int) : n3 (a, 1) (b, 1) (c, 1) = fun j => (i3 a b c j, 1) := by
  funext j
  match j with
  | 0 => rfl
  | 1 => rfl
  | j + 2 => rfl
theorem sgn_mul {S G : Int} (hG : 0 < G) : (0 < S * G ↔ 0 < S) ∧ (0 ≤ S * G ↔ 0 ≤ S) := by
  have p : 0 < S → 0 < S * G := fun h => Int.mul_pos h hG
  have n : S < 0 → S * G < 0 := fun h => Int.mul_neg_of_neg_of_pos h hG
  have z : S = 0 → S * G = 0 := fun h => by rw [h, Int.zero_mul]
  rcases Int.lt_trichotomy S 0 with h | h | h
  · have := n h; omega
  · have := z h; omega
  · have := p h; omega
theorem dec_cg {a b : Prop} [Decidable a] [Decidable b] (h : a ↔ b) : decide a = decide b := decide_eq_decide.mpr h
theorem hldF_eq {r : RI} {st : Bool} {t : Pn} {u : Int} (h : (0 < u ↔ 0 < numF r t) ∧ (0 ≤ u ↔ 0 ≤ numF r t)) : (if st then decide (0 < u) else decide (0 ≤ u)) = hldF r st t := by
  unfold hldF
  cases st with
  | true =>
    rw [if_pos rfl, Bool.not_true, Bool.and_false, Bool.or_false]
    exact dec_cg h.1
  | false =>
    rw [if_neg (by decide), Bool.not_false, Bool.and_true, ← Bool.decide_or]
    exact dec_cg (h.2.trans ⟨fun h => by omega, fun h => by omega⟩)
theorem num1 {b0 b1 G x0 x1 x2 d0 d1 d2 u v : Int} (hu : u = 0) (hv : v = 0) : b0 * G * d0 * d1 * d2 + b1 * G * x0 * d1 * d2 + u * x1 * d0 * d2 + v * x2 * d0 * d1 = (b0 * d0 + b1 * x0 * 1) * (G * (d1 * d2)) := by
  subst hu hv
  grind
theorem num2 {b0 b1 b2 G x0 x1 x2 d0 d1 d2 v : Int} (hv : v = 0) : b0 * G * d0 * d1 * d2 + b1 * G * x0 * d1 * d2 + b2 * G * x1 * d0 * d2 + v * x2 * d0 * d1 = ((b0 * d0 + b1 * x0 * 1) * d1 + b2 * x1 * (1 * d0)) * (G * d2) := by
  subst hv
  grind
theorem num3 {b0 b1 b2 b3 G x0 x1 x2 d0 d1 d2 : Int} : b0 * G * d0 * d1 * d2 + b1 * G * x0 * d1 * d2 + b2 * G * x1 * d0 * d2 + b3 * G * x2 * d0 * d1 = (((b0 * d0 + b1 * x0 * 1) * d1 + b2 * x1 * (1 * d0)) * d2 + b3 * x2 * (1 * d0 * d1)) * G := by
  grind
def RwOk (r : RT) : Prop := r.1.1.natAbs < 10 ^ 13 ∧ ∀ j, (tk r.1 j).natAbs < 10 ^ 13
def AllOk (t : GT) : Prop := ∀ r ∈ t.rows, RwOk r
theorem Ok10.rwOk {m : Nat} {r : RT} (h : Ok10 m r) : RwOk r := ⟨by have := h.n; omega, fun j => by have := h.t j; omega⟩
theorem hld_at {r : RT} {m : Nat} {t : Pn} {c : Nat → Int × Int} (ok : RwOk r) (hz : ∀ j : Nat, j < 3 → m ≤ j → tk r.1 j = 0) (m0 : 0 < m) (m3 : m ≤ 3) (hd : ∀ j, 0 < (pN t j).2) (hg : ∀ j, j < m → Gd 40 (c j)) (hc : ∀ j, j < m → Cm (c j) (pN t j).1 (pN t j).2) :
    (if r.2.1 then decide (0 < (wat (pr (g4 r.1.1 r.1.2.1 r.1.2.2.1 r.1.2.2.2) r.1.1, 1) (n3 (pr (g4 r.1.1 r.1.2.1 r.1.2.2.1 r.1.2.2.2) r.1.2.1, 1) (pr (g4 r.1.1 r.1.2.1 r.1.2.2.1 r.1.2.2.2) r.1.2.2.1, 1) (pr (g4 r.1.1 r.1.2.1 r.1.2.2.1 r.1.2.2.2) r.1.2.2.2, 1)) c (min 3 m)).1) else decide (0 ≤ (wat (pr (g4 r.1.1 r.1.2.1 r.1.2.2.1 r.1.2.2.2) r.1.1, 1) (n3 (pr (g4 r.1.1 r.1.2.1 r.1.2.2.1 r.1.2.2.2) r.1.2.1, 1) (pr (g4 r.1.1 r.1.2.1 r.1.2.2.1 r.1.2.2.2) r.1.2.2.1, 1) (pr (g4 r.1.1 r.1.2.1 r.1.2.2.1 r.1.2.2.2) r.1.2.2.2, 1)) c (min 3 m)).1)) = hldF r.1 r.2.1 t := by
  obtain ⟨⟨a0, a1, a2, a3⟩, st, wy⟩ := r
  have an : a0.natAbs < 10 ^ 13 := ok.1
  have at0 : a1.natAbs < 10 ^ 13 := ok.2 0
  have at1 : a2.natAbs < 10 ^ 13 := ok.2 1
  have at2 : a3.natAbs < 10 ^ 13 := ok.2 2
  have z1 : m ≤ 1 → a2 = 0 := fun h => hz 1 (by decide) h
  have z2 : m ≤ 2 → a3 = 0 := fun h => hz 2 (by decide) h
  refine hldF_eq ?_
  show (0 < (wat (pr (g4 a0 a1 a2 a3) a0, 1) (n3 (pr (g4 a0 a1 a2 a3) a1, 1) (pr (g4 a0 a1 a2 a3) a2, 1) (pr (g4 a0 a1 a2 a3) a3, 1)) c (min 3 m)).1 ↔ _) ∧ (0 ≤ (wat (pr (g4 a0 a1 a2 a3) a0, 1) (n3 (pr (g4 a0 a1 a2 a3) a1, 1) (pr (g4 a0 a1 a2 a3) a2, 1) (pr (g4 a0 a1 a2 a3) a3, 1)) c (min 3 m)).1 ↔ _)
  obtain ⟨d0, d1, d2, d3⟩ := g4_dvd a0 a1 a2 a3
  generalize g4 a0 a1 a2 a3 = g at d0 d1 d2 d3
  have e0 := pr_mul d0
  have e1 := pr_mul d1
  have e2 := pr_mul d2
  have e3 := pr_mul d3
  have lt : ∀ {x : Int}, x.natAbs < 10 ^ 13 → (pr g x).natAbs < 10 ^ 13 := fun h => Nat.lt_of_le_of_lt pr_le h
  have l0 := lt (x := a0) an
  have l1 := lt (x := a1) at0
  have l2 := lt (x := a2) at1
  have l3 := lt (x := a3) at2
  have hG : 0 < (if g = 0 then (1 : Int) else (g : Int)) := by split <;> omega
  generalize (if g = 0 then (1 : Int) else (g : Int)) = G at e0 e1 e2 e3 hG
  generalize pr g a0 = b0 at e0 l0
  generalize pr g a1 = b1 at e1 l1
  generalize pr g a2 = b2 at e2 l2
  generalize pr g a3 = b3 at e3 l3
  rw [n3_ints, Nat.min_eq_right m3]
  have hb : ∀ j, (i3 b1 b2 b3 j).natAbs < 10 ^ 13 := fun j => by
    match j with
    | 0 => exact l1
    | 1 => exact l2
    | j + 2 => exact l3
  obtain ⟨s1, s2⟩ := wat_sN (A := fun j => (pN t j).1) (d := fun j => (pN t j).2) l0 hb hg (fun j hj => ⟨hc j hj, hd j⟩) m (Nat.le_refl _)
  have gw := wat_gd (m := (b0, 1)) (t := fun j => (i3 b1 b2 b3 j, 1)) (Gd.int l0) (fun j => Gd.int (hb j)) hg m (Nat.le_refl _)
  have sg := s2.sign gw.low.1 s1
  have h1 := hd 1
  have h2 := hd 2
  have key : ∃ F : Int, 0 < F ∧ numF (a0, a1, a2, a3) t = (sN b0 (i3 b1 b2 b3) (fun j => (pN t j).1) (fun j => (pN t j).2) m).1 * F := by
    clear sg gw s1 s2 hb hg hc hd
    obtain ⟨⟨x0, y0⟩, ⟨x1, y1⟩, x2, y2⟩ := t
    subst e0 e1 e2 e3
    have hm : m = 1 ∨ m = 2 ∨ m = 3 := by omega
    rcases hm with rfl | rfl | rfl
    · refine ⟨G * (y1 * y2), Int.mul_pos hG (Int.mul_pos h1 h2), ?_⟩
      have q1 := z1 (Nat.le_refl _)
      have q2 := z2 (by decide)
      exact num1 q1 q2
    · refine ⟨G * y2, Int.mul_pos hG h2, ?_⟩
      have q2 := z2 (Nat.le_refl _)
      exact num2 q2
    · refine ⟨G, hG, ?_⟩
      exact num3
  obtain ⟨F, hF, e⟩ := key
  have q := sgn_mul (S := (sN b0 (i3 b1 b2 b3) (fun j => (pN t j).1) (fun j => (pN t j).2) m).1) hF
  show (_ ↔ 0 < numF (a0, a1, a2, a3) t) ∧ (_ ↔ 0 ≤ numF (a0, a1, a2, a3) t)
  rw [e]
  exact ⟨sg.1.trans q.1.symm, sg.2.trans q.2.symm⟩
theorem GT.paths_cons : ∀ (t : GT) (a p : List (RT × Bool)), t.paths (a ++ p) = (t.paths p).map fun e => (a ++ e.1, e.2)
  | .leaf v, a, p => rfl
  | .ask r n y, a, p => by
    show n.paths (a ++ p ++ [(r, false)]) ++ y.paths (a ++ p ++ [(r, true)]) = (n.paths (p ++ [(r, false)]) ++ y.paths (p ++ [(r, true)])).map _
    rw [List.append_assoc, List.append_assoc, paths_cons n, paths_cons y, List.map_append]
/-- asks behind one another -/
def chR (d : Nat → Int) (k : Nat) : RT := ((0 - (40 - (k : Int)), d 0, d 1, d 2), true, 0)
def chT (d : Nat → Int) : Nat → GT
  | 0 => .leaf (.int 0)
  | k + 1 => .ask (chR d (k + 1)) (.leaf (.int ((k + 1 : Nat) : Int))) (chT d k)
theorem chT_ht (d : Nat → Int) : ∀ k, (chT d k).ht = k
  | 0 => rfl
  | k + 1 => by
    show max 0 (chT d k).ht + 1 = _
    rw [chT_ht d k, Nat.zero_max]
theorem chT_paths (d : Nat → Int) (k : Nat) : (chT d (k + 1)).paths [] = ([(chR d (k + 1), false)], .int ((k + 1 : Nat) : Int)) :: ((chT d k).paths []).map fun e => ((chR d (k + 1), true) :: e.1, e.2) := by
  show [([(chR d (k + 1), false)], V.int ((k + 1 : Nat) : Int))] ++ (chT d k).paths ([(chR d (k + 1), true)] ++ []) = _
  rw [GT.paths_cons]
  rfl
theorem chT_len (d : Nat → Int) : ∀ k, ((chT d k).paths []).length = k + 1
  | 0 => rfl
  | k + 1 => by
    rw [chT_paths, List.length_cons, List.length_map, chT_len d k]
theorem chT_ok {d : Nat → Int} (hd : ∀ j, (d j).natAbs ≤ 1) : ∀ k, k ≤ 40 → AllOk (chT d k)
  | 0, _ => fun r h => by cases h
  | k + 1, hk => fun r h => by
    rcases List.mem_append.mp (show r ∈ [chR d (k + 1)] ++ (chT d k).rows from h) with h | h
    · rw [List.mem_singleton.mp h]
      refine ⟨by show (0 - (40 - ((k + 1 : Nat) : Int))).natAbs < _; omega, fun j => ?_⟩
      have h0 := hd 0
      have h1 := hd 1
      have h2 := hd 2
      match j with
      | 0 => show (d 0).natAbs < _; omega
      | 1 => show (d 1).natAbs < _; omega
      | j + 2 => show (d 2).natAbs < _; omega
    · exact chT_ok hd k (by omega) r h
theorem chT_go {d : Nat → Int} {f : RT → Bool} {w : Int} (hf : ∀ k, k ≤ 40 → f (chR d k) = decide (40 - (k : Int) < w)) : ∀ k, k ≤ 40 → (chT d k).go f = .int (if w ≤ 40 - (k : Int) then (k : Int) else if w ≤ 40 then 40 - w else 0)
  | 0, _ => by
    show V.int 0 = _
    congr 1
    repeat' split
    all_goals omega
  | k + 1, hk => by
    show (if f (chR d (k + 1)) then (chT d k).go f else V.int ((k + 1 : Nat) : Int)) = _
    rw [hf (k + 1) hk, chT_go hf k (by omega)]
    split
    · rename_i h
      have h := of_decide_eq_true h
      congr 1
      repeat' split
      all_goals omega
    · rename_i h
      have h : ¬ _ := fun c => h (decide_eq_true c)
      congr 1
      repeat' split
      all_goals omega
theorem mem_holds {x y : V} {a : Str} {v : V} (h : (a, v) ∈ [(("term" : Str), x), (("strict" : Str), y)]) : a ≠ "holds" := fun e => by
  subst e
  rcases List.mem_cons.mp h with h | h
  · exact absurd (show ("holds" : Str) = "term" from congrArg Prod.fst h) (by decide +kernel)
  · rcases List.mem_cons.mp h with h | h
    · exact absurd (show ("holds" : Str) = "strict" from congrArg Prod.fst h) (by decide +kernel)
    · cases h
section
variable {P : Program} {w : World} {K : PySem.W.Frag} {mg : Str → Option Value} {base : Heap} {fd : FuncData}
theorem Pt.same {K : PySem.W.Frag} {H H' : Hp} {p : Addr} {ys : List V} {c : Nat → Int × Int} (h : Pt K H p ys c) (s : Same H H') : Pt K H' p ys c := ⟨h.1.elim (fun e => .inl (s _ _ e)) (fun e => .inr (s _ _ e)), fun j v hj => ⟨(h.2 j v hj).1.same s, (h.2 j v hj).2⟩⟩
def spSide (K : PySem.W.Frag) : Sp := fun vs H Q _ => ∃ (p : Addr) (b : Bool) (x z n y : V), vs = [.ref p, .bl b] ∧ H p = some (.tup [x, z, n, y]) ∧ Q (if b then y else n) H
theorem scSide : FnScope ["tree", "answer"] ["tree", "answer"] d_side.scope := ⟨rfl, rfl, rfl, by decide +kernel, rfl, by decide +kernel, by decide +kernel⟩
theorem ok_side (W : Wd K mg) : ∃ fd, FnOk P w K mg base CX0 1 (He.ga K "side") fd ["tree", "answer"] (spSide K) ∧ Binds K fd ["tree", "answer"] [] := by
  obtain ⟨fd, F⟩ := W.F_side
  refine ⟨fd, F.ok scSide (fun vs H Q E h => ?_) (fun cdv A outer s H vs Q E hr h => ?_), FunD.bindsN F fun _ _ _ _ _ _ us hl => match us, hl with | [_, _], _ => rfl⟩
  · obtain ⟨p, b, _, _, _, _, rfl, _⟩ := h
    rfl
  · obtain ⟨p, b, x, z, n, y, rfl, hp, q⟩ := h

    refine ⟨_, PSs.nox (pss_one (ps_ret (pe_ifExp (pt_val (pv 1)) (pe_ix ix_tupH (pv 0) pe_int (fun _ _ => rfl)) (pe_ix ix_tupH (pv 0) pe_int (fun _ _ => rfl))))), ?_⟩
    simp -dsimp [tSeq, tAsg, tRet, tIfS, tIf, tTest, tVar, tCons, tNil, tC, tOp, tUn, rI, rI0, rU, tCB, tLst_A, tTup_A, gName, L2.start, CMul, CPow, CDiv, tDrop, tBM, tBM0, tNext, tPar, gSub, rSetL, rIxL, rIxT, tChain, tB, tNot, tNotV, tAnd, tOr, tAndV, tOrV, tFld, tCall, rIxLH, rIxTH, atI, ixN, upd_same, cxK, ex2, ex3, ex3b, rIs1, rIs2, rNe2, tyN, kb1, kb2, kb3, kb4, kb5, kb6, rEq, rNe, scal, tMake_S, tMakeK_S, tMakeN_S, hp]
    cases b
    · exact .inl ⟨rfl, q⟩
    · exact .inr ⟨rfl, q⟩

/-- a row of a tree at a point -/
def fAt (c : Nat → Int × Int) (n : Nat) (r : RT) : Bool := if r.2.1 then decide (0 < (wat (pr (g4 r.1.1 r.1.2.1 r.1.2.2.1 r.1.2.2.2) r.1.1, 1) (n3 (pr (g4 r.1.1 r.1.2.1 r.1.2.2.1 r.1.2.2.2) r.1.2.1, 1) (pr (g4 r.1.1 r.1.2.1 r.1.2.2.1 r.1.2.2.2) r.1.2.2.1, 1) (pr (g4 r.1.1 r.1.2.1 r.1.2.2.1 r.1.2.2.2) r.1.2.2.2, 1)) c (min 3 n)).1) else decide (0 ≤ (wat (pr (g4 r.1.1 r.1.2.1 r.1.2.2.1 r.1.2.2.2) r.1.1, 1) (n3 (pr (g4 r.1.1 r.1.2.1 r.1.2.2.1 r.1.2.2.2) r.1.2.1, 1) (pr (g4 r.1.1 r.1.2.1 r.1.2.2.1 r.1.2.2.2) r.1.2.2.1, 1) (pr (g4 r.1.1 r.1.2.1 r.1.2.2.1 r.1.2.2.2) r.1.2.2.2, 1)) c (min 3 n)).1)
def spWalk (K : PySem.W.Frag) : Sp := fun vs H Q _ => ∃ (v : V) (t : GT) (b : Addr) (ys : List V) (c : Nat → Int × Int), vs = [v, .ref b] ∧ IsW K H v t ∧ AllOk t ∧ Pt K H b ys c ∧ ∀ H', Same H H' → Q (t.go (fAt c ys.length)) H'
theorem scWalk : FnScope ["tree", "point", "at"] ["tree", "point"] d_walk.scope := ⟨rfl, rfl, rfl, by decide +kernel, rfl, by decide +kernel, by decide +kernel⟩
theorem ok_walk (W : Wd K mg) : ∃ fd, FnOk P w K mg base CX0 7 (He.ga K "walk") fd ["tree", "point"] (spWalk K) ∧ Binds K fd ["tree", "point"] [] := by
  obtain ⟨fd_side, G_side, b_side⟩ := ok_side (P := P) (w := w) (base := base) W
  have k_side : PySem.W.keepIn K (.ref (He.ga K "side")) = true := by obtain ⟨fd, F⟩ := W.F_side; exact F.kp
  obtain ⟨fd_Row_holds, G_Row_holds, b_Row_holds⟩ := ok_Row_holds (P := P) (w := w) (base := base) W
  obtain ⟨fd, F⟩ := W.F_walk
  refine ⟨fd, F.ok scWalk (fun vs H Q E h => ?_) (fun cdv A outer s H vs Q E hr h => ?_), FunD.bindsN F fun _ _ _ _ _ _ us hl => match us, hl with | [_, _], _ => rfl⟩
  · obtain ⟨v, t, b, ys, c, rfl, _⟩ := h
    rfl
  · obtain ⟨v, t, b, ys, c, rfl, hT, hok, hp, q⟩ := h
    have r1 : Room 1 _ := hr.mono (by decide)
    have r2 : Room 2 _ := hr.mono (by decide)
    have r3 : Room 3 _ := hr.mono (by decide)
    have r4 : Room 4 _ := hr.mono (by decide)
    have r5 : Room 5 _ := hr.mono (by decide)
    have r6 : Room 6 _ := hr.mono (by decide)
    refine ⟨_, PSs.nox (pss_cons (ps_set (i := 2) scWalk.nd rfl (Or.inl rfl) (pv 0))
    (pss_cons (ps_while PassesOwn.never (pt_cmpR op_eq (pe_ix ix_tupH (pv 2) pe_int (fun _ _ => rfl)) pe_str (nomark _)) (pss_one (ps_set (i := 2) scWalk.nd rfl (Or.inl rfl) (pe_call G_side r1 rfl W.g_side k_side b_side .nil pass0 (pa_cons (pv 2) (pa_cons (pe_meth (pe_ix ix_tupH (pv 2) pe_int (fun _ _ => rfl)) W.cls_Row W.m_Row_holds G_Row_holds r6 b_Row_holds .nil pass0 (pa_cons (pv 1) pa_nil)) pa_nil))))))
    (pss_one (ps_ret (pe_ix ix_tupH (pv 2) pe_int (fun _ _ => rfl)))))), ?_⟩
    refine ⟨v, rfl, ?_⟩
    refine ⟨fun k σ' G => ∃ (u : V) (t' : GT), k = t'.ht ∧ σ' = [some v, some (.ref b), some u] ∧ Same H G ∧ IsW K G u t' ∧ AllOk t' ∧ t'.go (fAt c ys.length) = t.go (fAt c ys.length), ⟨_, v, t, rfl, rfl, Same.refl _, hT, hok, rfl⟩, ?_⟩
    rintro k σ' G ⟨u, t', rfl, rfl, sG, hT', hok', eg⟩
    cases hT' with
    | @leaf p w hp' hv =>
      simp -dsimp [tSeq, tAsg, tRet, tIfS, tIf, tTest, tVar, tCons, tNil, tC, tOp, tUn, rI, rI0, rU, tCB, tLst_A, tTup_A, gName, L2.start, CMul, CPow, CDiv, tDrop, tBM, tBM0, tNext, tPar, gSub, rSetL, rIxL, rIxT, tChain, tB, tNot, tNotV, tAnd, tOr, tAndV, tOrV, tFld, tCall, rIxLH, rIxTH, atI, ixN, upd_same, cxK, ex2, ex3, ex3b, rIs1, rIs2, rNe2, tyN, kb1, kb2, kb3, kb4, kb5, kb6, rEq, rNe, scal, tMake_S, tMakeK_S, tMakeN_S, hp']
      rw [if_neg (by decide +kernel)]
      have := q G sG
      rw [← eg] at this
      exact this
    | @ask p z r no yes tn ty hp' hz hn hy =>
      simp -dsimp [tSeq, tAsg, tRet, tIfS, tIf, tTest, tVar, tCons, tNil, tC, tOp, tUn, rI, rI0, rU, tCB, tLst_A, tTup_A, gName, L2.start, CMul, CPow, CDiv, tDrop, tBM, tBM0, tNext, tPar, gSub, rSetL, rIxL, rIxT, tChain, tB, tNot, tNotV, tAnd, tOr, tAndV, tOrV, tFld, tCall, rIxLH, rIxTH, atI, ixN, upd_same, cxK, ex2, ex3, ex3b, rIs1, rIs2, rNe2, tyN, kb1, kb2, kb3, kb4, kb5, kb6, rEq, rNe, scal, tMake_S, tMakeK_S, tMakeN_S, hp', tMeth]
      obtain ⟨dz, tz, ez, it⟩ := id hz
      have rok : RwOk r := hok' r (List.mem_append_left _ (List.mem_cons_self ..))
      have g13 : ∀ {g : Nat} {i : Int}, i.natAbs < 10 ^ 13 → Gd 13 (pr g i, 1) := fun h => Gd.int (Nat.lt_of_le_of_lt pr_le h)
      refine ⟨fun σ' H' => ∃ u t'', GT.ht t'' < (GT.ask r tn ty).ht ∧ σ' = [some v, some (V.ref b), some u] ∧ Same H H' ∧ IsW K H' u t'' ∧ AllOk t'' ∧ t''.go (fAt c ys.length) = t.go (fAt c ys.length), fun σ' H' ⟨u, t'', h1, h2⟩ => ⟨t''.ht, h1, u, t'', rfl, h2⟩, dz, _, ez, fun a b h e => mem_holds h e.symm, ?_⟩
      refine ⟨z, b, r.2.1, _, _, _, _, ys, c, rfl, hz, hp.same sG, g13 rok.1, g13 (rok.2 0), g13 (rok.2 1), g13 (rok.2 2), fun H1 s1 => ⟨p, _, _, _, _, _, rfl, s1 _ _ hp', ?_⟩⟩
      have eg : (if fAt c ys.length r then ty.go (fAt c ys.length) else tn.go (fAt c ys.length)) = t.go (fAt c ys.length) := eg
      show ∃ u t'', GT.ht t'' < max tn.ht ty.ht + 1 ∧ [some v, some (V.ref b), some (if fAt c ys.length r then yes else no)] = [some v, some (V.ref b), some u] ∧ Same H H1 ∧ IsW K H1 u t'' ∧ AllOk t'' ∧ t''.go (fAt c ys.length) = t.go (fAt c ys.length)
      cases hf : fAt c ys.length r with
      | true =>
        rw [hf, if_pos rfl] at eg
        exact ⟨yes, ty, by omega, rfl, sG.trans s1, hy.same s1, fun r h => hok' r (List.mem_append_right _ h), eg⟩
      | false =>
        rw [hf, if_neg (by decide)] at eg
        exact ⟨no, tn, by omega, rfl, sG.trans s1, hn.same s1, fun r h => hok' r (List.mem_append_left _ (List.mem_cons_of_mem _ h)), eg⟩

end
/-- a loop over the tuple at a, kept shut -/
def ForT (K : PySem.W.Frag) (a : Addr) (g : TG) (tb : TS) (D : Ends) (σ : List (Option V)) (H : Hp) (_ : Lk (g, tb, D) := ⟨⟩) : Prop :=
  ∃ W : Nat → Nat → List (Option V) → Hp → Prop, (∃ m, W 0 m σ H) ∧ ∀ i m σ H, W i m σ H → ((Itt K a).stop i H ∧ D.nx σ H) ∨ ((Itt K a).go i H ∧ ∃ N : List (Option V) → Hp → Prop, (∀ σ' H', N σ' H' → ∃ m', m' < m ∧ W (i + 1) m' σ' H') ∧ ∀ x H', (Itt K a).yld i H x H' → g x σ H' fun σ2 H2 => tb { D with nx := N, ct := N, bk := D.nx } σ2 H2)
theorem tFor_iT {K : PySem.W.Frag} {tl : TE} {g : TG} {tb : TS} {D : Ends} {σ : List (Option V)} {H : Hp} : tFor (iTup K tl) g tb D σ H = tl σ H fun x H1 => ∃ a, x = .ref a ∧ (∃ xs, SqT K H1 a xs) ∧ ForT K a g tb D σ H1 := rfl
theorem lo_whole {a b : Int} (hb : 0 < b) (h : a % b = 0) : lo a b = (a.fdiv b, 1) := by
  have hd : b ∣ a := Int.dvd_of_emod_eq_zero h
  have e : side a b = b := by
    unfold side
    rw [if_pos hb]
    have : Int.gcd a b = b.natAbs := Nat.gcd_eq_right (Int.natAbs_dvd_natAbs.mpr hd)
    rw [this]
    omega
  unfold lo
  rw [e, Int.fdiv_self (by omega)]
theorem cutA {K : PySem.W.Frag} {xs : List V} {m : Nat} {Q : V → Hp → Prop} {pa : Addr} {H : Hp} (h : H pa = some (.tup xs)) (k : ∀ p H', Same H H' → H' p = some (.tup (xs.take m)) → Q (.ref p) H') : rSlA K (.ref pa) none (some (m : Int)) H Q := by
  refine ⟨pa, xs, rfl, SqT.of h, fun ⟨_, e⟩ => k pa H (Same.refl _) ?_, fun _ p n => k p _ (same_upd n) ?_⟩
  · rw [HT.sIx_nat] at e
    rw [h, List.take_of_length_le (by omega)]
  · rw [upd_same, cut_take]
theorem b40 {x : Nat} (h : x < 10 ^ 40) : x < big9 := Nat.lt_of_lt_of_le h (by unfold big9; exact Nat.le_trans (by decide : (10 : Nat) ^ 40 ≤ 2 ^ 200) (Nat.pow_le_pow_right (by decide) (by decide)))
section
variable {P : Program} {w : World} {K : PySem.W.Frag} {mg : Str → Option Value} {base : Heap} {fd : FuncData}
def spPas (K : PySem.W.Frag) : Sp := fun vs H Q _ => ∃ (l : Addr) (d0 d1 d2 : Int) (v : V) (pt : Pn) (m : Nat), vs = [.ref l, v, .int m] ∧ H l = some (draws d0 d1 d2) ∧ 0 < m ∧ m ≤ 3 ∧ Pr v pt H ∧ (∀ j, Ff 40 (pN pt j)) ∧
  ∀ (b : Addr) (ys : List V) (H' : Hp) (e0 e1 e2 : Int), SameN l H H' → H' l = some (draws e0 e1 e2) → Pt K H' b ys (fun j => lo (pN pt j).1 (pN pt j).2) → ys.length = m → Q (.ref b) H'
theorem scPassed : FnScope ["_law_draws", "_law_point", "_law_many", "_law_found", "_law_upper", "_law_lower", "_law_is_whole"] ["_law_draws", "_law_point", "_law_many"] d_passed.scope := ⟨rfl, rfl, rfl, by decide +kernel, rfl, by decide +kernel, by decide +kernel⟩
theorem ok_passed (W : Wd K mg) : ∃ fd, FnOk P w K mg base CX0 5 (He.ga K "_law_passed") fd ["_law_draws", "_law_point", "_law_many"] (spPas K) ∧ Binds K fd ["_law_draws", "_law_point", "_law_many"] [] := by
  obtain ⟨fd_init, G_init, F_init⟩ := ok_init (P := P) (w := w) (base := base) W
  obtain ⟨ds_init1, v_init1, b_init1⟩ := bind2 F_init
  obtain ⟨fd_draw, G_draw, b_draw⟩ := ok_draw (P := P) (w := w) (base := base) W
  have k_draw : PySem.W.keepIn K (.ref (He.ga K "_law_draw")) = true := by obtain ⟨fd, F⟩ := W.F_draw; exact F.kp
  obtain ⟨fd, F⟩ := W.F_passed
  refine ⟨fd, F.ok scPassed (fun vs H Q E h => ?_) (fun cdv A outer s H vs Q E hr h => ?_), FunD.bindsN F fun _ _ _ _ _ _ us hl => match us, hl with | [_, _, _], _ => rfl⟩
  · obtain ⟨l, _, _, _, v, _, m, rfl, _⟩ := h
    rfl
  · obtain ⟨l, d0, d1, d2, v, pt, m, rfl, hl, m0, m3, hv, hf, q⟩ := h
    have r1 : Room 1 _ := hr.mono (by decide)
    have r2 : Room 2 _ := hr.mono (by decide)
    have r3 : Room 3 _ := hr.mono (by decide)
    have r4 : Room 4 _ := hr.mono (by decide)
    refine ⟨_, PSs.nox (pss_cons (ps_set (i := 3) scPassed.nd rfl (Or.inl rfl) (pe_lst pa_nil))
    (pss_cons (ps_for PassesOwn.never rfl (pi_tup (pe_slice sl_tupA (pv 1) po_none (po_some (pv 2)))) (pg_tup rfl (pgs_cons (pg_name (i := 4) scPassed.nd rfl (Or.inl rfl)) (pgs_cons (pg_name (i := 5) scPassed.nd rfl (Or.inl rfl)) pgs_nil))) (pss_cons (ps_set (i := 6) scPassed.nd rfl (Or.inl rfl) (pe_and (pe_cmpR op_eq (pe_op op_mod (pe_callTy call_intI (by rfl) W.f_int (by decide +kernel) (pa_cons (pv 4) pa_nil)) (pe_callTy call_intI (by rfl) W.f_int (by decide +kernel) (pa_cons (pv 5) pa_nil))) pe_int (nomark _)) (pe_one (pe_cmpR op_eq (pe_call G_draw r1 rfl W.g_law_draw k_draw b_draw .nil pass0 (pa_cons (pv 0) (pa_cons pe_int pa_nil))) pe_int (nomark _)))))
    (pss_one (ps_expr (pe_bm PySem.F.plainAttrs_list PySem.F.slot_list_append PySem.F.type_list_append mt_append (pv 3) (pa_cons (pe_ifExp (pt_val (pv 6)) (pe_op op_fdivX (pv 4) (pv 5)) (pe_make W.mkr_Share G_init r3 rfl W.g_Share (bind3 F_init) .nil pass0 (pa_cons (pv 4) (pa_cons (pv 5) pa_nil)))) pa_nil))))))
    (pss_one (ps_ret (pe_ifExp (pt_cmpR op_eq (pe_call G_draw r1 rfl W.g_law_draw k_draw b_draw .nil pass0 (pa_cons (pv 0) (pa_cons pe_int pa_nil))) pe_int (nomark _)) (pv 3) (pe_callTy call_tuple_of (by rfl) W.f_tuple (by decide +kernel) (pa_cons (pv 3) pa_nil))))))), ?_⟩
    obtain ⟨pa, a, b, c, rfl, ha, hta, htb, htc⟩ := hv
    simp -dsimp [tSeq, tAsg, tRet, tIfS, tIf, tTest, tVar, tCons, tNil, tC, tOp, tUn, rI, rI0, rU, tCB, tLst_A, tTup_A, gName, L2.start, CMul, CPow, CDiv, tDrop, tBM, tBM0, tNext, tPar, gSub, rSetL, rIxL, rIxT, tChain, tB, tNot, tNotV, tAnd, tOr, tAndV, tOrV, tFld, tCall, rIxLH, rIxTH, atI, ixN, upd_same, cxK, ex2, ex3, ex3b, rIs1, rIs2, rNe2, tyN, kb1, kb2, kb3, kb4, kb5, kb6, rEq, rNe, scal, tMake_S, tMakeK_S, tMakeN_S, tFor_iT, tSl, tPart, tNoPart]
    have ht3 : ∀ (j : Nat) (v : V), ([a, b, c] : List V)[j]? = some v → Tp v (pN pt j) H := fun j v hj => by
      match j, hj with
      | 0, hj => cases hj; exact hta
      | 1, hj => cases hj; exact htb
      | 2, hj => cases hj; exact htc
    refine Alloc.of fun R H1 n1 e1 s1 => cutA (s1 _ _ ha) fun pp H2 s2 hp2 => ⟨pp, rfl, ⟨_, SqT.of hp2⟩, ?_⟩
    have s12 := s1.trans s2
    have nRl : R ≠ l := (ne_of_none hl n1).symm
    have l3 : (([a, b, c] : List V).take m).length = m := by
      rw [List.length_take]
      show min m 3 = m
      omega
    unfold ForT
    refine for_it (walk_tup (K := K) (a := pp) (xs := [a, b, c].take m)) (fun i σ' G => ∃ (w4 w5 w6 : Option V) (rs : List V) (e0 e1 e2 : Int), σ' = [some (.ref l), some (.ref pa), some (.int m), some (.ref R), w4, w5, w6] ∧ SameN l H G ∧ KeepL H2 G ∧ G l = some (draws e0 e1 e2) ∧ G R = some (.lst rs) ∧ rs.length = i ∧ ∀ (j : Nat) (v : V), rs[j]? = some v → Nu K G v (lo (pN pt j).1 (pN pt j).2).1 (lo (pN pt j).1 (pN pt j).2).2) ⟨_, _, _, [], d0, d1, d2, rfl, .of s12, .of (Same.refl _), s12 _ _ hl, s2 _ _ e1, rfl, fun j v hj => by cases hj⟩ (fun i σ' G _ h => ?_) ?_ ?_
    · obtain ⟨_, _, _, _, _, _, _, _, _, k, _⟩ := h
      exact SqT.of (k _ _ hp2 (fun xs e => by cases e))
    · rintro i x σ' G G' hi ⟨w4, w5, w6, rs, f0, f1, f2, rfl, N, k2, L, hR, hrl, hrs⟩ ⟨rfl, fx⟩
      have fx3 : ([a, b, c] : List V)[i]? = some x := by
        rw [List.getElem?_take] at fx
        split at fx
        · exact fx
        · cases fx
      obtain ⟨r, rfl, hr0⟩ := ht3 i x fx3
      have ff := hf i
      generalize hfe : pN pt i = f at ff hr0
      have hrG := k2 _ _ (s12 _ _ hr0) (fun xs e => by cases e)
      refine tup2n hrG ?_
      have fin : ∀ {G1 : Hp} {x : V} {g0 g1 g2 : Int}, SameN l G' G1 → G1 l = some (draws g0 g1 g2) → Nu K G1 x (lo f.1 f.2).1 (lo f.1 f.2).2 → rAppend (.ref R) [x] G1 fun x H1 => SameN l H H1 ∧ KeepL H2 H1 ∧ (∃ x x_1 x_2, H1 l = some (draws x x_1 x_2)) ∧ ∃ x, H1 R = some (.lst x) ∧ x.length = i + 1 ∧ ∀ (j : Nat) (v : V), x[j]? = some v → Nu K H1 v (lo (pN pt j).1 (pN pt j).2).1 (lo (pN pt j).1 (pN pt j).2).2 := fun {G1 x g0 g1 g2} N1 L1 hx => by
        have hR1 := N1 _ _ nRl hR
        have k1 : KeepL G' G1 := KeepL.sameN L N1
        have k3 : KeepL G1 (upd G1 R (HO.lst (rs ++ [x]))) := KeepL.sameN hR1 .upd
        refine ⟨R, rs, x, rfl, rfl, hR1, small1000 (by omega), fun b o nb e => ?_, k2.trans (k1.trans k3), ⟨_, _, _, by rw [upd_ne nRl.symm]; exact L1⟩, _, upd_same, by rw [List.length_append, hrl]; rfl, fun j v hj => ?_⟩
        · rw [upd_ne (ne_of_none e n1)]
          exact N1 b o nb (N b o nb e)
        · rcases Nat.lt_or_ge j rs.length with h | h
          · rw [List.getElem?_append_left h] at hj
            exact (hrs j v hj).keepL (k1.trans k3)
          · have hlt := (List.getElem?_eq_some_iff.mp hj).1
            rw [List.length_append, List.length_singleton] at hlt
            have ej : j = i := by omega
            subst ej
            rw [List.getElem?_append_right h, hrl, Nat.sub_self] at hj
            cases hj
            rw [hfe]
            exact hx.keepL k3
      have mk : ∀ {G1 : Hp} {g0 g1 g2 : Int}, SameN l G' G1 → G1 l = some (draws g0 g1 g2) → MkS K G1 [.int f.1, .int f.2] (fun x H1 => rAppend (.ref R) [x] H1 fun x H1 => SameN l H H1 ∧ KeepL H2 H1 ∧ (∃ x x_1 x_2, H1 l = some (draws x x_1 x_2)) ∧ ∃ x, H1 R = some (.lst x) ∧ x.length = i + 1 ∧ ∀ (j : Nat) (v : V), x[j]? = some v → Nu K H1 v (lo (pN pt j).1 (pN pt j).2).1 (lo (pN pt j).1 (pN pt j).2).2) E0 := fun {G1 g0 g1 g2} N1 L1 => MkS.of rfl (by have := ff.pos; omega) (b40 ff.n2) fun z H' n iz s => fin (N1.trans (.of s)) (s _ _ L1) (.inl ⟨z, rfl, iz⟩)
      have tyR : ∀ {G1 : Hp}, SameN l G' G1 → tyV K "list" (.ref R) G1 := fun {G1} N1 => .inl ⟨rfl, _, SqL.of (N1 _ _ nRl hR)⟩
      simp -dsimp [tSeq, tAsg, tRet, tIfS, tIf, tTest, tVar, tCons, tNil, tC, tOp, tUn, rI, rI0, rU, tCB, tLst_A, tTup_A, gName, L2.start, CMul, CPow, CDiv, tDrop, tBM, tBM0, tNext, tPar, gSub, rSetL, rIxL, rIxT, tChain, tB, tNot, tNotV, tAnd, tOr, tAndV, tOrV, tFld, tCall, rIxLH, rIxTH, atI, ixN, upd_same, cxK, ex2, ex3, ex3b, rIs1, rIs2, rNe2, tyN, kb1, kb2, kb3, kb4, kb5, kb6, rEq, rNe, scal, tMake_S, tMakeK_S, tMakeN_S]
      refine ⟨ff.pos, ?_⟩
      split
      · rename_i hw
        refine ⟨l, f0, f1, f2, 2, rfl, L, by decide, by decide, fun x g0 g1 g2 x0 x1 => ⟨rfl, tyR .upd, ?_⟩⟩
        by_cases hx0 : x = 0
        · refine .inr ⟨by rw [hx0], ⟨by have := ff.pos; omega, b40 ff.n2⟩, fin .upd upd_same (.inr ⟨?_, ?_⟩)⟩
          · rw [lo_whole ff.pos hw]
          · rw [lo_whole ff.pos hw]
        · exact .inl ⟨fun e => hx0 (by injection e), mk .upd upd_same⟩
      · exact ⟨tyR (.of (Same.refl _)), mk (.of (Same.refl _)) L⟩
    · rintro σ' G ⟨w4, w5, w6, rs, f0, f1, f2, rfl, N, k2, L, hR, hrl, hrs⟩
      rw [l3] at hrl
      simp -dsimp [tSeq, tAsg, tRet, tIfS, tIf, tTest, tVar, tCons, tNil, tC, tOp, tUn, rI, rI0, rU, tCB, tLst_A, tTup_A, gName, L2.start, CMul, CPow, CDiv, tDrop, tBM, tBM0, tNext, tPar, gSub, rSetL, rIxL, rIxT, tChain, tB, tNot, tNotV, tAnd, tOr, tAndV, tOrV, tFld, tCall, rIxLH, rIxTH, atI, ixN, upd_same, cxK, ex2, ex3, ex3b, rIs1, rIs2, rNe2, tyN, kb1, kb2, kb3, kb4, kb5, kb6, rEq, rNe, scal, tMake_S, tMakeK_S, tMakeN_S]
      refine ⟨l, f0, f1, f2, 2, rfl, L, by decide, by decide, fun x g0 g1 g2 x0 x1 => ⟨rfl, ?_⟩⟩
      have k3 : KeepL G (upd G l (draws g0 g1 g2)) := KeepL.sameN L .upd
      have hR3 : (upd G l (draws g0 g1 g2)) R = some (.lst rs) := by rw [upd_ne nRl]; exact hR
      have gd : ∀ j, Gd 40 (lo (pN pt j).1 (pN pt j).2) := fun j => lo_gd (by have := (hf j).pos; omega) (hf j).n1 (hf j).n2
      split
      · exact q R rs _ g0 g1 g2 (N.trans .upd) upd_same ⟨.inl hR3, fun j v hj => ⟨(hrs j v hj).keepL k3, gd j⟩⟩ hrl
      · refine ⟨rs, .inl ⟨SqL.of hR3, fun l' nl => ?_⟩⟩
        have s4 := same_upd nl (o := HO.tup rs)
        exact q l' rs _ g0 g1 g2 ((N.trans .upd).trans (.of s4)) (s4 _ _ upd_same) ⟨.inr upd_same, fun j v hj => ⟨((hrs j v hj).keepL k3).same s4, gd j⟩⟩ hrl

end
theorem catIp {K : PySem.W.Frag} {a b : Addr} {path : List (RT × Bool)} {e : RT × Bool} {xs : List V} {yv : V} {Q : V → Hp → Prop} {H : Hp} (ha : H a = some (.tup xs)) (hr : Rp (Ia K) H xs path) (hb : H b = some (.tup [yv])) (hy : Ia K yv e H) (hl : path.length ≤ 100) (k : ∀ p H', Same H H' → Ip K (.ref p) (path ++ [e]) H' → Q (.ref p) H') : rCatA K (.ref a) (.ref b) H Q := by
  refine ⟨a, b, xs, [yv], rfl, rfl, SqT.of ha, SqT.of hb, ?_, fun h => k b H (Same.refl _) ⟨b, [yv], rfl, hb, ?_⟩, fun _ h => by (cases h), fun _ _ p n => k p _ (same_upd n) ⟨p, _, rfl, upd_same, (hr.mono fun v b h => h.keepL (.of (same_upd n))).append (Rp.one (hy.keepL (.of (same_upd n))))⟩⟩
  · have : (700 : Nat) ≤ sizeLine := by decide
    rw [hr.1]
    show path.length + 1 ≤ _
    omega
  · have : path = [] := hr.nil_iff.mp h
    subst this
    exact Rp.one hy
section
variable {P : Program} {w : World} {K : PySem.W.Frag} {mg : Str → Option Value} {base : Heap} {fd : FuncData}
theorem scListed : FnScope ["_law_code", "_law_x", "_law_path", "_law_row_here"] ["_law_code", "_law_x", "_law_path"] d_listed.scope := ⟨rfl, rfl, rfl, by decide +kernel, rfl, by decide +kernel, by decide +kernel⟩
def spLst (K : PySem.W.Frag) (n : Nat) : Sp := fun vs H Q _ => ∃ (m : Nat) (v vp : V) (t : GT) (px : Addr) (path : List (RT × Bool)), vs = [v, .ref px, vp] ∧ IsG H m v t ∧ XT K H px m ∧ 0 < m ∧ m ≤ 3 ∧ Ip K vp path H ∧ path.length + t.ht ≤ 100 ∧ t.ht ≤ n ∧ (t.paths path).length ≤ 2000 ∧ ∀ (q : Addr) (ys : List V) H', Same H H' → H' q = some (.lst ys) → Rp (Il K) H' ys (t.paths path) → Q (.ref q) H'
theorem ok_listed0 (W : Wd K mg) (n : Nat) (deep : n = 0 ∨ ∃ (k : Nat) (fd : FuncData), n = k + 1 ∧ FnOk P w K mg base CX0 (k + 10) (He.ga K "_law_listed") fd ["_law_code", "_law_x", "_law_path"] (spLst K k) ∧ Binds K fd ["_law_code", "_law_x", "_law_path"] []) :
    ∃ fd, FnOk P w K mg base CX0 (n + 10) (He.ga K "_law_listed") fd ["_law_code", "_law_x", "_law_path"] (spLst K n) ∧ Binds K fd ["_law_code", "_law_x", "_law_path"] [] := by
  obtain ⟨fd_said, G_said, b_said⟩ := ok_said (P := P) (w := w) (base := base) W
  have k_said : PySem.W.keepIn K (.ref (He.ga K "_law_said")) = true := by obtain ⟨fd, F⟩ := W.F_said; exact F.kp
  obtain ⟨fd, F⟩ := W.F_listed
  refine ⟨fd, F.ok scListed (fun vs H Q E h => ?_) (fun cdv A outer s H vs Q E hr h => ?_), FunD.bindsN F fun _ _ _ _ _ _ us hl => match us, hl with | [_, _, _], _ => rfl⟩
  · obtain ⟨m, v, vp, t, px, path, rfl, _⟩ := h
    rfl
  · obtain ⟨m, v, vp, t, px, path, rfl, hT, hX, m0, m3, hP, hpl, ht, h10, q⟩ := h
    have r1 : Room 1 _ := hr.mono (by omega)
    have r2 : Room 2 _ := hr.mono (by omega)
    have r3 : Room 3 _ := hr.mono (by omega)
    have r4 : Room 4 _ := hr.mono (by omega)
    have r5 : Room 5 _ := hr.mono (by omega)
    have r6 : Room 6 _ := hr.mono (by omega)
    have r7 : Room 7 _ := hr.mono (by omega)
    have r8 : Room 8 _ := hr.mono (by omega)
    have r9 : Room 9 _ := hr.mono (by omega)
    cases hT with
    | @leaf p v' hp hv =>
      refine ⟨_, PSs.nox (pss_cons (ps_if (pt_cmpR op_eq (pe_ix ix_tupH (pv 0) pe_int (fun _ _ => rfl)) pe_str (nomark _)) (pss_one (ps_ret (pe_lst (pa_cons (pe_tup (pa_cons (pv 2) (pa_cons (pe_ix ix_tupH (pv 0) pe_int (fun _ _ => rfl)) pa_nil))) pa_nil)))) pss_nil)
    pss_never), ?_⟩
      simp -dsimp [tSeq, tAsg, tRet, tIfS, tIf, tTest, tVar, tCons, tNil, tC, tOp, tUn, rI, rI0, rU, tCB, tLst_A, tTup_A, gName, L2.start, CMul, CPow, CDiv, tDrop, tBM, tBM0, tNext, tPar, gSub, rSetL, rIxL, rIxT, tChain, tB, tNot, tNotV, tAnd, tOr, tAndV, tOrV, tFld, tCall, rIxLH, rIxTH, atI, ixN, upd_same, cxK, ex2, ex3, ex3b, rIs1, rIs2, rNe2, tyN, kb1, kb2, kb3, kb4, kb5, kb6, rEq, rNe, scal, tMake_S, tMakeK_S, tMakeN_S, hp]
      exact ⟨le2, Alloc.of fun a H1 n1 e1 s1 => ⟨by decide, Alloc.of fun q1 H2 n2 e2 s2 => q q1 _ _ (s1.trans s2) e2 (Rp.one ⟨a, vp, rfl, s2 _ _ e1, hP.keepL (.of (s1.trans s2)), hv.keepL (.of (s1.trans s2))⟩)⟩⟩
    | @ask p z r no yes tn ty hp hz ok hn hy =>
      have ht : max tn.ht ty.ht + 1 ≤ n := ht
      obtain ⟨k, fdI, en, GI, bI⟩ : ∃ (k : Nat) (fdI : FuncData), n = k + 1 ∧ FnOk P w K mg base CX0 (k + 10) (He.ga K "_law_listed") fdI ["_law_code", "_law_x", "_law_path"] (spLst K k) ∧ Binds K fdI ["_law_code", "_law_x", "_law_path"] [] := by
        rcases deep with e | ⟨k', fd', e, G, b⟩
        · omega
        · exact ⟨k', fd', e, G, b⟩
      subst en
      have hI : Room (k + 10) _ := hr.mono (by omega)
      refine ⟨_, PSs.nox (pss_cons (ps_if (pt_cmpR op_eq (pe_ix ix_tupH (pv 0) pe_int (fun _ _ => rfl)) pe_str (nomark _)) pss_never pss_nil)
    (pss_cons (ps_set (i := 3) scListed.nd rfl (Or.inl rfl) (pe_call G_said r9 rfl W.g_law_said k_said b_said .nil pass0 (pa_cons (pe_ix ix_tupH (pv 0) pe_int (fun _ _ => rfl)) (pa_cons (pv 1) pa_nil))))
    (pss_one (ps_ret (pe_op op_cat (pe_call GI hI rfl W.g_law_listed F.kp bI .nil pass0 (pa_cons (pe_ix ix_tupH (pv 0) pe_int (fun _ _ => rfl)) (pa_cons (pv 1) (pa_cons (pe_op op_catA (pv 2) (pe_tup (pa_cons (pe_tup (pa_cons (pv 3) (pa_cons pe_bl pa_nil))) pa_nil))) pa_nil)))) (pe_call GI hI rfl W.g_law_listed F.kp bI .nil pass0 (pa_cons (pe_ix ix_tupH (pv 0) pe_int (fun _ _ => rfl)) (pa_cons (pv 1) (pa_cons (pe_op op_catA (pv 2) (pe_tup (pa_cons (pe_tup (pa_cons (pv 3) (pa_cons pe_bl pa_nil))) pa_nil))) pa_nil))))))))), ?_⟩
      simp -dsimp [tSeq, tAsg, tRet, tIfS, tIf, tTest, tVar, tCons, tNil, tC, tOp, tUn, rI, rI0, rU, tCB, tLst_A, tTup_A, gName, L2.start, CMul, CPow, CDiv, tDrop, tBM, tBM0, tNext, tPar, gSub, rSetL, rIxL, rIxT, tChain, tB, tNot, tNotV, tAnd, tOr, tAndV, tOrV, tFld, tCall, rIxLH, rIxTH, atI, ixN, upd_same, cxK, ex2, ex3, ex3b, rIs1, rIs2, rNe2, tyN, kb1, kb2, kb3, kb4, kb5, kb6, rEq, rNe, scal, tMake_S, tMakeK_S, tMakeN_S, hp]
      rw [if_neg (by decide +kernel)]
      obtain ⟨pa, pxs, rfl, hpa, hpr⟩ := id hP
      have hpl : path.length + (max tn.ht ty.ht + 1) ≤ 100 := hpl
      have h10 : (tn.paths (path ++ [(r, false)]) ++ ty.paths (path ++ [(r, true)])).length ≤ 2000 := h10
      rw [List.length_append] at h10
      have szL : (5000 : Nat) ≤ sizeLine := by decide
      refine ⟨z, px, r.1.1, r.1.2.1, r.1.2.2.1, r.1.2.2.2, r.2.2, r.2.1, m, rfl, hz, hX, m0, m3, ok.n, ok.t, ok.z, ok.w0, ok.w4, fun w1 H1 s1 iw => ⟨_, s1 _ _ hp, no, rfl, le2, Alloc.of fun t1 H2 n2 e2 s2 => ⟨by decide, Alloc.of fun t2 H3 n3 e3 s3 => ?_⟩⟩⟩
      have s13 := (s1.trans s2).trans s3
      refine catIp (e := (r, false)) (s13 _ _ hpa) (hpr.mono fun v b h => h.keepL (.of s13)) e3 ⟨t1, w1, rfl, s3 _ _ e2, RwR.keepL iw (.of (s2.trans s3))⟩ (by omega) fun p1 H4 s4 hp1 => ?_
      have s14 := s13.trans s4
      refine ⟨m, no, .ref p1, tn, px, path ++ [(r, false)], rfl, hn.same s14, hX.keepL (.of s14), m0, m3, hp1, by rw [List.length_append, List.length_singleton]; omega, by omega, by omega, fun q1 ys1 H5 s5 hq1 hr1 => ?_⟩
      have s15 := s14.trans s5
      refine ⟨_, s15 _ _ hp, yes, rfl, le2, Alloc.of fun t3 H6 n6 e6 s6 => ⟨by decide, Alloc.of fun t4 H7 n7 e7 s7 => ?_⟩⟩
      have s17 := (s15.trans s6).trans s7
      have iw7 : RwR K H7 w1 r := RwR.keepL iw (.of (((s2.trans s3).trans s4).trans ((s5.trans s6).trans s7)))
      refine catIp (e := (r, true)) (s17 _ _ hpa) (hpr.mono fun v b h => h.keepL (.of s17)) e7 ⟨t3, w1, rfl, s7 _ _ e6, iw7⟩ (by omega) fun p2 H8 s8 hp2 => ?_
      have s18 := s17.trans s8
      refine ⟨m, yes, .ref p2, ty, px, path ++ [(r, true)], rfl, hy.same s18, hX.keepL (.of s18), m0, m3, hp2, by rw [List.length_append, List.length_singleton]; omega, by omega, by omega, fun q2 ys2 H9 s9 hq2 hr2 => ?_⟩
      have s69 := ((s6.trans s7).trans s8).trans s9
      have l1 := hr1.1
      have l2 := hr2.1
      refine ⟨q1, q2, ys1, ys2, rfl, rfl, s69 _ _ hq1, hq2, by omega, fun q3 n3 => ?_⟩
      have s10 := same_upd n3 (o := HO.lst (ys1 ++ ys2))
      exact q q3 _ _ ((s18.trans s9).trans s10) upd_same ((hr1.mono fun v b h => h.keepL (.of (s69.trans s10))).append (hr2.mono fun v b h => h.keepL (.of s10)))
theorem ok_listed (W : Wd K mg) (n : Nat) : ∃ fd, FnOk P w K mg base CX0 (n + 10) (He.ga K "_law_listed") fd ["_law_code", "_law_x", "_law_path"] (spLst K n) ∧ Binds K fd ["_law_code", "_law_x", "_law_path"] [] := by
  induction n with
  | zero => exact ok_listed0 W 0 (.inl rfl)
  | succ n ih =>
    obtain ⟨fd, G, b⟩ := ih
    exact ok_listed0 W (n + 1) (.inr ⟨n, fd, rfl, G, b⟩)
theorem scLeavesBehind : FnScope ["path", "tree", "row"] ["path", "tree"] d_leaves_behind.scope := ⟨rfl, rfl, rfl, by decide +kernel, rfl, by decide +kernel, by decide +kernel⟩
def spLb (K : PySem.W.Frag) (n : Nat) : Sp := fun vs H Q _ => ∃ (v vp : V) (t : GT) (path : List (RT × Bool)), vs = [vp, v] ∧ IsW K H v t ∧ Ip K vp path H ∧ path.length + t.ht ≤ 100 ∧ t.ht ≤ n ∧ (t.paths path).length ≤ 2000 ∧ ∀ (q : Addr) (ys : List V) H', H q = none → Same H H' → H' q = some (.lst ys) → Rp (Il K) H' ys (t.paths path) → Q (.ref q) H'
theorem ok_leaves_behind0 (W : Wd K mg) (n : Nat) (deep : n = 0 ∨ ∃ (k : Nat) (fd : FuncData), n = k + 1 ∧ FnOk P w K mg base CX0 (k + 1) (He.ga K "leaves_behind") fd ["path", "tree"] (spLb K k) ∧ Binds K fd ["path", "tree"] []) :
    ∃ fd, FnOk P w K mg base CX0 (n + 1) (He.ga K "leaves_behind") fd ["path", "tree"] (spLb K n) ∧ Binds K fd ["path", "tree"] [] := by
  obtain ⟨fd, F⟩ := W.F_leaves_behind
  refine ⟨fd, F.ok scLeavesBehind (fun vs H Q E h => ?_) (fun cdv A outer s H vs Q E hr h => ?_), FunD.bindsN F fun _ _ _ _ _ _ us hl => match us, hl with | [_, _], _ => rfl⟩
  · obtain ⟨v, vp, t, path, rfl, _⟩ := h
    rfl
  · obtain ⟨v, vp, t, path, rfl, hT, hP, hpl, ht, h10, q⟩ := h

    cases hT with
    | @leaf p v' hp hv =>
      refine ⟨_, PSs.nox (pss_cons (ps_if (pt_cmpR op_eq (pe_ix ix_tupH (pv 1) pe_int (fun _ _ => rfl)) pe_str (nomark _)) (pss_one (ps_ret (pe_lst (pa_cons (pe_tup (pa_cons (pv 0) (pa_cons (pe_ix ix_tupH (pv 1) pe_int (fun _ _ => rfl)) pa_nil))) pa_nil)))) pss_nil)
    pss_never), ?_⟩
      simp -dsimp [tSeq, tAsg, tRet, tIfS, tIf, tTest, tVar, tCons, tNil, tC, tOp, tUn, rI, rI0, rU, tCB, tLst_A, tTup_A, gName, L2.start, CMul, CPow, CDiv, tDrop, tBM, tBM0, tNext, tPar, gSub, rSetL, rIxL, rIxT, tChain, tB, tNot, tNotV, tAnd, tOr, tAndV, tOrV, tFld, tCall, rIxLH, rIxTH, atI, ixN, upd_same, cxK, ex2, ex3, ex3b, rIs1, rIs2, rNe2, tyN, kb1, kb2, kb3, kb4, kb5, kb6, rEq, rNe, scal, tMake_S, tMakeK_S, tMakeN_S, hp]
      exact ⟨le2, Alloc.of fun a H1 n1 e1 s1 => ⟨by decide, Alloc.of fun q1 H2 n2 e2 s2 => q q1 _ _ (none_same s1 n2) (s1.trans s2) e2 (Rp.one ⟨a, vp, rfl, s2 _ _ e1, hP.keepL (.of (s1.trans s2)), hv.keepL (.of (s1.trans s2))⟩)⟩⟩
    | @ask p z r no yes tn ty hp hz hn hy =>
      have ht : max tn.ht ty.ht + 1 ≤ n := ht
      obtain ⟨k, fdI, en, GI, bI⟩ : ∃ (k : Nat) (fdI : FuncData), n = k + 1 ∧ FnOk P w K mg base CX0 (k + 1) (He.ga K "leaves_behind") fdI ["path", "tree"] (spLb K k) ∧ Binds K fdI ["path", "tree"] [] := by
        rcases deep with e | ⟨k', fd', e, G, b⟩
        · omega
        · exact ⟨k', fd', e, G, b⟩
      subst en
      have hI : Room (k + 1) _ := hr.mono (by omega)
      refine ⟨_, PSs.nox (pss_cons (ps_if (pt_cmpR op_eq (pe_ix ix_tupH (pv 1) pe_int (fun _ _ => rfl)) pe_str (nomark _)) pss_never pss_nil)
    (pss_cons (ps_set (i := 2) scLeavesBehind.nd rfl (Or.inl rfl) (pe_ix ix_tupH (pv 1) pe_int (fun _ _ => rfl)))
    (pss_one (ps_ret (pe_lst (StX.pa_star (pe_call GI hI rfl W.g_leaves_behind F.kp bI .nil pass0 (pa_cons (pe_tup (StX.pa_star (pv 0) (pa_cons (pe_tup (pa_cons (pv 2) (pa_cons pe_bl pa_nil))) pa_nil))) (pa_cons (pe_ix ix_tupH (pv 1) pe_int (fun _ _ => rfl)) pa_nil))) (StX.pa_star (pe_call GI hI rfl W.g_leaves_behind F.kp bI .nil pass0 (pa_cons (pe_tup (StX.pa_star (pv 0) (pa_cons (pe_tup (pa_cons (pv 2) (pa_cons pe_bl pa_nil))) pa_nil))) (pa_cons (pe_ix ix_tupH (pv 1) pe_int (fun _ _ => rfl)) pa_nil))) pa_nil))))))), ?_⟩
      simp -dsimp [tSeq, tAsg, tRet, tIfS, tIf, tTest, tVar, tCons, tNil, tC, tOp, tUn, rI, rI0, rU, tCB, tLst_A, tTup_A, gName, L2.start, CMul, CPow, CDiv, tDrop, tBM, tBM0, tNext, tPar, gSub, rSetL, rIxL, rIxT, tChain, tB, tNot, tNotV, tAnd, tOr, tAndV, tOrV, tFld, tCall, rIxLH, rIxTH, atI, ixN, upd_same, cxK, ex2, ex3, ex3b, rIs1, rIs2, rNe2, tyN, kb1, kb2, kb3, kb4, kb5, kb6, rEq, rNe, scal, tMake_S, tMakeK_S, tMakeN_S, hp, StX.tStar]
      rw [if_neg (by decide +kernel)]
      obtain ⟨pa, pxs, rfl, hpa, hpr⟩ := id hP
      have hpl : path.length + (max tn.ht ty.ht + 1) ≤ 100 := hpl
      have h10 : (tn.paths (path ++ [(r, false)]) ++ ty.paths (path ++ [(r, true)])).length ≤ 2000 := h10
      rw [List.length_append] at h10
      have szL : (5000 : Nat) ≤ sizeLine := by decide
      have pl := hpr.1
      refine ⟨pa, rfl, pxs, .inl (SqT.of hpa), le2, Alloc.of fun t1 H1 n1 e1 s1 => ⟨by omega, Alloc.of fun t2 H2 n2 e2 s2 => ?_⟩⟩
      have s12 := s1.trans s2
      have ip1 : Ip K (.ref t2) (path ++ [(r, false)]) H2 := ⟨t2, _, rfl, e2, (hpr.mono fun v b h => h.keepL (.of s12)).append (Rp.one ⟨t1, z, rfl, s2 _ _ e1, RwR.keepL hz (.of s12)⟩)⟩
      refine ⟨_, s12 _ _ hp, no, rfl, no, .ref t2, tn, path ++ [(r, false)], rfl, hn.same s12, ip1, by rw [List.length_append, List.length_singleton]; omega, by omega, by omega, fun q1 ys1 H3 n3 s3 hq1 hr1 => ?_⟩
      have s13 := s12.trans s3
      refine ⟨q1, rfl, ys1, .inr (SqL.of hq1), pa, rfl, pxs, .inl (SqT.of (s13 _ _ hpa)), le2, Alloc.of fun t3 H4 n4 e4 s4 => ⟨by omega, Alloc.of fun t4 H5 n5 e5 s5 => ?_⟩⟩
      have s15 := (s13.trans s4).trans s5
      have ip2 : Ip K (.ref t4) (path ++ [(r, true)]) H5 := ⟨t4, _, rfl, e5, (hpr.mono fun v b h => h.keepL (.of s15)).append (Rp.one ⟨t3, z, rfl, s5 _ _ e4, RwR.keepL hz (.of s15)⟩)⟩
      refine ⟨_, s15 _ _ hp, yes, rfl, yes, .ref t4, ty, path ++ [(r, true)], rfl, hy.same s15, ip2, by rw [List.length_append, List.length_singleton]; omega, by omega, by omega, fun q2 ys2 H6 n6 s6 hq2 hr2 => ?_⟩
      have l1 := hr1.1
      have l2 := hr2.1
      have s46 := (s4.trans s5).trans s6
      refine ⟨q2, rfl, ys2, .inr (SqL.of hq2), by omega, Alloc.of fun q3 H7 n7 e7 s7 => ?_⟩
      exact q q3 _ _ (none_same (s15.trans s6) n7) ((s15.trans s6).trans s7) e7 ((hr1.mono fun v b h => h.keepL (.of (s46.trans s7))).append (hr2.mono fun v b h => h.keepL (.of s7)))
theorem ok_leaves_behind (W : Wd K mg) (n : Nat) : ∃ fd, FnOk P w K mg base CX0 (n + 1) (He.ga K "leaves_behind") fd ["path", "tree"] (spLb K n) ∧ Binds K fd ["path", "tree"] [] := by
  induction n with
  | zero => exact ok_leaves_behind0 W 0 (.inl rfl)
  | succ n ih =>
    obtain ⟨fd, G, b⟩ := ih
    exact ok_leaves_behind0 W (n + 1) (.inr ⟨n, fd, rfl, G, b⟩)
def spLv (K : PySem.W.Frag) (n : Nat) : Sp := fun vs H Q _ => ∃ (v : V) (t : GT), vs = [v] ∧ IsW K H v t ∧ t.ht ≤ 100 ∧ t.ht ≤ n ∧ (t.paths []).length ≤ 2000 ∧ ∀ (q : Addr) (ys : List V) H', H q = none → Same H H' → H' q = some (.lst ys) → Rp (Il K) H' ys (t.paths []) → Q (.ref q) H'
theorem scLeaves : FnScope ["tree"] ["tree"] d_leaves.scope := ⟨rfl, rfl, rfl, by decide +kernel, rfl, by decide +kernel, by decide +kernel⟩
theorem ok_leaves (W : Wd K mg) (n : Nat) : ∃ fd, FnOk P w K mg base CX0 (n + 2) (He.ga K "leaves") fd ["tree"] (spLv K n) ∧ Binds K fd ["tree"] [] := by
  obtain ⟨fdI, GI, bI⟩ := ok_leaves_behind (P := P) (w := w) (base := base) W n
  obtain ⟨fd, F⟩ := W.F_leaves
  obtain ⟨fdB, FB⟩ := W.F_leaves_behind
  refine ⟨fd, F.ok scLeaves (fun vs H Q E h => ?_) (fun cdv A outer s H vs Q E hr h => ?_), FunD.bindsN F fun _ _ _ _ _ _ us hl => match us, hl with | [_], _ => rfl⟩
  · obtain ⟨v, t, rfl, _⟩ := h
    rfl
  · obtain ⟨v, t, rfl, hT, h100, hn, hS, q⟩ := h
    have hI : Room (n + 1) _ := hr.mono (by omega)
    refine ⟨_, PSs.nox (pss_one (ps_ret (pe_call GI hI rfl W.g_leaves_behind FB.kp bI .nil pass0 (pa_cons (pe_tup pa_nil) (pa_cons (pv 0) pa_nil))))), ?_⟩
    simp -dsimp [tSeq, tAsg, tRet, tIfS, tIf, tTest, tVar, tCons, tNil, tC, tOp, tUn, rI, rI0, rU, tCB, tLst_A, tTup_A, gName, L2.start, CMul, CPow, CDiv, tDrop, tBM, tBM0, tNext, tPar, gSub, rSetL, rIxL, rIxT, tChain, tB, tNot, tNotV, tAnd, tOr, tAndV, tOrV, tFld, tCall, rIxLH, rIxTH, atI, ixN, upd_same, cxK, ex2, ex3, ex3b, rIs1, rIs2, rNe2, tyN, kb1, kb2, kb3, kb4, kb5, kb6, rEq, rNe, scal, tMake_S, tMakeK_S, tMakeN_S]
    exact Alloc.of fun e H1 n1 e1 s1 => ⟨v, .ref e, t, [], rfl, hT.same s1, ⟨e, [], rfl, e1, Rp.nil⟩, by show 0 + t.ht ≤ 100; omega, hn, hS, fun q1 ys H' nq s hq hr1 => q q1 ys H' (none_same s1 nq) (s1.trans s) hq hr1⟩
theorem scDepth : FnScope ["tree"] ["tree"] d_depth.scope := ⟨rfl, rfl, rfl, by decide +kernel, rfl, by decide +kernel, by decide +kernel⟩
def spDep (K : PySem.W.Frag) (n : Nat) : Sp := fun vs H Q _ => ∃ (v : V) (t : GT), vs = [v] ∧ IsW K H v t ∧ t.ht ≤ n ∧ n ≤ 100 ∧ Q (.int t.ht) H
theorem ok_depth0 (W : Wd K mg) (n : Nat) (deep : n = 0 ∨ ∃ (k : Nat) (fd : FuncData), n = k + 1 ∧ FnOk P w K mg base CX0 (k + 1) (He.ga K "depth") fd ["tree"] (spDep K k) ∧ Binds K fd ["tree"] []) :
    ∃ fd, FnOk P w K mg base CX0 (n + 1) (He.ga K "depth") fd ["tree"] (spDep K n) ∧ Binds K fd ["tree"] [] := by
  obtain ⟨fd, F⟩ := W.F_depth
  refine ⟨fd, F.ok scDepth (fun vs H Q E h => ?_) (fun cdv A outer s H vs Q E hr h => ?_), FunD.bindsN F fun _ _ _ _ _ _ us hl => match us, hl with | [_], _ => rfl⟩
  · obtain ⟨v, t, rfl, _⟩ := h
    rfl
  · obtain ⟨v, t, rfl, hT, ht, n100, q⟩ := h

    cases hT with
    | @leaf p v' hp hv =>
      refine ⟨_, PSs.nox (pss_cons (ps_if (pt_cmpR op_eq (pe_ix ix_tupH (pv 0) pe_int (fun _ _ => rfl)) pe_str (nomark _)) (pss_one (ps_ret pe_int)) pss_nil)
    pss_never), ?_⟩
      simp -dsimp [tSeq, tAsg, tRet, tIfS, tIf, tTest, tVar, tCons, tNil, tC, tOp, tUn, rI, rI0, rU, tCB, tLst_A, tTup_A, gName, L2.start, CMul, CPow, CDiv, tDrop, tBM, tBM0, tNext, tPar, gSub, rSetL, rIxL, rIxT, tChain, tB, tNot, tNotV, tAnd, tOr, tAndV, tOrV, tFld, tCall, rIxLH, rIxTH, atI, ixN, upd_same, cxK, ex2, ex3, ex3b, rIs1, rIs2, rNe2, tyN, kb1, kb2, kb3, kb4, kb5, kb6, rEq, rNe, scal, tMake_S, tMakeK_S, tMakeN_S, hp]
      exact q
    | @ask p z r no yes tn ty hp hz hn hy =>
      have ht : max tn.ht ty.ht + 1 ≤ n := ht
      obtain ⟨k, fdI, en, GI, bI⟩ : ∃ (k : Nat) (fdI : FuncData), n = k + 1 ∧ FnOk P w K mg base CX0 (k + 1) (He.ga K "depth") fdI ["tree"] (spDep K k) ∧ Binds K fdI ["tree"] [] := by
        rcases deep with e | ⟨k', fd', e, G, b⟩
        · omega
        · exact ⟨k', fd', e, G, b⟩
      subst en
      have hI : Room (k + 1) _ := hr.mono (by omega)
      refine ⟨_, PSs.nox (pss_cons (ps_if (pt_cmpR op_eq (pe_ix ix_tupH (pv 0) pe_int (fun _ _ => rfl)) pe_str (nomark _)) pss_never pss_nil)
    (pss_one (ps_ret (pe_op op_add pe_int (pe_callB (call_max2 rfl) (by rfl) W.f_max (by decide +kernel) (pa_cons (pe_callTy call_intI (by rfl) W.f_int (by decide +kernel) (pa_cons (pe_call GI hI rfl W.g_depth F.kp bI .nil pass0 (pa_cons (pe_ix ix_tupH (pv 0) pe_int (fun _ _ => rfl)) pa_nil)) pa_nil)) (pa_cons (pe_callTy call_intI (by rfl) W.f_int (by decide +kernel) (pa_cons (pe_call GI hI rfl W.g_depth F.kp bI .nil pass0 (pa_cons (pe_ix ix_tupH (pv 0) pe_int (fun _ _ => rfl)) pa_nil)) pa_nil)) pa_nil))))))), ?_⟩
      simp -dsimp [tSeq, tAsg, tRet, tIfS, tIf, tTest, tVar, tCons, tNil, tC, tOp, tUn, rI, rI0, rU, tCB, tLst_A, tTup_A, gName, L2.start, CMul, CPow, CDiv, tDrop, tBM, tBM0, tNext, tPar, gSub, rSetL, rIxL, rIxT, tChain, tB, tNot, tNotV, tAnd, tOr, tAndV, tOrV, tFld, tCall, rIxLH, rIxTH, atI, ixN, upd_same, cxK, ex2, ex3, ex3b, rIs1, rIs2, rNe2, tyN, kb1, kb2, kb3, kb4, kb5, kb6, rEq, rNe, scal, tMake_S, tMakeK_S, tMakeN_S, hp]
      rw [if_neg (by decide +kernel)]
      have e : (1 + if (tn.ht : Int) < ty.ht then (ty.ht : Int) else tn.ht) = ((GT.ask r tn ty).ht : Nat) := by
        show _ = ((max tn.ht ty.ht + 1 : Nat) : Int)
        split <;> omega
      rw [← e] at q
      exact ⟨no, tn, rfl, hn, by omega, by omega, _, rfl, _, hp, yes, rfl, yes, ty, rfl, hy, by omega, by omega, _, rfl, q⟩
theorem ok_depth (W : Wd K mg) (n : Nat) : ∃ fd, FnOk P w K mg base CX0 (n + 1) (He.ga K "depth") fd ["tree"] (spDep K n) ∧ Binds K fd ["tree"] [] := by
  induction n with
  | zero => exact ok_depth0 W 0 (.inl rfl)
  | succ n ih =>
    obtain ⟨fd, G, b⟩ := ih
    exact ok_depth0 W (n + 1) (.inr ⟨n, fd, rfl, G, b⟩)
end
/-! ### lists of paths are the same -/
theorem GT.paths_rows : ∀ (t : GT) (p : List (RT × Bool)), ∀ e ∈ t.paths p, ∀ a ∈ e.1, a ∈ p ∨ a.1 ∈ t.rows
  | .leaf v, p, e, h, a, ha => by
    rw [List.mem_singleton.mp h] at ha
    exact .inl ha
  | .ask r n y, p, e, h, a, ha => by
    have cs : ∀ b, a ∈ p ++ [(r, b)] → a ∈ p ∨ a.1 ∈ (GT.ask r n y).rows := fun b hb => by
      rcases List.mem_append.mp hb with hb | hb
      · exact .inl hb
      · rw [List.mem_singleton.mp hb]
        exact .inr (List.mem_append_left _ (List.mem_cons_self ..))
    rcases List.mem_append.mp h with h | h
    · rcases paths_rows n _ e h a ha with h | h
      · exact cs _ h
      · exact .inr (List.mem_append_left _ (List.mem_cons_of_mem _ h))
    · rcases paths_rows y _ e h a ha with h | h
      · exact cs _ h
      · exact .inr (List.mem_append_right _ h)
theorem hP13 {i : Int} (h : i.natAbs < 10 ^ 13) : hP (i, 1) := ⟨h_of (Nat.lt_of_lt_of_le h (by decide)), h_of (show (1 : Int).natAbs < 10 ^ 60 by decide)⟩
theorem RwR.thE {K : PySem.W.Frag} {H : Hp} {z z' : Addr} {r : RT} (h : RwR K H z r) (k : RwR K H z' r) (ok : RwOk r) : ThE K H (.ref z) (.ref z') :=
  .rw h k (hP13 (Nat.lt_of_le_of_lt pr_le ok.1)) (hP13 (Nat.lt_of_le_of_lt pr_le (ok.2 0))) (hP13 (Nat.lt_of_le_of_lt pr_le (ok.2 1))) (hP13 (Nat.lt_of_le_of_lt pr_le (ok.2 2)))
theorem Ia.sm {K : PySem.W.Frag} {H : Hp} {u v : V} {a : RT × Bool} (n : Nat) (h : Ia K u a H) (k : Ia K v a H) (ok : RwOk a.1) : SmV K H (n + 1) u v := by
  obtain ⟨p, z, rfl, hp, hz⟩ := h
  obtain ⟨q, y, rfl, hq, hy⟩ := k
  refine .tup n hp hq rfl (show 2 ≤ 500 by decide) fun i x y ex ey => ?_
  match i, ex, ey with
  | 0, ex, ey => cases ex; cases ey; exact .thp _ (hz.thE hy ok)
  | 1, ex, ey => cases ex; cases ey; exact .bl _ _
theorem Ip.sm {K : PySem.W.Frag} {H : Hp} {u v : V} {p : List (RT × Bool)} (n : Nat) (h : Ip K u p H) (k : Ip K v p H) (ok : ∀ a ∈ p, RwOk a.1) (hl : p.length ≤ 500) : SmV K H (n + 2) u v := by
  obtain ⟨a, xs, rfl, ha, hr⟩ := h
  obtain ⟨b, ys, rfl, hb, hs⟩ := k
  refine .tup (n + 1) ha hb (by rw [hr.1, hs.1]) (by rw [hr.1]; exact hl) fun i x y ex ey => ?_
  obtain ⟨e, he, hx⟩ := hr.get ex
  exact hx.sm n (hs.2 i y e ey he) (ok e (List.mem_of_getElem? he))
theorem Il.sm {K : PySem.W.Frag} {H : Hp} {u v : V} {e : List (RT × Bool) × V} (n : Nat) (h : Il K u e H) (k : Il K v e H) (ok : ∀ a ∈ e.1, RwOk a.1) (hl : e.1.length ≤ 500) : SmV K H (n + 3) u v := by
  obtain ⟨a, p, rfl, ha, hp, hv⟩ := h
  obtain ⟨b, q, rfl, hb, hq, _⟩ := k
  refine .tup (n + 2) ha hb rfl (show 2 ≤ 500 by decide) fun i x y ex ey => ?_
  match i, ex, ey with
  | 0, ex, ey => cases ex; cases ey; exact hp.sm n hq ok hl
  | 1, ex, ey => cases ex; cases ey; exact hv.sm (n + 1)
theorem paths_sm {K : PySem.W.Frag} {H : Hp} {q D : Addr} {ys ds : List V} {t : GT} (n : Nat) (hq : H q = some (.lst ys)) (hD : H D = some (.lst ds)) (hr : Rp (Il K) H ys (t.paths [])) (hs : Rp (Il K) H ds (t.paths [])) (ok : AllOk t) (hh : t.ht ≤ 500) (hl : (t.paths []).length ≤ 500) : SmV K H (n + 4) (.ref q) (.ref D) := by
  refine .lst (n + 3) hq hD (by rw [hr.1, hs.1]) (by rw [hr.1]; exact hl) fun i x y ex ey => ?_
  obtain ⟨e, he, hx⟩ := hr.get ex
  have me := List.mem_of_getElem? he
  refine hx.sm n (hs.2 i y e ey he) (fun a ha => ?_) ?_
  · rcases GT.paths_rows t [] e me a ha with h | h
    · cases h
    · exact ok _ h
  · have := GT.paths_in t [] e me
    rw [List.length_nil, Nat.zero_add] at this
    omega
theorem consIp {K : PySem.W.Frag} {a b : Addr} {path : List (RT × Bool)} {e : RT × Bool} {xs : List V} {yv : V} {Q : V → Hp → Prop} {H : Hp} (ha : H a = some (.tup [yv])) (hy : Ia K yv e H) (hb : H b = some (.tup xs)) (hr : Rp (Ia K) H xs path) (hl : path.length ≤ 100) (k : ∀ p H', Same H H' → Ip K (.ref p) (e :: path) H' → Q (.ref p) H') : rCatA K (.ref a) (.ref b) H Q := by
  refine ⟨a, b, [yv], xs, rfl, rfl, SqT.of ha, SqT.of hb, ?_, fun h => by (cases h), fun _ h => k a H (Same.refl _) ⟨a, [yv], rfl, ha, ?_⟩, fun _ _ p n => k p _ (same_upd n) ⟨p, _, rfl, upd_same, Rp.cons (hy.keepL (.of (same_upd n))) (hr.mono fun v b h => h.keepL (.of (same_upd n)))⟩⟩
  · have : (700 : Nat) ≤ sizeLine := by decide
    rw [hr.1]
    show 1 + path.length ≤ _
    omega
  · have : path = [] := hr.nil_iff.mp h
    subst this
    exact Rp.one hy
/-! ### faces of rows of small ints -/
theorem facesF_40 {rows : List RI} {n : Nat} (h : Fc rows n 1) : ∀ t ∈ facesF rows n, ∀ j, Ff 40 (pN t j) := by
  have z : Ff 40 (0, 1) := Ff.zero (by decide)
  have x0 : ∀ f ∈ xsF rows n, Ff 7 f := by
    refine worthsF_all (by decide) fun f hf => ?_
    split at hf
    · exact (lineF_ff h.b f hf).mono (by decide)
    split at hf
    · exact (planeF_ff h.b f hf).mono (by decide)
    · exact (roomF_ff h.b f hf).mono (by decide)
  intro t ht
  have pj : ∀ {x y w : Fr}, Ff 40 x → Ff 40 y → Ff 40 w → ∀ j, Ff 40 (pN (x, y, w) j) := fun hx hy hw j => by
    match j with
    | 0 => exact hx
    | 1 => exact hy
    | j + 2 => exact hw
  obtain ⟨x, hx, ht⟩ := List.mem_flatMap.mp ht
  have fx := x0 x hx
  unfold pxF at ht
  split at ht
  · rw [List.mem_singleton.mp ht]
    exact pj (fx.mono (by decide)) z z
  · have hb : ∀ r ∈ rows.map (fixF 0 x), Rb 9 r := map_rb h.b fx
    obtain ⟨y, hy, ht⟩ := List.mem_flatMap.mp ht
    have fy : Ff 20 y := by
      refine worthsF_all (by decide) (fun f hf => ?_) y hy
      split at hf
      · exact (lineF_ff hb f hf).mono (by decide)
      · exact (planeF_ff hb f hf).mono (by decide)
    unfold ptF at ht
    split at ht
    · rw [List.mem_singleton.mp ht]
      exact pj (fx.mono (by decide)) (fy.mono (by decide)) z
    · obtain ⟨v, hv, rfl⟩ := List.mem_map.mp ht
      have fz : Ff 31 v := worthsF_all (by decide) (lineF_ff (map_rb hb fy)) v hv
      exact pj (fx.mono (by decide)) (fy.mono (by decide)) (fz.mono (by decide))
/-- != of two lists that hold the same -/
def rNeS : R2 := fun x y H Q => ∃ (a b : Addr) (xs : List V), x = .ref a ∧ y = .ref b ∧ H a = some (.lst xs) ∧ H b = some (.lst xs) ∧ (∀ v ∈ xs, flatB v = true ∨ ∃ c, v = .ref c) ∧ Q (.bl false) H
theorem op_neS {X : Cx} (hu : X.A.units + 64 < cLine) : OpR X (compareOp .NotEq) rNeS := by
  intro pins s σ H x y v u Q I rx ry h
  obtain ⟨a, b, xs, rfl, rfl, ha, hb, f, q⟩ := h
  cases (show v = Value.ref a from rx)
  cases (show u = Value.ref b from ry)
  obtain ⟨us, r1, p1, _⟩ := I.list (SqL.of ha)
  obtain ⟨ws, r2, p2, _⟩ := I.list (SqL.of hb)
  have l1 := r1.length
  have l2 := r2.length
  refine SeqAt.RcNeAt.lists (e := fun _ => true) p1.isList p2.isList (by rw [List.size_toArray, List.size_toArray]; omega) (by omega) (fun j h1 h2 => ?_) X.prog X.w _ _ ?_
  · have hj : j < xs.length := by
      rw [List.size_toArray] at h1
      omega
    have hx : xs[j]? = some xs[j] := List.getElem?_eq_getElem hj
    obtain ⟨w1, e1, q1⟩ := r1.get hx
    obtain ⟨w2, e2, q2⟩ := r2.get hx
    have k1 : us.toArray[j] = w1 := by
      have := (List.getElem?_eq_some_iff.mp e1).2
      simpa using this
    have k2 : ws.toArray[j] = w2 := by
      have := (List.getElem?_eq_some_iff.mp e2).2
      simpa using this
    rw [k1, k2]
    rcases f xs[j] (List.getElem_mem hj) with k | ⟨c, k⟩
    · exact eqAt_same q1 q2 k
    · rw [k] at q1 q2
      cases (show w1 = Value.ref c from q1)
      cases (show w2 = Value.ref c from q2)
      exact SeqAt.EqAt.same _
  · rw [show ((List.range us.toArray.size).all fun _ => true) = true from List.all_eq_true.mpr fun _ _ => rfl]
    exact ⟨.bl false, H, I, rfl, q⟩
theorem IsG.ok10 {H : Hp} {m : Nat} {v : V} {t : GT} (h : IsG H m v t) : ∀ r ∈ t.rows, Ok10 m r := by
  induction h with
  | leaf hp hv => exact fun r h => by cases h
  | @ask p q r n y tn ty hp hq ok hn hy ihn ihy =>
    intro s hs
    rcases List.mem_append.mp (show s ∈ (r :: tn.rows) ++ ty.rows from hs) with h | h
    · rcases List.mem_cons.mp h with rfl | h
      · exact ok
      · exact ihn s h
    · exact ihy s h
def mxF (es : List (List (RT × Bool) × V)) : Nat := es.foldl (fun m e => max m e.1.length) 0
theorem mxF_take {es : List (List (RT × Bool) × V)} {j : Nat} {e : List (RT × Bool) × V} (h : es[j]? = some e) : mxF (es.take (j + 1)) = max (mxF (es.take j)) e.1.length := by
  unfold mxF
  rw [List.take_add_one, h]
  show (es.take j ++ [e]).foldl _ 0 = _
  rw [List.foldl_append]
  rfl
theorem mx_fold {B : Nat} : ∀ (es : List (List (RT × Bool) × V)) (a : Nat), a ≤ B → (∀ e ∈ es, e.1.length ≤ B) → es.foldl (fun m e => max m e.1.length) a ≤ B ∧ a ≤ es.foldl (fun m e => max m e.1.length) a ∧ ∀ e ∈ es, e.1.length ≤ es.foldl (fun m e => max m e.1.length) a
  | [], a, h, _ => ⟨h, Nat.le_refl _, fun e h => by cases h⟩
  | x :: es, a, h, k => by
    have hx := k x (List.mem_cons_self ..)
    obtain ⟨h1, h2, h3⟩ := mx_fold es (max a x.1.length) (by omega) fun e he => k e (List.mem_cons_of_mem _ he)
    refine ⟨h1, Nat.le_trans (Nat.le_max_left _ _) h2, fun e he => ?_⟩
    rcases List.mem_cons.mp he with rfl | he
    · exact Nat.le_trans (Nat.le_max_right _ _) h2
    · exact h3 e he
theorem mxF_paths (t : GT) : mxF (t.paths []) = t.ht := by
  have hb : ∀ e ∈ t.paths [], e.1.length ≤ t.ht := fun e he => by
    have := GT.paths_in t [] e he
    rw [List.length_nil, Nat.zero_add] at this
    exact this
  obtain ⟨h1, _, h3⟩ := mx_fold (t.paths []) 0 (Nat.zero_le _) hb
  obtain ⟨e, he, hl⟩ := GT.paths_max t []
  have := h3 e he
  rw [hl, List.length_nil, Nat.zero_add] at this
  exact Nat.le_antisymm h1 this
theorem IsG.goLv {H : Hp} {m : Nat} {v : V} {t : GT} (f : RT → Bool) (h : IsG H m v t) : Lv (t.go f) H := by
  induction h with
  | leaf hp hv => exact hv
  | @ask p q r n y tn ty hp hq ok hn hy ihn ihy =>
    show Lv (if f r then ty.go f else tn.go f) H
    split
    · exact ihy
    · exact ihn
theorem GT.go_congr {f g : RT → Bool} : ∀ t : GT, (∀ r ∈ t.rows, f r = g r) → t.go f = t.go g
  | .leaf _, _ => rfl
  | .ask r n y, h => by
    show (if f r then y.go f else n.go f) = if g r then y.go g else n.go g
    rw [h r (List.mem_append_left _ (List.mem_cons_self ..)), go_congr n fun s hs => h s (List.mem_append_left _ (List.mem_cons_of_mem _ hs)), go_congr y fun s hs => h s (List.mem_append_right _ hs)]
section
variable {P : Program} {w : World} {K : PySem.W.Frag} {mg : Str → Option Value} {base : Heap} {fd : FuncData}
theorem dl_le (x j : Int) : ((dl x j).1).natAbs ≤ 1 := by
  unfold dl
  show (if j = x then (1 : Int) else 0).natAbs ≤ 1
  split <;> decide
theorem dl_sum {x : Int} (x0 : 0 ≤ x) (x1 : x < 3) : (dl x 0).1 + (dl x 1).1 + (dl x 2).1 = 1 := by
  have : x = 0 ∨ x = 1 ∨ x = 2 := by omega
  rcases this with rfl | rfl | rfl <;> rfl
theorem chR_at {x w : Int} (x0 : 0 ≤ x) (x1 : x < 3) (hw : w.natAbs < 10 ^ 3) {k : Nat} (hk : k ≤ 40) : fAt (fun _ => (w, 1)) 3 (chR (fun j => (dl x j).1) k) = decide (40 - (k : Int) < w) := by
  have ok : RwOk (chR (fun j => (dl x j).1) k) := by
    refine ⟨by show (0 - (40 - (k : Int))).natAbs < _; omega, fun j => ?_⟩
    have h0 := dl_le x 0
    have h1 := dl_le x 1
    have h2 := dl_le x 2
    match j with
    | 0 => show ((dl x 0).1).natAbs < _; omega
    | 1 => show ((dl x 1).1).natAbs < _; omega
    | j + 2 => show ((dl x 2).1).natAbs < _; omega
  have pj : ∀ j, pN ((w, 1), (w, 1), (w, 1)) j = (w, 1) := fun j => by
    match j with
    | 0 => rfl
    | 1 => rfl
    | j + 2 => rfl
  have h : fAt (fun _ => (w, 1)) 3 (chR (fun j => (dl x j).1) k) = hldF (chR (fun j => (dl x j).1) k).1 true ((w, 1), (w, 1), (w, 1)) := hld_at (m := 3) (t := ((w, 1), (w, 1), (w, 1))) ok (fun j h1 h2 => by omega) (by decide) (by decide) (fun j => by rw [pj]; exact (by decide : (0 : Int) < 1)) (fun j _ => Gd.int (n := 39) (Nat.lt_trans hw (by decide))) (fun j _ => by rw [pj]; rfl)
  rw [h]
  have e : numF (chR (fun j => (dl x j).1) k).1 ((w, 1), (w, 1), (w, 1)) = w - (40 - (k : Int)) := by
    show (0 - (40 - (k : Int))) * 1 * 1 * 1 + (dl x 0).1 * w * 1 * 1 + (dl x 1).1 * w * 1 * 1 + (dl x 2).1 * w * 1 * 1 = _
    have s := dl_sum x0 x1
    have s2 : ((dl x 0).1 + (dl x 1).1 + (dl x 2).1) * w = 1 * w := by rw [s]
    rw [Int.add_mul, Int.add_mul, Int.one_mul] at s2
    simp only [Int.mul_one]
    omega
  unfold hldF
  rw [e, Bool.not_true, Bool.and_false, Bool.or_false]
  exact dec_cg ⟨fun h => by omega, fun h => by omega⟩
theorem rowI {K : PySem.W.Frag} {H : Hp} {Q : VK} {st fl : Bool} {x : Addr} {p0 p1 p2 p3 : Int × Int} {n : Nat} {i : Int} (ix : IsTm K H x p0 p1 p2 p3) (g0 : Gd n p0) (g1 : Gd n p1) (g2 : Gd n p2) (g3 : Gd n p3) (hn : n ≤ 40) (hi : i.natAbs < 10 ^ 3)
    (k : ∀ z H', Same H H' → (if fl then IsRw K H' z st (pSub (i, 1) p0) (pSub (0, 1) p1) (pSub (0, 1) p2) (pSub (0, 1) p3) else IsRw K H' z st (pSub p0 (i, 1)) (pSub p1 (0, 1)) (pSub p2 (0, 1)) (pSub p3 (0, 1))) → Q (.ref z) H') : rRow K st fl (.ref x) (.int i) H Q :=
  ⟨p0, p1, p2, p3, (i, 1), (0, 1), (0, 1), (0, 1), n, 3, .inl ⟨x, rfl, ix⟩, .inr ⟨.inr ⟨rfl, rfl⟩, rfl, rfl, rfl⟩, .inl ⟨x, rfl, ix⟩, g0, g1, g2, g3, Gd.int (n := 2) hi, Gd.int (n := 2) (by decide), Gd.int (n := 2) (by decide), Gd.int (n := 2) (by decide), by omega, k⟩
def spChn (K : PySem.W.Frag) : Sp := fun vs H Q _ => ∃ (l : Addr) (d0 d1 d2 : Int), vs = [.ref l, .int 40] ∧ H l = some (draws d0 d1 d2) ∧ ∀ H', Q (.bl true) H'
theorem scChainRight : FnScope ["_law_draws", "_law_asks", "_law_at", "_law_x", "_law_tree", "_law_due", "_law_k", "_law_row_here", "_law_spot", "_law_found", "_law_worth", "_law_path", "_law_leaf"] ["_law_draws", "_law_asks"] d_chain_right.scope := ⟨rfl, rfl, rfl, by decide +kernel, rfl, by decide +kernel, by decide +kernel⟩
theorem ok_chain_right (W : Wd K mg) : ∃ fd, FnOk P w K mg base CX0 45 (He.ga K "_law_chain_right") fd ["_law_draws", "_law_asks"] (spChn K) ∧ Binds K fd ["_law_draws", "_law_asks"] [] := by
  obtain ⟨fd_draw, G_draw, b_draw⟩ := ok_draw (P := P) (w := w) (base := base) W
  have k_draw : PySem.W.keepIn K (.ref (He.ga K "_law_draw")) = true := by obtain ⟨fd, F⟩ := W.F_draw; exact F.kp
  obtain ⟨fd_unk, G_unk, b_unk⟩ := ok_unk (P := P) (w := w) (base := base) W
  obtain ⟨fd_same, G_same, b_same⟩ := ok_same (P := P) (w := w) (base := base) W 5
  have k_same : PySem.W.keepIn K (.ref (He.ga K "_law_same")) = true := by obtain ⟨fd, F⟩ := W.F_same; exact F.kp
  obtain ⟨fd_depth, G_depth, b_depth⟩ := ok_depth (P := P) (w := w) (base := base) W 40
  have k_depth : PySem.W.keepIn K (.ref (He.ga K "depth")) = true := by obtain ⟨fd, F⟩ := W.F_depth; exact F.kp
  obtain ⟨fd_leaves, G_leaves, b_leaves⟩ := ok_leaves (P := P) (w := w) (base := base) W 40
  have k_leaves : PySem.W.keepIn K (.ref (He.ga K "leaves")) = true := by obtain ⟨fd, F⟩ := W.F_leaves; exact F.kp
  obtain ⟨fd_walk, G_walk, b_walk⟩ := ok_walk (P := P) (w := w) (base := base) W
  have k_walk : PySem.W.keepIn K (.ref (He.ga K "walk")) = true := by obtain ⟨fd, F⟩ := W.F_walk; exact F.kp
  obtain ⟨fd, F⟩ := W.F_chain_right
  refine ⟨fd, F.ok scChainRight (fun vs H Q E h => ?_) (fun cdv A outer s H vs Q E hr h => ?_), FunD.bindsN F fun _ _ _ _ _ _ us hl => match us, hl with | [_, _], _ => rfl⟩
  · obtain ⟨l, _, _, _, rfl, _⟩ := h
    rfl
  · obtain ⟨l, d0, d1, d2, rfl, hl, q⟩ := h
    have r1 : Room 1 _ := hr.mono (by decide)
    have r2 : Room 2 _ := hr.mono (by decide)
    have r3 : Room 3 _ := hr.mono (by decide)
    have r4 : Room 4 _ := hr.mono (by decide)
    have r5 : Room 5 _ := hr.mono (by decide)
    have r6 : Room 6 _ := hr.mono (by decide)
    have r7 : Room 7 _ := hr.mono (by decide)
    have r8 : Room 8 _ := hr.mono (by decide)
    have r9 : Room 9 _ := hr.mono (by decide)
    have r10 : Room 10 _ := hr.mono (by decide)
    have r11 : Room 11 _ := hr.mono (by decide)
    have r12 : Room 12 _ := hr.mono (by decide)
    have r13 : Room 13 _ := hr.mono (by decide)
    have r14 : Room 14 _ := hr.mono (by decide)
    have r15 : Room 15 _ := hr.mono (by decide)
    have r16 : Room 16 _ := hr.mono (by decide)
    have r17 : Room 17 _ := hr.mono (by decide)
    have r18 : Room 18 _ := hr.mono (by decide)
    have r19 : Room 19 _ := hr.mono (by decide)
    have r20 : Room 20 _ := hr.mono (by decide)
    have r21 : Room 21 _ := hr.mono (by decide)
    have r22 : Room 22 _ := hr.mono (by decide)
    have r23 : Room 23 _ := hr.mono (by decide)
    have r24 : Room 24 _ := hr.mono (by decide)
    have r25 : Room 25 _ := hr.mono (by decide)
    have r26 : Room 26 _ := hr.mono (by decide)
    have r27 : Room 27 _ := hr.mono (by decide)
    have r28 : Room 28 _ := hr.mono (by decide)
    have r29 : Room 29 _ := hr.mono (by decide)
    have r30 : Room 30 _ := hr.mono (by decide)
    have r31 : Room 31 _ := hr.mono (by decide)
    have r32 : Room 32 _ := hr.mono (by decide)
    have r33 : Room 33 _ := hr.mono (by decide)
    have r34 : Room 34 _ := hr.mono (by decide)
    have r35 : Room 35 _ := hr.mono (by decide)
    have r36 : Room 36 _ := hr.mono (by decide)
    have r37 : Room 37 _ := hr.mono (by decide)
    have r38 : Room 38 _ := hr.mono (by decide)
    have r39 : Room 39 _ := hr.mono (by decide)
    have r40 : Room 40 _ := hr.mono (by decide)
    have r41 : Room 41 _ := hr.mono (by decide)
    have r42 : Room 42 _ := hr.mono (by decide)
    have r43 : Room 43 _ := hr.mono (by decide)
    have r44 : Room 44 _ := hr.mono (by decide)
    refine ⟨_, PSs.nox (pss_cons (ps_set (i := 2) scChainRight.nd rfl (Or.inl rfl) (pe_call G_draw r1 rfl W.g_law_draw k_draw b_draw .nil pass0 (pa_cons (pv 0) (pa_cons pe_int pa_nil))))
    (C8.pss_cut (ps_asg (pe_tup (pa_cons (StX.pe_smeth (pe_glob (v := .ref (He.ga K "Term")) rfl W.g_Term rfl) W.sm_unknown G_unk r5 b_unk .nil pass0 (pa_cons (pv 2) pa_nil)) (pa_cons (pe_tup (pa_cons pe_str (pa_cons pe_int pa_nil))) (pa_cons (pe_lst (pa_cons (pe_tup (pa_cons (pe_tup pa_nil) (pa_cons pe_int pa_nil))) pa_nil)) pa_nil)))) (pg_tup rfl (pgs_cons (pg_name (i := 3) scChainRight.nd rfl (Or.inl rfl)) (pgs_cons (pg_name (i := 4) scChainRight.nd rfl (Or.inr rfl)) (pgs_cons (pg_name (i := 5) scChainRight.nd rfl (Or.inl rfl)) pgs_nil)))))
    (C8.pss_cut (ps_for PassesOwn.never rfl (pi_range2 rfl W.f_range (pa_cons pe_int (pa_cons (pe_op op_add (pv 1) pe_int) pa_nil))) (pg_name (i := 6) scChainRight.nd rfl (Or.inl rfl)) (C8.pss_cut (ps_set (i := 7) scChainRight.nd rfl (Or.inr rfl) (pe_cmpR (W.cGt r8) (pv 3) (pe_op op_sub (pv 1) (pv 6)) (nomark _)))
    (C8.pss_cut (ps_set (i := 4) scChainRight.nd rfl (Or.inr rfl) (pe_tup (pa_cons pe_str (pa_cons (pv 7) (pa_cons (pe_tup (pa_cons pe_str (pa_cons (pv 6) pa_nil))) (pa_cons (pv 4) pa_nil))))))
    (pss_one (ps_set (i := 5) scChainRight.nd rfl (Or.inl rfl) (pe_op op_cat (pe_lst (pa_cons (pe_tup (pa_cons (pe_tup (pa_cons (pe_tup (pa_cons (pv 7) (pa_cons pe_bl pa_nil))) pa_nil)) (pa_cons (pv 6) pa_nil))) pa_nil)) (pe_lc (own := [("_law_path", 11), ("_law_leaf", 12)]) (g := gTup K 2 (gCons (gName 11) (gCons (gName 12) gNil))) (tt := tYes) rfl scChainRight.nd (pi_list (pv 5)) (blkOk_by (N := ["_law_draws", "_law_asks", "_law_at", "_law_x", "_law_tree", "_law_due", "_law_k", "_law_row_here", "_law_spot", "_law_found", "_law_worth", "_law_path", "_law_leaf"]) (sc := defScope s_chain_right) (by decide +kernel))
            (fun _ _ _ _ _ => (pg_tup rfl (pgs_cons (pg_name (i := 11) scChainRight.nd rfl (Or.inl rfl)) (pgs_cons (pg_name (i := 12) scChainRight.nd rfl (Or.inl rfl)) pgs_nil)))) (fun _ _ _ _ _ => pts_nil)
            (fun _ _ _ _ _ => (pe_tup (pa_cons (pe_op ((show OpR _ _ (rCatA K) from op_catA)) (pe_tup (pa_cons (pe_tup (pa_cons (pv 7) (pa_cons pe_bl pa_nil))) pa_nil)) (pv 11)) (pa_cons (pv 12) pa_nil)))))))))))
    (C8.pss_cut (ps_if (PW.pt (pw_or (pt_not (pt_val (pe_call G_same r12 rfl W.g_law_same k_same b_same .nil pass0 (pa_cons (pe_call G_leaves r42 rfl W.g_leaves k_leaves b_leaves .nil pass0 (pa_cons (pv 4) pa_nil)) (pa_cons (pv 5) pa_nil))))) (pw_or1 (pt_not (pt_val (pe_call G_same r12 rfl W.g_law_same k_same b_same .nil pass0 (pa_cons (pe_call G_depth r41 rfl W.g_depth k_depth b_depth .nil pass0 (pa_cons (pv 4) pa_nil)) (pa_cons (pv 1) pa_nil)))))))) (pss_one (ps_ret pe_bl)) pss_nil)
    (C8.pss_cut (ps_set (i := 8) scChainRight.nd rfl (Or.inl rfl) (pe_call G_draw r1 rfl W.g_law_draw k_draw b_draw .nil pass0 (pa_cons (pv 0) (pa_cons (pv 1) pa_nil))))
    (C8.pss_cut (ps_setLc (i := 9) (own := [("_law_worth", 10)]) (g := gName 10) (tt := tYes) (by rfl) scChainRight.nd rfl rfl (sw_true rfl rfl rfl (by decide +kernel)) (pi_tup (pe_tup (pa_cons (pe_op op_sub pe_int pe_int) (pa_cons (pv 8) (pa_cons (pe_op op_add (pv 1) pe_int) pa_nil))))) (blkOk_by (N := ["_law_draws", "_law_asks", "_law_at", "_law_x", "_law_tree", "_law_due", "_law_k", "_law_row_here", "_law_spot", "_law_found", "_law_worth", "_law_path", "_law_leaf"]) (sc := defScope s_chain_right) (by decide +kernel))
            (fun _ _ _ _ _ => (pg_name (i := 10) scChainRight.nd rfl (Or.inl rfl))) (fun _ _ _ _ _ => pts_nil)
            (fun _ _ _ _ _ => (pe_call G_walk r7 rfl W.g_walk k_walk b_walk .nil pass0 (pa_cons (pv 4) (pa_cons (pe_tup (pa_cons (pv 10) (pa_cons (pv 10) (pa_cons (pv 10) pa_nil)))) pa_nil)))))
    (pss_one (ps_ret (pe_call G_same r12 rfl W.g_law_same k_same b_same .nil pass0 (pa_cons (pv 9) (pa_cons (pe_lst (pa_cons (pv 1) (pa_cons (pe_op op_sub (pv 1) (pv 8)) (pa_cons pe_int pa_nil)))) pa_nil))))))))))), ?_⟩
    simp -dsimp [tSeq, tAsg, tRet, tIfS, tIf, tTest, tVar, tCons, tNil, tC, tOp, tUn, rI, rI0, rU, tCB, tLst_A, tTup_A, gName, L2.start, CMul, CPow, CDiv, tDrop, tBM, tBM0, tNext, tPar, gSub, rSetL, rIxL, rIxT, tChain, tB, tNot, tNotV, tAnd, tOr, tAndV, tOrV, tFld, tCall, rIxLH, rIxTH, atI, ixN, upd_same, cxK, ex2, ex3, ex3b, rIs1, rIs2, rNe2, tyN, kb1, kb2, kb3, kb4, kb5, kb6, rEq, rNe, scal, tMake_S, tMakeK_S, tMakeN_S]
    refine ⟨l, d0, d1, d2, 3, rfl, hl, by decide, by decide, fun x e0 e1 e2 x0 x1 => ?_⟩
    have L1 : (upd H l (draws e0 e1 e2)) l = some (draws e0 e1 e2) := upd_same
    generalize upd H l (draws e0 e1 e2) = H1 at L1
    refine ⟨fun σ2 G => ∃ (z : Addr) (D : Addr) (tv : V) (ds : List V), σ2 = [some (.ref l), some (.int 40), some (.int x), some (.ref z), some tv, some (.ref D), none, none, none, none, none, none, none] ∧ G l = some (draws e0 e1 e2) ∧ IsTm K G z (0, 1) (dl x 0) (dl x 1) (dl x 2) ∧ IsW K G tv (chT (fun j => (dl x j).1) 0) ∧ G D = some (.lst ds) ∧ Rp (Il K) G ds ((chT (fun j => (dl x j).1) 0).paths []), ?_, ?_⟩
    · simp -dsimp [tSeq, tAsg, tRet, tIfS, tIf, tTest, tVar, tCons, tNil, tC, tOp, tUn, rI, rI0, rU, tCB, tLst_A, tTup_A, gName, L2.start, CMul, CPow, CDiv, tDrop, tBM, tBM0, tNext, tPar, gSub, rSetL, rIxL, rIxT, tChain, tB, tNot, tNotV, tAnd, tOr, tAndV, tOrV, tFld, tCall, rIxLH, rIxTH, atI, ixN, upd_same, cxK, ex2, ex3, ex3b, rIs1, rIs2, rNe2, tyN, kb1, kb2, kb3, kb4, kb5, kb6, rEq, rNe, scal, tMake_S, tMakeK_S, tMakeN_S, StX.tSMeth]
      refine ⟨x, rfl, x0, x1, fun z H2 s2 iz => ⟨le2, Alloc.of fun t0 H3 n3 e3 s3 => Alloc.of fun p0 H4 n4 e4 s4 => ⟨le2, Alloc.of fun a0 H5 n5 e5 s5 => ⟨by decide, Alloc.of fun D H6 n6 e6 s6 => ⟨by decide, Alloc.of fun u H7 n7 e7 s7 => tup3n e7 ?_⟩⟩⟩⟩⟩
      have s47 := ((s4.trans s5).trans s6).trans s7
      have s27 := (s2.trans s3).trans s47
      exact ⟨z, D, .ref t0, rfl, s27 _ _ L1, iz.same (s3.trans s47), .leaf (s47 _ _ e3) (.inl ⟨0, rfl⟩), [.ref a0], s7 _ _ e6, Rp.one ⟨a0, .ref p0, rfl, s7 _ _ (s6 _ _ e5), ⟨p0, [], rfl, s7 _ _ (s6 _ _ (s5 _ _ e4)), Rp.nil⟩, .inl ⟨0, rfl⟩⟩⟩
    · rintro σ2 G ⟨z, D, tv, ds, rfl, L, iz, hT, hD, hds⟩
      refine ⟨fun σ2 G2 => ∃ (D : Addr) (tv : V) (ds : List V) (w6 w7 w10 w11 w12 : Option V), σ2 = [some (.ref l), some (.int 40), some (.int x), some (.ref z), some tv, some (.ref D), w6, w7, none, none, w10, w11, w12] ∧ G2 l = some (draws e0 e1 e2) ∧ IsW K G2 tv (chT (fun j => (dl x j).1) 40) ∧ G2 D = some (.lst ds) ∧ Rp (Il K) G2 ds ((chT (fun j => (dl x j).1) 40).paths []), ?_, ?_⟩
      · refine ⟨.int 40, rfl, 40, 1, rfl, rfl, 1, 41, rfl, ⟨by decide, by decide, by decide, by decide⟩, for_range (lo := 1) (n := 40) (fun i σ2 G2 => ∃ (D : Addr) (tv : V) (ds : List V) (w6 w7 w10 w11 w12 : Option V), σ2 = [some (.ref l), some (.int 40), some (.int x), some (.ref z), some tv, some (.ref D), w6, w7, none, none, w10, w11, w12] ∧ G2 l = some (draws e0 e1 e2) ∧ IsTm K G2 z (0, 1) (dl x 0) (dl x 1) (dl x 2) ∧ IsW K G2 tv (chT (fun j => (dl x j).1) i) ∧ G2 D = some (.lst ds) ∧ Rp (Il K) G2 ds ((chT (fun j => (dl x j).1) i).paths [])) ?_ ?_ ?_⟩
        · exact ⟨D, tv, ds, _, _, _, _, _, rfl, L, iz, hT, hD, hds⟩
        · rintro i σ2 G2 hi ⟨D, tv, ds, w6, w7, w10, w11, w12, rfl, L, iz, hT, hD, hds⟩
          refine ⟨fun σ3 G3 => ∃ zr : Addr, σ3 = [some (.ref l), some (.int 40), some (.int x), some (.ref z), some tv, some (.ref D), some (.int (1 + (i : Int))), some (.ref zr), none, none, w10, w11, w12] ∧ Same G2 G3 ∧ RwR K G3 zr (chR (fun j => (dl x j).1) (i + 1)), ?_, ?_⟩
          · simp -dsimp [tSeq, tAsg, tRet, tIfS, tIf, tTest, tVar, tCons, tNil, tC, tOp, tUn, rI, rI0, rU, tCB, tLst_A, tTup_A, gName, L2.start, CMul, CPow, CDiv, tDrop, tBM, tBM0, tNext, tPar, gSub, rSetL, rIxL, rIxT, tChain, tB, tNot, tNotV, tAnd, tOr, tAndV, tOrV, tFld, tCall, rIxLH, rIxTH, atI, ixN, upd_same, cxK, ex2, ex3, ex3b, rIs1, rIs2, rNe2, tyN, kb1, kb2, kb3, kb4, kb5, kb6, rEq, rNe, scal, tMake_S, tMakeK_S, tMakeN_S]
            refine rowI (n := 1) iz gz1 (Gd.dl _ _) (Gd.dl _ _) (Gd.dl _ _) (by decide) (by omega) fun zr G3 s3 ir => ⟨zr, rfl, s3, ?_⟩
            have ir : IsRw K G3 zr true _ _ _ _ := ir
            have dp : ∀ j : Int, dl x j = ((dl x j).1, 1) := fun j => rfl
            rw [dp 0, dp 1, dp 2, pSub_int, pSub_int, pSub_int, pSub_int, Int.sub_zero, Int.sub_zero, Int.sub_zero] at ir
            have ir := ir.isP (Ws.int _ _ _ _)
            rw [show (0 - (40 - (1 + (i : Int)))) = 0 - (40 - ((i + 1 : Nat) : Int)) by omega] at ir
            exact ir
          · rintro σ3 G3 ⟨zr, rfl, s3, ir⟩
            refine ⟨fun σ4 G4 => ∃ ta : Addr, σ4 = [some (.ref l), some (.int 40), some (.int x), some (.ref z), some (.ref ta), some (.ref D), some (.int (1 + (i : Int))), some (.ref zr), none, none, w10, w11, w12] ∧ Same G3 G4 ∧ IsW K G4 (.ref ta) (chT (fun j => (dl x j).1) (i + 1)), ?_, ?_⟩
            · simp -dsimp [tSeq, tAsg, tRet, tIfS, tIf, tTest, tVar, tCons, tNil, tC, tOp, tUn, rI, rI0, rU, tCB, tLst_A, tTup_A, gName, L2.start, CMul, CPow, CDiv, tDrop, tBM, tBM0, tNext, tPar, gSub, rSetL, rIxL, rIxT, tChain, tB, tNot, tNotV, tAnd, tOr, tAndV, tOrV, tFld, tCall, rIxLH, rIxTH, atI, ixN, upd_same, cxK, ex2, ex3, ex3b, rIs1, rIs2, rNe2, tyN, kb1, kb2, kb3, kb4, kb5, kb6, rEq, rNe, scal, tMake_S, tMakeK_S, tMakeN_S]
              refine ⟨le2, Alloc.of fun lf G4 n4 e4 s4 => ⟨by decide, Alloc.of fun ta G5 n5 e5 s5 => ⟨ta, rfl, s4.trans s5, ?_⟩⟩⟩
              rw [show (1 + (i : Int)) = ((i + 1 : Nat) : Int) by omega] at e4
              exact .ask e5 (RwR.keepL ir (.of (s4.trans s5))) (.leaf (s5 _ _ e4) (.inl ⟨_, rfl⟩)) (hT.same ((s3.trans s4).trans s5))
            · rintro σ4 G4 ⟨ta, rfl, s4, hT4⟩
              simp -dsimp [tSeq, tAsg, tRet, tIfS, tIf, tTest, tVar, tCons, tNil, tC, tOp, tUn, rI, rI0, rU, tCB, tLst_A, tTup_A, gName, L2.start, CMul, CPow, CDiv, tDrop, tBM, tBM0, tNext, tPar, gSub, rSetL, rIxL, rIxT, tChain, tB, tNot, tNotV, tAnd, tOr, tAndV, tOrV, tFld, tCall, rIxLH, rIxTH, atI, ixN, upd_same, cxK, ex2, ex3, ex3b, rIs1, rIs2, rNe2, tyN, kb1, kb2, kb3, kb4, kb5, kb6, rEq, rNe, scal, tMake_S, tMakeK_S, tMakeN_S]
              refine ⟨le2, Alloc.of fun a1 H1 n1 f1 s1 => ⟨by decide, Alloc.of fun a2 H2 n2 f2 s2 => ⟨le2, Alloc.of fun a3 H3 n3 f3 s3' => ⟨by decide, Alloc.of fun L1 H4 n4 f4 s4' => ?_⟩⟩⟩⟩
              have t14 := ((s1.trans s2).trans s3').trans s4'
              have tH := (s3.trans s4).trans t14
              have ir4 : RwR K H4 zr (chR (fun j => (dl x j).1) (i + 1)) := RwR.keepL ir (.of (s4.trans t14))
              have hds4 := hds.mono fun v b h => h.keepL (.of tH)
              have first : Il K (.ref a3) ([(chR (fun j => (dl x j).1) (i + 1), false)], .int ((i + 1 : Nat) : Int)) H4 := by
                refine ⟨a3, .ref a2, rfl, ?_, ⟨a2, [.ref a1], rfl, s4' _ _ (s3' _ _ f2), Rp.one ⟨a1, zr, rfl, s4' _ _ (s3' _ _ (s2 _ _ f1)), ir4⟩⟩, .inl ⟨_, rfl⟩⟩
                rw [show (((i + 1 : Nat) : Int)) = 1 + (i : Int) by omega]
                exact s4' _ _ f3
              have ln := chT_len (fun j => (dl x j).1) i
              have dl4 := hds4.1
              refine lc_all (K := K) D ds ((chT (fun j => (dl x j).1) i).paths []) (fun _ => true) (fun e => ((chR (fun j => (dl x j).1) (i + 1), true) :: e.1, e.2)) (Il K) Il.mono (by omega) hds4.1 (tH _ _ hD) (fun R h => ⟨_, rfl, h⟩) (fun j y e hj he => ?_) (fun D2 H5 vs nD s5 hD2 hvs => ?_)
              · obtain ⟨a, pv', rfl, ha, ⟨pa, pxs, rfl, hpa, hpr⟩, hv⟩ := hds4.2 j y e hj he
                refine ⟨[some (.ref l), some (.int 40), some (.int x), some (.ref z), some (.ref ta), some (.ref D), some (.int (1 + (i : Int))), some (.ref zr), none, none, w10, some (.ref pa), some e.2], rfl, fun H' Kc s h => tup2n (s _ _ ha) h, fun H' Qb s h => h _ (Same.refl _), fun _ H' R' s h => ?_⟩
                simp -dsimp [tSeq, tAsg, tRet, tIfS, tIf, tTest, tVar, tCons, tNil, tC, tOp, tUn, rI, rI0, rU, tCB, tLst_A, tTup_A, gName, L2.start, CMul, CPow, CDiv, tDrop, tBM, tBM0, tNext, tPar, gSub, rSetL, rIxL, rIxT, tChain, tB, tNot, tNotV, tAnd, tOr, tAndV, tOrV, tFld, tCall, rIxLH, rIxTH, atI, ixN, upd_same, cxK, ex2, ex3, ex3b, rIs1, rIs2, rNe2, tyN, kb1, kb2, kb3, kb4, kb5, kb6, rEq, rNe, scal, tMake_S, tMakeK_S, tMakeN_S]
                have pl := GT.paths_in (chT (fun j => (dl x j).1) i) [] e (List.mem_of_getElem? he)
                rw [chT_ht, List.length_nil] at pl
                refine ⟨le2, Alloc.of fun b1 G5 m1 g1 r1 => ⟨by decide, Alloc.of fun b2 G6 m2 g2 r2 => ?_⟩⟩
                have r12 := (s.trans r1).trans r2
                refine consIp (e := (chR (fun j => (dl x j).1) (i + 1), true)) g2 ⟨b1, zr, rfl, r2 _ _ g1, RwR.keepL ir4 (.of r12)⟩ (r12 _ _ hpa) (hpr.mono fun v b h => h.keepL (.of r12)) (by omega) fun pp G7 r3 hpp => ⟨le2, Alloc.of fun b3 G8 m3 g3 r4 => ?_⟩
                exact h _ _ (((r1.trans r2).trans r3).trans r4) ⟨b3, .ref pp, rfl, g3, hpp.keepL (.of r4), hv.keepL (.of ((r12.trans r3).trans r4))⟩
              · rw [List.filter_eq_self.mpr (fun _ _ => rfl)] at hvs
                have vl := hvs.1
                rw [List.length_map, ln] at vl
                refine ⟨L1, D2, [.ref a3], vs, rfl, rfl, s5 _ _ f4, hD2, by show 1 + vs.length ≤ _; rw [vl]; exact Nat.le_trans (by omega : 1 + (i + 1) ≤ 700) (by decide), fun pq nq => ?_⟩
                have s6 := same_upd nq (o := HO.lst ([.ref a3] ++ vs))
                have tE := (tH.trans s5).trans s6
                refine ⟨pq, .ref ta, ⟨rfl, rfl⟩, tE _ _ L, iz.same tE, hT4.same ((t14.trans s5).trans s6), _, upd_same, ?_⟩
                rw [chT_paths]
                exact Rp.cons (first.keepL (.of (s5.trans s6))) (hvs.mono fun v b h => h.keepL (.of s6))
        · rintro σ2 G2 ⟨D, tv, ds, w6, w7, w10, w11, w12, rfl, L, iz, hT, hD, hds⟩
          exact ⟨D, tv, ds, w6, w7, w10, w11, w12, rfl, L, hT, hD, hds⟩
      · rintro σ2 G2 ⟨D, tv, ds, w6, w7, w10, w11, w12, rfl, L, hT, hD, hds⟩
        refine ⟨fun σ3 G3 => σ3 = [some (.ref l), some (.int 40), some (.int x), some (.ref z), some tv, some (.ref D), w6, w7, none, none, w10, w11, w12] ∧ Same G2 G3, ?_, ?_⟩
        · simp -dsimp [tSeq, tAsg, tRet, tIfS, tIf, tTest, tVar, tCons, tNil, tC, tOp, tUn, rI, rI0, rU, tCB, tLst_A, tTup_A, gName, L2.start, CMul, CPow, CDiv, tDrop, tBM, tBM0, tNext, tPar, gSub, rSetL, rIxL, rIxT, tChain, tB, tNot, tNotV, tAnd, tOr, tAndV, tOrV, tFld, tCall, rIxLH, rIxTH, atI, ixN, upd_same, cxK, ex2, ex3, ex3b, rIs1, rIs2, rNe2, tyN, kb1, kb2, kb3, kb4, kb5, kb6, rEq, rNe, scal, tMake_S, tMakeK_S, tMakeN_S]
          have hd : ∀ j : Nat, ((fun j : Nat => (dl x j).1) j).natAbs ≤ 1 := fun j => dl_le x j
          refine ⟨tv, chT (fun j => (dl x j).1) 40, rfl, hT, by rw [chT_ht]; decide, by rw [chT_ht]; exact Nat.le_refl _, by rw [chT_len]; decide, fun q1 ys G3 nq s3 hq1 hr1 => ⟨.ref q1, .ref D, rfl, paths_sm 1 hq1 (s3 _ _ hD) hr1 (hds.mono fun v b h => h.keepL (.of s3)) (chT_ok hd 40 (Nat.le_refl _)) (by rw [chT_ht]; decide) (by rw [chT_len]; decide), fun G4 s4 => .inr ⟨rfl, tv, chT (fun j => (dl x j).1) 40, rfl, hT.same (s3.trans s4), by rw [chT_ht]; exact Nat.le_refl _, by decide, ?_⟩⟩⟩
          rw [chT_ht]
          exact ⟨.int 40, .int 40, rfl, .int 5 40, fun G5 s5 => .inr ⟨rfl, (s3.trans s4).trans s5⟩⟩
        · rintro σ3 G3 ⟨rfl, s3⟩
          refine ⟨fun σ4 G4 => ∃ sp : Int, 0 ≤ sp ∧ sp < 40 ∧ σ4 = [some (.ref l), some (.int 40), some (.int x), some (.ref z), some tv, some (.ref D), w6, w7, some (.int sp), none, w10, w11, w12] ∧ SameN l G3 G4, ?_, ?_⟩
          · simp -dsimp [tSeq, tAsg, tRet, tIfS, tIf, tTest, tVar, tCons, tNil, tC, tOp, tUn, rI, rI0, rU, tCB, tLst_A, tTup_A, gName, L2.start, CMul, CPow, CDiv, tDrop, tBM, tBM0, tNext, tPar, gSub, rSetL, rIxL, rIxT, tChain, tB, tNot, tNotV, tAnd, tOr, tAndV, tOrV, tFld, tCall, rIxLH, rIxTH, atI, ixN, upd_same, cxK, ex2, ex3, ex3b, rIs1, rIs2, rNe2, tyN, kb1, kb2, kb3, kb4, kb5, kb6, rEq, rNe, scal, tMake_S, tMakeK_S, tMakeN_S]
            refine ⟨l, e0, e1, e2, 40, rfl, s3 _ _ L, by decide, by decide, fun sp f0 f1 f2 h0 h1 => ⟨sp, h0, h1, rfl, .upd⟩⟩
          · rintro σ4 G4 ⟨sp, sp0, sp1, rfl, N4⟩
            have hT4 : IsW K G4 tv (chT (fun j => (dl x j).1) 40) := hT.keepL ((KeepL.of s3).trans (KeepL.sameN (s3 _ _ L) N4))
            refine ⟨fun σ5 G5 => ∃ (R : Addr) (w10 : Option V), σ5 = [some (.ref l), some (.int 40), some (.int x), some (.ref z), some tv, some (.ref D), w6, w7, some (.int sp), some (.ref R), w10, w11, w12] ∧ G5 R = some (.lst [.int 40, .int (40 - sp), .int 0]), ?_, ?_⟩
            · simp -dsimp [tSeq, tAsg, tRet, tIfS, tIf, tTest, tVar, tCons, tNil, tC, tOp, tUn, rI, rI0, rU, tCB, tLst_A, tTup_A, gName, L2.start, CMul, CPow, CDiv, tDrop, tBM, tBM0, tNext, tPar, gSub, rSetL, rIxL, rIxT, tChain, tB, tNot, tNotV, tAnd, tOr, tAndV, tOrV, tFld, tCall, rIxLH, rIxTH, atI, ixN, upd_same, cxK, ex2, ex3, ex3b, rIs1, rIs2, rNe2, tyN, kb1, kb2, kb3, kb4, kb5, kb6, rEq, rNe, scal, tMake_S, tMakeK_S, tMakeN_S]
              rw [show ∀ {gg te σ H Q}, tLc (iTup K (tTup (tCons (tOp (rI0 fun i j => V.int (i - j)) (tC (V.int 0)) (tC (V.int 5))) (tCons (tVar 8) (tCons (tOp (rI0 fun i j => V.int (i + j)) (tVar 1) (tC (V.int 7))) tNil))))) gg tYes te [10] σ H Q = tTup (tCons (tOp (rI0 fun i j => V.int (i - j)) (tC (V.int 0)) (tC (V.int 5))) (tCons (tVar 8) (tCons (tOp (rI0 fun i j => V.int (i + j)) (tVar 1) (tC (V.int 7))) tNil))) σ H fun x H1 => tLc (iTup K (tC x)) gg tYes te [10] σ H1 Q from rfl]
              simp -dsimp [tSeq, tAsg, tRet, tIfS, tIf, tTest, tVar, tCons, tNil, tC, tOp, tUn, rI, rI0, rU, tCB, tLst_A, tTup_A, gName, L2.start, CMul, CPow, CDiv, tDrop, tBM, tBM0, tNext, tPar, gSub, rSetL, rIxL, rIxT, tChain, tB, tNot, tNotV, tAnd, tOr, tAndV, tOrV, tFld, tCall, rIxLH, rIxTH, atI, ixN, upd_same, cxK, ex2, ex3, ex3b, rIs1, rIs2, rNe2, tyN, kb1, kb2, kb3, kb4, kb5, kb6, rEq, rNe, scal, tMake_S, tMakeK_S, tMakeN_S]
              refine ⟨by decide, Alloc.of fun tp G5 n5 e5 s5 => ?_⟩
              have hT5 := hT4.same s5
              have cg : ∀ {w : Int}, w.natAbs < 10 ^ 3 → (chT (fun j => (dl x j).1) 40).go (fAt (fun _ => (w, 1)) 3) = .int (if w ≤ 40 - ((40 : Nat) : Int) then ((40 : Nat) : Int) else if w ≤ 40 then 40 - w else 0) := fun {w} hw => chT_go (fun k hk => chR_at x0 x1 hw hk) 40 (Nat.le_refl _)
              have hd : ∀ j : Nat, ((fun j : Nat => (dl x j).1) j).natAbs ≤ 1 := fun j => dl_le x j
              have wk : ∀ {w : Int} {G6 : Hp} {R : V → Hp → Prop}, w.natAbs < 10 ^ 3 → Same G5 G6 → (∀ G7, Same G6 G7 → R (.int (if w ≤ 40 - ((40 : Nat) : Int) then ((40 : Nat) : Int) else if w ≤ 40 then 40 - w else 0)) G7) → Alloc G6 (HO.tup [.int w, .int w, .int w]) fun y H => spWalk K [tv, y] H R E0 := fun {w G6 R} hw s6 k => Alloc.of fun b G7 n7 e7 s7 => by
                refine ⟨tv, chT (fun j => (dl x j).1) 40, b, _, fun _ => (w, 1), rfl, hT5.same (s6.trans s7), chT_ok hd 40 (Nat.le_refl _), ⟨.inr e7, fun j v hj => ?_⟩, fun H' s => ?_⟩
                · have g : Gd 40 (w, 1) := Gd.int (n := 39) (Nat.lt_trans hw (by decide))
                  match j, hj with
                  | 0, hj => cases hj; exact ⟨.inr ⟨rfl, rfl⟩, g⟩
                  | 1, hj => cases hj; exact ⟨.inr ⟨rfl, rfl⟩, g⟩
                  | 2, hj => cases hj; exact ⟨.inr ⟨rfl, rfl⟩, g⟩
                · show R ((chT (fun j => (dl x j).1) 40).go (fAt (fun _ => (w, 1)) 3)) H'
                  rw [cg hw]
                  exact k H' (s7.trans s)
              refine lc_tup (K := K) tp _ (fun j v _ => ([.int 40, .int (40 - sp), .int 0] : List V)[j]? = some v) (by show 3 < 1000; decide) (fun j D xs v H H' _ _ h => h) (fun x => rfl) e5 (fun R h => h) (fun j y G6 R hj s6 k => ?_) (fun D2 G6 vs s6 hl hD2 hvs => ?_)
              · match j, hj with
                | 0, hj =>
                  cases hj
                  show tCall _ _ _ _ [some (V.ref l), some (V.int 40), some (V.int x), some (V.ref z), some tv, some (V.ref D), w6, w7, some (V.int sp), none, some (.int (-5)), w11, w12] _ _
                  simp -dsimp [tSeq, tAsg, tRet, tIfS, tIf, tTest, tVar, tCons, tNil, tC, tOp, tUn, rI, rI0, rU, tCB, tLst_A, tTup_A, gName, L2.start, CMul, CPow, CDiv, tDrop, tBM, tBM0, tNext, tPar, gSub, rSetL, rIxL, rIxT, tChain, tB, tNot, tNotV, tAnd, tOr, tAndV, tOrV, tFld, tCall, rIxLH, rIxTH, atI, ixN, upd_same, cxK, ex2, ex3, ex3b, rIs1, rIs2, rNe2, tyN, kb1, kb2, kb3, kb4, kb5, kb6, rEq, rNe, scal, tMake_S, tMakeK_S, tMakeN_S]
                  exact ⟨by decide, wk (by decide) s6 fun G7 s7 => k _ _ s7 rfl⟩
                | 1, hj =>
                  cases hj
                  show tCall _ _ _ _ [some (V.ref l), some (V.int 40), some (V.int x), some (V.ref z), some tv, some (V.ref D), w6, w7, some (V.int sp), none, some (.int sp), w11, w12] _ _
                  simp -dsimp [tSeq, tAsg, tRet, tIfS, tIf, tTest, tVar, tCons, tNil, tC, tOp, tUn, rI, rI0, rU, tCB, tLst_A, tTup_A, gName, L2.start, CMul, CPow, CDiv, tDrop, tBM, tBM0, tNext, tPar, gSub, rSetL, rIxL, rIxT, tChain, tB, tNot, tNotV, tAnd, tOr, tAndV, tOrV, tFld, tCall, rIxLH, rIxTH, atI, ixN, upd_same, cxK, ex2, ex3, ex3b, rIs1, rIs2, rNe2, tyN, kb1, kb2, kb3, kb4, kb5, kb6, rEq, rNe, scal, tMake_S, tMakeK_S, tMakeN_S]
                  refine ⟨by decide, wk (by omega) s6 fun G7 s7 => k _ _ s7 ?_⟩
                  show some (V.int (40 - sp)) = some (.int _)
                  congr 2
                  repeat' split
                  all_goals omega
                | 2, hj =>
                  cases hj
                  show tCall _ _ _ _ [some (V.ref l), some (V.int 40), some (V.int x), some (V.ref z), some tv, some (V.ref D), w6, w7, some (V.int sp), none, some (.int 47), w11, w12] _ _
                  simp -dsimp [tSeq, tAsg, tRet, tIfS, tIf, tTest, tVar, tCons, tNil, tC, tOp, tUn, rI, rI0, rU, tCB, tLst_A, tTup_A, gName, L2.start, CMul, CPow, CDiv, tDrop, tBM, tBM0, tNext, tPar, gSub, rSetL, rIxL, rIxT, tChain, tB, tNot, tNotV, tAnd, tOr, tAndV, tOrV, tFld, tCall, rIxLH, rIxTH, atI, ixN, upd_same, cxK, ex2, ex3, ex3b, rIs1, rIs2, rNe2, tyN, kb1, kb2, kb3, kb4, kb5, kb6, rEq, rNe, scal, tMake_S, tMakeK_S, tMakeN_S]
                  exact ⟨by decide, wk (by decide) s6 fun G7 s7 => k _ _ s7 rfl⟩
              · match vs, hl with
                | [v0, v1, v2], _ =>
                  have q0 := hvs 0 v0 rfl
                  have q1 := hvs 1 v1 rfl
                  have q2 := hvs 2 v2 rfl
                  cases q0; cases q1; cases q2
                  exact ⟨D2, rfl, hD2⟩
            · rintro σ5 G5 ⟨R, w10, rfl, hR⟩
              simp -dsimp [tSeq, tAsg, tRet, tIfS, tIf, tTest, tVar, tCons, tNil, tC, tOp, tUn, rI, rI0, rU, tCB, tLst_A, tTup_A, gName, L2.start, CMul, CPow, CDiv, tDrop, tBM, tBM0, tNext, tPar, gSub, rSetL, rIxL, rIxT, tChain, tB, tNot, tNotV, tAnd, tOr, tAndV, tOrV, tFld, tCall, rIxLH, rIxTH, atI, ixN, upd_same, cxK, ex2, ex3, ex3b, rIs1, rIs2, rNe2, tyN, kb1, kb2, kb3, kb4, kb5, kb6, rEq, rNe, scal, tMake_S, tMakeK_S, tMakeN_S]
              refine ⟨by decide, Alloc.of fun e G6 n6 e6 s6 => ⟨.ref R, .ref e, rfl, .lst 4 (s6 _ _ hR) e6 rfl (show 3 ≤ 500 by decide) (fun i u v eu ev => ?_), fun H' s => q H'⟩⟩
              rw [eu] at ev
              cases ev
              match i, eu with
              | 0, eu => cases eu; exact .int _ _
              | 1, eu => cases eu; exact .int _ _
              | 2, eu => cases eu; exact .int _ _

end
section
variable {P : Program} {w : World} {K : PySem.W.Frag} {mg : Str → Option Value} {base : Heap} {fd : FuncData}
def spPickN (K : PySem.W.Frag) : Sp := fun vs H Q _ => ∃ (l F : Addr) (d0 d1 d2 : Int) (xs : List V), vs = [.ref l, .ref F] ∧ H l = some (draws d0 d1 d2) ∧ H F = some (.lst xs) ∧ F ≠ l ∧ 0 < xs.length ∧ xs.length < 10000000 ∧ ∀ (j : Nat) (v : V) (e0 e1 e2 : Int), xs[j]? = some v → Q v (upd H l (draws e0 e1 e2))
theorem ok_pickN (W : Wd K mg) : ∃ fd, FnOk P w K mg base CX0 2 (He.ga K "_law_pick") fd ["_law_draws", "_law_xs"] (spPickN K) ∧ Binds K fd ["_law_draws", "_law_xs"] [] := by
  obtain ⟨fd_draw, G_draw, b_draw⟩ := ok_draw (P := P) (w := w) (base := base) W
  have k_draw : PySem.W.keepIn K (.ref (He.ga K "_law_draw")) = true := by obtain ⟨fd, F⟩ := W.F_draw; exact F.kp
  obtain ⟨fd, F⟩ := W.F_pick
  refine ⟨fd, F.ok scPick (fun vs H Q E h => ?_) (fun cdv A outer s H vs Q E hr h => ?_), FunD.bindsN F fun _ _ _ _ _ _ us hl => match us, hl with | [_, _], _ => rfl⟩
  · obtain ⟨l, F, _, _, _, _, rfl, _⟩ := h
    rfl
  · obtain ⟨l, F, d0, d1, d2, xs, rfl, hl, hF, nF, h0, h1, q⟩ := h
    have r1 : Room 1 _ := hr.mono (by decide)
    refine ⟨_, PSs.nox (pss_one (ps_ret (pe_ix ix_lstH (pv 1) (pe_call G_draw r1 rfl W.g_law_draw k_draw b_draw .nil pass0 (pa_cons (pv 0) (pa_cons (pe_callB len_lstH (by rfl) W.f_len boot_len (pa_cons (pv 1) pa_nil)) pa_nil))) (fun _ _ => rfl)))), ?_⟩
    simp -dsimp [tSeq, tAsg, tRet, tIfS, tIf, tTest, tVar, tCons, tNil, tC, tOp, tUn, rI, rI0, rU, tCB, tLst_A, tTup_A, gName, L2.start, CMul, CPow, CDiv, tDrop, tBM, tBM0, tNext, tPar, gSub, rSetL, rIxL, rIxT, tChain, tB, tNot, tNotV, tAnd, tOr, tAndV, tOrV, tFld, tCall, rIxLH, rIxTH, atI, ixN, upd_same, cxK, ex2, ex3, ex3b, rIs1, rIs2, rNe2, tyN, kb1, kb2, kb3, kb4, kb5, kb6, rEq, rNe, scal, tMake_S, tMakeK_S, tMakeN_S, hF]
    refine ⟨l, d0, d1, d2, xs.length, rfl, hl, by omega, by omega, fun r e0 e1 e2 r0 r1 => ?_⟩
    have hr' : r.toNat < xs.length := by omega
    exact ⟨xs, r, rfl, by rw [upd_ne nF]; exact hF, _, ix_nat r0 (List.getElem?_eq_getElem hr'), q _ _ e0 e1 e2 (List.getElem?_eq_getElem hr')⟩
theorem split2 {c : Prop} [Decidable c] {F : Int → Prop} (h : ∀ dp : Nat, dp ≤ 3 → (dp = 3 → c) → F (dp : Int)) : if c then F 3 else F 2 := by
  split
  · exact h 3 (by decide) fun _ => by assumption
  · exact h 2 (by decide) fun e => by cases e
abbrev CXL (_ : Program) (_ : World) : CXT := CX0
def lawK : Nat := 46
def spLaw (K : PySem.W.Frag) : Sp := fun vs H Q _ => ∃ (a : Addr) (ns : List Int), vs = [.ref a] ∧ SqL K H a (ns.map V.int) ∧ ns.length ≤ 63 ∧ ∀ H', Q (.bl true) H'
theorem hCX {P : Program} {w : World} : ∀ (H : Hp) (s : Shared) (e : Value) (s' : Shared), CXL P w [] H s (fun _ _ _ => False) e s' → False := fun _ _ _ _ z => z
theorem scLaw : FnScope ["_law_script", "_law_k", "_law_draws", "_law_many", "_law_code", "_law_x", "_law_told", "_law_due", "_law_turn", "_law_found", "_law_far", "_law_path", "_law_some", "_law_points", "_law_point", "_law_passed_here", "_law_copied", "_law_row_here"] ["_law_script"] d_law.scope := ⟨rfl, rfl, rfl, by decide +kernel, rfl, by decide +kernel, by decide +kernel⟩
theorem ok_law (W : Wd K mg) (hP : SupX.PrgOk P) {fd : FuncData} (F : FunD K d_law.name d_law.qual d_law.params d_law.body d_law.scope (d_law.dvs K) (d_law.kws K) (He.fAd K d_law.at_) fd) : FnOk P w K mg base (CXL P w) lawK (He.ga K "law") fd ["_law_script"] (spLaw K) := by
  obtain ⟨fd_source, G_source, b_source⟩ := ok_source (P := P) (w := w) (base := base) W
  have k_source : PySem.W.keepIn K (.ref (He.ga K "_law_source")) = true := by obtain ⟨fd, F⟩ := W.F_source; exact F.kp
  obtain ⟨fd_draw, G_draw, b_draw⟩ := ok_draw (P := P) (w := w) (base := base) W
  have k_draw : PySem.W.keepIn K (.ref (He.ga K "_law_draw")) = true := by obtain ⟨fd, F⟩ := W.F_draw; exact F.kp
  obtain ⟨fd_terms, G_terms, b_terms⟩ := ok_terms (P := P) (w := w) (base := base) W
  have k_terms : PySem.W.keepIn K (.ref (He.ga K "_law_terms")) = true := by obtain ⟨fd, F⟩ := W.F_terms; exact F.kp
  obtain ⟨fd_grown, G_grown, b_grown⟩ := ok_grown (P := P) (w := w) (base := base) W 3
  have k_grown : PySem.W.keepIn K (.ref (He.ga K "_law_grown")) = true := by obtain ⟨fd, F⟩ := W.F_grown; exact F.kp
  obtain ⟨fd_of_terms, G_of_terms, b_of_terms⟩ := ok_of_terms (P := P) (w := w) (base := base) W 3
  have k_of_terms : PySem.W.keepIn K (.ref (He.ga K "_law_of_terms")) = true := by obtain ⟨fd, F⟩ := W.F_of_terms; exact F.kp
  obtain ⟨fd_listed, G_listed, b_listed⟩ := ok_listed (P := P) (w := w) (base := base) W 3
  have k_listed : PySem.W.keepIn K (.ref (He.ga K "_law_listed")) = true := by obtain ⟨fd, F⟩ := W.F_listed; exact F.kp
  obtain ⟨fd_leaves, G_leaves, b_leaves⟩ := ok_leaves (P := P) (w := w) (base := base) W 3
  have k_leaves : PySem.W.keepIn K (.ref (He.ga K "leaves")) = true := by obtain ⟨fd, F⟩ := W.F_leaves; exact F.kp
  obtain ⟨fd_same, G_same, b_same⟩ := ok_same (P := P) (w := w) (base := base) W 5
  have k_same : PySem.W.keepIn K (.ref (He.ga K "_law_same")) = true := by obtain ⟨fd, F⟩ := W.F_same; exact F.kp
  obtain ⟨fd_depth, G_depth, b_depth⟩ := ok_depth (P := P) (w := w) (base := base) W 3
  have k_depth : PySem.W.keepIn K (.ref (He.ga K "depth")) = true := by obtain ⟨fd, F⟩ := W.F_depth; exact F.kp
  obtain ⟨fd_faces, G_faces, b_faces⟩ := ok_faces (P := P) (w := w) (base := base) W
  have k_faces : PySem.W.keepIn K (.ref (He.ga K "_law_faces")) = true := by obtain ⟨fd, F⟩ := W.F_faces; exact F.kp
  obtain ⟨fd_rows_of, G_rows_of, b_rows_of⟩ := ok_rows_of (P := P) (w := w) (base := base) W 3
  have k_rows_of : PySem.W.keepIn K (.ref (He.ga K "_law_rows_of")) = true := by obtain ⟨fd, F⟩ := W.F_rows_of; exact F.kp
  obtain ⟨fd_pickN, G_pickN, b_pickN⟩ := ok_pickN (P := P) (w := w) (base := base) W
  have k_pickN : PySem.W.keepIn K (.ref (He.ga K "_law_pick")) = true := by obtain ⟨fd, F⟩ := W.F_pick; exact F.kp
  obtain ⟨fd_passed, G_passed, b_passed⟩ := ok_passed (P := P) (w := w) (base := base) W
  have k_passed : PySem.W.keepIn K (.ref (He.ga K "_law_passed")) = true := by obtain ⟨fd, F⟩ := W.F_passed; exact F.kp
  obtain ⟨fd_led, G_led, b_led⟩ := ok_led (P := P) (w := w) (base := base) W
  have k_led : PySem.W.keepIn K (.ref (He.ga K "_law_led")) = true := by obtain ⟨fd, F⟩ := W.F_led; exact F.kp
  obtain ⟨fd_walk, G_walk, b_walk⟩ := ok_walk (P := P) (w := w) (base := base) W
  have k_walk : PySem.W.keepIn K (.ref (He.ga K "walk")) = true := by obtain ⟨fd, F⟩ := W.F_walk; exact F.kp
  obtain ⟨fd_chain_right, G_chain_right, b_chain_right⟩ := ok_chain_right (P := P) (w := w) (base := base) W
  have k_chain_right : PySem.W.keepIn K (.ref (He.ga K "_law_chain_right")) = true := by obtain ⟨fd, F⟩ := W.F_chain_right; exact F.kp
  refine F.ok scLaw (fun vs H Q E h => ?_) (fun cdv A outer s H vs Q E hr h => ?_)
  · obtain ⟨a, ns, rfl, _⟩ := h
    rfl
  · obtain ⟨a, ns, rfl, hS, hlen, q⟩ := h
    have r1 : Room 1 _ := hr.mono (by decide)
    have r2 : Room 2 _ := hr.mono (by decide)
    have r3 : Room 3 _ := hr.mono (by decide)
    have r4 : Room 4 _ := hr.mono (by decide)
    have r5 : Room 5 _ := hr.mono (by decide)
    have r6 : Room 6 _ := hr.mono (by decide)
    have r7 : Room 7 _ := hr.mono (by decide)
    have r8 : Room 8 _ := hr.mono (by decide)
    have r9 : Room 9 _ := hr.mono (by decide)
    have r10 : Room 10 _ := hr.mono (by decide)
    have r11 : Room 11 _ := hr.mono (by decide)
    have r12 : Room 12 _ := hr.mono (by decide)
    have r13 : Room 13 _ := hr.mono (by decide)
    have r45 : Room 45 _ := hr.mono (by decide)
    refine ⟨_, PSs.nox (pss_cons (ps_for PassesOwn.never rfl (pi_range1 rfl W.f_range (pa_cons (pe_op op_add pe_int (pe_callB (call_min2 rfl) (by rfl) W.f_min (by decide +kernel) (pa_cons (pe_callB call_len_seq (by rfl) W.f_len boot_len (pa_cons (pv 0) pa_nil)) (pa_cons pe_int pa_nil)))) pa_nil)) (pg_name (i := 1) scLaw.nd rfl (Or.inl rfl)) (pss_cons (ps_set (i := 2) scLaw.nd rfl (Or.inl rfl) (pe_call G_source r1 rfl W.g_law_source k_source b_source .nil pass0 (pa_cons (pv 0) (pa_cons (pv 1) pa_nil))))
    (pss_cons (ps_set (i := 3) scLaw.nd rfl (Or.inl rfl) (pe_op op_add pe_int (pe_call G_draw r1 rfl W.g_law_draw k_draw b_draw .nil pass0 (pa_cons (pv 2) (pa_cons pe_int pa_nil)))))
    (pss_cons (ps_par (i := 4) (j := 5) rfl scLaw.nd rfl rfl (by decide) rfl rfl (pa_cons (pe_call G_grown r13 rfl W.g_law_grown k_grown b_grown .nil pass0 (pa_cons (pv 2) (pa_cons (pv 3) (pa_cons (pe_ifExp (pt_cmpR op_lt (pv 3) pe_int (nomark _)) pe_int pe_int) pa_nil)))) (pa_cons (pe_call G_terms r6 rfl W.g_law_terms k_terms b_terms .nil pass0 (pa_cons (pv 3) pa_nil)) pa_nil)) rfl)
    (pss_cons (ps_set (i := 6) scLaw.nd rfl (Or.inl rfl) (pe_call G_of_terms r13 rfl W.g_law_of_terms k_of_terms b_of_terms .nil pass0 (pa_cons (pv 4) (pa_cons (pv 5) pa_nil))))
    (pss_cons (ps_set (i := 7) scLaw.nd rfl (Or.inl rfl) (pe_call G_listed r13 rfl W.g_law_listed k_listed b_listed .nil pass0 (pa_cons (pv 4) (pa_cons (pv 5) (pa_cons (pe_tup pa_nil) pa_nil)))))
    (C8.pss_cut (ps_for PassesOwn.never rfl (pi_range1 rfl W.f_range (pa_cons pe_int pa_nil)) (pg_name (i := 8) scLaw.nd rfl (Or.inl rfl)) (pss_cons (ps_set (i := 9) scLaw.nd rfl (Or.inl rfl) (pe_call G_leaves r5 rfl W.g_leaves k_leaves b_leaves .nil pass0 (pa_cons (pv 6) pa_nil)))
    (pss_cons (ps_if (pt_not (pt_val (pe_call G_same r12 rfl W.g_law_same k_same b_same .nil pass0 (pa_cons (pv 9) (pa_cons (pv 7) pa_nil))))) (pss_one (ps_ret pe_bl)) pss_nil)
    (pss_one (ps_expr (pe_bm0 PySem.F.plainAttrs_list PySem.F.slot_list_clear PySem.F.type_list_clear mt_clear (pv 9)))))))
    (pss_cons (ps_set (i := 10) scLaw.nd rfl (Or.inl rfl) pe_int)
    (C8.pss_cut (ps_for PassesOwn.never rfl (pi_list (pv 7)) (pg_tup rfl (pgs_cons (pg_name (i := 11) scLaw.nd rfl (Or.inl rfl)) (pgs_cons (pg_name (i := 12) scLaw.nd rfl (Or.inl rfl)) pgs_nil))) (pss_one (ps_set (i := 10) scLaw.nd rfl (Or.inl rfl) (pe_callB (call_max2 rfl) (by rfl) W.f_max (by decide +kernel) (pa_cons (pv 10) (pa_cons (pe_callB len_tupH (by rfl) W.f_len boot_len (pa_cons (pv 11) pa_nil)) pa_nil))))))
    (C8.pss_cut (ps_if (pt_not (pt_val (pe_call G_same r12 rfl W.g_law_same k_same b_same .nil pass0 (pa_cons (pe_call G_depth r4 rfl W.g_depth k_depth b_depth .nil pass0 (pa_cons (pv 6) pa_nil)) (pa_cons (pv 10) pa_nil))))) (pss_one (ps_ret pe_bl)) pss_nil)
    (C8.pss_cut (ps_set (i := 13) scLaw.nd rfl (Or.inl rfl) (pe_call G_faces r4 rfl W.g_law_faces k_faces b_faces .nil pass0 (pa_cons (pe_lc (own := [("_law_row_here", 17)]) (g := gName 17) (tt := tYes) rfl scLaw.nd (pi_list (pe_call G_rows_of r4 rfl W.g_law_rows_of k_rows_of b_rows_of .nil pass0 (pa_cons (pv 4) pa_nil))) (blkOk_by (N := ["_law_script", "_law_k", "_law_draws", "_law_many", "_law_code", "_law_x", "_law_told", "_law_due", "_law_turn", "_law_found", "_law_far", "_law_path", "_law_some", "_law_points", "_law_point", "_law_passed_here", "_law_copied", "_law_row_here"]) (sc := defScope s_law) (by decide +kernel))
            (fun _ _ _ _ _ => (pg_name (i := 17) scLaw.nd rfl (Or.inl rfl))) (fun _ _ _ _ _ => pts_nil)
            (fun _ _ _ _ _ => (pe_slice (show SlR _ (rSlT K) from sl_tup) (pv 17) po_none (po_some pe_int)))) (pa_cons (pv 3) pa_nil))))
    (pss_one (ps_for PassesOwn.never rfl (pi_range1 rfl W.f_range (pa_cons pe_int pa_nil)) (pg_name (i := 8) scLaw.nd rfl (Or.inl rfl)) (pss_cons (ps_set (i := 14) scLaw.nd rfl (Or.inl rfl) (pe_call G_pickN r2 rfl W.g_law_pick k_pickN b_pickN .nil pass0 (pa_cons (pv 2) (pa_cons (pv 13) pa_nil))))
    (pss_cons (ps_set (i := 15) scLaw.nd rfl (Or.inl rfl) (pe_call G_passed r5 rfl W.g_law_passed k_passed b_passed .nil pass0 (pa_cons (pv 2) (pa_cons (pv 14) (pa_cons (pv 3) pa_nil)))))
    (pss_cons (ps_set (i := 16) scLaw.nd rfl (Or.inl rfl) (pe_callTy call_list_of (by rfl) W.f_list (by decide +kernel) (pa_cons (pv 15) pa_nil)))
    (pss_one (ps_if (PW.pt (pw_or (pt_not (pt_val (pe_call G_same r12 rfl W.g_law_same k_same b_same .nil pass0 (pa_cons (pe_call G_walk r7 rfl W.g_walk k_walk b_walk .nil pass0 (pa_cons (pv 6) (pa_cons (pv 15) pa_nil))) (pa_cons (pe_call G_led r3 rfl W.g_law_led k_led b_led .nil pass0 (pa_cons (pv 4) (pa_cons (pv 14) pa_nil))) pa_nil))))) (pw_or1 (pt_cmpR ((op_neS hr.units)) (pe_callTy call_list_of (by rfl) W.f_list (by decide +kernel) (pa_cons (pv 15) pa_nil)) (pv 16) (nomark _))))) (pss_one (ps_ret pe_bl)) pss_nil))))))))))))))))))
    (pss_one (ps_ret (pe_call G_chain_right r45 rfl W.g_law_chain_right k_chain_right b_chain_right .nil pass0 (pa_cons (pe_call G_source r1 rfl W.g_law_source k_source b_source .nil pass0 (pa_cons (pv 0) (pa_cons pe_int pa_nil))) (pa_cons pe_int pa_nil)))))), ?_⟩
    simp -dsimp [tSeq, tAsg, tRet, tIfS, tIf, tTest, tVar, tCons, tNil, tC, tOp, tUn, rI, rI0, rU, tCB, tLst_A, tTup_A, gName, L2.start, CMul, CPow, CDiv, tDrop, tBM, tBM0, tNext, tPar, gSub, rSetL, rIxL, rIxT, tChain, tB, tNot, tNotV, tAnd, tOr, tAndV, tOrV, tFld, tCall, rIxLH, rIxTH, atI, ixN, upd_same, cxK, ex2, ex3, ex3b, rIs1, rIs2, rNe2, tyN, kb1, kb2, kb3, kb4, kb5, kb6, rEq, rNe, scal, tMake_S, tMakeK_S, tMakeN_S, tFor_iL, StX.tSMeth]
    refine ⟨.ref a, rfl, a, rfl, ns.map V.int, .inl hS, ((ns.map V.int).length : Int), 3, rfl, 2, _, rfl, rfl, _, rfl, by split <;> omega, by split <;> omega, for_range (fun i σ' G => ∃ (v1 v2 v3 v4 v5 v6 v7 v8 v9 v10 v11 v12 v13 v14 v15 v16 v17 : Option V), σ' = [some (.ref a), v1, v2, v3, v4, v5, v6, v7, v8, v9, v10, v11, v12, v13, v14, v15, v16, v17] ∧ Same H G) ⟨_, _, _, _, _, _, _, _, _, _, _, _, _, _, _, _, _, rfl, Same.refl _⟩ ?_ ?_⟩
    · rintro i σ' G hi ⟨v1, v2, v3, v4, v5, v6, v7, v8, v9, v10, v11, v12, v13, v14, v15, v16, v17, rfl, sG⟩
      have hi5 : i < 5 := by split at hi <;> omega
      clear hi
      simp -dsimp [tSeq, tAsg, tRet, tIfS, tIf, tTest, tVar, tCons, tNil, tC, tOp, tUn, rI, rI0, rU, tCB, tLst_A, tTup_A, gName, L2.start, CMul, CPow, CDiv, tDrop, tBM, tBM0, tNext, tPar, gSub, rSetL, rIxL, rIxT, tChain, tB, tNot, tNotV, tAnd, tOr, tAndV, tOrV, tFld, tCall, rIxLH, rIxTH, atI, ixN, upd_same, cxK, ex2, ex3, ex3b, rIs1, rIs2, rNe2, tyN, kb1, kb2, kb3, kb4, kb5, kb6, rEq, rNe, scal, tMake_S, tMakeK_S, tMakeN_S]
      refine ⟨a, ns, i, rfl, sG.seq hS, by omega, fun d0 d1 l nl => ⟨l, d0, d1, 0, 3, rfl, upd_same, by decide, by decide, fun x e0 e1 e2 x0 x2 => ?_⟩⟩
      rw [upd_upd]
      obtain ⟨many, em⟩ : ∃ many : Nat, 1 + x = (many : Int) := ⟨(1 + x).toNat, by omega⟩
      have SE : ∀ {G' : Hp}, SameN l G G' → Same H G' := fun z b o e => z b o (ne_of_none (sG _ _ e) nl) (sG _ _ e)
      have N0 : SameN l G (upd G l (draws e0 e1 e2)) := .upd
      have L0 : (upd G l (draws e0 e1 e2)) l = some (draws e0 e1 e2) := upd_same
      generalize upd G l (draws e0 e1 e2) = H0 at N0 L0
      refine ⟨x, rfl, ?_⟩
      rw [em]
      have m0 : 0 < many := by omega
      have m3 : many ≤ 3 := by omega
      refine split2 (F := fun dp => spGrown K 3 [.ref l, .int many, .int dp] H0 _ E0) fun dp hdp3 hdp => ?_
      refine ⟨l, e0, e1, e2, many, dp, rfl, hdp3, L0, m0, m3, fun code H1 t f0 f1 f2 N1 L1 hG ht => ⟨many, rfl, m3, fun px H2 s2 hX => ?_⟩⟩
      have hpl : (t.paths []).length ≤ 8 := by
        have h1 := t.paths_len []
        have h2 : 2 ^ t.ht ≤ 2 ^ 3 := Nat.pow_le_pow_right (by decide) (by omega)
        have h3 : (2 : Nat) ^ 3 = 8 := by decide
        omega
      have hrl : t.rows.length ≤ 7 := by
        have h1 := t.rows_len
        have h2 : 2 ^ t.ht ≤ 2 ^ 3 := Nat.pow_le_pow_right (by decide) (by omega)
        have h3 : (2 : Nat) ^ 3 = 8 := by decide
        omega
      have hrl3 : many = 3 → t.rows.length ≤ 6 := fun e => by
        have hd : dp ≠ 3 := fun h => by
          have := hdp h
          omega
        have h1 := t.rows_len
        have h2 : 2 ^ t.ht ≤ 2 ^ 2 := Nat.pow_le_pow_right (by decide) (by omega)
        have h3 : (2 : Nat) ^ 2 = 4 := by decide
        omega
      have h10 := hG.ok10
      have hok : AllOk t := fun r hr => (h10 r hr).rwOk
      refine ⟨many, code, t, px, rfl, hG.same s2, hX, m0, m3, by omega, fun told H3 s3 hW => Alloc.of fun e H4 n4 e4 s4 => ?_⟩
      refine ⟨many, code, .ref e, t, px, [], rfl, hG.same ((s2.trans s3).trans s4), hX.keepL (.of (s3.trans s4)), m0, m3, ⟨e, [], rfl, e4, Rp.nil⟩, by show 0 + t.ht ≤ 100; omega, by omega, by omega, fun D ds H5 s5 hD hds => ?_⟩
      have s25 := ((s2.trans s3).trans s4).trans s5
      have L5 := s25 _ _ L1
      have hG5 := hG.same s25
      have hW5 := hW.same (s4.trans s5)
      have N5 : SameN l G H5 := (N0.trans N1).trans (.of s25)
      have dsl := hds.1
      clear hG hX hW L0 L1 N0 N1 e4 n4 s25 s2 s3 s4 s5
      refine ⟨fun σ' G' => ∃ (w8 w9 : Option V), σ' = [some (.ref a), some (.int (i : Int)), some (.ref l), some (.int (many : Int)), some code, some (.ref px), some told, some (.ref D), w8, w9, v10, v11, v12, v13, v14, v15, v16, v17] ∧ Same H5 G', ?_, ?_⟩
      · refine ⟨2, rfl, by decide, by decide, for_range (n := 2) (fun j σ' G' => ∃ (w8 w9 : Option V), σ' = [some (.ref a), some (.int (i : Int)), some (.ref l), some (.int (many : Int)), some code, some (.ref px), some told, some (.ref D), w8, w9, v10, v11, v12, v13, v14, v15, v16, v17] ∧ Same H5 G') ⟨_, _, rfl, Same.refl _⟩ ?_ ?_⟩
        · rintro j σ' G' hj ⟨w8, w9, rfl, s6⟩
          simp -dsimp [tSeq, tAsg, tRet, tIfS, tIf, tTest, tVar, tCons, tNil, tC, tOp, tUn, rI, rI0, rU, tCB, tLst_A, tTup_A, gName, L2.start, CMul, CPow, CDiv, tDrop, tBM, tBM0, tNext, tPar, gSub, rSetL, rIxL, rIxT, tChain, tB, tNot, tNotV, tAnd, tOr, tAndV, tOrV, tFld, tCall, rIxLH, rIxTH, atI, ixN, upd_same, cxK, ex2, ex3, ex3b, rIs1, rIs2, rNe2, tyN, kb1, kb2, kb3, kb4, kb5, kb6, rEq, rNe, scal, tMake_S, tMakeK_S, tMakeN_S]
          refine ⟨told, t, rfl, hW5.same s6, by omega, by omega, by omega, fun F fs G2 nF s7 hF hfs => ⟨.ref F, .ref D, rfl, paths_sm 1 hF ((s6.trans s7) _ _ hD) hfs (hds.mono fun v b h => h.keepL (.of (s6.trans s7))) hok (by omega) (by omega), fun G3 s8 => .inr ⟨rfl, ?_⟩⟩⟩
          have nF5 := none_same s6 nF
          refine ⟨.inl ⟨rfl, _, SqL.of (s8 _ _ hF)⟩, F, fs, rfl, rfl, s8 _ _ hF, fun b o e => ?_⟩
          rw [upd_ne (ne_of_none e nF5)]
          exact s8 _ _ (s7 _ _ (s6 _ _ e))
        · rintro σ' G' ⟨w8, w9, rfl, s6⟩
          exact ⟨w8, w9, rfl, s6⟩
      · rintro σ' G' ⟨w8, w9, rfl, s6⟩
        refine ⟨fun σ' G2 => ∃ (w11 w12 : Option V), σ' = [some (.ref a), some (.int (i : Int)), some (.ref l), some (.int (many : Int)), some code, some (.ref px), some told, some (.ref D), w8, w9, some (.int (t.ht : Int)), w11, w12, v13, v14, v15, v16, v17] ∧ Same H5 G2, ?_, ?_⟩
        · simp -dsimp [tSeq, tAsg, tRet, tIfS, tIf, tTest, tVar, tCons, tNil, tC, tOp, tUn, rI, rI0, rU, tCB, tLst_A, tTup_A, gName, L2.start, CMul, CPow, CDiv, tDrop, tBM, tBM0, tNext, tPar, gSub, rSetL, rIxL, rIxT, tChain, tB, tNot, tNotV, tAnd, tOr, tAndV, tOrV, tFld, tCall, rIxLH, rIxTH, atI, ixN, upd_same, cxK, ex2, ex3, ex3b, rIs1, rIs2, rNe2, tyN, kb1, kb2, kb3, kb4, kb5, kb6, rEq, rNe, scal, tMake_S, tMakeK_S, tMakeN_S, tFor_iL]
          refine ⟨⟨ds, SqL.of (s6 _ _ hD)⟩, ?_⟩
          unfold ForW
          refine for_list (K := K) (a := D) (xs := ds) (fun j σ' G2 => ∃ (w11 w12 : Option V), σ' = [some (.ref a), some (.int (i : Int)), some (.ref l), some (.int (many : Int)), some code, some (.ref px), some told, some (.ref D), w8, w9, some (.int ((mxF ((t.paths []).take j) : Nat) : Int)), w11, w12, v13, v14, v15, v16, v17] ∧ Same H5 G2) ⟨_, _, rfl, s6⟩ (fun j σ' G2 _ h => ?_) ?_ ?_
          · obtain ⟨_, _, _, s⟩ := h
            exact SqL.of (s _ _ hD)
          · rintro j y σ' G2 hj ⟨w11, w12, rfl, s7⟩
            obtain ⟨e, ee, a2, pv', rfl, ha2, ⟨pa, pxs, rfl, hpa, hpr⟩, hv⟩ := hds.get hj
            refine tup2n (s7 _ _ ha2) ?_
            simp -dsimp [tSeq, tAsg, tRet, tIfS, tIf, tTest, tVar, tCons, tNil, tC, tOp, tUn, rI, rI0, rU, tCB, tLst_A, tTup_A, gName, L2.start, CMul, CPow, CDiv, tDrop, tBM, tBM0, tNext, tPar, gSub, rSetL, rIxL, rIxT, tChain, tB, tNot, tNotV, tAnd, tOr, tAndV, tOrV, tFld, tCall, rIxLH, rIxTH, atI, ixN, upd_same, cxK, ex2, ex3, ex3b, rIs1, rIs2, rNe2, tyN, kb1, kb2, kb3, kb4, kb5, kb6, rEq, rNe, scal, tMake_S, tMakeK_S, tMakeN_S]
            refine ⟨pxs, s7 _ _ hpa, ?_, s7⟩
            rw [mxF_take ee, hpr.1]
            split <;> omega
          · rintro σ' G2 ⟨w11, w12, rfl, s7⟩
            have e : (t.paths []).take ds.length = t.paths [] := List.take_of_length_le (by omega)
            rw [e, mxF_paths]
            exact ⟨⟨_, _, rfl⟩, s7⟩
        · rintro σ' G2 ⟨w11, w12, rfl, s7⟩
          refine ⟨fun σ' G3 => σ' = [some (.ref a), some (.int (i : Int)), some (.ref l), some (.int (many : Int)), some code, some (.ref px), some told, some (.ref D), w8, w9, some (.int (t.ht : Int)), w11, w12, v13, v14, v15, v16, v17] ∧ Same H5 G3, ?_, ?_⟩
          · simp -dsimp [tSeq, tAsg, tRet, tIfS, tIf, tTest, tVar, tCons, tNil, tC, tOp, tUn, rI, rI0, rU, tCB, tLst_A, tTup_A, gName, L2.start, CMul, CPow, CDiv, tDrop, tBM, tBM0, tNext, tPar, gSub, rSetL, rIxL, rIxT, tChain, tB, tNot, tNotV, tAnd, tOr, tAndV, tOrV, tFld, tCall, rIxLH, rIxTH, atI, ixN, upd_same, cxK, ex2, ex3, ex3b, rIs1, rIs2, rNe2, tyN, kb1, kb2, kb3, kb4, kb5, kb6, rEq, rNe, scal, tMake_S, tMakeK_S, tMakeN_S]
            exact ⟨told, t, rfl, hW5.same s7, by omega, by decide, _, _, rfl, .int 5 _, fun H' s => .inr ⟨rfl, s7.trans s⟩⟩
          · rintro σ' G3 ⟨rfl, s8⟩
            refine ⟨fun σ' G4 => ∃ (P : Addr) (ps : List V) (w17 : Option V), σ' = [some (.ref a), some (.int (i : Int)), some (.ref l), some (.int (many : Int)), some code, some (.ref px), some told, some (.ref D), w8, w9, some (.int (t.ht : Int)), w11, w12, some (.ref P), v14, v15, v16, w17] ∧ Same H5 G4 ∧ G4 P = some (.lst ps) ∧ P ≠ l ∧ Rp Pr G4 ps (facesF (t.rows.map (·.1)) many), ?_, ?_⟩
            · simp -dsimp [tSeq, tAsg, tRet, tIfS, tIf, tTest, tVar, tCons, tNil, tC, tOp, tUn, rI, rI0, rU, tCB, tLst_A, tTup_A, gName, L2.start, CMul, CPow, CDiv, tDrop, tBM, tBM0, tNext, tPar, gSub, rSetL, rIxL, rIxT, tChain, tB, tNot, tNotV, tAnd, tOr, tAndV, tOrV, tFld, tCall, rIxLH, rIxTH, atI, ixN, upd_same, cxK, ex2, ex3, ex3b, rIs1, rIs2, rNe2, tyN, kb1, kb2, kb3, kb4, kb5, kb6, rEq, rNe, scal, tMake_S, tMakeK_S, tMakeN_S]
              rw [show ∀ {gg te σ H Q}, tLc (iList K (tCall (spRo2 K 3) [] E0 (tCons (tVar 4) tNil))) gg tYes te [17] σ H Q = (tCall (spRo2 K 3) [] E0 (tCons (tVar 4) tNil)) σ H fun x H1 => tLc (iList K (tC x)) gg tYes te [17] σ H1 Q from rfl]
              simp -dsimp [tSeq, tAsg, tRet, tIfS, tIf, tTest, tVar, tCons, tNil, tC, tOp, tUn, rI, rI0, rU, tCB, tLst_A, tTup_A, gName, L2.start, CMul, CPow, CDiv, tDrop, tBM, tBM0, tNext, tPar, gSub, rSetL, rIxL, rIxT, tChain, tB, tNot, tNotV, tAnd, tOr, tAndV, tOrV, tFld, tCall, rIxLH, rIxTH, atI, ixN, upd_same, cxK, ex2, ex3, ex3b, rIs1, rIs2, rNe2, tyN, kb1, kb2, kb3, kb4, kb5, kb6, rEq, rNe, scal, tMake_S, tMakeK_S, tMakeN_S]
              refine ⟨many, code, t, rfl, hG5.same s8, by omega, by omega, fun R rs G4 s9 hR hrr => ?_⟩
              have rl := hrr.1
              refine lc_all (K := K) R rs t.rows (fun _ => true) (fun r => r.1) Ri Ri.mono (by omega) hrr.1 hR (fun R h => h) (fun j y r hj hr => ?_) (fun D2 G6 vs nD s10 hD2 hvs => ?_)
              · obtain ⟨p, rfl, ⟨tq, hp, htq⟩, okr⟩ := hrr.2 j y r hj hr
                refine ⟨[some (.ref a), some (.int (i : Int)), some (.ref l), some (.int (many : Int)), some code, some (.ref px), some told, some (.ref D), w8, w9, some (.int (t.ht : Int)), w11, w12, v13, v14, v15, v16, some (.ref p)], rfl, fun H' Kc s h => h, fun H' Qb s h => h _ (Same.refl _), fun _ H' R' s h => ?_⟩
                simp -dsimp [tSeq, tAsg, tRet, tIfS, tIf, tTest, tVar, tCons, tNil, tC, tOp, tUn, rI, rI0, rU, tCB, tLst_A, tTup_A, gName, L2.start, CMul, CPow, CDiv, tDrop, tBM, tBM0, tNext, tPar, gSub, rSetL, rIxL, rIxT, tChain, tB, tNot, tNotV, tAnd, tOr, tAndV, tOrV, tFld, tCall, rIxLH, rIxTH, atI, ixN, upd_same, cxK, ex2, ex3, ex3b, rIs1, rIs2, rNe2, tyN, kb1, kb2, kb3, kb4, kb5, kb6, rEq, rNe, scal, tMake_S, tMakeK_S, tMakeN_S, tSl, tPart, tNoPart]
                refine ⟨p, _, rfl, SqT.of (s _ _ hp), (by decide : ¬ (HT.sIx 4 0 none = 0 ∧ HT.sIx 4 4 (some 2) = 4)), fun z nz => ?_⟩
                have sz := same_upd nz (o := HO.tup [.int r.1.1, .ref tq])
                exact h _ _ sz ⟨z, tq, rfl, upd_same, sz _ _ (s _ _ htq)⟩
              · rw [List.filter_eq_self.mpr (fun _ _ => rfl)] at hvs
                have fc : Fc (t.rows.map (·.1)) many 1 := ⟨m0, m3, by rw [List.length_map]; omega, fun e => by rw [List.length_map]; exact hrl3 e, by decide, by decide, fun r hr => by
                  obtain ⟨s, hs, rfl⟩ := List.mem_map.mp hr
                  exact (h10 s hs).rb⟩
                refine ⟨D2, many, vs, _, 1, rfl, hD2, hvs, fc, fun P ps G7 s11 hP hps => ⟨P, rfl, ?_⟩⟩
                have s811 := ((s8.trans s9).trans s10).trans s11
                refine ⟨s811, ps, hP, fun e => ?_, hps⟩
                subst e
                have L7 := s811 _ _ L5
                rw [hP] at L7
                have L7 : some (HO.lst ps) = some (.lst [.int f0, .int f1, .int f2]) := L7
                cases L7
                obtain ⟨b, _, r, _, _, _, er, _⟩ := hps.get (j := 0) (v := .int f0) rfl
                cases er
            · rintro σ' G4 ⟨P, ps, w17, rfl, s9, hP, nP, hps⟩
              refine ⟨6, rfl, by decide, by decide, for_range (n := 6) (fun j σ' G' => ∃ (w8 w14 w15 w16 : Option V) (e0 e1 e2 : Int), σ' = [some (.ref a), some (.int (i : Int)), some (.ref l), some (.int (many : Int)), some code, some (.ref px), some told, some (.ref D), w8, w9, some (.int (t.ht : Int)), w11, w12, some (.ref P), w14, w15, w16, w17] ∧ SameN l H5 G' ∧ G' l = some (draws e0 e1 e2) ∧ KeepL G4 G' ∧ G' P = some (.lst ps)) ⟨_, _, _, _, _, _, _, rfl, .of s9, s9 _ _ L5, .of (Same.refl _), hP⟩ ?_ ?_⟩
              · rintro j σ' G5 hj ⟨w8, w14, w15, w16, h0, h1, h2, rfl, N6, L6, k6, hP6⟩
                simp -dsimp [tSeq, tAsg, tRet, tIfS, tIf, tTest, tVar, tCons, tNil, tC, tOp, tUn, rI, rI0, rU, tCB, tLst_A, tTup_A, gName, L2.start, CMul, CPow, CDiv, tDrop, tBM, tBM0, tNext, tPar, gSub, rSetL, rIxL, rIxT, tChain, tB, tNot, tNotV, tAnd, tOr, tAndV, tOrV, tFld, tCall, rIxLH, rIxTH, atI, ixN, upd_same, cxK, ex2, ex3, ex3b, rIs1, rIs2, rNe2, tyN, kb1, kb2, kb3, kb4, kb5, kb6, rEq, rNe, scal, tMake_S, tMakeK_S, tMakeN_S]
                have fc : Fc (t.rows.map (·.1)) many 1 := ⟨m0, m3, by rw [List.length_map]; omega, fun e => by rw [List.length_map]; exact hrl3 e, by decide, by decide, fun r hr => by
                  obtain ⟨s, hs, rfl⟩ := List.mem_map.mp hr
                  exact (h10 s hs).rb⟩
                have fl := facesF_len fc
                have psl := hps.1
                refine ⟨l, P, h0, h1, h2, ps, rfl, L6, hP6, nP, by omega, by omega, fun jj v g0 g1 g2 hv => ?_⟩
                obtain ⟨pt, ept, hPr⟩ := hps.get hv
                have f40 := facesF_40 fc pt (List.mem_of_getElem? ept)
                have k7 : KeepL G5 (upd G5 l (draws g0 g1 g2)) := KeepL.sameN L6 .upd
                have N7' : SameN l H5 (upd G5 l (draws g0 g1 g2)) := N6.trans .upd
                have L7' : (upd G5 l (draws g0 g1 g2)) l = some (draws g0 g1 g2) := upd_same
                have hP7 : (upd G5 l (draws g0 g1 g2)) P = some (.lst ps) := by rw [upd_ne nP]; exact hP6
                generalize upd G5 l (draws g0 g1 g2) = G6 at k7 N7' L7' hP7
                refine ⟨l, g0, g1, g2, v, pt, many, rfl, L7', m0, m3, hPr.keepL (k6.trans k7), f40, fun b ys H7 i0 i1 i2 N7 L7 hPt hyl => ?_⟩
                have sq : ∀ {G' : Hp}, Same H7 G' → (SqL K G' b ys ∨ SqT K G' b ys) := fun s => (hPt.same s).1.elim (fun h => .inl (SqL.of h)) (fun h => .inr (SqT.of h))
                refine ⟨b, rfl, ys, sq (Same.refl _), fun c nc => ?_⟩
                have s8 := same_upd nc (o := HO.lst ys)
                have hc8 : (upd H7 c (HO.lst ys)) c = some (.lst ys) := upd_same
                generalize upd H7 c (HO.lst ys) = H8 at s8 hc8
                have N8 : SameN l H5 H8 := (N7'.trans N7).trans (.of s8)
                have k8 : KeepL H5 H8 := KeepL.sameN L5 N8
                have k48 : KeepL G4 H8 := ((k6.trans k7).trans (KeepL.sameN L7' N7)).trans (.of s8)
                refine ⟨told, t, b, ys, fun j => lo (pN pt j).1 (pN pt j).2, rfl, hW5.keepL k8, hok, hPt.same s8, fun H9 s9 => ?_⟩
                have hG9 := hG5.keepL (k8.trans (.of s9))
                refine ⟨many, code, v, t, pt, 40, rfl, hG9, hPr.keepL (k48.trans (.of s9)), by decide, f40 0, f40 1, f40 2, ?_⟩
                have eg : t.go (fAt (fun j => lo (pN pt j).1 (pN pt j).2) ys.length) = t.go (fun r => hldF r.1 r.2.1 pt) := GT.go_congr t fun r hr => by
                  rw [hyl]
                  exact hld_at (m := many) (hok r hr) (fun j h1 h2 => (h10 r hr).z j h1 h2) m0 m3 (fun j => (f40 j).pos) (fun j _ => lo_gd (by have := (f40 j).pos; omega) (f40 j).n1 (f40 j).n2) (fun j _ => lo_cross (by have := (f40 j).pos; omega))
                rw [eg]
                refine ⟨_, _, rfl, (hG9.goLv _).sm 4, fun H10 s10 => .inr ⟨rfl, b, rfl, ys, sq ((s8.trans s9).trans s10), fun c2 nc2 => ?_⟩⟩
                have s11 := same_upd nc2 (o := HO.lst ys)
                have s811 := (s9.trans s10).trans s11
                refine ⟨c2, c, ys, rfl, rfl, upd_same, s811 _ _ hc8, fun y hy => ?_, .inl ⟨rfl, N8.trans (.of s811), ⟨_, _, _, s811 _ _ (s8 _ _ L7)⟩, k48.trans (.of s811), s811 _ _ (s8 _ _ (N7 _ _ nP hP7))⟩⟩
                obtain ⟨j', hj'⟩ := List.mem_iff_getElem?.mp hy
                rcases (hPt.2 j' y hj').1 with ⟨z, rfl, _⟩ | ⟨rfl, _⟩
                · exact .inr ⟨z, rfl⟩
                · exact .inl rfl
              · rintro σ' G5 ⟨w8, w14, w15, w16, h0, h1, h2, rfl, N6, L6, k6, hP6⟩
                exact ⟨⟨_, _, _, _, _, _, _, _, _, _, _, _, _, _, _, _, _, rfl⟩, SE (N5.trans N6)⟩
    · rintro σ' G ⟨v1, v2, v3, v4, v5, v6, v7, v8, v9, v10, v11, v12, v13, v14, v15, v16, v17, rfl, sG⟩
      simp -dsimp [tSeq, tAsg, tRet, tIfS, tIf, tTest, tVar, tCons, tNil, tC, tOp, tUn, rI, rI0, rU, tCB, tLst_A, tTup_A, gName, L2.start, CMul, CPow, CDiv, tDrop, tBM, tBM0, tNext, tPar, gSub, rSetL, rIxL, rIxT, tChain, tB, tNot, tNotV, tAnd, tOr, tAndV, tOrV, tFld, tCall, rIxLH, rIxTH, atI, ixN, upd_same, cxK, ex2, ex3, ex3b, rIs1, rIs2, rNe2, tyN, kb1, kb2, kb3, kb4, kb5, kb6, rEq, rNe, scal, tMake_S, tMakeK_S, tMakeN_S]
      refine ⟨a, ns, 5, rfl, sG.seq hS, by decide, fun d0 d1 l nl => ⟨l, d0, d1, 0, rfl, upd_same, q⟩⟩
end
theorem facts {P : Program} {w : World} {K : PySem.W.Frag} {h : Heap} {mg : Str → Option Value} {f : Addr} (X : K.In h) (G : h.Ns mainGlobals mg) (hfa : mg ("law" : Str) = some (.ref f)) (c : SaysX fa fn sups extra stats K) (hP : SupX.PrgOk P) :
    ∃ fd : FuncData, (∀ (s : Shared) (v : Value), BindsTo s fd ⟨[v], []⟩ [("_law_script", v)]) ∧ ∀ base : Heap, K.In base → base.Ns mainGlobals mg → FnOk P w K mg base (CXL P w) lawK f fd ["_law_script"] (spLaw K) := by
  have Wq : Wd K mg := ⟨c, h, X, G⟩
  have e := hfa.symm.trans (Wq.g_law)
  cases e
  obtain ⟨fd, F⟩ := Wq.F_law
  have b := FunD.bindsA (ps := ["_law_script"]) F fun _ _ _ _ _ _ us hl => match us, hl with | [_], _ => rfl
  exact ⟨fd, fun s v => b s [v] rfl, fun base _ _ => ok_law Wq hP F⟩
theorem walk {l : PySem.W.OpenLaw} {q : Program} {loose : List Str} {XP : (Str → Option Value) → Heap → Prop} {YP : World → Heap → Prop} {d : DefRec} {K : Params → PySem.W.Frag} (hn : l.most = some 63) (hdf : d.params.defaults = []) (hdn : d.name = "law")
    (hY : ∀ (w : World) (h : Heap), YP w h → (K w.params).In h) (hS : ∀ w : World, SaysX fa fn sups extra stats (K w.params)) (hP : SupX.PrgOk l.prog) :
    PySem.W.WalkO q loose XP YP l.row.toRowW d [] (fun f vs => PySem.call f vs) :=
  L2.walk_of (n := 63) (k := lawK) (x := "_law_script") (CX := fun w => CXL l.prog w) (sp := fun w => spLaw (K w.params)) hn (by decide) hdf ⟨rfl, by decide, by decide⟩ hY
    (fun w mg fa h KX G hmg => facts KX G (by rw [hdn] at hmg; exact hmg) (hS w) hP) (fun _ _ a ns hl _ hS => ⟨a, ns, rfl, hS, hl, fun _ => rfl⟩) fun _ H s e s' z => hCX H s e s' z
end LW
open PySem PySem.W PyProof.Rows
set_option maxRecDepth 100000 in
set_option maxHeartbeats 0 in
theorem PySem.Challenge.cw_lessways_k10_leaves_depth_walk_holds : PySem.Challenge.rw_lessways_k10_leaves_depth_walk.Holds := by
  w_on; o_law; k_head; (case hw => w_witness2)
  k_fill
  exact LW.walk (l := PySem.Challenge.rw_lessways_k10_leaves_depth_walk) rfl rfl rfl (fun w h Y => PySem.W.kIn_of Y) (fun w => by unfold LW.SaysX; kernel_rfl) ⟨by kernel_rfl, by kernel_rfl⟩
#print axioms PySem.Challenge.cw_lessways_k10_leaves_depth_walk_holds
