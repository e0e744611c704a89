import PyProof.Rows.All
import Wide.All
import OpenK.AllK
import Wide.FinOn
import KE.KSuper
import HandS.ForMost
import HandS.Codes
import HandS.Nested
import KE.KExcSuper
import HandS.Exc
import HandS.ExcInit
import HandS.FStr
import HandS.Lambda
import HandS.WordsExc
import KE.KExcInit
import HandS.ExcField
import HandS.ExcIs
import HandS.MakeKwOnly
import HandS.IsInst
import HandS.ExcValue
import KE.KExcIs
import PyProof.ReprRoads
import HandS.Star
import HandS.Walk
import HandS.Style
import PyProof.ReprLen
import HandS.TupLe
import PySem.Challenge.RW_strayjoins_k01_errors_and_numbers
set_option Elab.async false
set_option linter.all false
set_option maxRecDepth 100000
set_option maxHeartbeats 4000000
namespace Sup
open PySem PySem.Spec PyProof.Rows L2
open NdefX (NF NScope ncx envF startF CellsAt inv_startN)

/-! ### a def of a class body that says super(): it closes over the class -/
structure FunS (P : Program) (K : PySem.W.Frag) (x qual : Str) (st : Stmt) (f : Addr) (fd : FuncData) (c cc D : Addr) : Prop where
  ex : ∃ (oc : Value) (od : Option Addr) (kV doc pm : Value) (an : Option Addr) (ct : Value) (osl : Array (Option Value)),
    fd = PySem.W.fnX x qual (defArgs st) (defBody st) (defScope st) [("__class__", cc)] .none kV doc pm an (.ref c) ct ∧ K.lookup f = some ⟨oc, od, .func fd, osl⟩
  cd : PySem.W.codeIn K (.ref c) qual = true
  file : ∃ (ccl : Value) (cdd : Option Addr) (vs : Array Value) (ccs : Array (Option Value)) (fl : Str) (tf : Tok), K.lookup c = some ⟨ccl, cdd, .fields vs, ccs⟩ ∧ vs[2]? = some (.str fl tf) ∧ ((P.main.file : Str) == fl) = true
  cell : ∃ (cl : Value) (cld : Option Addr) (csl : Array (Option Value)), K.lookup cc = some ⟨cl, cld, .cell (some (.ref D)), csl⟩
  kp : PySem.W.keepIn K (.ref f) = true
def nf (x qual : Str) (st : Stmt) (c cc : Addr) : NF := ⟨x, qual, defArgs st, defBody st, defScope st, [("__class__", cc)], c⟩

section
variable {P : Program} {w : World} {K : PySem.W.Frag} {mg : Str → Option Value} {base : Heap} {CX : CXT} {x qual : Str} {st : Stmt} {f c cc D : Addr} {fd : FuncData} {N ps : List Str} {k : Nat} {sp : Sp}
theorem fn_super (F : FunS P K x qual st f fd c cc D) (S : NScope N ps ["__class__"] (defScope st)) (len : ∀ vs H Q E, sp vs H Q E → vs.length = ps.length)
    (hbody : ∀ (A : Around) (outer : List Env) (s : Shared) (H : Hp) (vs : List V) (Q : VK) (E : XK), Room k (A.deeper (envF (nf x qual st c cc) f s.heap.objs.size)) → sp vs H Q E → ∀ s1,
      Inv (ncx CX P w K mg base N (nf x qual st c cc) f A outer s H E) [] (startF N vs [some (.ref D)]) H s1 →
      PySem.wpAt (model P w) (A.deeper (envF (nf x qual st c cc) f s.heap.objs.size)) (.func (defBody st) (envF (nf x qual st c cc) f s.heap.objs.size)) (execs (defBody st) (envF (nf x qual st c cc) f s.heap.objs.size))
        (SP (ncx CX P w K mg base N (nf x qual st c cc) f A outer s H E) [] { nx := fun _ H' => Q .non H', rt := Q }) (ncx CX P w K mg base N (nf x qual st c cc) f A outer s H E).xe s1) :
    FnOk P w K mg base CX (k + 1) f fd ps sp := by
  obtain ⟨oc, od, kV, doc, pm, an, ct, osl, rfl, lk⟩ := F.ex
  obtain ⟨cl, cld, csl, lc⟩ := F.cell
  refine ⟨len, fun A outer s H args us vs Q E hr e0 hb r hsp => ?_⟩
  have hl := len _ _ _ _ hsp
  have KX : K.In s.heap := e0.mod.kin.keeps fun b o e => (e0.bs b o e).1
  have lim : s.heap.NoLimit := e0.mod.nolimit.keeps fun b o e => (e0.bs b o e).1
  have hcc : s.heap.get? cc = some ⟨cl, cld, .cell (some (.ref D)), csl⟩ := KX _ _ lc
  have C : CellsAt (nf x qual st c cc).cl ["__class__"] [some (V.ref D)] s.heap H := by
    refine ⟨rfl, fun y b e => ?_, fun a b q h1 h2 => ?_, fun i y hy => ?_⟩
    · have e : (if y == "__class__" then some cc else none) = some b := by
        have q : List.lookup y [(("__class__" : Str), cc)] = some b := e
        rw [List.lookup_cons] at q
        cases z : y == ("__class__" : Str) with
        | true => rw [z] at q; rw [if_pos rfl]; exact q
        | false => rw [z] at q; cases q
      split at e
      · cases e
        exact ⟨(e0.bs _ _ (e0.mod.kin _ _ lc)).2, _, _, hcc, rfl⟩
      · cases e
    · have key : ∀ {y : Str} {b : Addr}, List.lookup y [(("__class__" : Str), cc)] = some b → y = "__class__" := fun {y b} q => by
        rw [List.lookup_cons] at q
        cases z : y == ("__class__" : Str) with
        | true => exact eq_of_beq z
        | false => rw [z] at q; cases q
      exact (key h1).trans (key h2).symm
    · match i, hy with
      | 0, hy =>
        have e : (("__class__" : Str)) = y := Option.some.inj hy
        subst e
        refine ⟨cc, by show List.lookup _ [(("__class__" : Str), cc)] = some cc; rw [List.lookup_cons, beq_self_eq_true], fun v hv => ?_⟩
        have e : V.ref D = v := Option.some.inj (Option.some.inj hv)
        subst e
        exact ⟨_, rfl, _, hcc, rfl⟩
  refine ks_codeAny_call_defAt (fd := PySem.W.fnX x qual (defArgs st) (defBody st) (defScope st) [("__class__", cc)] .none kV doc pm an (.ref c) ct) (body := defBody st) (binds := ps.zip us) hr.depth (KX _ _ lk) rfl lim (PySem.W.codeRec_of KX F.cd) rfl hb
    S.nocell (fun ⟨n, _⟩ hy => S.par n (List.of_mem_zip hy).1) (fun h₁ hns kp => ?_) S.co S.gen S.kind
  have I : Inv (ncx CX P w K mg base N (nf x qual st c cc) f A outer s H E) [] (startF N vs [some (.ref D)]) H { s with heap := h₁, toks := s.toks + (ps.zip us).length } := inv_startN S hr.hd e0 hl r C hns kp
  refine ks_wpAt_mono (hbody A outer s H vs Q E (hr.deeper _) hsp _ I) (fun fl s' hs => ?_) fun e s' hs => hs
  have fin : ∀ {σ' : L2.St} {H' : Hp} {v : V} {u : Value}, Inv (ncx CX P w K mg base N (nf x qual st c cc) f A outer s H E) [] σ' H' s' → L2.RelV v u → Q v H' → CE outer P w H s Q u s' :=
    fun {σ' H' v u} J rv q => ⟨v, H', J.os, J.bare, J.base, J.hok, rv, q⟩
  cases fl with
  | ret u =>
    obtain ⟨v, σ', H', J, rv, q⟩ := hs
    exact fin J rv q
  | next =>
    obtain ⟨σ', H', J, q⟩ := hs
    exact fin (v := V.non) (u := Value.none) J rfl q
  | brk =>
    obtain ⟨_, _, _, q⟩ := hs
    exact False.elim q
  | cont =>
    obtain ⟨_, _, _, q⟩ := hs
    exact False.elim q
end

/-! ### super().m(e, ..) as the first statement, m a def of a class above -/
/-- facts of the running def, by the context -/
structure AtS (X : Cx) (body : List Stmt) (f c cc D : Addr) (me : Str) : Prop where
  hk : X.env.scope.kind = .function
  hks : X.env.kindOf "super" = some .globalImplicit
  hkc : X.env.kindOf "__class__" = some .free
  hfu : X.env.func = some f
  hco : X.env.code = .ref c
  cl : X.env.cells.lookup ("__class__" : Str) = some cc
  hkl : X.env.kindOf me = some .local
  fn : ∃ (oc : Value) (od : Option Addr) (fd : FuncData) (osl : Array (Option Value)) (ar : Arg), X.K.lookup f = some ⟨oc, od, .func fd, osl⟩ ∧ (fd.params.posonlyargs ++ fd.params.args).head? = some ar ∧ ar.arg = me
  file : ∃ (ccl : Value) (cdd : Option Addr) (vs : Array Value) (ccs : Array (Option Value)) (fl : Str) (tf : Tok), X.K.lookup c = some ⟨ccl, cdd, .fields vs, ccs⟩ ∧ vs[2]? = some (.str fl tf) ∧ ((X.prog.main.file : Str) == fl) = true
  cell : ∃ (l : Value) (ld : Option Addr) (csl : Array (Option Value)), X.K.lookup cc = some ⟨l, ld, .cell (some (.ref D)), csl⟩
/-- facts of the text -/
structure SupT (prog : Program) (K : PySem.W.Frag) (mg : Str → Option Value) (D : Addr) : Prop where
  top : (prog.main.scope.names.lookup ("super" : Str)).isSome = false
  mg : mg "super" = none
  cls : ∃ cdD, PySem.W.clsIn K D = some cdD
  third : PySem.W.nsIn K cStatics "thirdparty.any" = some none

section
variable {X : Cx} {body : List Stmt} {f c cc D : Addr} {me : Str} {pins : List (Addr × Obj)} {s : Shared} {σ : L2.St} {H : Hp}
/-- super() itself: a new object, kept aside -/
theorem super_base {attr : Str} {whole : Sem Value} {p0 p1 : Pos} {x C : Addr} {ox : Obj} {Q : Value → Shared → Prop} (a : AtS X body f c cc D me) (t : SupT X.prog X.K X.mg D) (I : Inv X pins σ H s)
    (hN : X.N[0]? = some me) (hx : σ[0]? = some (some (.ref x))) (ho : s.heap.get? x = some ox) (hc : ox.cls = .ref C) (hnc : ∀ c, ox.data ≠ .cls c)
    (hsub : PySem.W.mroIn X.K C (.ref D) = some true) (hat : (attr == ("__class__" : Str)) = false)
    (h : ∀ so h', so = s.heap.objs.size → h'.get? so = some (PySem.W.ks_superObj D x C) → (∀ b o, s.heap.get? b = some o → h'.get? b = some o) → Inv X pins σ H { s with heap := h' } → Q (.ref so) { s with heap := h' }) :
    PySem.wpAt (model X.prog X.w) X.A (.func body X.env) (attributeBase (.Call (.Name "super" p0) [] [] p1) attr X.env whole) Q X.xe s := by
  obtain ⟨oc, od, fd, osl, ar, lf, hp, hself⟩ := a.fn
  obtain ⟨ccl, cdd, vs, ccs, fl, tf, lc, hvs, hfile⟩ := a.file
  obtain ⟨l, ld, csl, lcc⟩ := a.cell
  obtain ⟨cdD, hD⟩ := t.cls
  have KX := I.kIn
  obtain ⟨oD, hD1, hD2⟩ : ∃ oD, s.heap.get? D = some oD ∧ oD.data = .cls cdD := by
    unfold PySem.W.clsIn at hD
    split at hD
    · rename_i c d cd' sl ho
      cases hD
      exact ⟨_, KX _ _ ho, rfl⟩
    · cases hD
  obtain ⟨m, hns, hl⟩ := I.loc
  obtain ⟨u, ru, lk⟩ := hl 0 me _ hN hx (.inl a.hkl)
  obtain rfl : u = Value.ref x := ru
  have hm : m me = some (Value.ref x) := by
    rcases lk with ⟨_, e⟩ | ⟨e, _⟩
    · exact e
    · rw [a.hkl] at e
      rcases e with e | e <;> cases e
  refine ks_wpAt_super_base a.hks a.hkc hat a.hfu (KX _ _ lf) rfl hp a.hco (KX _ _ lc) rfl hvs hfile t.top ?_
  obtain ⟨mb, b1, b2⟩ := I.mod.blt
  refine PySem.W.ks_loadName_global a.hk a.hks (Calls.loadGlobal_builtin (by rw [I.ok.glob]; exact I.mod.glob.keeps I.bk) t.mg (by rw [I.ok.blt]; exact b1.keeps I.bk) ((b2 _ (by decide)).trans (by decide +kernel : bootBuiltins "super" = some (.type "super"))) ⟨rfl, ?_⟩)
  refine wpAny_loadName_free a.hk a.hkc a.cl ⟨_, KX _ _ lcc, rfl⟩ ?_
  rw [hself]
  refine wpAny_loadName_local a.hk a.hkl hns hm ?_
  refine ks_wpAny_isType_cls hD1 hD2 ⟨rfl, ?_⟩
  obtain ⟨hh, g, d, tk, os⟩ := s
  exact ks_wpAny_call_super hD1 hD2 ho hc hnc (PySem.W.looks_mroIn KX hsub) fun h' e k => h _ _ rfl e k (I.kept (t' := tk) k)

/-- super().m: the def of the class above, bound; kept aside -/
theorem super_meth {name : Str} {pl : Sem Bool} {x C so f2 : Addr} {ox : Obj} {Q : Value × List Value → Shared → Prop} (I : Inv X pins σ H s) (hso : s.heap.get? so = some (PySem.W.ks_superObj D x C))
    (ho : s.heap.get? x = some ox) (hnc : ∀ c, ox.data ≠ .cls c) (third : PySem.W.nsIn X.K cStatics "thirdparty.any" = some none)
    (hm : PySem.W.ks_superIn X.K C D name = some (some (.ref f2))) (ht : PySem.W.typeIn X.K (.ref f2) = some (.type "function")) (hn : (name == ("__class__" : Str)) = false)
    (h : ∀ q s', q = s.heap.objs.size → s'.heap.get? q = some (PySem.W.methodObj (.ref f2) (.ref x)) → (∀ b o, s.heap.get? b = some o → s'.heap.get? b = some o) → Inv X pins σ H s' → Q (.ref q, []) s') :
    wpAny (model X.prog X.w) X.A (getMethod (.ref so) name pl) Q X.xe s := by
  have KX := I.kIn
  obtain ⟨hh, g, d, tk, os⟩ := s
  cases hc : PySem.W.clsIn X.K C with
  | none => unfold PySem.W.ks_superIn at hm; rw [hc] at hm; cases hm
  | some cd =>
    unfold PySem.W.ks_superIn at hm
    rw [hc] at hm
    have hxC : x ≠ C := by
      rintro rfl
      unfold PySem.W.clsIn at hc
      split at hc
      · rename_i c d cd' sl hoc
        have e := KX _ _ hoc
        rw [ho] at e
        cases e
        exact hnc _ rfl
      · cases hc
    obtain ⟨of, hof, hofc⟩ : ∃ of, hh.get? f2 = some of ∧ of.cls = .type "function" := by
      have ht' : (X.K.lookup f2).map (·.cls) = some (.type "function") := ht
      cases z : X.K.lookup f2 with
      | none => rw [z] at ht'; cases ht'
      | some of => rw [z] at ht'; exact ⟨of, KX _ _ z, Option.some.inj ht'⟩
    refine ks_wpAny_getMethod_super hso (PySem.W.looks_opaque KX third) (l₀ := cd.mro) ?_ rfl KX hm hof hofc hxC hn ?_
    · exact fun A Q E s k q => wpAny_bind ((PySem.W.looks_clsIn KX hc) A _ E s k (wpAny_pure q))
    · have kp : ∀ b o, hh.get? b = some o → (hh.push (PySem.W.methodObj (.ref f2) (.ref x))).get? b = some o := fun b o e => Heap.get?_push_of_some _ e
      exact h _ _ rfl (Heap.get?_push_at rfl rfl) kp (I.kept (t' := tk + 1) kp)

/-- an instance that is tracked: what super() asks of it -/
theorem ins_obj {a C dx : Addr} {fs : List (Str × V)} (I : Inv X pins σ H s) (e : H a = some (.ins C dx fs)) : ∃ ox : Obj, s.heap.get? a = some ox ∧ ox.cls = .ref C ∧ ∀ c, ox.data ≠ .cls c := by
  obtain ⟨d, z, ne, ob, _⟩ := (show ObjOk X.prog X.w H s.heap a (.ins C dx fs) from I.hok a _ e)
  exact ⟨_, ob, rfl, fun c h => by cases h⟩

/-- super().m(e, ..), then the rest -/
theorem super_own {CX : CXT} {k : Nat} {f2 x C : Addr} {fd2 : FuncData} {ps2 : List Str} {sp2 : Sp} {dvs : List V} {ds : List Value} {E : XK} {attr : Str} {e : Expr} {es : List Expr} {t : TA} {rest : List Stmt} {u : TS} {D' : Ends} {p0 p1 p2 p3 p4 : Pos}
    (a : AtS X body f c cc D me) (T : SupT X.prog X.K X.mg D) (F : FnOk X.prog X.w X.K X.mg X.base CX k f2 fd2 ps2 sp2) (hr : Room k X.A) (hb : Binds X.K fd2 ps2 ds) (hd : Vals dvs ds) (hx : Passes CX X E)
    (hN : X.N[0]? = some me) (hm : PySem.W.ks_superIn X.K C D attr = some (some (.ref f2))) (ht : PySem.W.typeIn X.K (.ref f2) = some (.type "function")) (hfn : PySem.W.fnIn X.K f2 = true)
    (hsub : PySem.W.mroIn X.K C (.ref D) = some true) (hat : (attr == ("__class__" : Str)) = false) (ha : PA X (e :: es) t) (hrest : PSs X rest u)
    (I : Inv X pins σ H s) (hσ : σ[0]? = some (some (.ref x))) (hins : ∃ ox : Obj, s.heap.get? x = some ox ∧ ox.cls = .ref C ∧ ∀ c, ox.data ≠ .cls c)
    (hq : t σ H fun vs H1 => sp2 (.ref x :: (vs ++ dvs)) H1 (fun _ H2 => u D' σ H2) E)
    (hi : interactive X.env = false) (hs : swapsWith (.Call (.Attribute (.Call (.Name "super" p0) [] [] p1) attr p2) (e :: es) [] p3) none p4.line X.env = pure false)
    (he : eval (.Call (.Attribute (.Call (.Name "super" p0) [] [] p1) attr p2) (e :: es) [] p3) X.env = (do
      let ov ← attributeBase (.Call (.Name "super" p0) [] [] p1) attr X.env (eval (.Call (.Name "super" p0) [] [] p1) X.env)
      standAt p2.atName
      let (f, first) ← holding [ov] (getMethod ov attr (pure false))
      callWith p3 f first (backTo p3 (starEach (e :: es) X.env)) []))
    (hst : starEach (e :: es) X.env = (false, eval e X.env) :: starEach es X.env) (hpl : (backTo p3 (starEach es X.env)).any (·.1) = false) :
    PySem.wpAt (model X.prog X.w) X.A (.func body X.env) (execs (.Expr (.Call (.Attribute (.Call (.Name "super" p0) [] [] p1) attr p2) (e :: es) [] p3) p4 :: rest) X.env) (SP X pins D') X.xe s := by
  obtain ⟨ox, ho, hc, hnc⟩ := hins
  refine ks_wpAt_execs_cons (ks_wpAt_Expr_any (ks_wpAt_MethodCall (pl := pure false) (super_base a T I hN hσ ho hc hnc hsub hat fun so h' eso hso kp I1 => ?_) he) hi hs)
  refine super_meth (x := x) (C := C) (D := D) I1 hso (kp _ _ ho) hnc T.third hm ht hat fun q s2 eq hq2 kp2 I2 => ?_
  have hqn : H q = none := by rw [eq]; exact I1.hok.fresh (Nat.le_refl _)
  have hq0 : X.s_0.heap.objs.size ≤ q := by rw [eq]; exact I1.sz
  have hqL : q ≠ X.env.locals := by rw [eq]; exact (Nat.ne_of_lt I1.lt).symm
  have hqf : q ∉ X.fs := by rw [eq]; exact I1.nofs (Nat.le_refl _)
  have J : Inv X (pins ++ [(q, PySem.W.methodObj (.ref f2) (.ref x))]) σ H s2 := I2.pins_of fun p hp => by
    rcases List.mem_append.mp hp with hp | hp
    · exact I2.pin p (List.mem_append_right _ hp)
    · obtain rfl := List.mem_singleton.mp hp
      exact ⟨hq2, hqn, hqL, hqf, fun v hv => by cases hv⟩
  refine PySem.W.callWith_M (h₀ := X.base) (L := X.env.locals) (news := [(q, PySem.W.methodObj (.ref f2) (.ref x))]) I.ok.mod.kin ?_ (List.mem_singleton.mpr rfl) hfn ?_ hst hpl
  · intro p hp
    obtain rfl := List.mem_singleton.mp hp
    exact ⟨hq2, hqL, Heap.get?_none_of_le (Nat.le_trans I.ok.bsz hq0)⟩
  refine thn (ha.run p3 _ s2 σ H _ J hq) fun us s3 ⟨vs, H3, I3, r, q3⟩ => ?_
  have hq3 : s3.heap.get? q = some (PySem.W.methodObj (.ref f2) (.ref x)) := (I3.pin _ (List.mem_append_right _ (List.mem_append_right _ (List.mem_singleton.mpr rfl)))).1
  refine ⟨⟨hq3, I3.kIn⟩, ?_⟩
  refine wpAny_call (PySem.W.method_call hq3 ?_)
  have r2 : Vals (V.ref x :: (vs ++ dvs)) (Value.ref x :: (us ++ ds)) := .cons rfl (r.append hd)
  have hl : (Value.ref x :: (us ++ ds)).length = ps2.length := by rw [← r2.length]; exact F.len _ _ _ _ q3
  have I4 : Inv X pins σ H3 s3 := I3.pins_of fun p hp => I3.pin p (List.mem_append_right _ (List.mem_append_left _ hp))
  refine codeAny_mono (F.run X.A X.stack s3 H3 ⟨.ref x :: us, []⟩ (.ref x :: (us ++ ds)) (.ref x :: (vs ++ dvs)) _ E hr I3.env0 (hb s3 (.ref x :: us) I3.kIn hl) r2 q3) fun r s' hq' => ?_
  cases r with
  | error e => exact hx pins σ H3 s3 e s' I4 hq'
  | ok fl =>
    cases fl with
    | ret v =>
      obtain ⟨v', H', I5, _, q5⟩ := I4.after hq'
      exact wpAt_of_wpAny (hrest.run pins s' σ H' D' I5 q5)
    | next => exact False.elim hq'
    | brk => exact False.elim hq'
    | cont => exact False.elim hq'
end
end Sup
namespace Sup
open PySem PySem.Spec PyProof.Rows L2
open NdefX (NF NScope ncx envF startF CellsAt inv_startN)
section
variable {X : Cx} {body : List Stmt} {f c cc D : Addr} {me : Str} {pins : List (Addr × Obj)} {s : Shared} {σ : L2.St} {H : Hp}
/-- an exception that is being made: what super() asks of it -/
theorem exo_obj {a C : Addr} {d : Option Addr} (I : Inv X pins σ H s) (e : H a = some (exo a C d)) : ∃ ox : Obj, s.heap.get? a = some ox ∧ ox.cls = .ref C ∧ ∀ c, ox.data ≠ .cls c := by
  obtain ⟨t1, ho⟩ := exo_at I.hok e
  exact ⟨_, ho, rfl, fun c h => by cases h⟩
/-- super().__init__, ValueError's, bound; kept aside -/
theorem super_methX {pl : Sem Bool} {x C so : Addr} {Q : Value × List Value → Shared → Prop} (I : Inv X pins σ H s) (hso : s.heap.get? so = some (PySem.W.ks_superObj D x C))
    (hx : H x = some (exo x C none)) (third : PySem.W.nsIn X.K cStatics "thirdparty.any" = some none)
    (hm : PySem.W.ks_superIn X.K C D "__init__" = some (some (.builtin "ValueError.__init__"))) (hB : PySem.W.subIn X.K (.ref C) (.type "ValueError") = some true)
    (h : ∀ q s', q = s.heap.objs.size → s'.heap.get? q = some (PySem.W.kxs_mw "ValueError.__init__" x) → Inv X pins σ H s' → Q (.ref q, []) s') :
    wpAny (model X.prog X.w) X.A (getMethod (.ref so) "__init__" pl) Q X.xe s := by
  have KX := I.kIn
  obtain ⟨t1, ho⟩ := exo_at I.hok hx
  have hI : PySem.W.Looks (model X.prog X.w) s.heap (isInstance (.ref x) (.type "ValueError")) true :=
    (PySem.W.InstAt.type (ox := { cls := .ref C, dict := none, data := .fields #[.ref t1, .none, .none, .none, .bool false, .none] }) (od := none) ⟨ho, rfl, rfl, trivial⟩).andThen (PySem.W.looks_subIn KX hB)
  obtain ⟨hh, g, d, tk, os⟩ := s
  cases hc : PySem.W.clsIn X.K C with
  | none => unfold PySem.W.ks_superIn at hm; rw [hc] at hm; cases hm
  | some cd =>
    unfold PySem.W.ks_superIn at hm
    rw [hc] at hm
    have hxC : x ≠ C := by
      rintro rfl
      unfold PySem.W.clsIn at hc
      split at hc
      · rename_i c d cd' sl hoc
        have e := KX _ _ hoc
        rw [ho] at e
        cases e
      · cases hc
    refine PySem.W.kxs_getMethod PySem.W.kxs_ValueError hso (PySem.W.looks_opaque KX third) (l₀ := cd.mro) ?_ rfl KX hm hI hxC (by decide) ?_
    · exact fun A Q E s k q => wpAny_bind ((PySem.W.looks_clsIn KX hc) A _ E s k (wpAny_pure q))
    · have kp : ∀ b o, hh.get? b = some o → (hh.push (PySem.W.kxs_mw "ValueError.__init__" x)).get? b = some o := fun b o e => Heap.get?_push_of_some _ e
      exact h _ _ rfl (Heap.get?_push_at rfl rfl) (I.kept (t' := tk + 1) kp)
/-- it is called: nothing of it is told -/
theorem call_mw {u a C : Addr} {us : List Value} {Q : Value → Shared → Prop} (T : OexC X.K C) (I : Inv X pins σ H s) (hu : s.heap.get? u = some (PySem.W.kxs_mw "ValueError.__init__" a)) (e : H a = some (exo a C none)) (hl : us.length ≤ sizeLine)
    (h : ∀ s', Inv X pins σ H s' → Q .none s') : wpAny (model X.prog X.w) X.A (call (.ref u) us) Q X.xe s := by
  obtain ⟨nm, q, N, bs, bm, sn, sub, ab, col, dd, k0, k1, k2, k3, k5, hC, hbm⟩ := T.cls
  obtain ⟨t1, ho⟩ := exo_at I.hok e
  have hCs := I.kIn _ _ hC
  obtain ⟨hh, g, d, tk, os⟩ := s
  refine wpAny_call (codeAny_of_tree ?_)
  show wpAny _ X.A.in1 (callAny (.ref u) ⟨us, []⟩) _ _ _
  simp only [callAny]
  refine wpAny_bind (wpAny_load hu ?_)
  simp only [PySem.W.kxs_mw, show (Value.type "method-wrapper" == Value.type "method" || Value.type "method-wrapper" == Value.type "builtin_function_or_method" || Value.type "method-wrapper" == Value.type "method-wrapper") = true by decide, if_true]
  refine PySem.W.KFB.if_so (by decide) ?_
  refine wpAny_bind (PySem.W.check_bound_init F.excBase_ValueError.toExcCallFacts hCs ho rfl ?_)
  refine wpAny_bind (wpAny_pure (wpAny_pure ?_))
  refine ⟨plainId_quiet F.excBase_ValueError.init.plain _, codeAny_builtin F.excBase_ValueError.initEntry ?_⟩
  refine PySem.W.exc_init_tree (cls := .ref C) (t0 := t1) (dv := none) (c2 := .none) (c3 := .none) (b4 := .bool false) ho hl fun h' k e' t' => ?_
  have J := I.write (t' := tk) (x := a) (e := a) (o := exo a C none) (by rw [e]; exact True.intro) (.inl rfl) k ⟨_, e'⟩ (exo_ok e')
  have eu : upd H a (exo a C none) = H := by
    funext b
    by_cases hb : b = a
    · rw [hb, upd_same, e]
    · rw [upd_ne hb]
  rw [eu] at J
  exact h _ J
/-- super().__init__(e, ..) of an exception, then the rest -/
theorem super_exc {x C : Addr} {e : Expr} {es : List Expr} {t : TA} {rest : List Stmt} {u : TS} {D' : Ends} {p0 p1 p2 p3 p4 : Pos}
    (a : AtS X body f c cc D me) (T : SupT X.prog X.K X.mg D) (TC : OexC X.K C)
    (hN : X.N[0]? = some me) (hm : PySem.W.ks_superIn X.K C D "__init__" = some (some (.builtin "ValueError.__init__"))) (hB : PySem.W.subIn X.K (.ref C) (.type "ValueError") = some true)
    (hsub : PySem.W.mroIn X.K C (.ref D) = some true) (ha : PA X (e :: es) t) (hrest : PSs X rest u)
    (I : Inv X pins σ H s) (hσ : σ[0]? = some (some (.ref x))) (hx : H x = some (exo x C none))
    (hq : t σ H fun vs H1 => vs.length ≤ 1000 ∧ H1 x = some (exo x C none) ∧ u D' σ H1)
    (hi : interactive X.env = false) (hs : swapsWith (.Call (.Attribute (.Call (.Name "super" p0) [] [] p1) "__init__" p2) (e :: es) [] p3) none p4.line X.env = pure false)
    (he : eval (.Call (.Attribute (.Call (.Name "super" p0) [] [] p1) "__init__" p2) (e :: es) [] p3) X.env = (do
      let ov ← attributeBase (.Call (.Name "super" p0) [] [] p1) "__init__" X.env (eval (.Call (.Name "super" p0) [] [] p1) X.env)
      standAt p2.atName
      let (f, first) ← holding [ov] (getMethod ov "__init__" (pure false))
      callWith p3 f first (backTo p3 (starEach (e :: es) X.env)) []))
    (hst : starEach (e :: es) X.env = (false, eval e X.env) :: starEach es X.env) (hpl : (backTo p3 (starEach es X.env)).any (·.1) = false) :
    PySem.wpAt (model X.prog X.w) X.A (.func body X.env) (execs (.Expr (.Call (.Attribute (.Call (.Name "super" p0) [] [] p1) "__init__" p2) (e :: es) [] p3) p4 :: rest) X.env) (SP X pins D') X.xe s := by
  obtain ⟨ox, ho, hc, hnc⟩ := exo_obj I hx
  refine ks_wpAt_execs_cons (ks_wpAt_Expr_any (ks_wpAt_MethodCall (pl := pure false) (super_base a T I hN hσ ho hc hnc hsub (by decide) fun so h' eso hso kp I1 => ?_) he) hi hs)
  refine super_methX (x := x) (C := C) (D := D) I1 hso hx T.third hm hB fun q s2 eq hq2 I2 => ?_
  have hqn : H q = none := by rw [eq]; exact I1.hok.fresh (Nat.le_refl _)
  have hq0 : X.s_0.heap.objs.size ≤ q := by rw [eq]; exact I1.sz
  have hqL : q ≠ X.env.locals := by rw [eq]; exact (Nat.ne_of_lt I1.lt).symm
  have hqf : q ∉ X.fs := by rw [eq]; exact I1.nofs (Nat.le_refl _)
  have J : Inv X (pins ++ [(q, PySem.W.kxs_mw "ValueError.__init__" x)]) σ H s2 := I2.pins_of fun p hp => by
    rcases List.mem_append.mp hp with hp | hp
    · exact I2.pin p (List.mem_append_right _ hp)
    · obtain rfl := List.mem_singleton.mp hp
      exact ⟨hq2, hqn, hqL, hqf, fun v hv => by cases hv⟩
  refine PySem.W.kxs_callWith1 (h₀ := X.base) (L := X.env.locals) (news := [(q, PySem.W.kxs_mw "ValueError.__init__" x)]) (i := "ValueError.__init__") (x := x) ?_ (List.mem_singleton.mpr rfl) ?_ hst hpl
  · intro p hp
    obtain rfl := List.mem_singleton.mp hp
    exact ⟨hq2, hqL, Heap.get?_none_of_le (Nat.le_trans I.ok.bsz hq0)⟩
  refine thn (ha.run p3 _ s2 σ H _ J hq) fun us s3 ⟨vs, H3, I3, r, hl, hx3, q3⟩ => ?_
  have hq3 : s3.heap.get? q = some (PySem.W.kxs_mw "ValueError.__init__" x) := (I3.pin _ (List.mem_append_right _ (List.mem_append_right _ (List.mem_singleton.mpr rfl)))).1
  have I4 : Inv X pins σ H3 s3 := I3.pins_of fun p hp => I3.pin p (List.mem_append_right _ (List.mem_append_left _ hp))
  refine ⟨hq3, ?_⟩
  exact call_mw TC I4 hq3 hx3 (by rw [← r.length]; exact Nat.le_trans hl (by decide)) fun s' I5 => wpAt_of_wpAny (hrest.run pins s' σ H3 D' I5 q3)
end
theorem atS_of {P : Program} {w : World} {K : PySem.W.Frag} {mg : Str → Option Value} {base : Heap} {CX : CXT} {x qual : Str} {st : Stmt} {f c cc D : Addr} {fd : FuncData} {N : List Str} {A : Around} {outer : List Env} {s : Shared} {H : Hp} {E : XK} {me : Str} {body : List Stmt}
    (F : FunS P K x qual st f fd c cc D) (hk : (defScope st).kind = .function) (hs : (defScope st).names.lookup ("super" : Str) = some .globalImplicit) (hc : (defScope st).names.lookup ("__class__" : Str) = some .free)
    (hm : (defScope st).names.lookup me = some .local) (ha : ∃ ar, ((defArgs st).posonlyargs ++ (defArgs st).args).head? = some ar ∧ ar.arg = me) : AtS (ncx CX P w K mg base N (nf x qual st c cc) f A outer s H E) body f c cc D me := by
  obtain ⟨oc, od, kV, doc, pm, an, ct, osl, rfl, lk⟩ := F.ex
  obtain ⟨ar, h1, h2⟩ := ha
  refine ⟨hk, hs, hc, rfl, rfl, ?_, hm, ⟨oc, od, _, osl, ar, lk, h1, h2⟩, F.file, F.cell⟩
  show List.lookup _ [(("__class__" : Str), cc)] = some cc
  rw [List.lookup_cons, beq_self_eq_true]
end Sup
/-! Defs of which more is known: that nothing is being shown around them (a repr of a list asks it). -/
namespace Grd
open PySem PySem.Spec PyProof.Rows L2
/-- as FnOk, called where nothing is being shown -/
structure FnG (P : Program) (w : World) (K : PySem.W.Frag) (mg : Str → Option Value) (base : Heap) (CX : CXT) (k : Nat) (f : Addr) (fd : FuncData) (ps : List Str) (sp : Sp) : Prop where
  len : ∀ vs H Q E, sp vs H Q E → vs.length = ps.length
  run : ∀ (A : Around) (outer : List Env) (s : Shared) (H : Hp) (args : Args) (us : List Value) (vs : List V) (Q : VK) (E : XK),
    A.guards = some [] → Room k A → Env0 P w K mg base A outer s H → BindsTo s fd args (ps.zip us) → Vals vs us → sp vs H Q E → codeAny (model P w) A (.call (.ref f) args) (CR CX outer P w H s Q E) s
section
variable {P : Program} {w : World} {K : PySem.W.Frag} {mg : Str → Option Value} {base : Heap} {CX : CXT} {j k : Nat} {f : Addr} {fd : FuncData} {ps : List Str} {sp sp' : Sp}
theorem FnG.of (F : FnOk P w K mg base CX k f fd ps sp) : FnG P w K mg base CX k f fd ps sp := ⟨F.len, fun A outer s H args us vs Q E _ => F.run A outer s H args us vs Q E⟩
theorem FnG.mono (F : FnG P w K mg base CX j f fd ps sp) (h : j ≤ k) : FnG P w K mg base CX k f fd ps sp := ⟨F.len, fun A outer s H args us vs Q E hg hr => F.run A outer s H args us vs Q E hg (hr.mono h)⟩
theorem FnG.imp (F : FnG P w K mg base CX k f fd ps sp) (h : ∀ vs H Q E, sp' vs H Q E → sp vs H Q E) : FnG P w K mg base CX k f fd ps sp' :=
  ⟨fun vs H Q E q => F.len vs H Q E (h _ _ _ _ q), fun A outer s H args us vs Q E hg hr he hb hv hs => F.run A outer s H args us vs Q E hg hr he hb hv (h _ _ _ _ hs)⟩
/-- by its body -/
theorem fun_g {x qual : Str} {st : Stmt} {N : List Str} (F : Fun K x qual st f fd) (S : FnScope N ps (defScope st)) (len : ∀ vs H Q E, sp vs H Q E → vs.length = ps.length)
    (hbody : ∀ (cdv : Value) (A : Around) (outer : List Env) (s : Shared) (H : Hp) (vs : List V) (Q : VK) (E : XK), A.guards = some [] → Room k (A.deeper (envOfC qual (defScope st) s.heap.objs.size f cdv)) → sp vs H Q E →
      ∃ t, PSs (cxOf CX0 P w K mg base N qual (defScope st) f cdv A outer s H E).nox (defBody st) t ∧ t { nx := fun _ H' => Q .non H', rt := Q } (start N vs) H) : FnG P w K mg base CX0 (k + 1) f fd ps sp := by
  obtain ⟨oc, od, kV, doc, pm, an, cdv, ct, osl, rfl, lk, hcd⟩ := F.ex
  refine ⟨len, fun A outer s H args us vs Q E hg hr e0 hb r hsp => ?_⟩
  refine LamX.run_ofS (CX := CX0) lk hcd S hr e0 hb r (len _ _ _ _ hsp) fun hr1 => ?_
  obtain ⟨t, ht, hq⟩ := hbody cdv A outer s H vs Q E hg hr1 hsp
  exact ⟨t, ht.nox, hq⟩
end
section
variable {X : Cx} {CX : CXT} {k : Nat} {f : Addr} {fd : FuncData} {ps : List Str} {sp : Sp} {E : XK} {x : Str} {p pos : Pos} {e : Expr} {es : List Expr} {t : TA}
theorem run_g {pins : List (Addr × Obj)} {σ : L2.St} {H : Hp} {s : Shared} {Q : VK} {us : List Value} {vs : List V} (F : FnG X.prog X.w X.K X.mg X.base CX k f fd ps sp) (hG : X.A.guards = some []) (hr : Room k X.A) (hb : Binds X.K fd ps []) (hx : Passes CX X E)
    (I : Inv X pins σ H s) (r : Vals vs us) (h : sp vs H Q E) : wpAny (model X.prog X.w) X.A (call (.ref f) us) (EP X pins σ Q) X.xe s := by
  have hl : (us ++ []).length = ps.length := by rw [List.append_nil, ← r.length]; exact F.len _ _ _ _ h
  have hB := hb s us I.kIn hl
  rw [List.append_nil] at hB
  refine wpAny_call (codeAny_mono (F.run X.A X.stack s H ⟨us, []⟩ us vs Q E hG hr I.env0 hB r h) fun res s' hq => ?_)
  match res, hq with
  | .error e, hq => exact hx pins σ H s e s' I hq
  | .ok (.ret u), hq => exact I.after hq
theorem pe_callG (F : FnG X.prog X.w X.K X.mg X.base CX k f fd ps sp) (hG : X.A.guards = some []) (hr : Room k X.A) (hg : Gl X x) (hm : X.mg x = some (.ref f)) (hk : PySem.W.keepIn X.K (.ref f) = true) (hb : Binds X.K fd ps []) (hx : Passes CX X E)
    (ha : PA X (e :: es) t) (hdb : (x == ("__debug__" : Str)) = false := by decide) (hs : starEach (e :: es) X.env = (false, eval e X.env) :: starEach es X.env := by rfl) (hp : (backTo pos (starEach es X.env)).any (·.1) = false := by rfl) :
    PE X (.Call (.Name x p) (e :: es) [] pos) (tCall sp [] E t) := by
  refine ⟨fun pins s σ H Q I h => wpAny_Call_Name_kw (ld_glob I hg hm ?_ hdb)⟩
  refine PySem.W.callWith_K (h₀ := X.base) I.ok.mod.kin hk (thn (ha.run pos pins s σ H _ I h) ?_) hs hp
  rintro us s1 ⟨vs, H1, I1, r, q⟩
  rw [List.append_nil] at q
  exact ⟨I1.kIn, run_g F hG hr hb hx I1 r q⟩
end
end Grd
/-! Own exceptions over any built-in base, made and kept as values. -/
namespace Exg
open PySem PySem.Spec PyProof.Rows L2 Sup
open NdefX (NF NScope ncx envF startF CellsAt inv_startN)
/-- a built-in base -/
structure BaseE (B newId initId : String) (tl : List Value) : Prop where
  F : ExcBaseFacts B newId initId tl
  SF : StoreFacts B tl "object.__setattr__" "object"
  KF : PySem.W.KxsFacts B initId
abbrev tlV : List Value := [.type "ValueError", .type "Exception", .type "BaseException", .type "object"]
abbrev tlL : List Value := [.type "LookupError", .type "Exception", .type "BaseException", .type "object"]
abbrev tlO : List Value := [.type "OverflowError", .type "ArithmeticError", .type "Exception", .type "BaseException", .type "object"]
theorem bV : BaseE "ValueError" "ValueError.__new__" "ValueError.__init__" tlV := ⟨PySem.F.excBase_ValueError, PySem.F.store_ValueError, PySem.W.kxs_ValueError⟩
theorem bL : BaseE "LookupError" "LookupError.__new__" "LookupError.__init__" tlL := ⟨PySem.F.excBase_LookupError, PySem.F.store_LookupError, PySem.W.kxs_LookupError⟩
theorem bO : BaseE "OverflowError" "OverflowError.__new__" "OverflowError.__init__" tlO := ⟨PySem.F.excBase_OverflowError, PySem.F.store_OverflowError, PySem.W.kxs_OverflowError⟩
/-- what the text says of the class at C -/
structure Oex (K : PySem.W.Frag) (C : Addr) (B newId : String) (tl : List Value) : Prop where
  ini : PySem.W.excInitIn K C tl newId = true
  ov : PySem.W.excOver K C tl = true
  sa : PySem.W.findIn K (.ref C) "__setattr__" = some (some (.builtin "object.__setattr__"))
  exC : PySem.W.subIn K (.ref C) (.type "BaseException") = some true
  tyC : PySem.W.typeIn K (.ref C) = some (.type "type")
  kC : PySem.W.keepIn K (.ref C) = true
  hd : PySem.W.hasDictIn K C = true
  sB : PySem.W.subIn K (.ref C) (.type B) = some true
theorem upd_twice {H : Hp} {a : Addr} {o u : HO} : upd (upd H a o) a u = upd H a u := by
  funext b
  by_cases z : b = a
  · rw [z, upd_same, upd_same]
  · rw [upd_ne z, upd_ne z, upd_ne z]
theorem upd_swap {H : Hp} {a b : Addr} {o u : HO} (n : a ≠ b) : upd (upd H a o) b u = upd (upd H b u) a o := by
  funext c
  by_cases z : c = b
  · rw [z, upd_same, upd_ne n.symm, upd_same]
  · by_cases y : c = a
    · rw [y, upd_ne n, upd_same, upd_same]
    · rw [upd_ne z, upd_ne y, upd_ne y, upd_ne z]
section
variable {B newId initId : String} {tl : List Value} {X : Cx} {pins : List (Addr × Obj)} {σ : L2.St} {H : Hp} {s : Shared} {a C dx : Addr} {f : Str} {y : V} {u : Value} {fs : List (Str × V)} {Q : Unit → Shared → Prop} {E : Value → Shared → Prop} {A : Around}
/-- self.f = y, the dict is there -/
theorem put_old (b : BaseE B newId initId tl) (T : Oex X.K C B newId tl) (I : Inv X pins σ H s) (e : H a = some (exo a C (some dx))) (ed : H dx = some (exd dx fs)) (hl : fs.length ≤ 900)
    (hno : PySem.W.findIn X.K (.ref C) f = some none) (ry : RelV y u) (h : ∀ s', Inv X pins σ (upd H dx (exd dx ((f, y) :: fs))) s' → Q () s') : wpAny (model X.prog X.w) A (setAttr (.ref a) f u) Q E s := by
  obtain ⟨t1, ho⟩ := exo_at I.hok e
  obtain ⟨mA, hns, rel⟩ := exd_at I.hok ed
  have hw := within_of rel
  have KX := I.kIn
  obtain ⟨cd, hc, hd'⟩ := PySem.W.any_some T.hd
  obtain ⟨hp, g, d, t, os⟩ := s
  obtain ⟨oD, _, _, hoD, _, _⟩ := hns.count hw
  have at_ : PySem.W.InstAt hp a { cls := .ref C, dict := some dx, data := .fields #[.ref t1, .none, .none, .none, .bool false, .none] } C (some oD) := ⟨ho, rfl, rfl, hoD⟩
  refine PySem.W.set_plain KX at_ T.sa (PySem.W.osa_openX (r := none) b.SF KX at_ T.ov (NoAttr.taker hno) fun b0 => ?_)
  refine wpAny_bind (wpAny_pure (wpAny_bind (wpAny_bind (wpAny_loadPart ho (wpAny_bind ((PySem.W.looks_clsIn KX hc).at ?_))))))
  rw [hd']
  refine wpAny_pure (a := some dx) (PySem.OEX.store_in_old hns hw (by rw [List.length_map]; exact Nat.le_trans hl (by decide)) fun h' tk' hn hs => ?_)
  refine h _ (I.write (t' := tk') (x := dx) (e := dx) (o := exd dx ((f, y) :: fs)) (by rw [ed]; trivial) (.inl rfl) (fun c o hb ho => (hs.2 c hb).trans ho) ?_ (exd_ok hn (relO_put ry rel)))
  obtain ⟨o, _, _, e', _⟩ := hn
  exact ⟨o, e'⟩
/-- .., the first one -/
theorem put_new (b : BaseE B newId initId tl) (T : Oex X.K C B newId tl) (I : Inv X pins σ H s) (e : H a = some (exo a C none)) (hno : PySem.W.findIn X.K (.ref C) f = some none) (ry : RelV y u)
    (h : ∀ dx s', H dx = none → dx ≠ a → Inv X pins σ (upd (upd H dx (exd dx [(f, y)])) a (exo a C (some dx))) s' → Q () s') : wpAny (model X.prog X.w) A (setAttr (.ref a) f u) Q E s := by
  obtain ⟨t1, ho⟩ := exo_at I.hok e
  have KX := I.kIn
  obtain ⟨cd, hc, hd'⟩ := PySem.W.any_some T.hd
  obtain ⟨hp, g, d, t, os⟩ := s
  have at_ : PySem.W.InstAt hp a { cls := .ref C, dict := none, data := .fields #[.ref t1, .none, .none, .none, .bool false, .none] } C none := ⟨ho, rfl, rfl, trivial⟩
  refine PySem.W.set_plain KX at_ T.sa (PySem.W.osa_openX (r := none) b.SF KX at_ T.ov (NoAttr.taker hno) fun b0 => ?_)
  refine wpAny_bind (wpAny_pure (wpAny_bind (PySem.W.instanceDict_exc (s := ⟨hp, g, d, t + 1, os⟩) ho (PySem.W.looks_clsIn KX hc) hd' ?_)))
  have hdn : H hp.objs.size = none := I.hok.fresh (Nat.le_refl _)
  have nda : hp.objs.size ≠ a := (Nat.ne_of_lt (Heap.lt_size ho)).symm
  have e0 : Heap.Ns1 (hp.push (PySem.W.dictOf [] 0)) hp.objs.size (fun _ => none) := Heap.Ns1.of_empty ⟨_, #[], _, Heap.get?_push_at rfl rfl, rfl, fun e he => absurd he (by simp), fun _ => rfl⟩
  have I1 : Inv X pins σ (upd H hp.objs.size (exd hp.objs.size [])) ⟨hp.push (PySem.W.dictOf [] 0), g, d, t + 1, os⟩ :=
    I.laid (t' := t + 1) (fun c o ho => Heap.get?_push_of_some _ ho) (Nat.le_refl _) (exd_ok e0 fun g => trivial)
  have ha1 : (hp.push (PySem.W.dictOf [] 0)).get? a = some { cls := .ref C, dict := none, data := .fields #[.ref t1, .none, .none, .none, .bool false, .none] } := Heap.get?_push_of_some _ ho
  have ha2 : ((hp.push (PySem.W.dictOf [] 0)).update a fun o => { o with dict := some hp.objs.size }).get? a = some { cls := .ref C, dict := some hp.objs.size, data := .fields #[.ref t1, .none, .none, .none, .bool false, .none] } := Heap.get?_update_self _ ha1 rfl
  have I2 := I1.write (t' := t + 1) (x := a) (e := a) (o := exo a C (some hp.objs.size)) (h' := (hp.push (PySem.W.dictOf [] 0)).update a fun o => { o with dict := some hp.objs.size })
    (by rw [upd_ne nda.symm, e]; trivial) (.inl rfl) (fun c o hb ho => (Heap.get?_update_ne _ _ _ _ hb).trans ho) ⟨_, ha2⟩ (exo_ok ha2)
  have ed2 : upd (upd H hp.objs.size (exd hp.objs.size [])) a (exo a C (some hp.objs.size)) hp.objs.size = some (exd hp.objs.size []) := by rw [upd_ne nda, upd_same]
  obtain ⟨mA, hns, rel⟩ := exd_at I2.hok ed2
  show wpAny _ _ (Builtin.ObjectAttr.storeInDict hp.objs.size (.str f t) f u) _ _ _
  refine PySem.OEX.store_in_old hns (within_of rel) (by decide) fun h' tk' hn hs => ?_
  have I3 := I2.write (t' := tk') (x := hp.objs.size) (e := hp.objs.size) (o := exd hp.objs.size [(f, y)]) (h' := h') (by rw [ed2]; trivial) (.inl rfl) (fun c o hb ho => (hs.2 c hb).trans ho)
    (by obtain ⟨o, _, _, e', _⟩ := hn; exact ⟨o, e'⟩) (exd_ok hn (relO_put ry rel))
  refine h hp.objs.size _ hdn nda ?_
  rw [upd_swap nda.symm, upd_twice] at I3
  exact I3
end
/-- self.f = e -/
def tPut (K : PySem.W.Frag) (B newId : String) (tl : List Value) (f : Str) (to te : TE) : TS := fun D σ H => te σ H fun y H1 => to σ H1 fun x H2 => ∃ a C : Addr, x = .ref a ∧ Oex K C B newId tl ∧ PySem.W.findIn K (.ref C) f = some none ∧
  ((H2 a = some (exo a C none) ∧ ∀ dx, H2 dx = none → dx ≠ a → D.nx σ (upd (upd H2 dx (exd dx [(f, y)])) a (exo a C (some dx)))) ∨
    ∃ (dx : Addr) (fs : List (Str × V)), H2 a = some (exo a C (some dx)) ∧ H2 dx = some (exd dx fs) ∧ fs.length ≤ 900 ∧ D.nx σ (upd H2 dx (exd dx ((f, y) :: fs))))
section
variable {B newId initId : String} {tl : List Value} {X : Cx} {body : List Stmt} {f0 c cc D : Addr} {me : Str} {pins : List (Addr × Obj)} {s : Shared} {σ : L2.St} {H : Hp}
theorem ps_put {o e : Expr} {to te : TE} {f : Str} {p' pos : Pos} (b : BaseE B newId initId tl) (ho : PE X o to) (he : PE X e te) (hs : swapsWith e (some (.Attribute o f p')) pos.line X.env = pure false := by rfl) :
    PS X (.Assign [.Attribute o f p'] e pos) (tPut X.K B newId tl f to te) := by
  refine ⟨fun pins s σ H D I h => plainObj_wpAny_Assign_Attribute (thn (he.run pins s σ H _ I h) ?_) hs⟩
  rintro v s1 ⟨y, H1, I1, r1, q1⟩
  refine thn (ho.run pins s1 σ H1 _ I1 q1) ?_
  rintro u s2 ⟨x, H2, I2, r2, a, C, rfl, T, hno, q⟩
  cases r2
  rcases q with ⟨ea, q⟩ | ⟨dx, fs, ea, ed, hl, q⟩
  · exact put_new b T I2 ea hno r1 fun dx s' n ne J => ⟨σ, _, J, q dx n ne⟩
  · exact put_old b T I2 ea ed hl hno r1 fun s' J => ⟨σ, _, J, q⟩
/-- super().__init__ of the built-in base, bound -/
theorem sup_meth {pl : Sem Bool} {x C so : Addr} {Q : Value × List Value → Shared → Prop} (b : BaseE B newId initId tl) (T : Oex X.K C B newId tl) (I : Inv X pins σ H s) (hso : s.heap.get? so = some (PySem.W.ks_superObj D x C))
    (hx : H x = some (exo x C none)) (third : PySem.W.nsIn X.K cStatics "thirdparty.any" = some none)
    (hm : PySem.W.ks_superIn X.K C D "__init__" = some (some (.builtin initId))) (hne : (Value.builtin initId == .builtin "super.__init__") = false ∨ True)
    (h : ∀ q s', q = s.heap.objs.size → s'.heap.get? q = some (PySem.W.kxs_mw initId x) → Inv X pins σ H s' → Q (.ref q, []) s') :
    wpAny (model X.prog X.w) X.A (getMethod (.ref so) "__init__" pl) Q X.xe s := by
  have KX := I.kIn
  obtain ⟨t1, ho⟩ := exo_at I.hok hx
  have hI : PySem.W.Looks (model X.prog X.w) s.heap (isInstance (.ref x) (.type B)) true :=
    (PySem.W.InstAt.type (ox := { cls := .ref C, dict := none, data := .fields #[.ref t1, .none, .none, .none, .bool false, .none] }) (od := none) ⟨ho, rfl, rfl, trivial⟩).andThen (PySem.W.looks_subIn KX T.sB)
  obtain ⟨cd, hc, _⟩ := PySem.W.any_some T.hd
  obtain ⟨hh, g, d, tk, os⟩ := s
  unfold PySem.W.ks_superIn at hm
  rw [hc] at hm
  have hxC : x ≠ C := by
    rintro rfl
    unfold PySem.W.clsIn at hc
    split at hc
    · rename_i c d cd' sl hoc
      have e := KX _ _ hoc
      rw [ho] at e
      cases e
    · cases hc
  refine PySem.W.kxs_getMethod b.KF hso (PySem.W.looks_opaque KX third) (l₀ := cd.mro) ?_ rfl KX hm hI hxC (by decide) ?_
  · exact fun A Q E s k q => wpAny_bind ((PySem.W.looks_clsIn KX hc) A _ E s k (wpAny_pure q))
  · exact h _ _ rfl (Heap.get?_push_at rfl rfl) (I.kept (t' := tk + 1) fun b o e => Heap.get?_push_of_some _ e)
theorem sup_call {u a C : Addr} {us : List Value} {Q : Value → Shared → Prop} (b : BaseE B newId initId tl) (T : Oex X.K C B newId tl) (I : Inv X pins σ H s) (hu : s.heap.get? u = some (PySem.W.kxs_mw initId a)) (e : H a = some (exo a C none)) (hl : us.length ≤ sizeLine)
    (h : ∀ s', Inv X pins σ H s' → Q .none s') : wpAny (model X.prog X.w) X.A (call (.ref u) us) Q X.xe s := by
  obtain ⟨nm, N, q, bs, bm, hdct, sn, sub, ab, col, dd, k0, k1, k2, k3, k5, hCs, hbm⟩ := PySem.W.excInit_of I.kIn T.ini
  obtain ⟨t1, ho⟩ := exo_at I.hok e
  obtain ⟨hh, g, d, tk, os⟩ := s
  refine wpAny_call (codeAny_of_tree ?_)
  show wpAny _ X.A.in1 (callAny (.ref u) ⟨us, []⟩) _ _ _
  simp only [callAny]
  refine wpAny_bind (wpAny_load hu ?_)
  simp only [PySem.W.kxs_mw, show (Value.type "method-wrapper" == Value.type "method" || Value.type "method-wrapper" == Value.type "builtin_function_or_method" || Value.type "method-wrapper" == Value.type "method-wrapper") = true by decide, if_true]
  refine PySem.W.KFB.if_so (by decide) ?_
  refine wpAny_bind (PySem.W.check_bound_init b.F.toExcCallFacts hCs ho rfl ?_)
  refine wpAny_bind (wpAny_pure (wpAny_pure ?_))
  refine ⟨plainId_quiet b.F.init.plain _, codeAny_builtin b.F.initEntry ?_⟩
  refine PySem.W.exc_init_tree (cls := .ref C) (t0 := t1) (dv := none) (c2 := .none) (c3 := .none) (b4 := .bool false) ho hl fun h' k e' t' => ?_
  have J := I.write (t' := tk) (x := a) (e := a) (o := exo a C none) (by rw [e]; trivial) (.inl rfl) k ⟨_, e'⟩ (exo_ok e')
  have eu : upd H a (exo a C none) = H := by
    funext z
    by_cases hz : z = a
    · rw [hz, upd_same, e]
    · rw [upd_ne hz]
  exact h _ (eu ▸ J)
/-- super().__init__(e, ..), then the rest -/
theorem sup_exc {x C : Addr} {e : Expr} {es : List Expr} {t : TA} {rest : List Stmt} {u : TS} {D' : Ends} {p0 p1 p2 p3 p4 : Pos}
    (b : BaseE B newId initId tl) (a : AtS X body f0 c cc D me) (T : SupT X.prog X.K X.mg D) (TC : Oex X.K C B newId tl)
    (hN : X.N[0]? = some me) (hm : PySem.W.ks_superIn X.K C D "__init__" = some (some (.builtin initId)))
    (hsub : PySem.W.mroIn X.K C (.ref D) = some true) (ha : PA X (e :: es) t) (hrest : PSs X rest u)
    (I : Inv X pins σ H s) (hσ : σ[0]? = some (some (.ref x))) (hx : H x = some (exo x C none))
    (hq : t σ H fun vs H1 => vs.length ≤ 1000 ∧ H1 x = some (exo x C none) ∧ u D' σ H1)
    (hi : interactive X.env = false) (hs : swapsWith (.Call (.Attribute (.Call (.Name "super" p0) [] [] p1) "__init__" p2) (e :: es) [] p3) none p4.line X.env = pure false)
    (he : eval (.Call (.Attribute (.Call (.Name "super" p0) [] [] p1) "__init__" p2) (e :: es) [] p3) X.env = (do
      let ov ← attributeBase (.Call (.Name "super" p0) [] [] p1) "__init__" X.env (eval (.Call (.Name "super" p0) [] [] p1) X.env)
      standAt p2.atName
      let (f, first) ← holding [ov] (getMethod ov "__init__" (pure false))
      callWith p3 f first (backTo p3 (starEach (e :: es) X.env)) []))
    (hst : starEach (e :: es) X.env = (false, eval e X.env) :: starEach es X.env) (hpl : (backTo p3 (starEach es X.env)).any (·.1) = false) :
    PySem.wpAt (model X.prog X.w) X.A (.func body X.env) (execs (.Expr (.Call (.Attribute (.Call (.Name "super" p0) [] [] p1) "__init__" p2) (e :: es) [] p3) p4 :: rest) X.env) (SP X pins D') X.xe s := by
  obtain ⟨ox, ho, hc, hnc⟩ := exo_obj I hx
  refine ks_wpAt_execs_cons (ks_wpAt_Expr_any (ks_wpAt_MethodCall (pl := pure false) (super_base a T I hN hσ ho hc hnc hsub (by decide) fun so h' eso hso kp I1 => ?_) he) hi hs)
  refine sup_meth (x := x) (C := C) (D := D) b TC I1 hso hx T.third hm (.inr trivial) fun q s2 eq hq2 I2 => ?_
  have hqn : H q = none := by rw [eq]; exact I1.hok.fresh (Nat.le_refl _)
  have hq0 : X.s_0.heap.objs.size ≤ q := by rw [eq]; exact I1.sz
  have hqL : q ≠ X.env.locals := by rw [eq]; exact (Nat.ne_of_lt I1.lt).symm
  have hqf : q ∉ X.fs := by rw [eq]; exact I1.nofs (Nat.le_refl _)
  have J : Inv X (pins ++ [(q, PySem.W.kxs_mw initId x)]) σ H s2 := I2.pins_of fun p hp => by
    rcases List.mem_append.mp hp with hp | hp
    · exact I2.pin p (List.mem_append_right _ hp)
    · obtain rfl := List.mem_singleton.mp hp
      exact ⟨hq2, hqn, hqL, hqf, fun v hv => by cases hv⟩
  refine PySem.W.kxs_callWith1 (h₀ := X.base) (L := X.env.locals) (news := [(q, PySem.W.kxs_mw initId x)]) (i := initId) (x := x) ?_ (List.mem_singleton.mpr rfl) ?_ hst hpl
  · intro p hp
    obtain rfl := List.mem_singleton.mp hp
    exact ⟨hq2, hqL, Heap.get?_none_of_le (Nat.le_trans I.ok.bsz hq0)⟩
  refine thn (ha.run p3 _ s2 σ H _ J hq) fun us s3 ⟨vs, H3, I3, r, hl, hx3, q3⟩ => ?_
  have hq3 : s3.heap.get? q = some (PySem.W.kxs_mw initId x) := (I3.pin _ (List.mem_append_right _ (List.mem_append_right _ (List.mem_singleton.mpr rfl)))).1
  have I4 : Inv X pins σ H3 s3 := I3.pins_of fun p hp => I3.pin p (List.mem_append_right _ (List.mem_append_left _ hp))
  refine ⟨hq3, ?_⟩
  exact sup_call b TC I4 hq3 hx3 (by rw [← r.length]; exact Nat.le_trans hl (by decide)) fun s' I5 => wpAt_of_wpAny (hrest.run pins s' σ H3 D' I5 q3)
end
end Exg
namespace Exg
open PySem PySem.Spec PyProof.Rows L2 Sup Grd
/-- C(e, ..): a new exception, C's own __init__ keeping sp -/
def tMkE (C : Addr) (sp : Sp) (ta : TA) : TE := fun σ H Q => ta σ H fun vs H1 => vs.length ≤ 1000 ∧ ∀ a, H1 a = none → sp (.ref a :: vs) (upd H1 a (exo a C none)) (fun v H2 => v = .non ∧ Q (.ref a) H2) E0
theorem guards_make {A : Around} (h : A.guards = some []) (C : Addr) (us : List Value) (kw : List (Str × Value)) : (A.under (.builtin "type.__call__" ⟨.ref C :: us, kw⟩)).guards = some [] := by
  simp [Around.under, pushGuards, Code.guards, Code.isGuard, guardIds, h]
section
variable {B newId initId : String} {tl : List Value} {X : Cx} {pins : List (Addr × Obj)} {s : Shared} {σ : L2.St} {H : Hp} {C fI : Addr} {k : Nat} {fd : FuncData} {ps : List Str} {sp : Sp} {Q : VK} {us : List Value} {vs : List V}
theorem run_mkE (b : BaseE B newId initId tl) (T : Oex X.K C B newId tl) (iC : PySem.W.findIn X.K (.ref C) "__init__" = some (some (.ref fI))) (tI : PySem.W.typeIn X.K (.ref fI) = some (.type "function"))
    (F : FnG X.prog X.w X.K X.mg X.base CX0 k fI fd ps sp) (hG : X.A.guards = some []) (hr : Room (k + 1) X.A) (hb : Binds X.K fd ps []) (I : Inv X pins σ H s) (r : Vals vs us) (hl : vs.length ≤ 1000)
    (h : ∀ a, H a = none → sp (.ref a :: vs) (upd H a (exo a C none)) (fun v H2 => v = .non ∧ Q (.ref a) H2) E0) : wpAny (model X.prog X.w) X.A (call (.ref C) us) (EP X pins σ Q) X.xe s := by
  obtain ⟨nm, N, q, bs, bm, hdct, sn, sub, ab, col, dd, k0, k1, k2, k3, k5, hC, hbm⟩ := PySem.W.excInit_of I.kIn T.ini
  obtain ⟨hp, g, dr, tk, os⟩ := s
  have hn : H (hp.objs.size + 1) = none := I.hok.fresh (Nat.le_succ _)
  have hq := h _ hn
  have hget : ((hp.push (PySem.W.kdv_tup us)).push (PySem.HandSPX.excO C hp.objs.size)).get? (hp.objs.size + 1) = some (PySem.HandSPX.excO C hp.objs.size) := by heap_get
  have I2 : Inv X pins σ (upd H (hp.objs.size + 1) (exo (hp.objs.size + 1) C none)) ⟨(hp.push (PySem.W.kdv_tup us)).push (PySem.HandSPX.excO C hp.objs.size), g, dr, tk, os⟩ :=
    I.laid (t' := tk) (fun c o z => Heap.get?_push_of_some _ (Heap.get?_push_of_some _ z)) (Nat.le_succ _) (exo_ok hget)
  have r2 : Vals (V.ref (hp.objs.size + 1) :: vs) (Value.ref (hp.objs.size + 1) :: us) := .cons rfl r
  have hlen : (Value.ref (hp.objs.size + 1) :: us ++ []).length = ps.length := by
    rw [List.append_nil, ← r2.length]
    exact F.len _ _ _ _ hq
  have hB := hb ⟨(hp.push (PySem.W.kdv_tup us)).push (PySem.HandSPX.excO C hp.objs.size), g, dr, tk, os⟩ (Value.ref (hp.objs.size + 1) :: us) I2.kIn hlen
  rw [List.append_nil] at hB
  refine wpAny_call (PySem.HandSPX.call_own b.F hbm hC (PySem.W.looks_findIn I.kIn iC) (fun self => PySem.W.bind_fn I.kIn self tI) (by rw [← r.length]; exact Nat.le_trans hl (by decide))
    (codeAny_mono (F.run _ X.stack _ _ ⟨Value.ref (hp.objs.size + 1) :: us, []⟩ _ _ _ E0 (guards_make hG C us []) (hr.make C us []) (I2.env0.make C us []) hB r2 hq) fun res s' z => ?_))
  match res, z with
  | .error e, z => exact z.elim
  | .ok (.ret u), z =>
    obtain ⟨v, H', I3, rv, ev, q3⟩ := I2.after z
    subst ev
    exact ⟨rv, .ref (hp.objs.size + 1), H', I3, rfl, q3⟩
theorem pe_mkE {x : Str} {e : Expr} {es : List Expr} {ta : TA} {p pos : Pos} (b : BaseE B newId initId tl) (T : Oex X.K C B newId tl) (iC : PySem.W.findIn X.K (.ref C) "__init__" = some (some (.ref fI))) (tI : PySem.W.typeIn X.K (.ref fI) = some (.type "function"))
    (F : FnG X.prog X.w X.K X.mg X.base CX0 k fI fd ps sp) (hG : X.A.guards = some []) (hr : Room (k + 1) X.A) (hb : Binds X.K fd ps []) (hg : Gl X x) (hm : X.mg x = some (.ref C)) (ha : PA X (e :: es) ta)
    (hdb : (x == ("__debug__" : Str)) = false := by decide) (hs : starEach (e :: es) X.env = (false, eval e X.env) :: starEach es X.env := by rfl) (hp : (backTo pos (starEach es X.env)).any (·.1) = false := by rfl) :
    PE X (.Call (.Name x p) (e :: es) [] pos) (tMkE C sp ta) := by
  refine ⟨fun pins s σ H Q I h => wpAny_Call_Name_kw (ld_glob I hg hm ?_ hdb)⟩
  refine PySem.W.callWith_K (h₀ := X.base) I.ok.mod.kin T.kC (thn (ha.run pos pins s σ H _ I h) ?_) hs hp
  rintro us s1 ⟨vs, H1, I1, r, hl, q⟩
  exact ⟨I1.kIn, run_mkE b T iC tI F hG hr hb I1 r hl q⟩
end
end Exg
/-! C(name = e): an own exception, made by keywords. -/
namespace Exg
open PySem PySem.Spec PyProof.Rows L2 Sup Grd
section
variable {prog : Program} {w : World} {A : Around} {E : Value → Shared → Prop} {R : Result → Shared → Prop} {h : Heap} {g : Array GenState} {d : Drawn} {t : Nat} {os : OsState}
variable {nm q : Str} {C N : Addr} {bs bm tl : List Value} {hdct : Bool} {sn : List Str} {sub : List Value} {ab : Bool} {col : Option Bool} {dd : Option Addr} {k0 k1 k2 k3 k5 : Option Value} {B newId initId : String} {kw : List (Str × Value)}
theorem check_new_kw {M : Model} (F : ExcBaseFacts B newId initId tl) (hT : ∀ X : String, bm.contains (.type X) = tl.contains (.type X)) {rest : List Value} {Q : Unit → Shared → Prop}
    (hC : h.get? C = some (excClassObj nm q C N bs bm hdct sn sub ab col dd k0 k1 k2 k3 k5 newId)) (hq : Q () ⟨h, g, d, t, os⟩) : wpAny M A (checkBuiltinCall newId ⟨.ref C :: rest, kw⟩) Q E ⟨h, g, d, t, os⟩ := by
  have h1 : (Value.ref C :: bm).contains (.type B) = true := by
    rw [List.contains_cons, hT, F.hasB, Bool.or_true]
  have h2 := F.noStar
  simp only [checkBuiltinCall, F.newKind, F.newSplit, F.newRow]
  repeat (first | refine wpAny_loadPart_at hC ?_
                | (refine wpAny_isSubtype_exc hC ?_; rw [h1])
                | refine wpAny_staticBase_exc hC ?_
                | refine wpAny_madeBy_exc hC ?_
                | simp only [bne_self_eq_false, Bool.false_eq_true, if_false]
                | wp_step)
  exact hq
end
section
variable {prog : Program} {w : World} {A : Around} {E : Value → Shared → Prop} {R : Result → Shared → Prop} {h : Heap} {g : Array GenState} {d : Drawn} {t : Nat} {os : OsState}
variable {nm q : Str} {C N : Addr} {bs bm tl : List Value} {hdct : Bool} {sn : List Str} {sub : List Value} {ab : Bool} {col : Option Bool} {dd : Option Addr} {k0 k1 k2 k3 k5 : Option Value} {B newId initId : String} {kw : List (Str × Value)}
/-- the words do not reach the new object -/
theorem new_kw (F : ExcBaseFacts B newId initId tl) (hT : ∀ X : String, bm.contains (.type X) = tl.contains (.type X)) {rest : List Value}
    (hC : h.get? C = some (excClassObj nm q C N bs bm hdct sn sub ab col dd k0 k1 k2 k3 k5 newId)) (hr : rest.length ≤ sizeLine)
    (hq : R (.ok (.ret (.ref (h.objs.size + 1)))) ⟨(h.push (PySem.W.kdv_tup rest)).push (PySem.HandSPX.excO C h.objs.size), g, d, t, os⟩) :
    codeAny (model prog w) A (.builtin newId ⟨.ref C :: rest, kw⟩) R ⟨h, g, d, t, os⟩ := by
  have h0 := F.ends
  have h1 : (Value.ref C :: bm).contains (.type B) = true := by
    rw [List.contains_cons, hT, F.hasB, Bool.or_true]
  have h2 : (Value.ref C :: bm).contains (.type "AttributeError") = false := by
    rw [List.contains_cons, hT, F.noAttr] <;> rfl
  have h3 : (Value.ref C :: bm).contains (.type "NameError") = false := by
    rw [List.contains_cons, hT, F.noName] <;> rfl
  refine codeAny_builtinAt F.entry ?_
  unfold Builtin.«BaseException.__new__»
  refine PySem.wpAt_bind ?_
  show PySem.wpAt _ _ _ (stack >>= _) _ _ _
  refine PySem.wpAt_bind (PySem.wpAt_stack fun p below => PySem.wpAt_of_wpAny ?_)
  wp_walk
  refine PySem.wpAt_of_wpAny ?_
  rw [F.owner]
  repeat (first | with_reducible refine wpAny_madeHere_exc F.canon hC ?_
                | with_reducible refine wpAny_loadPart_at hC ?_
                | (with_reducible refine wpAny_isSubtype_exc hC ?_; first | rw [h1] | rw [h2] | rw [h3])
                | wp_step)
  show R _ _
  rw [Heap.size_push]
  exact hq
theorem type_call_kw (F : ExcBaseFacts B newId initId tl) (hT : ∀ X : String, bm.contains (.type X) = tl.contains (.type X)) {rest : List Value} {fI : Addr} {Q : Fin → Shared → Prop}
    (hC : h.get? C = some (excClassObj nm q C N bs bm hdct sn sub ab col dd k0 k1 k2 k3 k5 newId))
    (hi : PySem.W.Looks (model prog w) h (typeLookup (.ref C) "__init__") (some (.ref fI))) (hb : ∀ self, PySem.W.Looks (model prog w) h (bindSpecial (.ref fI) self) (.ref fI, [self])) (hr : rest.length ≤ sizeLine)
    (hq : codeAny (model prog w) A (.call (.ref fI) ⟨.ref (h.objs.size + 1) :: rest, kw⟩)
      (fun r s' => match r with | .ok (.ret v) => v = .none ∧ Q (.done (.ret (.ref (h.objs.size + 1)))) s' | .ok _ => False | .error e => E e s')
      ⟨(h.push (PySem.W.kdv_tup rest)).push (PySem.HandSPX.excO C h.objs.size), g, d, t, os⟩) :
    wpAny (model prog w) A (Builtin.«type.__call__» ⟨.ref C :: rest, kw⟩) Q E ⟨h, g, d, t, os⟩ := by
  repeat (first | with_reducible refine wpAny_loadPart_at hC ?_
                | with_reducible refine wpAny_madeBy_exc hC ?_
                | wp_step)
  refine codeAny_call_builtin_code (Code.quiet_builtin _ F.quiet) (check_new_kw F hT hC (new_kw F hT hC hr ?_))
  show wpAny _ _ _ _ _ _
  have kp : ∀ b o, h.get? b = some o → ((h.push (PySem.W.kdv_tup rest)).push (PySem.HandSPX.excO C h.objs.size)).get? b = some o :=
    fun b o e => Heap.get?_push_of_some _ (Heap.get?_push_of_some _ e)
  have hC1 := kp _ _ hC
  have hx : ((h.push (PySem.W.kdv_tup rest)).push (PySem.HandSPX.excO C h.objs.size)).get? (h.objs.size + 1) = some (PySem.HandSPX.excO C h.objs.size) := by
    heap_get
  have hcC : (Value.ref C :: bm).contains (.ref C) = true := by
    simp
  have i1 := hi.keeps kp
  have b1 := (hb (.ref (h.objs.size + 1))).keeps kp
  unfold isInstance
  repeat (first | with_reducible refine wpAny_loadPart_at hx ?_
                | (with_reducible refine wpAny_isSubtype_exc hC1 ?_; rw [hcC])
                | wp_step)
  show wpAny _ _ (typeLookup (.ref C) _) _ _ _
  refine i1.at (wpAny_holding (wpAny_bind (b1.at ?_)))
  refine wpAny_bind (wpAny_call (codeAny_mono hq fun r s' z => ?_))
  match r, z with
  | .error e, z => exact z
  | .ok (.ret v), ⟨e, z⟩ =>
    subst e
    first
      | exact wpAny_pure (wpAny_pure z)
      | (wp_walk; exact z)
theorem check_type_kw {M : Model} {rest : List Value} {Q : Unit → Shared → Prop} (hC : h.get? C = some (excClassObj nm q C N bs bm hdct sn sub ab col dd k0 k1 k2 k3 k5 newId))
    (hq : Q () ⟨h, g, d, t, os⟩) : wpAny M A (checkBuiltinCall "type.__call__" ⟨.ref C :: rest, kw⟩) Q E ⟨h, g, d, t, os⟩ := by
  have f3 := tc_sub
  have hT : (⟨h, g, d, t, os⟩ : Shared).TypeIs (.ref C) "type" := ⟨_, hC, rfl⟩
  simp only [checkBuiltinCall, tc_kind, tc_split]
  repeat (any_goals (first | assumption
                           | with_reducible refine wpAny_loadPart_at hC ?_
                           | with_reducible refine wpAny_onRaise ?_
                           | with_reducible refine wpAny_map ?_
                           | wp_step))
theorem call_kw (F : ExcBaseFacts B newId initId tl) (hT : ∀ X : String, bm.contains (.type X) = tl.contains (.type X)) {rest : List Value} {fI : Addr}
    (hC : h.get? C = some (excClassObj nm q C N bs bm hdct sn sub ab col dd k0 k1 k2 k3 k5 newId))
    (hi : PySem.W.Looks (model prog w) h (typeLookup (.ref C) "__init__") (some (.ref fI))) (hb : ∀ self, PySem.W.Looks (model prog w) h (bindSpecial (.ref fI) self) (.ref fI, [self])) (hr : rest.length ≤ sizeLine)
    (hq : codeAny (model prog w) (A.under (.builtin "type.__call__" ⟨.ref C :: rest, kw⟩)) (.call (.ref fI) ⟨.ref (h.objs.size + 1) :: rest, kw⟩) (PySem.W.InitBack (h.objs.size + 1) R)
      ⟨(h.push (PySem.W.kdv_tup rest)).push (PySem.HandSPX.excO C h.objs.size), g, d, t, os⟩) :
    codeAny (model prog w) A (.call (.ref C) ⟨rest, kw⟩) R ⟨h, g, d, t, os⟩ := by
  have f1 := tc_lookup
  have f2 := tc_bind (.ref C)
  have hTy : (⟨h, g, d, t, os⟩ : Shared).TypeIs (.ref C) "type" := ⟨_, hC, rfl⟩
  refine codeAny_of_tree ?_
  show wpAny _ _ (callAny (.ref C) _) _ _ _
  repeat (any_goals (first | assumption
                           | with_reducible refine wpAny_loadPart_at hC ?_
                           | wp_step))
  refine ⟨rfl, ?_⟩
  refine codeAny_call_builtin_at (Code.quiet_builtin _ (by decide +kernel)) entry_typeCall (check_type_kw hC (type_call_kw F hT hC hi hb hr ?_))
  refine codeAny_mono hq fun r s' z => ?_
  match r, z with
  | .error e, z => exact z
  | .ok (.ret v), z => exact z
end
end Exg
namespace Exg
open PySem PySem.Spec PyProof.Rows L2 Sup Grd
/-- C(n = e, ..) -/
def tMkK (C : Addr) (n : Nat) (sp : Sp) (gV : List V → List V → List V) (tk : TA) : TE := fun σ H Q => tk σ H fun zs H1 => zs.length = n ∧ ∀ a, H1 a = none → sp (gV [.ref a] zs) (upd H1 a (exo a C none)) (fun v H2 => v = .non ∧ Q (.ref a) H2) E0
section
variable {B newId initId : String} {tl : List Value} {X : Cx} {pins : List (Addr × Obj)} {s : Shared} {σ : L2.St} {H : Hp} {C fI : Addr} {k : Nat} {fd : FuncData} {ps ks : List Str} {sp : Sp} {Q : VK} {ws : List Value} {zs : List V} {g : List Value → List Value → List Value} {gV : List V → List V → List V}
theorem run_mkK (b : BaseE B newId initId tl) (T : Oex X.K C B newId tl) (iC : PySem.W.findIn X.K (.ref C) "__init__" = some (some (.ref fI))) (tI : PySem.W.typeIn X.K (.ref fI) = some (.type "function"))
    (F : FnG X.prog X.w X.K X.mg X.base CX0 k fI fd ps sp) (hG : X.A.guards = some []) (hr : Room (k + 1) X.A) (hb : KBn X.K fd ps 1 ks g gV) (I : Inv X pins σ H s) (r : Vals zs ws) (hl : zs.length = ks.length)
    (h : ∀ a, H a = none → sp (gV [.ref a] zs) (upd H a (exo a C none)) (fun v H2 => v = .non ∧ Q (.ref a) H2) E0) : wpAny (model X.prog X.w) X.A (call (.ref C) [] (ks.zip ws)) (EP X pins σ Q) X.xe s := by
  obtain ⟨nm, N, q, bs, bm, hdct, sn, sub, ab, col, dd, k0, k1, k2, k3, k5, hC, hbm⟩ := PySem.W.excInit_of I.kIn T.ini
  obtain ⟨hp, gs, dr, tk, os⟩ := s
  have hn : H (hp.objs.size + 1) = none := I.hok.fresh (Nat.le_succ _)
  have hq := h _ hn
  have hget : ((hp.push (PySem.W.kdv_tup [])).push (PySem.HandSPX.excO C hp.objs.size)).get? (hp.objs.size + 1) = some (PySem.HandSPX.excO C hp.objs.size) := by heap_get
  have I2 : Inv X pins σ (upd H (hp.objs.size + 1) (exo (hp.objs.size + 1) C none)) ⟨(hp.push (PySem.W.kdv_tup [])).push (PySem.HandSPX.excO C hp.objs.size), gs, dr, tk, os⟩ :=
    I.laid (t' := tk) (fun c o z => Heap.get?_push_of_some _ (Heap.get?_push_of_some _ z)) (Nat.le_succ _) (exo_ok hget)
  have r2 : Vals (gV [V.ref (hp.objs.size + 1)] zs) (g [Value.ref (hp.objs.size + 1)] ws) := hb.rel (.cons rfl .nil) r
  have hB := hb.to ⟨(hp.push (PySem.W.kdv_tup [])).push (PySem.HandSPX.excO C hp.objs.size), gs, dr, tk, os⟩ [Value.ref (hp.objs.size + 1)] ws I2.kIn rfl (r.length.symm.trans hl)
  refine wpAny_call (call_kw b.F hbm hC (PySem.W.looks_findIn I.kIn iC) (fun self => PySem.W.bind_fn I.kIn self tI) (Nat.zero_le _)
    (codeAny_mono (F.run _ X.stack _ _ ⟨[Value.ref (hp.objs.size + 1)], ks.zip ws⟩ _ _ _ E0 (guards_make hG C [] (ks.zip ws)) (hr.make C [] (ks.zip ws)) (I2.env0.make C [] (ks.zip ws)) hB r2 hq) fun res s' z => ?_))
  match res, z with
  | .error e, z => exact z.elim
  | .ok (.ret u), z =>
    obtain ⟨v, H', I3, rv, ev, q3⟩ := I2.after z
    subst ev
    exact ⟨rv, .ref (hp.objs.size + 1), H', I3, rfl, q3⟩
theorem pe_mkK {x : Str} {kws : List Keyword} {tk : TA} {p pos : Pos} (b : BaseE B newId initId tl) (T : Oex X.K C B newId tl) (iC : PySem.W.findIn X.K (.ref C) "__init__" = some (some (.ref fI))) (tI : PySem.W.typeIn X.K (.ref fI) = some (.type "function"))
    (F : FnG X.prog X.w X.K X.mg X.base CX0 k fI fd ps sp) (hG : X.A.guards = some []) (hr : Room (k + 1) X.A) (hb : KBn X.K fd ps 1 ks g gV) (hg : Gl X x) (hm : X.mg x = some (.ref C)) (hkw : PK X kws tk)
    (h1 : (backToKw pos (keywordEach kws X.env)).all (·.1.isSome) = true := by rfl) (h2 : (backToKw pos (keywordEach kws X.env)).filterMap (·.1) = ks := by rfl) (h3 : (x == ("__debug__" : Str)) = false := by decide)
    (h4 : ((backTo pos (starEach [] X.env)).any (·.1) || (backToKw pos (keywordEach kws X.env)).any (·.1.isNone)) = false := by rfl) : PE X (.Call (.Name x p) [] kws pos) (tMkK C ks.length sp gV tk) := by
  refine ⟨fun pins s σ H Q I h => wpAny_Call_Name_kw (ld_glob I hg hm ?_ h3)⟩
  refine PySem.W.callWith_KW0 (h₀ := X.base) I.ok.mod.kin T.kC h1 (thn (hkw.run pos pins s σ H _ I h) ?_) h4
  rintro ws s2 ⟨zs, H2, I2, rz, l2, q2⟩
  refine ⟨I2.kIn, ?_⟩
  rw [h2]
  exact run_mkK b T iC tI F hG hr hb I2 rz l2 q2
end
/-! ### what is kept: its fields, its classes -/
/-- an exception at a, of the class at C, with these fields -/
def ExAt (H : Hp) (a C : Addr) (fs : List (Str × V)) : Prop := ∃ dx, H a = some (exo a C (some dx)) ∧ H dx = some (exd dx fs)
/-- the facts for its fields -/
structure XfT (K : PySem.W.Frag) (C : Addr) : Prop where
  ga : PySem.W.findIn K (.ref C) "__getattribute__" = some (some (.builtin "BaseException.__getattribute__"))
  gg : PySem.W.findIn K (.ref C) "__getattr__" = some none
  exC : PySem.W.subIn K (.ref C) (.type "BaseException") = some true
  hdC : PySem.W.hasDictIn K C = true
def tFldE (K : PySem.W.Frag) (n : Str) (te : TE) : TE := fun σ H Q => te σ H fun x H1 => ∃ a C fs v, x = .ref a ∧ ExAt H1 a C fs ∧ XfT K C ∧ PySem.W.findIn K (.ref C) n = some none ∧ fs.lookup n = some v ∧ Q v H1
theorem pe_fldE {X : Cx} {e : Expr} {te : TE} {pos : Pos} {n : Str} (he : PE X e te) (hb : attributeBase e n X.env (eval e X.env) = eval e X.env := by rfl) : PE X (.Attribute e n pos) (tFldE X.K n te) := by
  refine ⟨fun pins s σ H Q I h => attr_of hb (thn (he.run pins s σ H _ I h) ?_)⟩
  rintro u s1 ⟨x, H1, I1, rx, a, C, fs, v, rfl, ⟨dx, ea, ed⟩, T, hno, l, q⟩
  cases rx
  obtain ⟨t1, ho⟩ := exo_at I1.hok ea
  obtain ⟨mA, hns, hr⟩ := exd_at I1.hok ed
  obtain ⟨od, hd, hl⟩ := lookIn_ns hns
  obtain ⟨u, hu, ru⟩ := RelO.some_of (v := v) (o := mA n) (by rw [← l]; exact hr n)
  have J : PySem.W.InstAt s1.heap a { cls := .ref C, dict := some dx, data := .fields #[.ref t1, .none, .none, .none, .bool false, .none] } C (some od) := ⟨ho, rfl, rfl, hd⟩
  exact HandSPX.exc_get I1.kIn J T.ga T.gg T.exC (PySem.W.findObj_own T.hdC hno rfl (by rw [hl, hu])) (handed_of ru) ⟨v, H1, I1.tok _, ru, q⟩
/-- the facts for isinstance -/
structure XiT (K : PySem.W.Frag) (C : Addr) : Prop where
  cl : (PySem.W.clsIn K C).isSome = true
  ga : PySem.W.findIn K (.ref C) "__getattribute__" = some (some (.builtin "BaseException.__getattribute__"))
  gg : PySem.W.findIn K (.ref C) "__getattr__" = some none
  exC : PySem.W.subIn K (.ref C) (.type "BaseException") = some true
  ca : PySem.W.findIn K (.ref C) "__class__" = some (some (.builtin "object.__class__"))
  cn : PySem.W.specialIn K (.builtin "object.__class__") "__get__" = some (some (.builtin "getset_descriptor.__get__"))
  ct : PySem.W.takesIn K (.builtin "object.__class__") = some true
  ob : PySem.W.mroIn K C (.type "object") = some true
/-- an exception at a, its dict made or not -/
def ExIs (H : Hp) (a C : Addr) : Prop := H a = some (exo a C none) ∨ ∃ fs, ExAt H a C fs
theorem ExIs.inst {X : Cx} {pins : List (Addr × Obj)} {s : Shared} {σ : L2.St} {H : Hp} {a C : Addr} (I : Inv X pins σ H s) (h : ExIs H a C) : ∃ ox od, PySem.W.InstAt s.heap a ox C od := by
  rcases h with e | ⟨fs, dx, e, ed⟩
  · obtain ⟨t1, ho⟩ := exo_at I.hok e
    exact ⟨_, none, ho, rfl, rfl, trivial⟩
  · obtain ⟨t1, ho⟩ := exo_at I.hok e
    obtain ⟨mA, hns, _⟩ := exd_at I.hok ed
    obtain ⟨od, _, _, hd, _⟩ := hns
    exact ⟨_, some od, ho, rfl, rfl, hd⟩
/-- isinstance(e, c), e a kept exception -/
def rIsX (K : PySem.W.Frag) : List V → Hp → VK → Prop := fun xs H Q => ∃ (a C : Addr) (c : V) (u : Value) (b : Bool), xs = [.ref a, c] ∧ ClsV c u ∧ ExIs H a C ∧ XiT K C ∧ PySem.W.kitOne K (.ref C) u = some b ∧ Q (.bl b) H
theorem call_isX {X : Cx} : CallR X (.builtin "isinstance") (rIsX X.K) := by
  intro pins s σ H xs us Q I r h
  obtain ⟨a, C, c, u, b, rfl, k, hx, T, e, q⟩ := h
  obtain ⟨u1, u2, rfl, r1, r2⟩ := vals2 r
  cases r1
  obtain rfl := k.eq r2
  obtain ⟨ox, od, J⟩ := hx.inst I
  exact PySem.W.kia_one (PySem.W.kitx_exc T.cl T.ga T.gg T.exC T.ca T.cn T.ct T.ob) I.kIn J e (fun z => nomatch z) fun tk => ⟨.bl b, H, I.kept (t' := tk) fun _ _ z => z, ⟨rfl, q⟩⟩
/-- C(), C an own exception class without its own __init__ -/
theorem pe_mk0E {X : Cx} {B newId initId : String} {tl : List Value} {C : Addr} {x : Str} {p pos : Pos} (b : BaseE B newId initId tl) (q : PySem.W.excIn X.K C tl newId = true) (kC : PySem.W.keepIn X.K (.ref C) = true) (hg : Gl X x) (hm : X.mg x = some (.ref C))
    (hdb : (x == ("__debug__" : Str)) = false := by decide) : PE X (.Call (.Name x p) [] [] pos) (fun _ H Q => ∀ a, H a = none → Q (.ref a) (upd H a (exo a C none))) := by
  refine ⟨fun pins s σ H Q I h => wpAny_Call_Name_kw (ld_glob I hg hm ?_ hdb)⟩
  refine PySem.W.callWith_K0 I.kIn kC ?_
  show wpAny _ _ (call (.ref C) []) _ _ _
  obtain ⟨bm, N, nm, qn, bs, hdct, sn, sub, ab, col, dd, k0, k1, k2, k3, k5, mN, hC, hN, hni, T⟩ := exc_obj I.kIn q
  refine wpAny_call_exc_subT b.F T hC hN hni (fun h' a hm => ?_) (Nat.zero_le _)
  have hn : H a = none := I.hok.gone hm.new
  obtain ⟨t, ht, _, _⟩ := hm.there
  exact ⟨.ref a, _, I.laidN hm.keeps hm.new hn (exo_ok ht), rfl, h a hn⟩
end Exg
/-! repr of data with an empty dict in it, where nothing is being shown. -/
namespace Shw
open PySem PySem.Spec PyProof.Rows L2
mutual
/-- data; its lists are none of the interpreter's own -/
inductive Dq (K : PySem.W.Frag) (H : Hp) : V → PyData → Prop
  | non : Dq K H .non .none
  | bl (b : Bool) : Dq K H (.bl b) (.bool b)
  | int (i : Int) : Dq K H (.int i) (.int i)
  | str (x : Str) : Dq K H (.str x) (.str x)
  | lst {a : Addr} {xs : List V} {ds : List PyData} (n : sysModules ≠ a) (h : SqL K H a xs) (r : DqAll K H xs ds) : Dq K H (.ref a) (.list ds)
  | tup {a : Addr} {xs : List V} {ds : List PyData} (h : SqT K H a xs) (r : DqAll K H xs ds) : Dq K H (.ref a) (.tuple ds)
  | dic {a : Addr} (h : Rd H a (.dK [])) : Dq K H (.ref a) (.dict [])
inductive DqAll (K : PySem.W.Frag) (H : Hp) : List V → List PyData → Prop
  | nil : DqAll K H [] []
  | cons {v : V} {vs : List V} {d : PyData} {ds : List PyData} (h : Dq K H v d) (r : DqAll K H vs ds) : DqAll K H (v :: vs) (d :: ds)
end
theorem DqAll.append {K : PySem.W.Frag} {H : Hp} {xs ys : List V} {ds es : List PyData} (h : DqAll K H xs ds) (g : DqAll K H ys es) : DqAll K H (xs ++ ys) (ds ++ es) := by
  induction ds generalizing xs with
  | nil => cases h; exact g
  | cons d ds ih => cases h with | cons a b => exact .cons a (ih b)
theorem rd_same {H H' : Hp} {a : Addr} {u : HO} (s : ∀ b o, H b = some o → H' b = some o) (h : Rd H a u) : Rd H' a u := h.imp (s _ _) fun ⟨o, e⟩ => ⟨o, s _ _ e⟩
mutual
theorem Dq.same {K : PySem.W.Frag} {H H' : Hp} (s : ∀ b o, H b = some o → H' b = some o) : ∀ (d : PyData) (v : V), Dq K H v d → Dq K H' v d
  | .none, _, h => by cases h; exact .non
  | .bool _, _, h => by cases h; exact .bl _
  | .int _, _, h => by cases h; exact .int _
  | .str _, _, h => by cases h; exact .str _
  | .list ds, _, h => by
    cases h with
    | lst n q r => exact .lst n (q.imp (rd_same s) id) (Dq.sameAll s ds _ r)
  | .tuple ds, _, h => by
    cases h with
    | tup q r => exact .tup (q.imp (rd_same s) id) (Dq.sameAll s ds _ r)
  | .dict _, _, h => by
    cases h with
    | dic q => exact .dic (rd_same s q)
theorem Dq.sameAll {K : PySem.W.Frag} {H H' : Hp} (s : ∀ b o, H b = some o → H' b = some o) : ∀ (ds : List PyData) (vs : List V), DqAll K H vs ds → DqAll K H' vs ds
  | [], _, h => by cases h; exact .nil
  | d :: ds, _, h => by
    cases h with
    | cons a b => exact .cons (Dq.same s d _ a) (Dq.sameAll s ds _ b)
end
section
variable {X : Cx} {pins : List (Addr × Obj)} {σ : L2.St} {H : Hp} {s : Shared}
mutual
theorem Dq.reads (I : Inv X pins σ H s) : ∀ (d : PyData) (v : V) (u : Value), Dq X.K H v d → RelV v u → ∃ as, Reads s.heap u d as ∧ sysModules ∉ as
  | .none, _, _, h, r => by
    cases h; cases r
    exact ⟨[], .none, List.not_mem_nil⟩
  | .bool b, _, _, h, r => by
    cases h; cases r
    exact ⟨[], .bool b, List.not_mem_nil⟩
  | .int i, _, _, h, r => by
    cases h
    obtain ⟨t, rfl⟩ := r
    exact ⟨[], .int i t, List.not_mem_nil⟩
  | .str x, _, _, h, r => by
    cases h
    obtain ⟨t, rfl⟩ := r
    exact ⟨[], .str x t, List.not_mem_nil⟩
  | .list ds, _, _, h, r => by
    cases h with
    | lst n hs ha =>
      cases r
      obtain ⟨its, rv, ⟨o, k, ho, hc, _, hd⟩, _⟩ := I.list hs
      obtain ⟨as, hr, hn⟩ := Dq.readsAll I ds _ its ha rv
      exact ⟨_, .list ho hc hd hr, fun z => (List.mem_cons.mp z).elim n hn⟩
  | .tuple ds, _, _, h, r => by
    cases h with
    | tup hs ha =>
      cases r
      obtain ⟨its, rv, ⟨o, ho, hc, k, hd⟩, _⟩ := I.tuple hs
      obtain ⟨as, hr, hn⟩ := Dq.readsAll I ds _ its ha rv
      exact ⟨_, .tuple ho hc hd hr, hn⟩
  | .dict _, _, _, h, r => by
    cases h with
    | dic hs =>
      cases r
      obtain ⟨_, hsm, vs, kv, o, es, ep, ho, hx, hd, hk, hp, _⟩ := dk_rd I.hok hs
      cases kv
      have e0 : es.toList = [] := by
        generalize es.toList = l at hp
        cases hp
        rfl
      refine ⟨_, .dict (as := []) (bs := []) ho hx.1 hd (by rw [e0]; exact .nil) (by rw [e0]; exact .nil), ?_⟩
      intro z
      rw [List.append_nil] at z
      rw [List.mem_singleton.mp z] at hsm
      exact absurd hsm (by simp)
theorem Dq.readsAll (I : Inv X pins σ H s) : ∀ (ds : List PyData) (vs : List V) (us : List Value), DqAll X.K H vs ds → Vals vs us → ∃ as, ReadsAll s.heap us ds as ∧ sysModules ∉ as
  | [], _, _, h, r => by
    cases h; cases r
    exact ⟨[], .nil, List.not_mem_nil⟩
  | d :: ds, _, _, h, r => by
    cases h with
    | cons h1 h2 =>
      cases r with
      | cons r1 r2 =>
        obtain ⟨as, q1, n1⟩ := Dq.reads I d _ _ h1 r1
        obtain ⟨bs, q2, n2⟩ := Dq.readsAll I ds _ _ h2 r2
        exact ⟨_, .cons q1 q2, fun z => (List.mem_append.mp z).elim n1 n2⟩
end
end
section
variable {X : Cx}
/-- what may be shown -/
structure Fit (d : PyData) : Prop where
  sh : PyData.showable d = true
  dp : d.depth ≤ 60
  sz : d.shown.length ≤ sizeLine
def rShow (K : PySem.W.Frag) : List V → Hp → VK → Prop := fun xs H Q => ∃ x d, xs = [x] ∧ Dq K H x d ∧ Fit d ∧ Q (.str d.shown) H
theorem call_show (hg : X.A.guards = some []) (hu : X.A.units + 64 < cLine) : CallR X (.builtin "repr") (rShow X.K) := by
  intro pins s σ H xs us Q I r h
  obtain ⟨x, d, rfl, hd, ft, q⟩ := h
  obtain ⟨u, rfl, ru⟩ := vals1 r
  obtain ⟨as, rd, na⟩ := Dq.reads I d x u hd ru
  cases hd with
  | non => cases ru; exact PySem.P.repr_of_none ⟨.str _, H, I.tok _, ⟨_, rfl⟩, q⟩
  | bl b => cases ru; exact PySem.P.repr_of_bool ⟨.str _, H, I.tok _, ⟨_, rfl⟩, q⟩
  | int i => obtain ⟨t, rfl⟩ := ru; exact PySem.P.repr_of_int (of_decide_eq_true ft.sh) ⟨.str _, H, I.tok _, ⟨_, rfl⟩, q⟩
  | str y => obtain ⟨t, rfl⟩ := ru; exact PySem.P.repr_of_str ⟨.str _, H, I.tok _, ⟨_, rfl⟩, q⟩ ft.sz
  | lst n q1 q2 => cases ru; exact PySem.repr_of_reads' rd ft.sh (fun _ => na) hg (by have := ft.dp; omega) (fun _ _ e => e) (fun h' u tk hk => ⟨.str _, H, I.kept (t' := tk) hk, ⟨_, rfl⟩, q⟩) ft.sz
  | tup q1 q2 => cases ru; exact PySem.repr_of_reads' rd ft.sh (fun _ => na) hg (by have := ft.dp; omega) (fun _ _ e => e) (fun h' u tk hk => ⟨.str _, H, I.kept (t' := tk) hk, ⟨_, rfl⟩, q⟩) ft.sz
  | dic q1 => cases ru; exact PySem.repr_of_reads' rd ft.sh (fun _ => na) hg (by have := ft.dp; omega) (fun _ _ e => e) (fun h' u tk hk => ⟨.str _, H, I.kept (t' := tk) hk, ⟨_, rfl⟩, q⟩) ft.sz
/-- {x!r} -/
def tShowR (K : PySem.W.Frag) (te : TE) : TE := fun σ H Q => te σ H fun x H1 => ∃ d, Dq K H1 x d ∧ Fit d ∧ Q (.str d.shown) H1
theorem pe_showR {e : Expr} {te : TE} {pos : Pos} (hg : X.A.guards = some []) (hu : X.A.units + 64 < cLine) (he : PE X e te) : PE X (.FormattedValue e 114 none pos) (tShowR X.K te) := by
  refine ⟨fun pins s σ H Q I h => wpAny_FormattedValue_repr (thn (he.run pins s σ H _ I h) ?_)⟩
  rintro v s1 ⟨x, H1, I1, r1, d, hd, ft, q⟩
  obtain ⟨as, rd, na⟩ := Dq.reads I1 d x v hd r1
  have fin : ∀ (h' : Heap) (u : Tok) (tk : Nat), (∀ b o, s1.heap.get? b = some o → h'.get? b = some o) → wpAny (model X.prog X.w) X.A (formatField (.str d.shown u) Str.empty) (EP X pins σ Q) X.xe { s1 with heap := h', toks := tk } :=
    fun h' u tk hk => wpAny_formatField_str ⟨.str _, H1, I1.kept (t' := tk) hk, ⟨_, rfl⟩, q⟩ ⟨.str _, H1, (I1.kept (t' := tk) hk).tok _, ⟨_, rfl⟩, q⟩ ft.sz
  cases hd with
  | non => cases r1; exact pyReprObj_none (fin _ _ _ fun _ _ e => e)
  | bl b => cases r1; exact pyReprObj_bool (fin _ _ _ fun _ _ e => e)
  | int i => obtain ⟨t, rfl⟩ := r1; exact pyReprObj_int (of_decide_eq_true ft.sh) (fin _ _ _ fun _ _ e => e)
  | str y => obtain ⟨t, rfl⟩ := r1; exact pyReprObj_str (fin _ _ _ fun _ _ e => e) ft.sz
  | lst n q1 q2 => cases r1; exact pyReprObj_of_reads rd ft.sh (fun _ => na) hg (by have := ft.dp; omega) (fun _ _ e => e) (fun h' u tk hk => fin h' u tk hk) ft.sz
  | tup q1 q2 => cases r1; exact pyReprObj_of_reads rd ft.sh (fun _ => na) hg (by have := ft.dp; omega) (fun _ _ e => e) (fun h' u tk hk => fin h' u tk hk) ft.sz
  | dic q1 => cases r1; exact pyReprObj_of_reads rd ft.sh (fun _ => na) hg (by have := ft.dp; omega) (fun _ _ e => e) (fun h' u tk hk => fin h' u tk hk) ft.sz
/-- new lists -/
theorem big {pins : List (Addr × Obj)} {σ : L2.St} {H : Hp} {s : Shared} (I : Inv X pins σ H s) : sysModules ≠ s.heap.objs.size := Nat.ne_of_lt (StX.env0_big I.env0)
def tLstN (t : TA) : TE := fun σ H Q => t σ H fun xs H1 => xs.length ≤ sizeLine ∧ ∀ p, H1 p = none → sysModules ≠ p → Q (.ref p) (upd H1 p (.lst xs))
theorem pe_lstN {es : List Expr} {t : TA} {pos : Pos} (h : PA X es t) : PE X (.List es pos) (tLstN t) := by
  refine ⟨fun pins s σ H Q I hq => wpAny_List_spliced (thn (h.run pos pins s σ H _ I hq) ?_)⟩
  rintro us s1 ⟨xs, H1, I1, r, z, q⟩
  refine ⟨r.length ▸ z, .ref s1.heap.objs.size, _, I1.lnew (t' := s1.toks) r z, rfl, q _ I1.fresh (big I1)⟩
def rCatN : R2 := fun x y H Q => ∃ l b xs zs, x = .ref l ∧ y = .ref b ∧ H l = some (.lst xs) ∧ H b = some (.lst zs) ∧ xs.length + zs.length ≤ sizeLine ∧ ∀ p, H p = none → sysModules ≠ p → Q (.ref p) (upd H p (.lst (xs ++ zs)))
theorem op_catN : OpR X (binaryOp .Add) rCatN := by
  intro pins s σ H x y v u Q I rx ry h
  obtain ⟨l, b, xs, zs, rfl, rfl, hH, hB, hz, q⟩ := h
  cases rx; cases ry
  obtain ⟨_, its, n, r, hl, e⟩ := I.lstM hH
  obtain ⟨_, its2, n2, r2, hl2, e2⟩ := I.lstM hB
  refine PySem.P.add_list e e2 ?_ (by rw [List.size_toArray, List.size_toArray, ← hl, ← hl2]; exact hz)
  rw [show its.toArray ++ its2.toArray = (its ++ its2).toArray from by simp]
  exact ⟨.ref _, _, I.lnew (t' := s.toks) (r.append r2) (by rw [List.length_append]; exact hz), rfl, q _ I.fresh (big I)⟩
end
end Shw
namespace Exg
open PySem PySem.Spec PyProof.Rows L2 Sup Grd Shw
open NdefX (NF NScope ncx envF startF CellsAt inv_startN nscope_by)
section
variable {P : Program} {w : World} {K : PySem.W.Frag} {mg : Str → Option Value} {base : Heap} {CX : CXT} {x qual : Str} {st : Stmt} {f c cc D : Addr} {fd : FuncData} {N ps : List Str} {k : Nat} {sp : Sp}
theorem fn_superG (F : FunS P K x qual st f fd c cc D) (S : NScope N ps ["__class__"] (defScope st)) (len : ∀ vs H Q E, sp vs H Q E → vs.length = ps.length)
    (hbody : ∀ (A : Around) (outer : List Env) (s : Shared) (H : Hp) (vs : List V) (Q : VK) (E : XK), A.guards = some [] → Room k (A.deeper (envF (nf x qual st c cc) f s.heap.objs.size)) → sp vs H Q E → ∀ s1,
      Inv (ncx CX P w K mg base N (nf x qual st c cc) f A outer s H E) [] (startF N vs [some (.ref D)]) H s1 →
      PySem.wpAt (model P w) (A.deeper (envF (nf x qual st c cc) f s.heap.objs.size)) (.func (defBody st) (envF (nf x qual st c cc) f s.heap.objs.size)) (execs (defBody st) (envF (nf x qual st c cc) f s.heap.objs.size))
        (SP (ncx CX P w K mg base N (nf x qual st c cc) f A outer s H E) [] { nx := fun _ H' => Q .non H', rt := Q }) (ncx CX P w K mg base N (nf x qual st c cc) f A outer s H E).xe s1) :
    FnG P w K mg base CX (k + 1) f fd ps sp := by
  obtain ⟨oc, od, kV, doc, pm, an, ct, osl, rfl, lk⟩ := F.ex
  obtain ⟨cl, cld, csl, lc⟩ := F.cell
  refine ⟨len, fun A outer s H args us vs Q E hgu hr e0 hb r hsp => ?_⟩
  have hl := len _ _ _ _ hsp
  have KX : K.In s.heap := e0.mod.kin.keeps fun b o e => (e0.bs b o e).1
  have lim : s.heap.NoLimit := e0.mod.nolimit.keeps fun b o e => (e0.bs b o e).1
  have hcc : s.heap.get? cc = some ⟨cl, cld, .cell (some (.ref D)), csl⟩ := KX _ _ lc
  have C : CellsAt (nf x qual st c cc).cl ["__class__"] [some (V.ref D)] s.heap H := by
    refine ⟨rfl, fun y b e => ?_, fun a b q h1 h2 => ?_, fun i y hy => ?_⟩
    · have e : (if y == "__class__" then some cc else none) = some b := by
        have q : List.lookup y [(("__class__" : Str), cc)] = some b := e
        rw [List.lookup_cons] at q
        cases z : y == ("__class__" : Str) with
        | true => rw [z] at q; rw [if_pos rfl]; exact q
        | false => rw [z] at q; cases q
      split at e
      · cases e
        exact ⟨(e0.bs _ _ (e0.mod.kin _ _ lc)).2, _, _, hcc, rfl⟩
      · cases e
    · have key : ∀ {y : Str} {b : Addr}, List.lookup y [(("__class__" : Str), cc)] = some b → y = "__class__" := fun {y b} q => by
        rw [List.lookup_cons] at q
        cases z : y == ("__class__" : Str) with
        | true => exact eq_of_beq z
        | false => rw [z] at q; cases q
      exact (key h1).trans (key h2).symm
    · match i, hy with
      | 0, hy =>
        have e : (("__class__" : Str)) = y := Option.some.inj hy
        subst e
        refine ⟨cc, by show List.lookup _ [(("__class__" : Str), cc)] = some cc; rw [List.lookup_cons, beq_self_eq_true], fun v hv => ?_⟩
        have e : V.ref D = v := Option.some.inj (Option.some.inj hv)
        subst e
        exact ⟨_, rfl, _, hcc, rfl⟩
  refine ks_codeAny_call_defAt (fd := PySem.W.fnX x qual (defArgs st) (defBody st) (defScope st) [("__class__", cc)] .none kV doc pm an (.ref c) ct) (body := defBody st) (binds := ps.zip us) hr.depth (KX _ _ lk) rfl lim (PySem.W.codeRec_of KX F.cd) rfl hb
    S.nocell (fun ⟨n, _⟩ hy => S.par n (List.of_mem_zip hy).1) (fun h₁ hns kp => ?_) S.co S.gen S.kind
  have I : Inv (ncx CX P w K mg base N (nf x qual st c cc) f A outer s H E) [] (startF N vs [some (.ref D)]) H { s with heap := h₁, toks := s.toks + (ps.zip us).length } := inv_startN S hr.hd e0 hl r C hns kp
  refine ks_wpAt_mono (hbody A outer s H vs Q E hgu (hr.deeper _) hsp _ I) (fun fl s' hs => ?_) fun e s' hs => hs
  have fin : ∀ {σ' : L2.St} {H' : Hp} {v : V} {u : Value}, Inv (ncx CX P w K mg base N (nf x qual st c cc) f A outer s H E) [] σ' H' s' → L2.RelV v u → Q v H' → CE outer P w H s Q u s' :=
    fun {σ' H' v u} J rv q => ⟨v, H', J.os, J.bare, J.base, J.hok, rv, q⟩
  cases fl with
  | ret u =>
    obtain ⟨v, σ', H', J, rv, q⟩ := hs
    exact fin J rv q
  | next =>
    obtain ⟨σ', H', J, q⟩ := hs
    exact fin (v := V.non) (u := Value.none) J rfl q
  | brk =>
    obtain ⟨_, _, _, q⟩ := hs
    exact False.elim q
  | cont =>
    obtain ⟨_, _, _, q⟩ := hs
    exact False.elim q
end
/-- what is kept, small enough to be told in a message -/
structure Smalls (d : PyData) : Prop where
  fit : Fit d
  sz : d.shown.length ≤ 1000
def spOne (K : PySem.W.Frag) (C : Addr) (x : Str) : Sp := fun vs H Q _ => ∃ (a : Addr) (v : V) (d : PyData), vs = [.ref a, v] ∧ Dq K H v d ∧ Smalls d ∧ H a = some (exo a C none) ∧
  ∀ (dx : Addr), H dx = none → dx ≠ a → Q .non (upd (upd H dx (exd dx [(x, v)])) a (exo a C (some dx)))
def spTwo (K : PySem.W.Frag) (C : Addr) (x y : Str) : Sp := fun vs H Q _ => ∃ (a : Addr) (v u : V) (d e : PyData), vs = [.ref a, v, u] ∧ Dq K H v d ∧ Dq K H u e ∧ Smalls d ∧ Smalls e ∧ H a = some (exo a C none) ∧
  ∀ (dx : Addr) (H' : Hp), H dx = none → dx ≠ a → H' a = some (exo a C (some dx)) → H' dx = some (exd dx [(y, u), (x, v)]) → (∀ b o, b ≠ a → H b = some o → H' b = some o) → Q .non H'
/-- a class's facts that its __init__ asks -/
structure ErrT (P : Program) (K : PySem.W.Frag) (mg : Str → Option Value) (B newId initId : String) (tl : List Value) (C : Addr) : Prop where
  sup : SupT P K mg C
  oex : Oex K C B newId tl
  hm : PySem.W.ks_superIn K C C "__init__" = some (some (.builtin initId))
  hs : PySem.W.mroIn K C (.ref C) = some true
section
variable {P : Program} {w : World} {K : PySem.W.Frag} {mg : Str → Option Value} {base : Heap} {q x y pre pre2 : Str} {st : Stmt} {f c cc C : Addr} {fd : FuncData} {B newId initId : String} {tl : List Value} {p0 p1 p2 p3 p4 p5 p6 p7 p8 p9 p10 p11 p12 p13 p14 p15 p16 p17 p18 p19 : Pos} {j j2 : Nat}
theorem len0 (a : Str) : (Str.empty ++ a).length = a.length := by rw [strLen_append]; exact Nat.zero_add _
theorem ok_one (b : BaseE B newId initId tl) (F : FunS P K "__init__" q st f fd c cc C) (T : ErrT P K mg B newId initId tl C) (S : NScope ["self", x, "__class__"] ["self", x] ["__class__"] (defScope st))
    (hb : defBody st = [.Expr (.Call (.Attribute (.Call (.Name "super" p0) [] [] p1) "__init__" p2) [.JoinedStr [.Constant (.str pre) j p5, .FormattedValue (.Name x p6) 114 none p7] p8] [] p3) p4, .Assign [.Attribute (.Name "self" p9) x p10] (.Name x p11) p12])
    (hp : pre.length ≤ 100) (hsu : (defScope st).names.lookup ("super" : Str) = some .globalImplicit) (hcl : (defScope st).names.lookup ("__class__" : Str) = some .free) (hme : (defScope st).names.lookup ("self" : Str) = some .local) (hx : (defScope st).names.lookup x = some .local)
    (hd : (x == ("__debug__" : Str)) = false) (hcd : (x == ("__classdict__" : Str)) = false) (har : ∃ ar, ((defArgs st).posonlyargs ++ (defArgs st).args).head? = some ar ∧ ar.arg = "self") (hno : PySem.W.findIn K (.ref C) x = some none) (hk : (defScope st).kind = .function)
    (hin : ∀ env : Env, env.scope = defScope st → interactive env = false) (hev : ∀ env : Env, eval (.Call (.Attribute (.Call (.Name "super" p0) [] [] p1) "__init__" p2) [.JoinedStr [.Constant (.str pre) j p5, .FormattedValue (.Name x p6) 114 none p7] p8] [] p3) env = (do
      let ov ← attributeBase (.Call (.Name "super" p0) [] [] p1) "__init__" env (eval (.Call (.Name "super" p0) [] [] p1) env)
      standAt p2.atName
      let (f, first) ← holding [ov] (getMethod ov "__init__" (pure false))
      callWith p3 f first (backTo p3 (starEach [.JoinedStr [.Constant (.str pre) j p5, .FormattedValue (.Name x p6) 114 none p7] p8] env)) [])) :
    FnG P w K mg base CX0 1 f fd ["self", x] (spOne K C x) := by
  refine fn_superG F S (fun vs H Q E h => ?_) (fun A outer s H vs Q E hgu hr h s1 I => ?_)
  · obtain ⟨a, v, d, rfl, _⟩ := h
    rfl
  · obtain ⟨a, v, d, rfl, hv, sm, ha, k⟩ := h
    have hvx : Vis (ncx CX0 P w K mg base ["self", x, "__class__"] (nf "__init__" q st c cc) f A outer s H E).env.scope x := Or.inl hx
    have hvs : Vis (ncx CX0 P w K mg base ["self", x, "__class__"] (nf "__init__" q st c cc) f A outer s H E).env.scope "self" := Or.inl hme
    rw [hb]
    refine sup_exc (me := "self") (x := a) (C := C) b (atS_of F hk hsu hcl hme har) T.sup T.oex rfl T.hm T.hs
      (pa_cons (pe_joined (.cons pe_str (.cons (pe_showR hgu hr.units (pv 1 (hv := hvx) (hd := hd) (hcd := hcd))) .nil))) pa_nil) (pss_one (ps_put b (pv 0 (hv := hvs)) (pv 1 (hv := hvx) (hd := hd) (hcd := hcd)))) I rfl ha ?_ (hin _ rfl) rfl (hev _) rfl rfl
    refine ⟨_, rfl, (by rw [len0]; exact Nat.le_trans hp (by decide)), _, rfl, d, hv, sm.fit, _, rfl, ?_, (by show 1 ≤ 1000; decide), ha, _, rfl, _, rfl, a, C, rfl, T.oex, hno, .inl ⟨ha, k⟩⟩
    rw [strLen_append, len0]
    exact Nat.le_trans (Nat.add_le_add hp sm.sz) (by decide)
theorem ok_two (b : BaseE B newId initId tl) (F : FunS P K "__init__" q st f fd c cc C) (T : ErrT P K mg B newId initId tl C) (S : NScope ["self", x, y, "__class__"] ["self", x, y] ["__class__"] (defScope st))
    (hb : defBody st = [.Expr (.Call (.Attribute (.Call (.Name "super" p0) [] [] p1) "__init__" p2) [.JoinedStr [.Constant (.str pre) j p5, .FormattedValue (.Name x p6) 114 none p7, .Constant (.str pre2) j2 p13, .FormattedValue (.Name y p14) 114 none p15] p8] [] p3) p4,
      .Assign [.Attribute (.Name "self" p9) x p10] (.Name x p11) p12, .Assign [.Attribute (.Name "self" p16) y p17] (.Name y p18) p19])
    (hp : pre.length ≤ 100) (hp2 : pre2.length ≤ 100) (hsu : (defScope st).names.lookup ("super" : Str) = some .globalImplicit) (hcl : (defScope st).names.lookup ("__class__" : Str) = some .free) (hme : (defScope st).names.lookup ("self" : Str) = some .local)
    (hx : (defScope st).names.lookup x = some .local) (hy : (defScope st).names.lookup y = some .local) (hd : (x == ("__debug__" : Str)) = false) (hcd : (x == ("__classdict__" : Str)) = false) (hd2 : (y == ("__debug__" : Str)) = false) (hcd2 : (y == ("__classdict__" : Str)) = false)
    (har : ∃ ar, ((defArgs st).posonlyargs ++ (defArgs st).args).head? = some ar ∧ ar.arg = "self") (hno : PySem.W.findIn K (.ref C) x = some none) (hno2 : PySem.W.findIn K (.ref C) y = some none) (hk : (defScope st).kind = .function)
    (hin : ∀ env : Env, env.scope = defScope st → interactive env = false) (hev : ∀ env : Env, eval (.Call (.Attribute (.Call (.Name "super" p0) [] [] p1) "__init__" p2) [.JoinedStr [.Constant (.str pre) j p5, .FormattedValue (.Name x p6) 114 none p7, .Constant (.str pre2) j2 p13, .FormattedValue (.Name y p14) 114 none p15] p8] [] p3) env = (do
      let ov ← attributeBase (.Call (.Name "super" p0) [] [] p1) "__init__" env (eval (.Call (.Name "super" p0) [] [] p1) env)
      standAt p2.atName
      let (f, first) ← holding [ov] (getMethod ov "__init__" (pure false))
      callWith p3 f first (backTo p3 (starEach [.JoinedStr [.Constant (.str pre) j p5, .FormattedValue (.Name x p6) 114 none p7, .Constant (.str pre2) j2 p13, .FormattedValue (.Name y p14) 114 none p15] p8] env)) [])) :
    FnG P w K mg base CX0 1 f fd ["self", x, y] (spTwo K C x y) := by
  refine fn_superG F S (fun vs H Q E h => ?_) (fun A outer s H vs Q E hgu hr h s1 I => ?_)
  · obtain ⟨a, v, u, d, e, rfl, _⟩ := h
    rfl
  · obtain ⟨a, v, u, d, e, rfl, hv, hu, sm, sm2, ha, k⟩ := h
    have hvx : Vis (ncx CX0 P w K mg base ["self", x, y, "__class__"] (nf "__init__" q st c cc) f A outer s H E).env.scope x := Or.inl hx
    have hvy : Vis (ncx CX0 P w K mg base ["self", x, y, "__class__"] (nf "__init__" q st c cc) f A outer s H E).env.scope y := Or.inl hy
    have hvs : Vis (ncx CX0 P w K mg base ["self", x, y, "__class__"] (nf "__init__" q st c cc) f A outer s H E).env.scope "self" := Or.inl hme
    rw [hb]
    refine sup_exc (me := "self") (x := a) (C := C) b (atS_of F hk hsu hcl hme har) T.sup T.oex rfl T.hm T.hs
      (pa_cons (pe_joined (.cons pe_str (.cons (pe_showR hgu hr.units (pv 1 (hv := hvx) (hd := hd) (hcd := hcd))) (.cons pe_str (.cons (pe_showR hgu hr.units (pv 2 (hv := hvy) (hd := hd2) (hcd := hcd2))) .nil))))) pa_nil)
      (pss_cons (ps_put b (pv 0 (hv := hvs)) (pv 1 (hv := hvx) (hd := hd) (hcd := hcd))) (pss_one (ps_put b (pv 0 (hv := hvs)) (pv 2 (hv := hvy) (hd := hd2) (hcd := hcd2))))) I rfl ha ?_ (hin _ rfl) rfl (hev _) rfl rfl
    refine ⟨_, rfl, (by rw [len0]; exact Nat.le_trans hp (by decide)), _, rfl, d, hv, sm.fit, _, rfl, ?_, _, rfl, ?_, _, rfl, e, hu, sm2.fit, _, rfl, ?_, (by show 1 ≤ 1000; decide), ha, _, rfl, _, rfl, a, C, rfl, T.oex, hno, .inl ⟨ha, fun dx hdx hne => ?_⟩⟩
    · rw [strLen_append, len0]
      exact Nat.le_trans (Nat.add_le_add hp sm.sz) (by decide)
    · rw [strLen_append, strLen_append, len0]
      exact Nat.le_trans (Nat.add_le_add (Nat.add_le_add hp sm.sz) hp2) (by decide)
    · rw [strLen_append, strLen_append, strLen_append, len0]
      exact Nat.le_trans (Nat.add_le_add (Nat.add_le_add (Nat.add_le_add hp sm.sz) hp2) sm2.sz) (by decide)
    · have e1 : upd (upd H dx (exd dx [(x, v)])) a (exo a C (some dx)) dx = some (exd dx [(x, v)]) := by rw [upd_ne hne, upd_same]
      refine ⟨_, rfl, _, rfl, a, C, rfl, T.oex, hno2, .inr ⟨dx, [(x, v)], upd_same, e1, (by show 1 ≤ 900; decide), k dx _ hdx hne ?_ upd_same fun z o hz hzo => ?_⟩⟩
      · rw [upd_ne hne.symm]; exact upd_same
      · rw [upd_ne (ne_of_none hzo hdx), upd_ne hz, upd_ne (ne_of_none hzo hdx)]; exact hzo
end
end Exg
namespace Exg
open PySem PySem.Spec PyProof.Rows L2 Sup Grd Shw
/-- a class with one field: all that its callers ask -/
structure Err1 (P : Program) (w : World) (K : PySem.W.Frag) (mg : Str → Option Value) (base : Heap) (cls x : Str) (C : Addr) : Prop where
  ex : ∃ (B newId initId : String) (tl : List Value) (fI : Addr) (fd : FuncData), BaseE B newId initId tl ∧ Oex K C B newId tl ∧ PySem.W.findIn K (.ref C) "__init__" = some (some (.ref fI)) ∧ PySem.W.typeIn K (.ref fI) = some (.type "function") ∧
    FnG P w K mg base CX0 1 fI fd ["self", x] (spOne K C x) ∧ Binds K fd ["self", x] [] ∧ KBn K fd ["self", x] 1 [x] (fun us ws => us ++ ws) (fun vs zs => vs ++ zs)
  mg : mg cls = some (.ref C)
  xf : XfT K C
  no : PySem.W.findIn K (.ref C) x = some none
structure Err2 (P : Program) (w : World) (K : PySem.W.Frag) (mg : Str → Option Value) (base : Heap) (cls x y : Str) (C : Addr) : Prop where
  ex : ∃ (B newId initId : String) (tl : List Value) (fI : Addr) (fd : FuncData), BaseE B newId initId tl ∧ Oex K C B newId tl ∧ PySem.W.findIn K (.ref C) "__init__" = some (some (.ref fI)) ∧ PySem.W.typeIn K (.ref fI) = some (.type "function") ∧
    FnG P w K mg base CX0 1 fI fd ["self", x, y] (spTwo K C x y) ∧ Binds K fd ["self", x, y] [] ∧ KBn K fd ["self", x, y] 1 [y, x] (fun us ws => us ++ ws.reverse) (fun vs zs => vs ++ zs.reverse)
  mg : mg cls = some (.ref C)
  xf : XfT K C
  no : PySem.W.findIn K (.ref C) x = some none
  no2 : PySem.W.findIn K (.ref C) y = some none
/-- C(e) -/
def tE1 (K : PySem.W.Frag) (C : Addr) (x : Str) (te : TE) : TE := fun σ H Q => te σ H fun v H1 => ∃ d, Dq K H1 v d ∧ Smalls d ∧ ∀ a H', H1 a = none → ExAt H' a C [(x, v)] → Same H1 H' → Q (.ref a) H'
def tE2 (K : PySem.W.Frag) (C : Addr) (x y : Str) (te tf : TE) : TE := fun σ H Q => te σ H fun v H1 => tf σ H1 fun u H2 => ∃ d e, Dq K H2 v d ∧ Dq K H2 u e ∧ Smalls d ∧ Smalls e ∧ ∀ a H', H2 a = none → ExAt H' a C [(y, u), (x, v)] → Same H2 H' → Q (.ref a) H'
/-- C(y = f, x = e) -/
def tE2K (K : PySem.W.Frag) (C : Addr) (x y : Str) (tf te : TE) : TE := fun σ H Q => tf σ H fun u H1 => te σ H1 fun v H2 => ∃ d e, Dq K H2 v d ∧ Dq K H2 u e ∧ Smalls d ∧ Smalls e ∧ ∀ a H', H2 a = none → ExAt H' a C [(y, u), (x, v)] → Same H2 H' → Q (.ref a) H'
theorem same_mk {H : Hp} {a : Addr} {o : HO} (h : H a = none) : Same H (upd H a o) := fun b u e => by rw [upd_ne (ne_of_none e h)]; exact e
theorem one_ends {K : PySem.W.Frag} {C : Addr} {x : Str} {v : V} {d : PyData} {H1 : Hp} {Q : VK} {E : XK} {a : Addr} (ha : H1 a = none) (hd : Dq K H1 v d) (hs : Smalls d) (k : ∀ a H', H1 a = none → ExAt H' a C [(x, v)] → Same H1 H' → Q (.ref a) H') :
    spOne K C x [.ref a, v] (upd H1 a (exo a C none)) (fun v H2 => v = .non ∧ Q (.ref a) H2) E := by
  refine ⟨a, v, d, rfl, Dq.same (same_mk ha) _ _ hd, hs, upd_same, fun dx hdx hne => ⟨rfl, k a _ ha ⟨dx, upd_same, ?_⟩ fun b o e => ?_⟩⟩
  · rw [upd_ne hne, upd_same]
  · have nb : b ≠ a := ne_of_none e ha
    rw [upd_ne hne] at hdx
    rw [upd_ne nb, upd_ne (ne_of_none e hdx), upd_ne nb]
    exact e
theorem two_ends {K : PySem.W.Frag} {C : Addr} {x y : Str} {v u : V} {d e : PyData} {H1 : Hp} {Q : VK} {E : XK} {a : Addr} (ha : H1 a = none) (hd : Dq K H1 v d) (he : Dq K H1 u e) (hs : Smalls d) (ht : Smalls e)
    (k : ∀ a H', H1 a = none → ExAt H' a C [(y, u), (x, v)] → Same H1 H' → Q (.ref a) H') : spTwo K C x y [.ref a, v, u] (upd H1 a (exo a C none)) (fun v H2 => v = .non ∧ Q (.ref a) H2) E := by
  refine ⟨a, v, u, d, e, rfl, Dq.same (same_mk ha) _ _ hd, Dq.same (same_mk ha) _ _ he, hs, ht, upd_same, fun dx H' hdx hne e1 e2 s => ⟨rfl, k a _ ha ⟨dx, e1, e2⟩ fun b o z => ?_⟩⟩
  have nb : b ≠ a := ne_of_none z ha
  exact s b o nb (by rw [upd_ne nb]; exact z)
section
variable {X : Cx} {C : Addr} {cls x y : Str} {e f : Expr} {te tf : TE} {p pos : Pos}
theorem pe_e1 (T : Err1 X.prog X.w X.K X.mg X.base cls x C) (hG : X.A.guards = some []) (hr : Room 2 X.A) (hg : Gl X cls) (he : PE X e te) (hdb : (cls == ("__debug__" : Str)) = false := by decide)
    (hs : starEach [e] X.env = (false, eval e X.env) :: starEach [] X.env := by rfl) (hp : (backTo pos (starEach [] X.env)).any (·.1) = false := by rfl) : PE X (.Call (.Name cls p) [e] [] pos) (tE1 X.K C x te) := by
  obtain ⟨B, newId, initId, tl, fI, fd, b, O, iC, tI, F, bd, _⟩ := T.ex
  refine ⟨fun pins s σ H Q I h => wpAny_Call_Name_kw (ld_glob I hg T.mg ?_ hdb)⟩
  have h' : tCons te tNil σ H (fun vs H1 => match vs with | [v] => ∃ d, Dq X.K H1 v d ∧ Smalls d ∧ ∀ a H', H1 a = none → ExAt H' a C [(x, v)] → Same H1 H' → Q (.ref a) H' | _ => False) := h
  refine PySem.W.callWith_K (h₀ := X.base) I.ok.mod.kin O.kC (thn ((pa_cons he pa_nil hs).run pos pins s σ H _ I h') ?_) hs hp
  rintro us s1 ⟨vs, H1, I1, r, q⟩
  refine ⟨I1.kIn, ?_⟩
  match vs, r, q with
  | [v], r, ⟨d, hd, hs, k⟩ => exact run_mkE b O iC tI F hG hr bd I1 r (by show 1 ≤ 1000; decide) fun a ha => one_ends ha hd hs k
theorem pe_e2 (T : Err2 X.prog X.w X.K X.mg X.base cls x y C) (hG : X.A.guards = some []) (hr : Room 2 X.A) (hg : Gl X cls) (he : PE X e te) (hf : PE X f tf) (hdb : (cls == ("__debug__" : Str)) = false := by decide)
    (hs : starEach [e, f] X.env = (false, eval e X.env) :: starEach [f] X.env := by rfl) (hs2 : starEach [f] X.env = (false, eval f X.env) :: starEach [] X.env := by rfl) (hp : (backTo pos (starEach [f] X.env)).any (·.1) = false := by rfl) :
    PE X (.Call (.Name cls p) [e, f] [] pos) (tE2 X.K C x y te tf) := by
  obtain ⟨B, newId, initId, tl, fI, fd, b, O, iC, tI, F, bd, _⟩ := T.ex
  refine ⟨fun pins s σ H Q I h => wpAny_Call_Name_kw (ld_glob I hg T.mg ?_ hdb)⟩
  have h' : tCons te (tCons tf tNil) σ H (fun vs H2 => match vs with | [v, u] => ∃ d e, Dq X.K H2 v d ∧ Dq X.K H2 u e ∧ Smalls d ∧ Smalls e ∧ ∀ a H', H2 a = none → ExAt H' a C [(y, u), (x, v)] → Same H2 H' → Q (.ref a) H' | _ => False) := h
  refine PySem.W.callWith_K (h₀ := X.base) I.ok.mod.kin O.kC (thn ((pa_cons he (pa_cons hf pa_nil hs2) hs).run pos pins s σ H _ I h') ?_) hs hp
  rintro us s1 ⟨vs, H1, I1, r, q⟩
  refine ⟨I1.kIn, ?_⟩
  match vs, r, q with
  | [v, u], r, ⟨d, e, hd, he, hs, ht, k⟩ => exact run_mkE b O iC tI F hG hr bd I1 r (by show 2 ≤ 1000; decide) fun a ha => two_ends ha hd he hs ht k
/-- C(x = e) -/
theorem pe_e1K {kp : Pos} (T : Err1 X.prog X.w X.K X.mg X.base cls x C) (hG : X.A.guards = some []) (hr : Room 2 X.A) (hg : Gl X cls) (hkw : PK X [⟨some x, e, kp⟩] (tCons te tNil)) (h3 : (cls == ("__debug__" : Str)) = false := by decide)
    (h1 : (backToKw pos (keywordEach [⟨some x, e, kp⟩] X.env)).all (·.1.isSome) = true := by rfl) (h2 : (backToKw pos (keywordEach [⟨some x, e, kp⟩] X.env)).filterMap (·.1) = [x] := by rfl)
    (h4 : ((backTo pos (starEach [] X.env)).any (·.1) || (backToKw pos (keywordEach [⟨some x, e, kp⟩] X.env)).any (·.1.isNone)) = false := by rfl) : PE X (.Call (.Name cls p) [] [⟨some x, e, kp⟩] pos) (tE1 X.K C x te) := by
  obtain ⟨B, newId, initId, tl, fI, fd, b, O, iC, tI, F, _, kb⟩ := T.ex
  refine ⟨fun pins s σ H Q I h => wpAny_Call_Name_kw (ld_glob I hg T.mg ?_ h3)⟩
  have h' : tCons te tNil σ H (fun vs H1 => match vs with | [v] => ∃ d, Dq X.K H1 v d ∧ Smalls d ∧ ∀ a H', H1 a = none → ExAt H' a C [(x, v)] → Same H1 H' → Q (.ref a) H' | _ => False) := h
  refine PySem.W.callWith_KW0 (h₀ := X.base) I.ok.mod.kin O.kC h1 (thn (hkw.run pos pins s σ H _ I h') ?_) h4
  rintro us s1 ⟨vs, H1, I1, r, q⟩
  refine ⟨I1.kIn, ?_⟩
  rw [h2]
  match vs, r, q with
  | [v], r, ⟨d, hd, hs, k⟩ => exact run_mkK b O iC tI F hG hr kb I1 r rfl fun a ha => one_ends ha hd hs k
/-- C(y = f, x = e) -/
theorem pe_e2K {kp kp2 : Pos} (T : Err2 X.prog X.w X.K X.mg X.base cls x y C) (hG : X.A.guards = some []) (hr : Room 2 X.A) (hg : Gl X cls) (hkw : PK X [⟨some y, f, kp⟩, ⟨some x, e, kp2⟩] (tCons tf (tCons te tNil))) (h3 : (cls == ("__debug__" : Str)) = false := by decide)
    (h1 : (backToKw pos (keywordEach [⟨some y, f, kp⟩, ⟨some x, e, kp2⟩] X.env)).all (·.1.isSome) = true := by rfl) (h2 : (backToKw pos (keywordEach [⟨some y, f, kp⟩, ⟨some x, e, kp2⟩] X.env)).filterMap (·.1) = [y, x] := by rfl)
    (h4 : ((backTo pos (starEach [] X.env)).any (·.1) || (backToKw pos (keywordEach [⟨some y, f, kp⟩, ⟨some x, e, kp2⟩] X.env)).any (·.1.isNone)) = false := by rfl) :
    PE X (.Call (.Name cls p) [] [⟨some y, f, kp⟩, ⟨some x, e, kp2⟩] pos) (tE2K X.K C x y tf te) := by
  obtain ⟨B, newId, initId, tl, fI, fd, b, O, iC, tI, F, _, kb⟩ := T.ex
  refine ⟨fun pins s σ H Q I h => wpAny_Call_Name_kw (ld_glob I hg T.mg ?_ h3)⟩
  have h' : tCons tf (tCons te tNil) σ H (fun vs H2 => match vs with | [u, v] => ∃ d e, Dq X.K H2 v d ∧ Dq X.K H2 u e ∧ Smalls d ∧ Smalls e ∧ ∀ a H', H2 a = none → ExAt H' a C [(y, u), (x, v)] → Same H2 H' → Q (.ref a) H' | _ => False) := h
  refine PySem.W.callWith_KW0 (h₀ := X.base) I.ok.mod.kin O.kC h1 (thn (hkw.run pos pins s σ H _ I h') ?_) h4
  rintro us s1 ⟨vs, H1, I1, r, q⟩
  refine ⟨I1.kIn, ?_⟩
  rw [h2]
  match vs, r, q with
  | [u, v], r, ⟨d, e, hd, he, hs, ht, k⟩ => exact run_mkK b O iC tI F hG hr kb I1 r rfl fun a ha => two_ends ha hd he hs ht k
end
end Exg
namespace Sk
open PySem L2
open C8 (pss_cut tCut)
def top (i : Nat) : Stmt := PySem.Challenge.pw_strayjoins_k01_errors_and_numbers.main.body.getD i (.Pass ⟨0, 0, 0, 0⟩)
abbrev sPen : Stmt := top 27
abbrev sDraw : Stmt := top 28
abbrev sPick : Stmt := top 29

/-! ### the pen: its cells, the next place, what is left of a great one -/
def penO (l : Addr) (i g : Int) : HO := .lst [.ref l, .int i, .int g]
def Pen (H : Hp) (p l : Addr) (cs : List Int) (n : Nat) : Prop :=
  ∃ i g : Int, H p = some (penO l i g) ∧ H l = some (.lst (cs.map V.int)) ∧ cs.length ≤ 63 ∧ 0 ≤ i ∧ i ≤ n
/-- all that stood but at p stands as it was -/
def But (H H' : Hp) (p : Addr) : Prop := ∀ b o, b ≠ p → H b = some o → H' b = some o
theorem But.upd (H : Hp) (p : Addr) (o : HO) : But H (upd H p o) p := fun b _ h e => by rw [upd_ne h]; exact e
theorem But.trans {H H1 H2 : Hp} {p : Addr} (a : But H H1 p) (b : But H1 H2 p) : But H H2 p := fun c o h e => b c o h (a c o h e)
theorem But.put {H H1 : Hp} {p : Addr} (a : But H H1 p) (o : HO) : But H (L2.upd H1 p o) p := a.trans (.upd _ _ _)
theorem But.new {H H1 : Hp} {p q : Addr} (a : But H H1 p) (hq : H1 q = none) (o : HO) : But H (L2.upd H1 q o) p := fun b _ h e => by
  have e1 := a b _ h e
  rw [upd_ne (ne_of_none e1 hq)]
  exact e1
def spDraw : Sp := fun vs H Q _ => ∃ (p l : Addr) (cs : List Int) (n : Nat) (m : Int), vs = [.ref p, .int m] ∧ Pen H p l cs n ∧ 0 < m ∧ m < 1073741824 ∧ n < 1000000 ∧
  ∀ (d i g : Int) (H' : Hp), 0 ≤ d → d < m → 0 ≤ i → i ≤ n + 1 → H' p = some (penO l i g) → But H H' p → Q (.int d) H'
structure Bi (mg : Str → Option Value) : Prop where
  int : mg "int" = none
  len : mg "len" = none
  abs : mg "abs" = none
theorem dp_ints {K : PySem.W.Frag} {H : Hp} : ∀ cs : List Int, DpAll K H (cs.map V.int) (cs.map PyData.int)
  | [] => .nil
  | c :: cs => .cons (.int c) (dp_ints cs)
theorem shaped_ints (cs : List Int) : SeqAt.shaped (.list (cs.map PyData.int)) = true := by
  unfold SeqAt.shaped
  rw [Bool.and_eq_true]
  refine ⟨?_, decide_eq_true ?_⟩
  · show PyData.canLayAll0 (cs.map PyData.int) = true
    induction cs with
    | nil => rfl
    | cons c cs ih => exact Bool.and_eq_true_iff.mpr ⟨rfl, ih⟩
  · have e : PyData.depthAll (cs.map PyData.int) ≤ 1 := by
      induction cs with
      | nil => exact Nat.zero_le _
      | cons c cs ih => exact Nat.max_le.mpr ⟨(show (0 : Nat) ≤ 1 by decide), ih⟩
    show PyData.depthAll (cs.map PyData.int) + 1 ≤ 64
    omega
theorem small1 {b c i m : Int} {n : Nat} {x : Int} (i0 : 0 ≤ i) (i1 : i ≤ n) (n1 : n < 1000000) (hm : 0 < m ∧ m < 4294967296 := by decide) (hb : 0 ≤ b ∧ b < 100000 := by decide) (hc : 0 ≤ c ∧ c < 100000 := by decide) :
    (x % m + b * i + c).natAbs < 2 ^ 64 := by
  have h1 := Int.emod_nonneg x (show m ≠ 0 by omega)
  have h2 := Int.emod_lt_of_pos x hm.1
  have h3 : 0 ≤ b * i := Int.mul_nonneg hb.1 i0
  have h4 : b * i ≤ 100000 * 1000000 := Int.mul_le_mul (by omega) (by omega) i0 (by decide)
  have h5 : (2 : Nat) ^ 64 = 18446744073709551616 := by decide
  omega
theorem small3 {b i : Int} (i0 : 0 ≤ i) (hb : 0 ≤ b ∧ b < 100000 := by decide) : -(2 ^ 64) < b * i := by
  have h3 : 0 ≤ b * i := Int.mul_nonneg hb.1 i0
  have h5 : (2 : Int) ^ 64 = 18446744073709551616 := by decide
  omega
theorem small4 {b i : Int} {n : Nat} (i1 : i ≤ n) (n1 : n < 1000000) (hb : 0 ≤ b ∧ b < 100000 := by decide) : b * i < 2 ^ 64 := by
  have h4 : b * i ≤ b * 1000000 := Int.mul_le_mul_of_nonneg_left (by omega) hb.1
  have h5 : (2 : Int) ^ 64 = 18446744073709551616 := by decide
  omega
theorem small2 {a b c e i y : Int} {n : Nat} (i0 : 0 ≤ i) (i1 : i ≤ n) (n1 : n < 1000000) (y0 : 0 ≤ y) (y1 : y < 2147483648) (ha : 0 ≤ a ∧ a < 10 := by decide) (hb : 0 ≤ b ∧ b < 100000 := by decide)
    (hc : 0 ≤ c ∧ c < 100000 := by decide) (he : 0 ≤ e ∧ e < 100000 := by decide) : (y * (a * i + b) + c * i * i + e).natAbs < 2 ^ 64 := by
  have h3 : 0 ≤ a * i := Int.mul_nonneg ha.1 i0
  have h4 : a * i ≤ 10 * 1000000 := Int.mul_le_mul (by omega) (by omega) i0 (by decide)
  have h6 : 0 ≤ y * (a * i + b) := Int.mul_nonneg y0 (by omega)
  have h7 : y * (a * i + b) ≤ 2147483648 * 20000000 := Int.mul_le_mul (by omega) (by omega) (by omega) (by decide)
  have h8 : 0 ≤ c * i := Int.mul_nonneg hc.1 i0
  have h9 : c * i ≤ 100000 * 1000000 := Int.mul_le_mul (by omega) (by omega) i0 (by decide)
  have h10 : 0 ≤ c * i * i := Int.mul_nonneg h8 i0
  have h11 : c * i * i ≤ (100000 * 1000000) * 1000000 := Int.mul_le_mul h9 (by omega) i0 (by decide)
  have h5 : (2 : Nat) ^ 64 = 18446744073709551616 := by decide
  omega
theorem cut_ints (ns : List Int) (a b : Option Int) : ∃ cs : List Int, cutV (ns.map V.int) a b = cs.map V.int ∧ cs.length ≤ ns.length := by
  unfold cutV
  rw [← List.map_drop, ← List.map_take]
  exact ⟨_, rfl, by rw [List.length_take, List.length_drop]; omega⟩
theorem cell_at {cs : List Int} {i : Int} (h0 : 0 ≤ i) (hn : cs ≠ []) : ∃ v : Int, atI (cs.map V.int) (i % ((cs.map V.int).length : Nat)) = some (.int v) := by
  have hl : 0 < cs.length := List.length_pos_iff.mpr hn
  have e : (cs.map V.int).length = cs.length := List.length_map _
  have hb := Int.emod_lt_of_pos i (show (0 : Int) < (cs.length : Int) by omega)
  have hp := Int.emod_nonneg i (show (cs.length : Int) ≠ 0 by omega)
  obtain ⟨j, hj⟩ : ∃ j : Nat, i % (cs.length : Int) = (j : Int) := ⟨(i % (cs.length : Int)).toNat, by omega⟩
  have hjl : j < cs.length := by omega
  refine ⟨cs[j], ?_⟩
  rw [e, hj]
  exact atI_nat (by simp [hjl])

section
variable {P : Program} {w : World} {K : PySem.W.Frag} {mg : Str → Option Value} {base : Heap}
theorem scDraw : FnScope ["_law_pen_here", "_law_many", "_law_digit", "_law_at", "_law_cell", "_law_great", "_law_mixed"] ["_law_pen_here", "_law_many"] (defScope sDraw) :=
  ⟨rfl, rfl, rfl, by decide +kernel, rfl, by decide +kernel, by decide +kernel⟩
theorem ok_draw {f : Addr} {fd : FuncData} (F : Fun K "_law_draw" "_law_draw" sDraw f fd) (B : Bi mg) : FnOk P w K mg base CX0 1 f fd ["_law_pen_here", "_law_many"] spDraw := by
  refine F.ok scDraw (fun vs H Q E h => ?_) (fun cdv A outer s H vs Q E hr h => ?_)
  · obtain ⟨p, l, cs, n, m, rfl, _⟩ := h
    rfl
  · obtain ⟨p, l, cs, n, m, rfl, ⟨i, g, hp, hl, hz, i0, i1⟩, m0, m1, n1, k⟩ := h
    have npl : p ≠ l := fun q => by
      subst q
      rw [hp] at hl
      have e := List.map_eq_cons_iff.mp (HO.lst.inj (Option.some.inj hl)).symm
      obtain ⟨_, _, _, h1, _⟩ := e
      cases h1
    refine ⟨_, pss_cut
        (ps_if (pt_cmpR op_gt (pe_ix ix_list (pv 0) pe_int (fun _ _ => rfl)) pe_int (nomark _))
          (pss_cons (ps_set (i := 2) scDraw.nd rfl (Or.inl rfl) (pe_op op_mod (pe_callTy call_int1 (by rfl) B.int (by decide +kernel) (pa_cons (pe_ix ix_list (pv 0) pe_int (fun _ _ => rfl)) pa_nil)) (pv 1)))
          (pss_cons (ps_asg (pe_op op_fdiv (pe_callTy call_int1 (by rfl) B.int (by decide +kernel) (pa_cons (pe_ix ix_list (pv 0) pe_int (fun _ _ => rfl)) pa_nil)) (pv 1)) (pg_sub (pv 0) pe_int set_list))
          (pss_one (ps_ret (pv 2)))))
          pss_nil)
      (pss_cons (ps_set (i := 3) scDraw.nd rfl (Or.inl rfl) (pe_ix ix_list (pv 0) pe_int (fun _ _ => rfl)))
      (pss_cons (ps_asg (pe_op op_add (pv 3) pe_int) (pg_sub (pv 0) pe_int set_list))
      (pss_cons (ps_set (i := 4) scDraw.nd rfl (Or.inl rfl) (pe_op op_add (pe_op op_mul pe_int (pv 3)) pe_int))
      (pss_cut (ps_if (pt_cmpR (op_neD hr.units) (pe_ix ix_list (pv 0) pe_int (fun _ _ => rfl)) (pe_lst pa_nil) (nomark _))
          (pss_one (ps_set (i := 4) scDraw.nd rfl (Or.inl rfl) (pe_ix ix_list (pe_ix ix_list (pv 0) pe_int (fun _ _ => rfl))
            (pe_op op_mod (pe_callTy call_int1 (by rfl) B.int (by decide +kernel) (pa_cons (pv 3) pa_nil)) (pe_callB call_len_seq (by rfl) B.len PySem.boot_len (pa_cons (pe_ix ix_list (pv 0) pe_int (fun _ _ => rfl)) pa_nil))) (fun _ _ => rfl))))
          pss_nil)
      (pss_cut (ps_if (PW.pt (pw_and (pt_cmpR op_lt (pv 3) (pe_callB call_len_seq (by rfl) B.len PySem.boot_len (pa_cons (pe_ix ix_list (pv 0) pe_int (fun _ _ => rfl)) pa_nil)) (nomark _))
            (pw_and1 (pt_cmpR op_ge (pe_callB call_abs (by rfl) B.abs (by decide +kernel) (pa_cons (pv 4) pa_nil)) (pe_op op_pow pe_int pe_int) (nomark _)))))
          (pss_cons (ps_set (i := 5) scDraw.nd rfl (Or.inl rfl) (pe_op op_add (pe_op op_mul pe_int (pe_callB call_abs (by rfl) B.abs (by decide +kernel) (pa_cons (pv 4) pa_nil)))
              (pe_callTy call_int1 (by rfl) B.int (by decide +kernel) (pa_cons (pe_cmpR op_lt (pv 4) pe_int (nomark _)) pa_nil))))
          (pss_cons (ps_asg (pe_op op_fdiv (pe_callTy call_int1 (by rfl) B.int (by decide +kernel) (pa_cons (pv 5) pa_nil)) (pv 1)) (pg_sub (pv 0) pe_int set_list))
          (pss_one (ps_ret (pe_op op_mod (pe_callTy call_int1 (by rfl) B.int (by decide +kernel) (pa_cons (pv 5) pa_nil)) (pv 1))))))
          pss_nil)
      (pss_cut (ps_set (i := 6) scDraw.nd rfl (Or.inl rfl) (pe_op op_mod (pe_op op_pow (pe_callTy call_int1 (by rfl) B.int (by decide +kernel) (pa_cons
          (pe_op op_add (pe_op op_add (pe_op op_mod (pe_callTy call_int1 (by rfl) B.int (by decide +kernel) (pa_cons (pv 4) pa_nil)) pe_int) (pe_op op_mul pe_int (pv 3))) pe_int) pa_nil)) pe_int) pe_int))
      (pss_cut (ps_set (i := 6) scDraw.nd rfl (Or.inl rfl) (pe_op op_mod (pe_op op_pow (pe_callTy call_int1 (by rfl) B.int (by decide +kernel) (pa_cons
          (pe_op op_add (pe_op op_add (pe_op op_mul (pv 6) (pe_op op_add (pe_op op_mul pe_int (pv 3)) pe_int)) (pe_op op_mul (pe_op op_mul pe_int (pv 3)) (pv 3))) pe_int) pa_nil)) pe_int) pe_int))
      (pss_one (ps_ret (pe_op op_mod (pe_callTy call_int1 (by rfl) B.int (by decide +kernel) (pa_cons (pe_op op_fdiv (pv 6) pe_int) pa_nil)) (pv 1))))))))))), ?_⟩
    refine ⟨fun σ' H' => σ' = start ["_law_pen_here", "_law_many", "_law_digit", "_law_at", "_law_cell", "_law_great", "_law_mixed"] [.ref p, .int m] ∧ H' = H,
      ⟨_, rfl, p, _, _, .int g, rfl, rfl, SqL.of hp, rfl, _, _, rfl, rfl, _, rfl, ite2 (fun _ => ?_) (fun _ => ⟨rfl, rfl⟩)⟩, ?_⟩
    · refine ⟨_, rfl, p, _, _, .int g, rfl, rfl, SqL.of hp, rfl, .inl ⟨_, rfl, _, rfl, _, _, rfl, rfl, m0, ?_⟩⟩
      refine ⟨_, rfl, p, _, _, .int g, rfl, rfl, SqL.of hp, rfl, .inl ⟨_, rfl, _, rfl, _, _, rfl, rfl, ⟨m0, m1⟩, ?_⟩⟩
      refine ⟨_, rfl, p, _, _, 2, rfl, rfl, hp, rfl, ?_⟩
      refine ⟨_, rfl, ?_⟩
      exact k _ _ _ _ (Int.emod_nonneg _ (by omega)) (Int.emod_lt_of_pos _ m0) i0 (by omega) upd_same (.upd _ _ _)
    · rintro σ' H' ⟨rfl, rfl⟩
      refine ⟨_, rfl, p, _, _, .int i, rfl, rfl, SqL.of hp, rfl, ?_⟩
      refine ⟨_, rfl, _, _, rfl, rfl, _, rfl, p, _, _, 1, rfl, rfl, hp, rfl, ?_⟩
      have b1 : But H' (upd H' p (penO l (i + 1) g)) p := .upd _ _ _
      have hp1 : upd H' p (penO l (i + 1) g) p = some (penO l (i + 1) g) := upd_same
      have hl1 : upd H' p (penO l (i + 1) g) l = some (.lst (cs.map V.int)) := b1 _ _ npl.symm hl
      refine ⟨_, rfl, _, _, rfl, rfl, .inl ⟨by decide, by decide⟩, _, _, rfl, rfl, ?_⟩
      refine ⟨fun σ2 H2 => ∃ c : Int, σ2 = [some (.ref p), some (.int m), none, some (.int i), some (.int c), none, none] ∧ H2 p = some (penO l (i + 1) g) ∧ H2 l = some (.lst (cs.map V.int)) ∧ But H' H2 p, ?_, ?_⟩
      · refine ⟨_, rfl, p, _, _, .ref l, rfl, rfl, SqL.of hp1, rfl, Nat.zero_le _, fun q hq => ?_⟩
        have npq : p ≠ q := ne_of_none hp1 hq
        have nlq : l ≠ q := ne_of_none hl1 hq
        have hp2 : upd (upd H' p (penO l (i + 1) g)) q (.lst []) p = some (penO l (i + 1) g) := by rw [upd_ne npq]; exact hp1
        have hl2 : upd (upd H' p (penO l (i + 1) g)) q (.lst []) l = some (.lst (cs.map V.int)) := by rw [upd_ne nlq]; exact hl1
        have b2 := b1.new hq (.lst [])
        refine ⟨.list (cs.map PyData.int), .list [], .lst (SqL.of hl2) (dp_ints cs), .lst (SqL.of upd_same) .nil, shaped_ints cs, rfl, _, rfl, ?_⟩
        cases cs with
        | nil => exact ⟨_, rfl, hp2, hl2, b2⟩
        | cons c cs =>
          refine iteT ?_
          obtain ⟨v, hv⟩ := cell_at (cs := c :: cs) i0 (by simp)
          refine ⟨_, rfl, p, _, _, .ref l, rfl, rfl, SqL.of hp2, rfl, _, rfl, .inl ⟨_, rfl, _, rfl, p, _, _, .ref l, rfl, rfl, SqL.of hp2, rfl, l, _, rfl, .inl (SqL.of hl2), _, _, rfl, rfl, ?_, ?_⟩⟩
          · show (0 : Int) < (((c :: cs).map V.int).length : Nat)
            simp
          · exact ⟨l, _, _, .int v, rfl, rfl, SqL.of hl2, hv, v, rfl, hp2, hl2, b2⟩
      · rintro σ2 H2 ⟨c, rfl, hp2, hl2, b2⟩
        have len63 : (cs.map V.int).length = cs.length := List.length_map _
        refine ⟨fun σ3 H3 => σ3 = [some (.ref p), some (.int m), none, some (.int i), some (.int c), none, none] ∧ H3 = H2, ?_, ?_⟩
        · refine ⟨_, rfl, _, rfl, p, _, _, .ref l, rfl, rfl, SqL.of hp2, rfl, l, _, rfl, .inl (SqL.of hl2), _, _, rfl, rfl, _, rfl, ite2 (fun _ => ?_) (fun _ => ⟨rfl, rfl⟩)⟩
          refine ⟨_, rfl, _, rfl, _, _, rfl, rfl, ⟨by decide, by decide, by decide⟩, _, _, rfl, rfl, _, rfl, ite2 (fun _ => ?_) (fun _ => ⟨rfl, rfl⟩)⟩
          refine ⟨_, rfl, _, rfl, _, _, rfl, rfl, .inl ⟨by decide, by decide⟩, _, rfl, _, _, rfl, rfl, .inr ⟨_, rfl, _, _, rfl, rfl, ?_⟩⟩
          refine ⟨_, rfl, .inl ⟨_, rfl, _, rfl, _, _, rfl, rfl, ⟨m0, m1⟩, _, rfl, p, _, _, 2, rfl, rfl, hp2, rfl, ?_⟩⟩
          refine ⟨_, rfl, .inl ⟨_, rfl, _, rfl, _, _, rfl, rfl, m0, ?_⟩⟩
          exact k _ _ _ _ (Int.emod_nonneg _ (by omega)) (Int.emod_lt_of_pos _ m0) (by omega) (by omega) upd_same (b2.put _)
        · rintro σ3 H3 ⟨rfl, rfl⟩
          refine ⟨fun σ4 H4 => ∃ y : Int, 0 ≤ y ∧ y < 2147483648 ∧ σ4 = [some (.ref p), some (.int m), none, some (.int i), some (.int c), none, some (.int y)] ∧ H4 = H3, ?_, ?_⟩
          · refine ⟨_, rfl, .inl ⟨_, rfl, _, _, rfl, rfl, (by show (0 : Int) < 2147483563; decide), _, rfl, _, _, rfl, rfl, .inl ⟨by decide, by decide⟩, _, _, rfl, rfl, _, _, rfl, rfl, .inl ⟨_, rfl, _, _, rfl, rfl,
              ⟨by decide, by decide, ?_⟩, _, _, rfl, rfl, (by show (0 : Int) < 2147483579; decide), _, Int.emod_nonneg _ (by decide), Int.lt_trans (Int.emod_lt_of_pos _ (by decide)) (by decide), rfl, rfl⟩⟩⟩
            exact small1 i0 i1 n1
          · rintro σ4 H4 ⟨y, y0, y1, rfl, rfl⟩
            refine ⟨fun σ5 H5 => ∃ y : Int, 0 ≤ y ∧ y < 2147483648 ∧ σ5 = [some (.ref p), some (.int m), none, some (.int i), some (.int c), none, some (.int y)] ∧ H5 = H4, ?_, ?_⟩
            · refine ⟨_, rfl, _, rfl, _, _, rfl, rfl, .inl ⟨by decide, by decide⟩, _, _, rfl, rfl, _, _, rfl, rfl, .inl ⟨?_, ?_⟩, _, rfl, _, _, rfl, rfl, .inl ⟨by decide, by decide⟩, _, rfl, _, _, rfl, rfl, .inl ⟨?_, ?_⟩,
                _, _, rfl, rfl, _, _, rfl, rfl, .inl ⟨_, rfl, _, _, rfl, rfl, ⟨by decide, by decide, ?_⟩, _, _, rfl, rfl, (by show (0 : Int) < 2147483629; decide), _, Int.emod_nonneg _ (by decide), Int.lt_trans (Int.emod_lt_of_pos _ (by decide)) (by decide), rfl, rfl⟩⟩
              · exact Int.lt_of_lt_of_le (by decide) y0
              · exact Int.lt_trans y1 (by decide)
              · exact small3 i0
              · exact small4 i1 n1
              · exact small2 i0 i1 n1 y0 y1
            · rintro σ5 H5 ⟨y, y0, y1, rfl, rfl⟩
              refine ⟨_, rfl, _, _, rfl, rfl, ⟨by decide, by decide⟩, .inl ⟨_, rfl, _, rfl, _, _, rfl, rfl, m0, ?_⟩⟩
              exact k _ _ _ _ (Int.emod_nonneg _ (by omega)) (Int.emod_lt_of_pos _ m0) (by omega) (by omega) hp2 b2
theorem scPick : FnScope ["_law_pen_here", "_law_some"] ["_law_pen_here", "_law_some"] (defScope sPick) := ⟨rfl, rfl, rfl, by decide +kernel, rfl, by decide +kernel, by decide +kernel⟩
def spPick : Sp := fun vs H Q _ => ∃ (p l q : Addr) (cs : List Int) (n : Nat) (xs : List V), vs = [.ref p, .ref q] ∧ Pen H p l cs n ∧ H q = some (.lst xs) ∧ q ≠ p ∧ 0 < xs.length ∧ xs.length < 1000 ∧ n < 1000000 ∧
  ∀ (j : Nat) (x : V) (H' : Hp), xs[j]? = some x → Pen H' p l cs (n + 1) → But H H' p → Q x H'
theorem Pen.next {H H' : Hp} {p l : Addr} {cs : List Int} {n : Nat} {i g : Int} (h : Pen H p l cs n) (i0 : 0 ≤ i) (i1 : i ≤ n + 1) (hp : H' p = some (penO l i g)) (b : But H H' p) : Pen H' p l cs (n + 1) := by
  obtain ⟨i', g', h1, h2, h3, h4, h5⟩ := h
  refine ⟨i, g, hp, b _ _ ?_ h2, h3, i0, by omega⟩
  intro e
  subst e
  rw [h1] at h2
  have e := List.map_eq_cons_iff.mp (HO.lst.inj (Option.some.inj h2)).symm
  obtain ⟨_, _, _, q, _⟩ := e
  cases q
theorem ok_pick {f fD : Addr} {fd fdD : FuncData} (F : Fun K "_law_pick" "_law_pick" sPick f fd) (B : Bi mg) (FD : Fun K "_law_draw" "_law_draw" sDraw fD fdD) (bD : Binds K fdD ["_law_pen_here", "_law_many"] []) (mD : mg "_law_draw" = some (.ref fD)) :
    FnOk P w K mg base CX0 2 f fd ["_law_pen_here", "_law_some"] spPick := by
  have GD : FnOk P w K mg base CX0 1 fD fdD ["_law_pen_here", "_law_many"] spDraw := ok_draw FD B
  refine F.ok scPick (fun vs H Q E h => ?_) (fun cdv A outer s H vs Q E hr h => ?_)
  · obtain ⟨p, l, q, cs, n, xs, rfl, _⟩ := h
    rfl
  · obtain ⟨p, l, q, cs, n, xs, rfl, hP, hq, nqp, x0, x1, n1, k⟩ := h
    refine ⟨_, pss_one (ps_ret (pe_ix ix_list (pv 1) (pe_call GD hr rfl mD FD.kp bD .nil pass0 (pa_cons (pv 0) (pa_cons (pe_callB call_len_seq (by rfl) B.len PySem.boot_len (pa_cons (pv 1) pa_nil)) pa_nil))) (fun _ _ => rfl))), ?_⟩
    refine ⟨_, rfl, _, rfl, _, rfl, q, _, rfl, .inl (SqL.of hq), p, l, cs, n, _, rfl, hP, by omega, by omega, n1, fun d i g H' d0 d1 i0 i1 hp b => ?_⟩
    obtain ⟨j, rfl⟩ : ∃ j : Nat, d = j := ⟨d.toNat, by omega⟩
    have hj : j < xs.length := by omega
    exact ⟨q, xs, _, xs[j], rfl, rfl, SqL.of (b _ _ nqp hq), atI_nat (by simp [hj]), k j _ _ (by simp [hj]) (hP.next i0 i1 hp b) b⟩
theorem scPen : FnScope ["_law_script"] ["_law_script"] (defScope sPen) := ⟨rfl, rfl, rfl, by decide +kernel, rfl, by decide +kernel, by decide +kernel⟩
def spPen (K : PySem.W.Frag) : Sp := fun vs H Q _ => ∃ (a : Addr) (ns : List Int), vs = [.ref a] ∧ SqL K H a (ns.map V.int) ∧ ns.length ≤ 63 ∧ ∀ (p l : Addr) (cs : List Int) (H' : Hp), Pen H' p l cs 0 → Same H H' → Q (.ref p) H'
theorem ok_pen {f : Addr} {fd : FuncData} (F : Fun K "_law_pen" "_law_pen" sPen f fd) (mL : mg "list" = none) : FnOk P w K mg base CX0 1 f fd ["_law_script"] (spPen K) := by
  refine F.ok scPen (fun vs H Q E h => ?_) (fun cdv A outer s H vs Q E hr h => ?_)
  · obtain ⟨a, ns, rfl, _⟩ := h
    rfl
  · obtain ⟨a, ns, rfl, hS, hz, k⟩ := h
    refine ⟨_, pss_one (ps_ret (pe_lst (pa_cons (pe_callTy call_list_of (by rfl) mL (by decide +kernel) (pa_cons (pe_slice sl_list (pv 0) po_none (po_some pe_int)) pa_nil)) (pa_cons pe_int (pa_cons pe_int pa_nil))))), ?_⟩
    refine ⟨_, rfl, _, rfl, a, _, rfl, hS, fun q hq => ?_⟩
    refine ⟨q, _, rfl, .inl (SqL.of upd_same), fun l hl => ⟨(by show 3 ≤ sizeLine; decide), fun p hp => ?_⟩⟩
    have nql : q ≠ l := ne_of_none upd_same hl
    have nlp : l ≠ p := ne_of_none upd_same hp
    have hHl : H l = none := by rw [upd_ne nql.symm] at hl; exact hl
    have hHp : H p = none := by
      have h1 : p ≠ l := nlp.symm
      rw [upd_ne h1] at hp
      have h2 : p ≠ q := fun e => by rw [e, upd_same] at hp; cases hp
      rw [upd_ne h2] at hp
      exact hp
    refine k p l _ _ ⟨0, 0, upd_same, Eq.trans (upd_ne nlp) (Eq.trans upd_same (congrArg (fun z => some (HO.lst z)) (cut_ints ns none (some 63)).choose_spec.1)), Nat.le_trans (cut_ints ns none (some 63)).choose_spec.2 hz, Int.le_refl _, Int.le_refl _⟩ fun b o e => ?_
    rw [upd_ne (ne_of_none e hHp), upd_ne (ne_of_none e hHl), upd_ne (ne_of_none e hq)]
    exact e
end
end Sk
namespace Sk
open PySem L2 Sup
open NdefX (NF NScope ncx envF startF nscope_by)
open C8 (pss_cut tCut)
abbrev sIsName : Stmt := top 5
theorem strLen (a b : Str) : (a ++ b).length = a.length + b.length := strLen_append a b
def lettersS : Str := "abcdefghijklmnopqrstuvwxyz"
def reservedV : List V := [.str "ground", .str "power", .str "nothing"]
/-- whether a text is a name -/
def isName (z : Str) : Bool := decide ((1 : Int) ≤ z.length) && decide ((z.length : Int) ≤ 8) && !inV (.str z) reservedV && z.cps.toList.all fun c => decide (c ∈ lettersS.cps.toList)
structure NmT (K : PySem.W.Frag) (mg : Str → Option Value) : Prop where
  isi : mg "isinstance" = none
  str : mg "str" = none
  len : mg "len" = none
  all : mg "all" = none
  letters : ∃ t, mg "LETTERS" = some (.str lettersS t)
  longest : ∃ t, mg "LONGEST" = some (.int 8 t)
  reserved : ∃ a, mg "RESERVED" = some (.ref a) ∧ ∀ H, SqT K H a reservedV
def spIsName (K : PySem.W.Frag) : Sp := fun vs H Q _ => ∃ x : V, vs = [x] ∧
  ((∃ z : Str, x = .str z ∧ z.length ≤ 1000 ∧ ∀ H', Same H H' → Q (.bl (isName z)) H') ∨
   ∃ t : String, TyX K H x (.type t) ∧ kitB t "str" = some false ∧ Q (.bl false) H)
section
variable {P : Program} {w : World} {K : PySem.W.Frag} {mg : Str → Option Value} {base : Heap}
theorem scIsName : FnScope ["value", "sign"] ["value"] (defScope sIsName) := ⟨rfl, rfl, rfl, by decide +kernel, rfl, by decide +kernel, by decide +kernel⟩
theorem ok_isname {f : Addr} {fd : FuncData} (F : Fun K "is_name" "is_name" sIsName f fd) (T : NmT K mg) : FnOk P w K mg base CX0 1 f fd ["value"] (spIsName K) := by
  obtain ⟨tL, gL⟩ := T.letters
  obtain ⟨tN, gN⟩ := T.longest
  obtain ⟨aR, gR, hR⟩ := T.reserved
  refine F.ok scIsName (fun vs H Q E h => ?_) (fun cdv A outer s H vs Q E hr h => ?_)
  · obtain ⟨x, rfl, _⟩ := h
    rfl
  · obtain ⟨x, rfl, h⟩ := h
    refine ⟨_, pss_cons
      (ps_if (PW.pt (pw_or (pt_not (pt_val (pe_callB call_isi (by rfl) T.isi (by decide +kernel) (pa_cons (pv 0) (pa_cons (pe_bltn (by rfl) T.str (by decide +kernel) (v := .ty "str") rfl) pa_nil)))))
          (pw_or1 (pt_not (pt_chain op_le op_le pe_int (pe_callB call_len_str (by rfl) T.len PySem.boot_len (pa_cons (pv 0) pa_nil)) (pe_glob rfl gN (v := .int 8) ⟨_, rfl⟩))))))
        (pss_one (ps_ret pe_bl)) pss_nil)
      (pss_one (ps_ret (pe_and (pe_cmpR op_notIn_seq (pv 0) (pe_glob rfl gR (v := .ref aR) rfl) (by rfl))
        (pe_one (pe_callB (cr_all rfl) (by rfl) T.all (by decide +kernel) (pa_cons
          (pe_lc (own := [("sign", 1)]) (g := gName 1) (tt := tYes) rfl scIsName.nd (pi_str (pv 0)) (blkOk_by (N := ["value", "sign"]) (sc := defScope sIsName) (by decide +kernel))
            (fun _ _ _ _ _ => pg_name (i := 1) scIsName.nd rfl (Or.inl rfl)) (fun _ _ _ _ _ => pts_nil) (fun _ _ _ _ _ => pe_cmpR op_in_sign (pv 1) (pe_glob rfl gL (v := .str lettersS) ⟨_, rfl⟩) (by rfl))) pa_nil)))))), ?_⟩
    rcases h with ⟨z, rfl, hz, k⟩ | ⟨t, ht, hk, k⟩
    · have hzl : z.length ≤ sizeLine := small1000 hz |> Nat.le_of_lt
      refine ⟨_, rfl, _, _, .type "str", .type "str", true, rfl, .ty _, .base (.str _), kit_ty (by decide +kernel), _, rfl, iteF ?_⟩
      refine ⟨_, rfl, _, rfl, hzl, _, _, rfl, rfl, _, rfl, ?_⟩
      have e0 : isName z = (decide ((1 : Int) ≤ z.length) && decide ((z.length : Int) ≤ 8) && !inV (.str z) reservedV && z.cps.toList.all fun c => decide (c ∈ lettersS.cps.toList)) := rfl
      by_cases h1 : (1 : Int) ≤ z.length
      · rw [decide_eq_true h1]
        refine iteT ⟨_, _, rfl, rfl, _, rfl, ?_⟩
        by_cases h2 : (z.length : Int) ≤ 8
        · rw [decide_eq_true h2]
          refine iteF ⟨_, rfl, aR, _, rfl, .inr (hR _), rfl, rfl, _, rfl, ?_⟩
          rw [decide_eq_true h1, decide_eq_true h2] at e0
          cases h3 : inV (.str z) reservedV with
          | true =>
            rw [h3] at e0
            refine iteF ?_
            rw [show isName z = false from e0] at k
            exact k _ (Same.refl _)
          | false =>
            rw [h3] at e0
            refine iteT ?_
            refine ⟨_, rfl, z, rfl, fun D hD => lc_it walk_str (fun i H' => Same H H' ∧ H' D = some (.lst (((z.cps.toList.take i).map fun c => decide (c ∈ lettersS.cps.toList)).map V.bl))) ⟨?_, ?_⟩ (fun _ _ _ _ => True.intro) ?_ ?_⟩
            · exact fun b o e => by rw [upd_ne (ne_of_none e hD)]; exact e
            · rw [upd_same]; rfl
            · rintro i x H1 H2 hi ⟨s1, d1⟩ ⟨rfl, c, hc, rfl⟩
              refine ⟨rfl, ?_⟩
              unfold tYes
              dsimp only
              rw [if_pos rfl]
              refine ⟨_, rfl, c, lettersS, rfl, rfl, _, d1, ?_, ?_, ?_⟩
              · rw [List.length_map, List.length_map, List.length_take]
                exact Nat.lt_of_le_of_lt (Nat.min_le_right _ _) (Nat.lt_of_le_of_lt (show z.cps.toList.length ≤ 1000 from hz) (by decide))
              · exact fun b o e => by rw [upd_ne (ne_of_none e hD)]; exact s1 _ _ e
              · rw [upd_same]
                have hc' : z.cps.toList[i]? = some c := by rw [Array.getElem?_toList]; exact hc
                rw [List.take_add_one, hc', List.map_append, List.map_append]
                rfl
            · rintro H1 ⟨s1, d1⟩
              refine ⟨D, (z.cps.toList.take z.cps.size).map (fun c => decide (c ∈ lettersS.cps.toList)), rfl, SqL.of d1, ?_⟩
              have e2 : (z.cps.toList.take z.cps.size) = z.cps.toList := List.take_of_length_le (by rw [Array.length_toList]; exact Nat.le_refl _)
              have e1 : List.all ((z.cps.toList.take z.cps.size).map (fun c => decide (c ∈ lettersS.cps.toList))) id = z.cps.toList.all fun c => decide (c ∈ lettersS.cps.toList) := by
                rw [e2, List.all_map]; rfl
              have e3 : isName z = List.all ((z.cps.toList.take z.cps.size).map (fun c => decide (c ∈ lettersS.cps.toList))) id := by
                rw [e0, e1]; simp
              show Q (.bl (List.all _ id)) H1
              rw [← e3]
              exact k _ s1
        · rw [decide_eq_false h2]
          rw [decide_eq_false h2, Bool.and_false] at e0
          rw [show isName z = false from by rw [e0]; rfl] at k
          exact iteT (k _ (Same.refl _))
      · rw [decide_eq_false h1] at e0 ⊢
        rw [show isName z = false from e0] at k
        exact iteF ⟨_, rfl, iteT (k _ (Same.refl _))⟩
    · refine ⟨_, rfl, _, _, .type t, .type "str", false, rfl, .ty _, ht, kit_ty hk, _, rfl, iteT ?_⟩
      exact iteT k
end
end Sk
namespace Sk
open PySem L2 Sup Grd Shw Exg
open C8 (pss_cut tCut)
abbrev sOnes : Stmt := top 30
abbrev sTwos : Stmt := top 31
/-- the errors' classes, in the order of the law's rows; the two base classes -/
structure ErrsT (P : Program) (w : World) (K : PySem.W.Frag) (mg : Str → Option Value) (base : Heap) (cs : Nat → Addr) : Prop where
  e0 : Err1 P w K mg base "InvalidFrame" "reason" (cs 0)
  e1 : Err1 P w K mg base "InvalidWord" "name" (cs 1)
  e2 : Err1 P w K mg base "InvalidBoard" "reason" (cs 2)
  e3 : Err1 P w K mg base "InvalidChain" "reason" (cs 3)
  e4 : Err1 P w K mg base "InvalidHurt" "reason" (cs 4)
  e5 : Err1 P w K mg base "InvalidScan" "index" (cs 5)
  e6 : Err1 P w K mg base "InvalidCommand" "word" (cs 6)
  e7 : Err1 P w K mg base "NoLeg" "name" (cs 7)
  e8 : Err1 P w K mg base "NoWord" "index" (cs 8)
  e9 : Err1 P w K mg base "TooMany" "most" (cs 9)
  e10 : Err2 P w K mg base "InvalidAnswer" "index" "name" (cs 10)
  e11 : Err2 P w K mg base "NoBoard" "index" "name" (cs 11)
  e12 : Err2 P w K mg base "InvalidText" "line" "word" (cs 12)
/-- a row: its tuple, the error, its number, what is kept -/
structure Row where
  t : Addr
  e : Addr
  i : Nat
  v : V
  d : PyData
def Row.ok (K : PySem.W.Frag) (cs : Nat → Addr) (H : Hp) (r : Row) : Prop := H r.t = some (.tup [.ref r.e, r.v]) ∧ ExIs H r.e (cs r.i) ∧ Dq K H r.v r.d ∧ Smalls r.d
theorem ExAt.same {H H' : Hp} {a C : Addr} {fs : List (Str × V)} (h : ExAt H a C fs) (s : Same H H') : ExAt H' a C fs := h.imp fun _ ⟨a, b⟩ => ⟨s _ _ a, s _ _ b⟩
theorem ExIs.same {H H' : Hp} {a C : Addr} (h : ExIs H a C) (s : Same H H') : ExIs H' a C := h.imp (fun e => s _ _ e) fun ⟨fs, e⟩ => ⟨fs, ExAt.same e s⟩
theorem Row.ok.same {K : PySem.W.Frag} {cs : Nat → Addr} {H H' : Hp} {r : Row} (h : r.ok K cs H) (s : Same H H') : r.ok K cs H' := ⟨s _ _ h.1, ExIs.same h.2.1 s, Dq.same s _ _ h.2.2.1, h.2.2.2⟩
/-- the rows of a list -/
def RowsAt (K : PySem.W.Frag) (cs : Nat → Addr) (H : Hp) (q : Addr) (rs : List Row) : Prop := H q = some (.lst (rs.map fun r => .ref r.t)) ∧ ∀ r ∈ rs, r.ok K cs H
theorem RowsAt.same {K : PySem.W.Frag} {cs : Nat → Addr} {H H' : Hp} {q : Addr} {rs : List Row} (h : RowsAt K cs H q rs) (s : Same H H') : RowsAt K cs H' q rs := ⟨s _ _ h.1, fun r hr => (h.2 r hr).same s⟩
theorem same_new {H : Hp} {q : Addr} (h : H q = none) (o : HO) : Same H (upd H q o) := same_mk h
theorem RowsAt.cat {K : PySem.W.Frag} {cs : Nat → Addr} {H : Hp} {q q2 p : Addr} {rs rs2 : List Row} (h : RowsAt K cs H q rs) (g : RowsAt K cs H q2 rs2) (hp : H p = none) :
    RowsAt K cs (upd H p (.lst ((rs.map fun r => .ref r.t) ++ (rs2.map fun r => .ref r.t)))) p (rs ++ rs2) := by
  refine ⟨by rw [upd_same, List.map_append], fun r hr => ?_⟩
  rcases List.mem_append.mp hr with hr | hr
  · exact (h.2 r hr).same (same_new hp _)
  · exact (g.2 r hr).same (same_new hp _)
def spOnes (K : PySem.W.Frag) (cs : Nat → Addr) : Sp := fun vs H Q _ => ∃ (v : V) (d : PyData), vs = [v] ∧ Dq K H v d ∧ Smalls d ∧
  ∀ (q : Addr) (H' : Hp) (rs : List Row), RowsAt K cs H' q rs → rs.map (·.i) = List.range 10 → (∀ r ∈ rs, r.v = v ∧ r.d = d) → Same H H' → Q (.ref q) H'
def spTwos (K : PySem.W.Frag) (cs : Nat → Addr) : Sp := fun vs H Q _ => ∃ (v u : V) (d e : PyData), vs = [v, u] ∧ Dq K H v d ∧ Dq K H u e ∧ Smalls d ∧ Smalls e ∧ Smalls (.tuple [d, e]) ∧
  ∀ (q : Addr) (H' : Hp) (rs : List Row), RowsAt K cs H' q rs → rs.map (·.i) = [10, 11, 12] → (∀ r ∈ rs, r.d = .tuple [d, e]) → Same H H' → Q (.ref q) H'
/-- (e, e.x) -/
abbrev tPr (K : PySem.W.Frag) (i : Nat) (x : Str) : TE := tTup (tCons (tVar i) (tCons (tFldE K x (tVar i)) tNil))
/-- an error in the slot i, of the number n, keeping v -/
structure InSl (K : PySem.W.Frag) (cs : Nat → Addr) (σ : L2.St) (H : Hp) (i n : Nat) (x : Str) (a : Addr) (v : V) : Prop where
  sl : σ[i]? = some (some (.ref a))
  at_ : ExAt H a (cs n) [(x, v)]
  xf : XfT K (cs n)
  no : PySem.W.findIn K (.ref (cs n)) x = some none
theorem lookup1 (f : Str) (v : V) : ([(f, v)] : List (Str × V)).lookup f = some v := by
  rw [List.lookup_cons, beq_self_eq_true]
theorem pr_rd {K : PySem.W.Frag} {cs : Nat → Addr} {σ : L2.St} {H H1 : Hp} {i n : Nat} {x : Str} {a : Addr} {v : V} {Q : VK} (h : InSl K cs σ H i n x a v) (s : Same H H1) (k : ∀ p, H1 p = none → Q (.ref p) (upd H1 p (.tup [.ref a, v]))) : tPr K i x σ H1 Q :=
  ⟨_, h.sl, _, h.sl, a, cs n, _, v, rfl, ExAt.same h.at_ s, h.xf, h.no, lookup1 x v, by show 2 ≤ sizeLine; decide, k⟩
theorem lst2_rd {K : PySem.W.Frag} {cs : Nat → Addr} {σ : L2.St} {H : Hp} {i j n m : Nat} {x y : Str} {a b : Addr} {v : V} {d : PyData} {Q : VK} (h : InSl K cs σ H i n x a v) (g : InSl K cs σ H j m y b v) (hv : Dq K H v d) (sm : Smalls d)
    (k : ∀ q H' rs, RowsAt K cs H' q rs → rs.map (·.i) = [n, m] → (∀ r ∈ rs, r.v = v ∧ r.d = d) → Same H H' → Q (.ref q) H') : tLst (tCons (tPr K i x) (tCons (tPr K j y) tNil)) σ H Q := by
  show tPr K i x σ H (fun v1 H1 => tPr K j y σ H1 fun v2 H2 => 2 ≤ sizeLine ∧ ∀ p, H2 p = none → Q (.ref p) (upd H2 p (.lst [v1, v2])))
  refine pr_rd h (Same.refl H) ?_
  intro p hp
  refine pr_rd g (same_new hp _) ?_
  intro p2 hp2
  refine ⟨by show 2 ≤ sizeLine; decide, fun q hq => ?_⟩
  have s1 := same_new hp (.tup [.ref a, v])
  have s2 := same_new hp2 (.tup [.ref b, v])
  have s3 := same_new hq (.lst [.ref p, .ref p2])
  refine k q _ [⟨p, a, n, v, d⟩, ⟨p2, b, m, v, d⟩] ⟨upd_same, fun r hr => ?_⟩ rfl (fun r hr => ?_) ((s1.trans s2).trans s3)
  · rcases List.mem_cons.mp hr with rfl | hr
    · exact ⟨s3 _ _ (s2 _ _ upd_same), .inr ⟨_, ExAt.same h.at_ ((s1.trans s2).trans s3)⟩, Dq.same ((s1.trans s2).trans s3) _ _ hv, sm⟩
    · obtain rfl := List.mem_singleton.mp hr
      exact ⟨s3 _ _ upd_same, .inr ⟨_, ExAt.same g.at_ ((s1.trans s2).trans s3)⟩, Dq.same ((s1.trans s2).trans s3) _ _ hv, sm⟩
  · rcases List.mem_cons.mp hr with rfl | hr
    · exact ⟨rfl, rfl⟩
    · obtain rfl := List.mem_singleton.mp hr
      exact ⟨rfl, rfl⟩
theorem lst3_rd {K : PySem.W.Frag} {cs : Nat → Addr} {σ : L2.St} {H : Hp} {i j l n m o : Nat} {x y z : Str} {a b c : Addr} {v : V} {d : PyData} {Q : VK} (h : InSl K cs σ H i n x a v) (g : InSl K cs σ H j m y b v) (f : InSl K cs σ H l o z c v) (hv : Dq K H v d) (sm : Smalls d)
    (k : ∀ q H' rs, RowsAt K cs H' q rs → rs.map (·.i) = [n, m, o] → (∀ r ∈ rs, r.v = v ∧ r.d = d) → Same H H' → Q (.ref q) H') : tLst (tCons (tPr K i x) (tCons (tPr K j y) (tCons (tPr K l z) tNil))) σ H Q := by
  show tPr K i x σ H (fun v1 H1 => tPr K j y σ H1 fun v2 H2 => tPr K l z σ H2 fun v3 H3 => 3 ≤ sizeLine ∧ ∀ p, H3 p = none → Q (.ref p) (upd H3 p (.lst [v1, v2, v3])))
  refine pr_rd h (Same.refl H) ?_
  intro p hp
  refine pr_rd g (same_new hp _) ?_
  intro p2 hp2
  refine pr_rd f ((same_new hp _).trans (same_new hp2 _)) ?_
  intro p3 hp3
  refine ⟨by show 3 ≤ sizeLine; decide, fun q hq => ?_⟩
  have s1 := same_new hp (.tup [.ref a, v])
  have s2 := same_new hp2 (.tup [.ref b, v])
  have s3 := same_new hp3 (.tup [.ref c, v])
  have s4 := same_new hq (.lst [.ref p, .ref p2, .ref p3])
  have sa := ((s1.trans s2).trans s3).trans s4
  refine k q _ [⟨p, a, n, v, d⟩, ⟨p2, b, m, v, d⟩, ⟨p3, c, o, v, d⟩] ⟨upd_same, fun r hr => ?_⟩ rfl (fun r hr => ?_) sa
  · rcases List.mem_cons.mp hr with rfl | hr
    · exact ⟨s4 _ _ (s3 _ _ (s2 _ _ upd_same)), .inr ⟨_, ExAt.same h.at_ sa⟩, Dq.same sa _ _ hv, sm⟩
    · rcases List.mem_cons.mp hr with rfl | hr
      · exact ⟨s4 _ _ (s3 _ _ upd_same), .inr ⟨_, ExAt.same g.at_ sa⟩, Dq.same sa _ _ hv, sm⟩
      · obtain rfl := List.mem_singleton.mp hr
        exact ⟨s4 _ _ upd_same, .inr ⟨_, ExAt.same f.at_ sa⟩, Dq.same sa _ _ hv, sm⟩
  · rcases List.mem_cons.mp hr with rfl | hr
    · exact ⟨rfl, rfl⟩
    · rcases List.mem_cons.mp hr with rfl | hr
      · exact ⟨rfl, rfl⟩
      · obtain rfl := List.mem_singleton.mp hr
        exact ⟨rfl, rfl⟩
section
variable {P : Program} {w : World} {K : PySem.W.Frag} {mg : Str → Option Value} {base : Heap} {cs : Nat → Addr}
def onesN : List Str := ["_law_thing", "_law_one", "_law_two", "_law_found", "_law_five", "_law_six", "_law_seven", "_law_eight", "_law_nine", "_law_ten"]
theorem scOnes : FnScope onesN ["_law_thing"] (defScope sOnes) := ⟨rfl, rfl, rfl, by decide +kernel, rfl, by decide +kernel, by decide +kernel⟩
theorem ok_ones {f : Addr} {fd : FuncData} (F : Fun K "_law_ones" "_law_ones" sOnes f fd) (T : ErrsT P w K mg base cs) : FnG P w K mg base CX0 3 f fd ["_law_thing"] (spOnes K cs) := by
  refine fun_g F scOnes (fun vs H Q E h => ?_) (fun cdv A outer s H vs Q E hgu hr h => ?_)
  · obtain ⟨v, d, rfl, _⟩ := h
    rfl
  · obtain ⟨v, d, rfl, hv, sm, k⟩ := h
    refine ⟨_, pss_cons (ps_par (i := 1) (j := 2) rfl scOnes.nd rfl rfl (by decide) rfl rfl (pa_cons (pe_e1 T.e0 hgu hr rfl (pv 0)) (pa_cons (pe_e1 T.e1 hgu hr rfl (pv 0)) pa_nil)) (by rfl))
      (pss_cons (ps_set (i := 3) scOnes.nd rfl (Or.inl rfl) (pe_lst (pa_cons (pe_tup (pa_cons (pv 1) (pa_cons (pe_fldE (pv 1)) pa_nil))) (pa_cons (pe_tup (pa_cons (pv 2) (pa_cons (pe_fldE (pv 2)) pa_nil))) pa_nil))))
      (pss_cons (ps_par (i := 1) (j := 2) rfl scOnes.nd rfl rfl (by decide) rfl rfl (pa_cons (pe_e1 T.e2 hgu hr rfl (pv 0)) (pa_cons (pe_e1 T.e3 hgu hr rfl (pv 0)) pa_nil)) (by rfl))
      (pss_cons (ps_set (i := 3) scOnes.nd rfl (Or.inl rfl) (pe_op op_cat (pv 3) (pe_lst (pa_cons (pe_tup (pa_cons (pv 1) (pa_cons (pe_fldE (pv 1)) pa_nil))) (pa_cons (pe_tup (pa_cons (pv 2) (pa_cons (pe_fldE (pv 2)) pa_nil))) pa_nil)))))
      (pss_cons (ps_par3 (i := 4) (j := 5) (l := 6) rfl scOnes.nd rfl rfl rfl (by decide) (by decide) (by decide) rfl rfl rfl (pa_cons (pe_e1 T.e4 hgu hr rfl (pv 0)) (pa_cons (pe_e1 T.e5 hgu hr rfl (pv 0)) (pa_cons (pe_e1 T.e6 hgu hr rfl (pv 0)) pa_nil))) (by rfl))
      (pss_cons (ps_set (i := 3) scOnes.nd rfl (Or.inl rfl) (pe_op op_cat (pv 3) (pe_lst (pa_cons (pe_tup (pa_cons (pv 4) (pa_cons (pe_fldE (pv 4)) pa_nil))) (pa_cons (pe_tup (pa_cons (pv 5) (pa_cons (pe_fldE (pv 5)) pa_nil))) (pa_cons (pe_tup (pa_cons (pv 6) (pa_cons (pe_fldE (pv 6)) pa_nil))) pa_nil))))))
      (pss_cons (ps_par3 (i := 7) (j := 8) (l := 9) rfl scOnes.nd rfl rfl rfl (by decide) (by decide) (by decide) rfl rfl rfl (pa_cons (pe_e1 T.e7 hgu hr rfl (pv 0)) (pa_cons (pe_e1 T.e8 hgu hr rfl (pv 0)) (pa_cons (pe_e1 T.e9 hgu hr rfl (pv 0)) pa_nil))) (by rfl))
      (pss_one (ps_ret (pe_op op_cat (pv 3) (pe_lst (pa_cons (pe_tup (pa_cons (pv 7) (pa_cons (pe_fldE (pv 7)) pa_nil))) (pa_cons (pe_tup (pa_cons (pv 8) (pa_cons (pe_fldE (pv 8)) pa_nil))) (pa_cons (pe_tup (pa_cons (pv 9) (pa_cons (pe_fldE (pv 9)) pa_nil))) pa_nil))))))))))))), ?_⟩
    refine ⟨_, rfl, d, hv, sm, fun a0 H1 n0 x0 s1 => ?_⟩
    have v1 := Dq.same s1 _ _ hv
    refine ⟨_, rfl, d, v1, sm, fun a1 H2 n1 x1 s2 => ⟨_, _, rfl, ?_⟩⟩
    have v2 := Dq.same s2 _ _ v1
    dsimp only [tSeq, tAsg]
    refine lst2_rd (cs := cs) (n := 0) (m := 1) (a := a0) (b := a1) ?_ ?_ v2 sm ?_
    · exact ⟨rfl, ExAt.same x0 s2, T.e0.xf, T.e0.no⟩
    · exact ⟨rfl, x1, T.e1.xf, T.e1.no⟩
    intro q3 H3 rs3 r3 i3 w3 s3
    have v3 := Dq.same s3 _ _ v2
    refine ⟨_, rfl, d, v3, sm, fun a4 H4 n4 x4 s4 => ?_⟩
    have v4 := Dq.same s4 _ _ v3
    refine ⟨_, rfl, d, v4, sm, fun a5 H5 n5 x5 s5 => ⟨_, _, rfl, ?_⟩⟩
    have v5 := Dq.same s5 _ _ v4
    refine ⟨_, rfl, ?_⟩
    refine lst2_rd (cs := cs) (n := 2) (m := 3) (a := a4) (b := a5) ?_ ?_ v5 sm ?_
    · exact ⟨rfl, ExAt.same x4 s5, T.e2.xf, T.e2.no⟩
    · exact ⟨rfl, x5, T.e3.xf, T.e3.no⟩
    intro q6 H6 rs6 r6 i6 w6 s6
    have v6 := Dq.same s6 _ _ v5
    have r3' := r3.same ((s4.trans s5).trans s6)
    have l3 : rs3.length = 2 := by rw [← List.length_map (f := (·.i)), i3]; rfl
    have l6 : rs6.length = 2 := by rw [← List.length_map (f := (·.i)), i6]; rfl
    refine ⟨q3, q6, _, _, rfl, rfl, r3'.1, r6.1, by rw [List.length_map, List.length_map, l3, l6]; decide, fun q7 hq7 => ?_⟩
    have r7 := r3'.cat r6 hq7
    have s7 := same_new hq7 (.lst ((rs3.map fun r => .ref r.t) ++ (rs6.map fun r => .ref r.t)))
    have v7 := Dq.same s7 _ _ v6
    refine ⟨_, rfl, d, v7, sm, fun a8 H8 n8 x8 s8 => ?_⟩
    have v8 := Dq.same s8 _ _ v7
    refine ⟨_, rfl, d, v8, sm, fun a9 H9 n9 x9 s9 => ?_⟩
    have v9 := Dq.same s9 _ _ v8
    refine ⟨_, rfl, d, v9, sm, fun a10 H10 n10 x10 s10 => ⟨_, _, _, rfl, ?_⟩⟩
    have v10 := Dq.same s10 _ _ v9
    refine ⟨_, rfl, ?_⟩
    refine lst3_rd (cs := cs) (n := 4) (m := 5) (o := 6) (a := a8) (b := a9) (c := a10) ?_ ?_ ?_ v10 sm ?_
    · exact ⟨rfl, ExAt.same x8 (s9.trans s10), T.e4.xf, T.e4.no⟩
    · exact ⟨rfl, ExAt.same x9 s10, T.e5.xf, T.e5.no⟩
    · exact ⟨rfl, x10, T.e6.xf, T.e6.no⟩
    intro q11 H11 rs11 r11 i11 w11 s11
    have v11 := Dq.same s11 _ _ v10
    have r7' := r7.same (((s8.trans s9).trans s10).trans s11)
    have l11 : rs11.length = 3 := by rw [← List.length_map (f := (·.i)), i11]; rfl
    refine ⟨q7, q11, _, _, rfl, rfl, r7'.1, r11.1, by rw [List.length_map, List.length_map, List.length_append, l3, l6, l11]; decide, fun q12 hq12 => ?_⟩
    have r12 := r7'.cat r11 hq12
    have s12 := same_new hq12 (.lst (((rs3 ++ rs6).map fun r => .ref r.t) ++ (rs11.map fun r => .ref r.t)))
    have v12 := Dq.same s12 _ _ v11
    refine ⟨_, rfl, d, v12, sm, fun a13 H13 n13 x13 s13 => ?_⟩
    have v13 := Dq.same s13 _ _ v12
    refine ⟨_, rfl, d, v13, sm, fun a14 H14 n14 x14 s14 => ?_⟩
    have v14 := Dq.same s14 _ _ v13
    refine ⟨_, rfl, d, v14, sm, fun a15 H15 n15 x15 s15 => ⟨_, _, _, rfl, ?_⟩⟩
    have v15 := Dq.same s15 _ _ v14
    refine ⟨_, rfl, ?_⟩
    refine lst3_rd (cs := cs) (n := 7) (m := 8) (o := 9) (a := a13) (b := a14) (c := a15) ?_ ?_ ?_ v15 sm ?_
    · exact ⟨rfl, ExAt.same x13 (s14.trans s15), T.e7.xf, T.e7.no⟩
    · exact ⟨rfl, ExAt.same x14 s15, T.e8.xf, T.e8.no⟩
    · exact ⟨rfl, x15, T.e9.xf, T.e9.no⟩
    intro q16 H16 rs16 r16 i16 w16 s16
    have r12' := r12.same (((s13.trans s14).trans s15).trans s16)
    have l16 : rs16.length = 3 := by rw [← List.length_map (f := (·.i)), i16]; rfl
    refine ⟨q12, q16, _, _, rfl, rfl, r12'.1, r16.1, by rw [List.length_map, List.length_map, List.length_append, List.length_append, l3, l6, l11, l16]; decide, fun q17 hq17 => ?_⟩
    refine k q17 _ _ (r12'.cat r16 hq17) (by rw [List.map_append, List.map_append, List.map_append, i3, i6, i11, i16]; rfl) (fun r hr => ?_)
      (((((s1.trans s2).trans s3).trans ((s4.trans s5).trans s6)).trans (s7.trans (((s8.trans s9).trans s10).trans s11))).trans ((s12.trans (((s13.trans s14).trans s15).trans s16)).trans (same_new hq17 _)))
    rcases List.mem_append.mp hr with hr | hr
    · rcases List.mem_append.mp hr with hr | hr
      · rcases List.mem_append.mp hr with hr | hr
        · exact w3 r hr
        · exact w6 r hr
      · exact w11 r hr
    · exact w16 r hr
end
end Sk
namespace Sk
open PySem L2 Sup Grd Shw Exg
open C8 (pss_cut tCut)
abbrev tPr2 (K : PySem.W.Frag) (i : Nat) (x y : Str) : TE := tTup (tCons (tVar i) (tCons (tTup (tCons (tFldE K x (tVar i)) (tCons (tFldE K y (tVar i)) tNil))) tNil))
structure InSl2 (K : PySem.W.Frag) (cs : Nat → Addr) (σ : L2.St) (H : Hp) (i n : Nat) (x y : Str) (a : Addr) (v u : V) : Prop where
  sl : σ[i]? = some (some (.ref a))
  at_ : ExAt H a (cs n) [(y, u), (x, v)]
  xf : XfT K (cs n)
  no : PySem.W.findIn K (.ref (cs n)) x = some none
  no2 : PySem.W.findIn K (.ref (cs n)) y = some none
  ne : (x == y) = false
theorem lookup2a (y x : Str) (u v : V) : ([(y, u), (x, v)] : List (Str × V)).lookup y = some u := by
  rw [List.lookup_cons, beq_self_eq_true]
theorem lookup2b {y x : Str} (h : (x == y) = false) (u v : V) : ([(y, u), (x, v)] : List (Str × V)).lookup x = some v := by
  rw [List.lookup_cons, h, List.lookup_cons, beq_self_eq_true]
theorem pr2_rd {K : PySem.W.Frag} {cs : Nat → Addr} {σ : L2.St} {H H1 : Hp} {i n : Nat} {x y : Str} {a : Addr} {v u : V} {Q : VK} (h : InSl2 K cs σ H i n x y a v u) (s : Same H H1)
    (k : ∀ p0 p, H1 p0 = none → upd H1 p0 (.tup [v, u]) p = none → Q (.ref p) (upd (upd H1 p0 (.tup [v, u])) p (.tup [.ref a, .ref p0]))) : tPr2 K i x y σ H1 Q :=
  ⟨_, h.sl, _, h.sl, a, cs n, _, v, rfl, ExAt.same h.at_ s, h.xf, h.no, lookup2b h.ne u v, _, h.sl, a, cs n, _, u, rfl, ExAt.same h.at_ s, h.xf, h.no2, lookup2a y x u v,
    by show 2 ≤ sizeLine; decide, fun p0 h0 => ⟨by show 2 ≤ sizeLine; decide, fun p hp => k p0 p h0 hp⟩⟩
section
variable {P : Program} {w : World} {K : PySem.W.Frag} {mg : Str → Option Value} {base : Heap} {cs : Nat → Addr}
/-- a row of two fields, just made -/
theorem row2 {H H' : Hp} {σ : L2.St} {i n : Nat} {x y : Str} {a p0 p : Addr} {v u : V} {d e : PyData} (h : InSl2 K cs σ H i n x y a v u) (hv : Dq K H v d) (hu : Dq K H u e) (sm : Smalls (.tuple [d, e])) (e0 : H' p0 = some (.tup [v, u])) (e1 : H' p = some (.tup [.ref a, .ref p0])) (s : Same H H') :
    Row.ok K cs H' ⟨p, a, n, .ref p0, .tuple [d, e]⟩ :=
  ⟨e1, .inr ⟨_, ExAt.same h.at_ s⟩, .tup (SqT.of e0) (.cons (Dq.same s _ _ hv) (.cons (Dq.same s _ _ hu) .nil)), sm⟩
/-- the lists of such rows -/
theorem lst2b {σ : L2.St} {H : Hp} {i j n m : Nat} {x y x2 y2 : Str} {a b : Addr} {v u : V} {d e : PyData} {Q : VK} (h : InSl2 K cs σ H i n x y a v u) (g : InSl2 K cs σ H j m x2 y2 b v u) (hv : Dq K H v d) (hu : Dq K H u e) (sm : Smalls (.tuple [d, e]))
    (k : ∀ q H' rs, RowsAt K cs H' q rs → rs.map (·.i) = [n, m] → (∀ r ∈ rs, r.d = .tuple [d, e]) → Same H H' → Q (.ref q) H') : tLst (tCons (tPr2 K i x y) (tCons (tPr2 K j x2 y2) tNil)) σ H Q := by
  show tPr2 K i x y σ H (fun v1 H1 => tPr2 K j x2 y2 σ H1 fun v2 H2 => 2 ≤ sizeLine ∧ ∀ p, H2 p = none → Q (.ref p) (upd H2 p (.lst [v1, v2])))
  refine pr2_rd h (Same.refl _) ?_
  intro p0 p1 f0 f1
  have c0 := same_new f0 (.tup [v, u])
  have c1 := same_new f1 (.tup [.ref a, .ref p0])
  refine pr2_rd g (c0.trans c1) ?_
  intro p2 p3 f2 f3
  have c2 := same_new f2 (.tup [v, u])
  have c3 := same_new f3 (.tup [.ref b, .ref p2])
  refine ⟨by show 2 ≤ sizeLine; decide, fun p4 f4 => ?_⟩
  have c4 := same_new f4 (.lst [.ref p1, .ref p3])
  have sA := (((c0.trans c1).trans c2).trans c3).trans c4
  have R1 := row2 h hv hu sm (c4 _ _ (c3 _ _ (c2 _ _ (c1 _ _ upd_same)))) (c4 _ _ (c3 _ _ (c2 _ _ upd_same))) sA
  have R2 := row2 g hv hu sm (c4 _ _ (c3 _ _ upd_same)) (c4 _ _ upd_same) sA
  refine k p4 _ [⟨p1, a, n, .ref p0, .tuple [d, e]⟩, ⟨p3, b, m, .ref p2, .tuple [d, e]⟩] ⟨upd_same, fun r hr => ?_⟩ rfl (fun r hr => ?_) sA
  · rcases List.mem_cons.mp hr with rfl | hr
    · exact R1
    · obtain rfl := List.mem_singleton.mp hr
      exact R2
  · rcases List.mem_cons.mp hr with rfl | hr
    · rfl
    · obtain rfl := List.mem_singleton.mp hr
      rfl
theorem lst1b {σ : L2.St} {H : Hp} {i n : Nat} {x y : Str} {a : Addr} {v u : V} {d e : PyData} {Q : VK} (h : InSl2 K cs σ H i n x y a v u) (hv : Dq K H v d) (hu : Dq K H u e) (sm : Smalls (.tuple [d, e]))
    (k : ∀ q H' rs, RowsAt K cs H' q rs → rs.map (·.i) = [n] → (∀ r ∈ rs, r.d = .tuple [d, e]) → Same H H' → Q (.ref q) H') : tLst (tCons (tPr2 K i x y) tNil) σ H Q := by
  show tPr2 K i x y σ H (fun v1 H1 => 1 ≤ sizeLine ∧ ∀ p, H1 p = none → Q (.ref p) (upd H1 p (.lst [v1])))
  refine pr2_rd h (Same.refl _) ?_
  intro p0 p1 f0 f1
  have c0 := same_new f0 (.tup [v, u])
  have c1 := same_new f1 (.tup [.ref a, .ref p0])
  refine ⟨by show 1 ≤ sizeLine; decide, fun p4 f4 => ?_⟩
  have c4 := same_new f4 (.lst [.ref p1])
  have sA := (c0.trans c1).trans c4
  have R1 := row2 h hv hu sm (c4 _ _ (c1 _ _ upd_same)) (c4 _ _ upd_same) sA
  refine k p4 _ [⟨p1, a, n, .ref p0, .tuple [d, e]⟩] ⟨upd_same, fun r hr => ?_⟩ rfl (fun r hr => ?_) sA
  · obtain rfl := List.mem_singleton.mp hr
    exact R1
  · obtain rfl := List.mem_singleton.mp hr
    rfl
def twosN : List Str := ["_law_thing", "_law_other", "_law_one", "_law_two", "_law_three", "_law_found"]
theorem scTwos : FnScope twosN ["_law_thing", "_law_other"] (defScope sTwos) := ⟨rfl, rfl, rfl, by decide +kernel, rfl, by decide +kernel, by decide +kernel⟩
theorem ok_twos {f : Addr} {fd : FuncData} (F : Fun K "_law_twos" "_law_twos" sTwos f fd) (T : ErrsT P w K mg base cs) : FnG P w K mg base CX0 3 f fd ["_law_thing", "_law_other"] (spTwos K cs) := by
  refine fun_g F scTwos (fun vs H Q E h => ?_) (fun cdv A outer s H vs Q E hgu hr h => ?_)
  · obtain ⟨v, u, d, e, rfl, _⟩ := h
    rfl
  · obtain ⟨v, u, d, e, rfl, hv, hu, sm, sn, sd, k⟩ := h
    refine ⟨_, pss_cons (ps_par3 (i := 2) (j := 3) (l := 4) rfl scTwos.nd rfl rfl rfl (by decide) (by decide) (by decide) rfl rfl rfl (pa_cons (pe_e2 T.e10 hgu hr rfl (pv 0) (pv 1)) (pa_cons (pe_e2 T.e11 hgu hr rfl (pv 0) (pv 1)) (pa_cons (pe_e2 T.e12 hgu hr rfl (pv 0) (pv 1)) pa_nil))) (by rfl))
      (pss_cons (ps_set (i := 5) scTwos.nd rfl (Or.inl rfl) (pe_lst (pa_cons (pe_tup (pa_cons (pv 2) (pa_cons (pe_tup (pa_cons (pe_fldE (pv 2)) (pa_cons (pe_fldE (pv 2)) pa_nil))) pa_nil)))
          (pa_cons (pe_tup (pa_cons (pv 3) (pa_cons (pe_tup (pa_cons (pe_fldE (pv 3)) (pa_cons (pe_fldE (pv 3)) pa_nil))) pa_nil))) pa_nil))))
      (pss_one (ps_ret (pe_op op_cat (pv 5) (pe_lst (pa_cons (pe_tup (pa_cons (pv 4) (pa_cons (pe_tup (pa_cons (pe_fldE (pv 4)) (pa_cons (pe_fldE (pv 4)) pa_nil))) pa_nil))) pa_nil)))))), ?_⟩
    refine ⟨_, rfl, _, rfl, d, e, hv, hu, sm, sn, fun a0 H1 n0 x0 s1 => ?_⟩
    have v1 := Dq.same s1 _ _ hv
    have u1 := Dq.same s1 _ _ hu
    refine ⟨_, rfl, _, rfl, d, e, v1, u1, sm, sn, fun a1 H2 n1 x1 s2 => ?_⟩
    have v2 := Dq.same s2 _ _ v1
    have u2 := Dq.same s2 _ _ u1
    refine ⟨_, rfl, _, rfl, d, e, v2, u2, sm, sn, fun a2 H3 n2 x2 s3 => ⟨_, _, _, rfl, ?_⟩⟩
    have v3 := Dq.same s3 _ _ v2
    have u3 := Dq.same s3 _ _ u2
    dsimp only [tSeq, tAsg]
    refine lst2b (cs := cs) (n := 10) (m := 11) (a := a0) (b := a1) (v := v) (u := u) ?_ ?_ v3 u3 sd ?_
    · exact ⟨rfl, ExAt.same x0 (s2.trans s3), T.e10.xf, T.e10.no, T.e10.no2, by decide +kernel⟩
    · exact ⟨rfl, ExAt.same x1 s3, T.e11.xf, T.e11.no, T.e11.no2, by decide +kernel⟩
    intro q4 H4 rs4 r4 i4 w4 s4
    refine ⟨_, rfl, ?_⟩
    refine lst1b (cs := cs) (n := 12) (a := a2) (v := v) (u := u) ?_ (Dq.same s4 _ _ v3) (Dq.same s4 _ _ u3) sd ?_
    · exact ⟨rfl, ExAt.same x2 s4, T.e12.xf, T.e12.no, T.e12.no2, by decide +kernel⟩
    intro q5 H5 rs5 r5 i5 w5 s5
    have r4' := r4.same s5
    have l4 : rs4.length = 2 := by rw [← List.length_map (f := (·.i)), i4]; rfl
    have l5 : rs5.length = 1 := by rw [← List.length_map (f := (·.i)), i5]; rfl
    refine ⟨q4, q5, _, _, rfl, rfl, r4'.1, r5.1, by rw [List.length_map, List.length_map, l4, l5]; decide, fun q6 hq6 => ?_⟩
    refine k q6 _ _ (r4'.cat r5 hq6) (by rw [List.map_append, i4, i5]; rfl) (fun r hr => ?_) ((((s1.trans s2).trans s3).trans (s4.trans s5)).trans (same_new hq6 _))
    rcases List.mem_append.mp hr with hr | hr
    · exact w4 r hr
    · exact w5 r hr
end
end Sk
namespace Sk
open PySem L2 Sup Grd Shw Exg
open C8 (pss_cut tCut)
abbrev sKinds : Stmt := top 32
abbrev sBases : Stmt := top 33
def isV (i : Nat) : Bool := decide (i < 7) || decide (9 < i)
structure KindT (K : PySem.W.Frag) (mg : Str → Option Value) (cs : Nat → Addr) (je me : Addr) : Prop where
  isi : mg "isinstance" = none
  xi : ∀ i, i < 15 → XiT K (cs i)
  kk : ∀ i j, i < 15 → j < 15 → PySem.W.kitOne K (.ref (cs i)) (.ref (cs j)) = some (decide (i = j))
  kj : ∀ i, i < 15 → PySem.W.kitOne K (.ref (cs i)) (.ref je) = some (isV i)
  kv : ∀ i, i < 15 → PySem.W.kitOne K (.ref (cs i)) (.type "ValueError") = some (isV i)
  km : ∀ i, i < 15 → PySem.W.kitOne K (.ref (cs i)) (.ref me) = some (decide (i = 7) || decide (i = 8))
  kl : ∀ i, i < 15 → PySem.W.kitOne K (.ref (cs i)) (.type "LookupError") = some (decide (i = 7) || decide (i = 8))
  ko : ∀ i, i < 15 → PySem.W.kitOne K (.ref (cs i)) (.type "OverflowError") = some (decide (i = 9))
  ke : ∀ i, i < 15 → PySem.W.kitOne K (.ref (cs i)) (.type "KeyError") = some false
  kx : ∀ i, i < 15 → PySem.W.kitOne K (.ref (cs i)) (.type "IndexError") = some false
  m13 : mg "Settled" = some (.ref (cs 13))
  m14 : mg "NothingToUndo" = some (.ref (cs 14))
  mj : mg "JoinError" = some (.ref je)
  mm : mg "MissingError" = some (.ref me)
  bv : mg "ValueError" = none
  bl : mg "LookupError" = none
  bo : mg "OverflowError" = none
  bk : mg "KeyError" = none
  bx : mg "IndexError" = none
def kindsV (i : Nat) : List Bool := (List.range 15).map fun j => decide (i = j)
def basesV (i : Nat) : List Bool := [isV i, isV i, decide (i = 7) || decide (i = 8), decide (i = 7) || decide (i = 8), decide (i = 9), false, false]
def spKinds (cs : Nat → Addr) : Sp := fun vs H Q _ => ∃ (a : Addr) (i : Nat), vs = [.ref a] ∧ i < 15 ∧ ExIs H a (cs i) ∧ ∀ q H', H' q = some (.lst ((kindsV i).map V.bl)) → Same H H' → Q (.ref q) H'
def spBases (cs : Nat → Addr) : Sp := fun vs H Q _ => ∃ (a : Addr) (i : Nat), vs = [.ref a] ∧ i < 15 ∧ ExIs H a (cs i) ∧ ∀ q H', H' q = some (.lst ((basesV i).map V.bl)) → Same H H' → Q (.ref q) H'
section
variable {P : Program} {w : World} {K : PySem.W.Frag} {mg : Str → Option Value} {base : Heap} {cs : Nat → Addr} {je me : Addr}
theorem scKinds : FnScope ["_law_error", "_law_found"] ["_law_error"] (defScope sKinds) := ⟨rfl, rfl, rfl, by decide +kernel, rfl, by decide +kernel, by decide +kernel⟩
theorem scBases : FnScope ["_law_error", "_law_found"] ["_law_error"] (defScope sBases) := ⟨rfl, rfl, rfl, by decide +kernel, rfl, by decide +kernel, by decide +kernel⟩
theorem isx {a C : Addr} {c : V} {u : Value} {b : Bool} {H : Hp} {Q : VK} (hc : ClsV c u) (hx : ExIs H a C) (T : XiT K C) (k : PySem.W.kitOne K (.ref C) u = some b) (q : Q (.bl b) H) : rIsX K [.ref a, c] H Q := ⟨a, C, c, u, b, rfl, hc, hx, T, k, q⟩
theorem ok_kinds {f : Addr} {fd : FuncData} (F : Fun K "_law_kinds" "_law_kinds" sKinds f fd) (T : ErrsT P w K mg base cs) (Z : KindT K mg cs je me) : FnOk P w K mg base CX0 1 f fd ["_law_error"] (spKinds cs) := by
  refine F.ok scKinds (fun vs H Q E h => ?_) (fun cdv A outer s H vs Q E hr h => ?_)
  · obtain ⟨a, i, rfl, _⟩ := h
    rfl
  · obtain ⟨a, i, rfl, hi, hx, k⟩ := h
    have is_ : ∀ {j : Nat} {x : Str} {p p1 p2 p3 : Pos}, mg x = some (.ref (cs j)) → (x == ("__debug__" : Str)) = false → (defScope sKinds).names.lookup x = some .globalImplicit →
        PE (cxOf CX0 P w K mg base ["_law_error", "_law_found"] "_law_kinds" (defScope sKinds) f cdv A outer s H E).nox (.Call (.Name "isinstance" p) [.Name "_law_error" p1, .Name x p2] [] p3) (tCB (rIsX K) (tCons (tVar 0) (tCons (tC (.ref (cs j))) tNil))) :=
      fun hm hd hl => pe_callB call_isX (by rfl) Z.isi (by decide +kernel) (pa_cons (pv 0) (pa_cons (pe_glob hl hm (v := .ref (cs _)) rfl (hd := hd)) pa_nil))
    refine ⟨_, pss_cons (ps_set (i := 1) scKinds.nd rfl (Or.inl rfl) (pe_lst (pa_cons (is_ T.e0.mg (by decide) rfl) (pa_cons (is_ T.e1.mg (by decide) rfl) (pa_cons (is_ T.e2.mg (by decide) rfl) pa_nil)))))
      (pss_cons (ps_set (i := 1) scKinds.nd rfl (Or.inl rfl) (pe_op op_cat (pv 1) (pe_lst (pa_cons (is_ T.e3.mg (by decide) rfl) (pa_cons (is_ T.e4.mg (by decide) rfl) pa_nil)))))
      (pss_cons (ps_set (i := 1) scKinds.nd rfl (Or.inl rfl) (pe_op op_cat (pv 1) (pe_lst (pa_cons (is_ T.e5.mg (by decide) rfl) (pa_cons (is_ T.e6.mg (by decide) rfl) pa_nil)))))
      (pss_cons (ps_set (i := 1) scKinds.nd rfl (Or.inl rfl) (pe_op op_cat (pv 1) (pe_lst (pa_cons (is_ T.e7.mg (by decide) rfl) (pa_cons (is_ T.e8.mg (by decide) rfl) (pa_cons (is_ T.e9.mg (by decide) rfl) pa_nil))))))
      (pss_cons (ps_set (i := 1) scKinds.nd rfl (Or.inl rfl) (pe_op op_cat (pv 1) (pe_lst (pa_cons (is_ T.e10.mg (by decide) rfl) (pa_cons (is_ T.e11.mg (by decide) rfl) (pa_cons (is_ T.e12.mg (by decide) rfl) pa_nil))))))
      (pss_one (ps_ret (pe_op op_cat (pv 1) (pe_lst (pa_cons (is_ Z.m13 (by decide) rfl) (pa_cons (is_ Z.m14 (by decide) rfl) pa_nil)))))))))), ?_⟩
    have s0 := Same.refl H
    refine ⟨_, rfl, a, cs i, _, _, _, rfl, .own _, ExIs.same hx s0, Z.xi i hi, Z.kk i 0 hi (by decide), ⟨_, rfl, a, cs i, _, _, _, rfl, .own _, ExIs.same hx s0, Z.xi i hi, Z.kk i 1 hi (by decide), ⟨_, rfl, a, cs i, _, _, _, rfl, .own _, ExIs.same hx s0, Z.xi i hi, Z.kk i 2 hi (by decide), ⟨by show 3 ≤ sizeLine; decide, fun q0 h0 => ?_⟩⟩⟩⟩
    have s1 : Same H _ := same_new h0 (.lst [.bl (decide (i = 0)), .bl (decide (i = 1)), .bl (decide (i = 2))])
    refine ⟨_, rfl, _, rfl, a, cs i, _, _, _, rfl, .own _, ExIs.same hx s1, Z.xi i hi, Z.kk i 3 hi (by decide), ⟨_, rfl, a, cs i, _, _, _, rfl, .own _, ExIs.same hx s1, Z.xi i hi, Z.kk i 4 hi (by decide), ⟨by show 2 ≤ sizeLine; decide, fun q1 h1 => ?_⟩⟩⟩
    have s2 := same_new h1 (.lst [.bl (decide (i = 3)), .bl (decide (i = 4))])
    refine ⟨q0, q1, _, _, rfl, rfl, s2 _ _ upd_same, upd_same, by show 3 + 2 ≤ sizeLine; decide, fun q2 h2 => ?_⟩
    have s3 := (s1.trans s2).trans (same_new h2 (.lst ([.bl (decide (i = 0)), .bl (decide (i = 1)), .bl (decide (i = 2))] ++ [.bl (decide (i = 3)), .bl (decide (i = 4))])))
    refine ⟨_, rfl, _, rfl, a, cs i, _, _, _, rfl, .own _, ExIs.same hx s3, Z.xi i hi, Z.kk i 5 hi (by decide), ⟨_, rfl, a, cs i, _, _, _, rfl, .own _, ExIs.same hx s3, Z.xi i hi, Z.kk i 6 hi (by decide), ⟨by show 2 ≤ sizeLine; decide, fun q3 h3 => ?_⟩⟩⟩
    have s4 := same_new h3 (.lst [.bl (decide (i = 5)), .bl (decide (i = 6))])
    refine ⟨q2, q3, _, _, rfl, rfl, s4 _ _ upd_same, upd_same, by show 5 + 2 ≤ sizeLine; decide, fun q4 h4 => ?_⟩
    have s5 := (s3.trans s4).trans (same_new h4 (.lst (([.bl (decide (i = 0)), .bl (decide (i = 1)), .bl (decide (i = 2))] ++ [.bl (decide (i = 3)), .bl (decide (i = 4))]) ++ [.bl (decide (i = 5)), .bl (decide (i = 6))])))
    refine ⟨_, rfl, _, rfl, a, cs i, _, _, _, rfl, .own _, ExIs.same hx s5, Z.xi i hi, Z.kk i 7 hi (by decide), ⟨_, rfl, a, cs i, _, _, _, rfl, .own _, ExIs.same hx s5, Z.xi i hi, Z.kk i 8 hi (by decide), ⟨_, rfl, a, cs i, _, _, _, rfl, .own _, ExIs.same hx s5, Z.xi i hi, Z.kk i 9 hi (by decide), ⟨by show 3 ≤ sizeLine; decide, fun q5 h5 => ?_⟩⟩⟩⟩
    have s6 := same_new h5 (.lst [.bl (decide (i = 7)), .bl (decide (i = 8)), .bl (decide (i = 9))])
    refine ⟨q4, q5, _, _, rfl, rfl, s6 _ _ upd_same, upd_same, by show 7 + 3 ≤ sizeLine; decide, fun q6 h6 => ?_⟩
    have s7 := (s5.trans s6).trans (same_new h6 (.lst ((([.bl (decide (i = 0)), .bl (decide (i = 1)), .bl (decide (i = 2))] ++ [.bl (decide (i = 3)), .bl (decide (i = 4))]) ++ [.bl (decide (i = 5)), .bl (decide (i = 6))]) ++ [.bl (decide (i = 7)), .bl (decide (i = 8)), .bl (decide (i = 9))])))
    refine ⟨_, rfl, _, rfl, a, cs i, _, _, _, rfl, .own _, ExIs.same hx s7, Z.xi i hi, Z.kk i 10 hi (by decide), ⟨_, rfl, a, cs i, _, _, _, rfl, .own _, ExIs.same hx s7, Z.xi i hi, Z.kk i 11 hi (by decide), ⟨_, rfl, a, cs i, _, _, _, rfl, .own _, ExIs.same hx s7, Z.xi i hi, Z.kk i 12 hi (by decide), ⟨by show 3 ≤ sizeLine; decide, fun q7 h7 => ?_⟩⟩⟩⟩
    have s8 := same_new h7 (.lst [.bl (decide (i = 10)), .bl (decide (i = 11)), .bl (decide (i = 12))])
    refine ⟨q6, q7, _, _, rfl, rfl, s8 _ _ upd_same, upd_same, by show 10 + 3 ≤ sizeLine; decide, fun q8 h8 => ?_⟩
    have s9 := (s7.trans s8).trans (same_new h8 (.lst (((([.bl (decide (i = 0)), .bl (decide (i = 1)), .bl (decide (i = 2))] ++ [.bl (decide (i = 3)), .bl (decide (i = 4))]) ++ [.bl (decide (i = 5)), .bl (decide (i = 6))]) ++ [.bl (decide (i = 7)), .bl (decide (i = 8)), .bl (decide (i = 9))]) ++ [.bl (decide (i = 10)), .bl (decide (i = 11)), .bl (decide (i = 12))])))
    refine ⟨_, rfl, _, rfl, a, cs i, _, _, _, rfl, .own _, ExIs.same hx s9, Z.xi i hi, Z.kk i 13 hi (by decide), ⟨_, rfl, a, cs i, _, _, _, rfl, .own _, ExIs.same hx s9, Z.xi i hi, Z.kk i 14 hi (by decide), ⟨by show 2 ≤ sizeLine; decide, fun q9 h9 => ?_⟩⟩⟩
    have s10 := same_new h9 (.lst [.bl (decide (i = 13)), .bl (decide (i = 14))])
    refine ⟨q8, q9, _, _, rfl, rfl, s10 _ _ upd_same, upd_same, by show 13 + 2 ≤ sizeLine; decide, fun q10 h10 => ?_⟩
    exact k q10 _ upd_same ((s9.trans s10).trans (same_new h10 (.lst ((((([.bl (decide (i = 0)), .bl (decide (i = 1)), .bl (decide (i = 2))] ++ [.bl (decide (i = 3)), .bl (decide (i = 4))]) ++ [.bl (decide (i = 5)), .bl (decide (i = 6))]) ++ [.bl (decide (i = 7)), .bl (decide (i = 8)), .bl (decide (i = 9))]) ++ [.bl (decide (i = 10)), .bl (decide (i = 11)), .bl (decide (i = 12))]) ++ [.bl (decide (i = 13)), .bl (decide (i = 14))]))))
theorem ok_bases {f : Addr} {fd : FuncData} (F : Fun K "_law_bases" "_law_bases" sBases f fd) (Z : KindT K mg cs je me) : FnOk P w K mg base CX0 1 f fd ["_law_error"] (spBases cs) := by
  refine F.ok scBases (fun vs H Q E h => ?_) (fun cdv A outer s H vs Q E hr h => ?_)
  · obtain ⟨a, i, rfl, _⟩ := h
    rfl
  · obtain ⟨a, i, rfl, hi, hx, k⟩ := h
    refine ⟨_, pss_cons (ps_set (i := 1) scBases.nd rfl (Or.inl rfl) (pe_lst (pa_cons (pe_callB call_isX (by rfl) Z.isi (by decide +kernel) (pa_cons (pv 0) (pa_cons (pe_glob rfl Z.mj (v := .ref je) rfl) pa_nil)))
        (pa_cons (pe_callB call_isX (by rfl) Z.isi (by decide +kernel) (pa_cons (pv 0) (pa_cons (pe_bltn (by rfl) Z.bv (by decide +kernel) (v := .ty "ValueError") rfl) pa_nil)))
        (pa_cons (pe_callB call_isX (by rfl) Z.isi (by decide +kernel) (pa_cons (pv 0) (pa_cons (pe_glob rfl Z.mm (v := .ref me) rfl) pa_nil))) pa_nil)))))
      (pss_cons (ps_set (i := 1) scBases.nd rfl (Or.inl rfl) (pe_op op_cat (pv 1) (pe_lst (pa_cons (pe_callB call_isX (by rfl) Z.isi (by decide +kernel) (pa_cons (pv 0) (pa_cons (pe_bltn (by rfl) Z.bl (by decide +kernel) (v := .ty "LookupError") rfl) pa_nil)))
        (pa_cons (pe_callB call_isX (by rfl) Z.isi (by decide +kernel) (pa_cons (pv 0) (pa_cons (pe_bltn (by rfl) Z.bo (by decide +kernel) (v := .ty "OverflowError") rfl) pa_nil))) pa_nil)))))
      (pss_one (ps_ret (pe_op op_cat (pv 1) (pe_lst (pa_cons (pe_callB call_isX (by rfl) Z.isi (by decide +kernel) (pa_cons (pv 0) (pa_cons (pe_bltn (by rfl) Z.bk (by decide +kernel) (v := .ty "KeyError") rfl) pa_nil)))
        (pa_cons (pe_callB call_isX (by rfl) Z.isi (by decide +kernel) (pa_cons (pv 0) (pa_cons (pe_bltn (by rfl) Z.bx (by decide +kernel) (v := .ty "IndexError") rfl) pa_nil))) pa_nil))))))), ?_⟩
    have X := Z.xi i hi
    have s0 := Same.refl H
    refine ⟨_, rfl, a, cs i, _, _, _, rfl, .own _, hx, X, Z.kj i hi, ⟨_, rfl, a, cs i, _, _, _, rfl, .ty _, hx, X, Z.kv i hi, ⟨_, rfl, a, cs i, _, _, _, rfl, .own _, hx, X, Z.km i hi, ⟨by show 3 ≤ sizeLine; decide, fun q0 h0 => ?_⟩⟩⟩⟩
    have s1 : Same H _ := same_new h0 (.lst [.bl (isV i), .bl (isV i), .bl (decide (i = 7) || decide (i = 8))])
    have x1 := ExIs.same hx s1
    refine ⟨_, rfl, _, rfl, a, cs i, _, _, _, rfl, .ty _, x1, X, Z.kl i hi, ⟨_, rfl, a, cs i, _, _, _, rfl, .ty _, x1, X, Z.ko i hi, ⟨by show 2 ≤ sizeLine; decide, fun q1 h1 => ?_⟩⟩⟩
    have s2 := same_new h1 (.lst [.bl (decide (i = 7) || decide (i = 8)), .bl (decide (i = 9))])
    refine ⟨q0, q1, _, _, rfl, rfl, s2 _ _ upd_same, upd_same, by show 3 + 2 ≤ sizeLine; decide, fun q2 h2 => ?_⟩
    have s3 := (s1.trans s2).trans (same_new h2 (.lst ([.bl (isV i), .bl (isV i), .bl (decide (i = 7) || decide (i = 8))] ++ [.bl (decide (i = 7) || decide (i = 8)), .bl (decide (i = 9))])))
    have x3 := ExIs.same hx s3
    refine ⟨_, rfl, _, rfl, a, cs i, _, _, _, rfl, .ty _, x3, X, Z.ke i hi, ⟨_, rfl, a, cs i, _, _, _, rfl, .ty _, x3, X, Z.kx i hi, ⟨by show 2 ≤ sizeLine; decide, fun q3 h3 => ?_⟩⟩⟩
    have s4 := same_new h3 (.lst [.bl false, .bl false])
    refine ⟨q2, q3, _, _, rfl, rfl, s4 _ _ upd_same, upd_same, by show 5 + 2 ≤ sizeLine; decide, fun q4 h4 => ?_⟩
    exact k q4 _ upd_same ((s3.trans s4).trans (same_new h4 (.lst (([.bl (isV i), .bl (isV i), .bl (decide (i = 7) || decide (i = 8))] ++ [.bl (decide (i = 7) || decide (i = 8)), .bl (decide (i = 9))]) ++ [.bl false, .bl false]))))
end
end Sk
namespace Sk
open PySem L2 Sup Grd Shw Exg
open C8 (pss_cut tCut)
abbrev sNamed : Stmt := top 34
def bigD (d e : PyData) : PyData := .list ([d, d, d, d, d, d, d, d, d, d] ++ [d, e, d, e, d, e])
def spNamed (K : PySem.W.Frag) : Sp := fun vs H Q _ => ∃ (v u : V) (d e : PyData), vs = [v, u] ∧ Dq K H v d ∧ Dq K H u e ∧ Smalls d ∧ Smalls e ∧ Fit (bigD d e) ∧ ∀ H', Same H H' → Q (.bl true) H'
section
variable {P : Program} {w : World} {K : PySem.W.Frag} {mg : Str → Option Value} {base : Heap} {cs : Nat → Addr}
def namedN : List Str := ["_law_thing", "_law_other", "_law_found", "_law_one", "_law_two", "_law_three", "_law_pairs"]
theorem scNamed : FnScope namedN ["_law_thing", "_law_other"] (defScope sNamed) := ⟨rfl, rfl, rfl, by decide +kernel, rfl, by decide +kernel, by decide +kernel⟩
theorem ok_named {f : Addr} {fd : FuncData} (F : Fun K "_law_named_right" "_law_named_right" sNamed f fd) (T : ErrsT P w K mg base cs) (mr : mg "repr" = none) : FnG P w K mg base CX0 3 f fd ["_law_thing", "_law_other"] (spNamed K) := by
  refine fun_g F scNamed (fun vs H Q E h => ?_) (fun cdv A outer s H vs Q E hgu hr h => ?_)
  · obtain ⟨v, u, d, e, rfl, _⟩ := h
    rfl
  · obtain ⟨v, u, d, e, rfl, hv, hu, sm, sn, ft, k⟩ := h
    refine ⟨_, pss_cons (ps_set (i := 2) scNamed.nd rfl (Or.inl rfl) (pe_lst (pa_cons (pe_fldE (pe_e1K T.e0 hgu hr rfl (pk_cons (pv 0) pk_nil))) (pa_cons (pe_fldE (pe_e1K T.e1 hgu hr rfl (pk_cons (pv 0) pk_nil))) (pa_cons (pe_fldE (pe_e1K T.e2 hgu hr rfl (pk_cons (pv 0) pk_nil))) pa_nil)))))
      (pss_cons (ps_set (i := 2) scNamed.nd rfl (Or.inl rfl) (pe_op op_cat (pv 2) (pe_lst (pa_cons (pe_fldE (pe_e1K T.e3 hgu hr rfl (pk_cons (pv 0) pk_nil))) (pa_cons (pe_fldE (pe_e1K T.e4 hgu hr rfl (pk_cons (pv 0) pk_nil))) pa_nil)))))
      (pss_cons (ps_set (i := 2) scNamed.nd rfl (Or.inl rfl) (pe_op op_cat (pv 2) (pe_lst (pa_cons (pe_fldE (pe_e1K T.e5 hgu hr rfl (pk_cons (pv 0) pk_nil))) (pa_cons (pe_fldE (pe_e1K T.e6 hgu hr rfl (pk_cons (pv 0) pk_nil))) (pa_cons (pe_fldE (pe_e1K T.e7 hgu hr rfl (pk_cons (pv 0) pk_nil))) pa_nil))))))
      (pss_cons (ps_set (i := 2) scNamed.nd rfl (Or.inl rfl) (pe_op op_cat (pv 2) (pe_lst (pa_cons (pe_fldE (pe_e1K T.e8 hgu hr rfl (pk_cons (pv 0) pk_nil))) (pa_cons (pe_fldE (pe_e1K T.e9 hgu hr rfl (pk_cons (pv 0) pk_nil))) pa_nil)))))
      (pss_cons (ps_par (i := 3) (j := 4) rfl scNamed.nd rfl rfl (by decide) rfl rfl (pa_cons (pe_e2K T.e10 hgu hr rfl (pk_cons (pv 1) (pk_cons (pv 0) pk_nil))) (pa_cons (pe_e2K T.e11 hgu hr rfl (pk_cons (pv 1) (pk_cons (pv 0) pk_nil))) pa_nil)) (by rfl))
      (pss_cons (ps_set (i := 5) scNamed.nd rfl (Or.inl rfl) (pe_e2K T.e12 hgu hr rfl (pk_cons (pv 1) (pk_cons (pv 0) pk_nil))))
      (pss_cons (ps_set (i := 6) scNamed.nd rfl (Or.inl rfl) (pe_lst (pa_cons (pe_fldE (pv 3)) (pa_cons (pe_fldE (pv 3)) (pa_cons (pe_fldE (pv 4)) (pa_cons (pe_fldE (pv 4)) (pa_cons (pe_fldE (pv 5)) (pa_cons (pe_fldE (pv 5)) pa_nil))))))))
      (pss_one (ps_ret (pe_cmpR op_eq (pe_callB (call_show hgu hr.units) (by rfl) mr (by decide +kernel) (pa_cons (pe_op op_catN (pv 2) (pv 6)) pa_nil)) (pe_callB (call_show hgu hr.units) (by rfl) mr (by decide +kernel) (pa_cons (pe_op op_catN (pe_op op_rep (pe_lst (pa_cons (pv 0) pa_nil)) pe_int) (pe_op op_rep (pe_lst (pa_cons (pv 0) (pa_cons (pv 1) pa_nil))) pe_int)) pa_nil)) (nomark _)))))))))), ?_⟩
    have t0 := Same.refl H
    have it : ∀ {H1 : Hp}, Same H H1 → Dq K H1 v d := fun t => Dq.same t _ _ hv
    have iu : ∀ {H1 : Hp}, Same H H1 → Dq K H1 u e := fun t => Dq.same t _ _ hu
    refine ⟨_, rfl, d, it t0, sm, fun a1 H1 n1 x1 s1 => ⟨a1, cs 0, _, v, rfl, x1, T.e0.xf, T.e0.no, lookup1 _ _, ?_⟩⟩
    have t1 := t0.trans s1
    refine ⟨_, rfl, d, it t1, sm, fun a2 H2 n2 x2 s2 => ⟨a2, cs 1, _, v, rfl, x2, T.e1.xf, T.e1.no, lookup1 _ _, ?_⟩⟩
    have t2 := t1.trans s2
    refine ⟨_, rfl, d, it t2, sm, fun a3 H3 n3 x3 s3 => ⟨a3, cs 2, _, v, rfl, x3, T.e2.xf, T.e2.no, lookup1 _ _, ?_⟩⟩
    have t3 := t2.trans s3
    refine ⟨by show 3 ≤ sizeLine; decide, fun q4 h4 => ?_⟩
    obtain ⟨H4, e4⟩ : ∃ H4, H4 = upd H3 q4 (.lst [v, v, v]) := ⟨_, rfl⟩
    have s4 : Same H3 H4 := e4 ▸ same_new h4 _
    have t4 := t3.trans s4
    have f4 : H4 q4 = some (.lst [v, v, v]) := by rw [e4]; exact upd_same
    rw [show (upd H3 q4 (.lst [v, v, v])) = H4 from e4.symm]
    refine ⟨_, rfl, _, rfl, d, it t4, sm, fun a5 H5 n5 x5 s5 => ⟨a5, cs 3, _, v, rfl, x5, T.e3.xf, T.e3.no, lookup1 _ _, ?_⟩⟩
    have t5 := t4.trans s5
    refine ⟨_, rfl, d, it t5, sm, fun a6 H6 n6 x6 s6 => ⟨a6, cs 4, _, v, rfl, x6, T.e4.xf, T.e4.no, lookup1 _ _, ?_⟩⟩
    have t6 := t5.trans s6
    refine ⟨by show 2 ≤ sizeLine; decide, fun q7 h7 => ?_⟩
    obtain ⟨H7, e7⟩ : ∃ H7, H7 = upd H6 q7 (.lst [v, v]) := ⟨_, rfl⟩
    have s7 : Same H6 H7 := e7 ▸ same_new h7 _
    have t7 := t6.trans s7
    have f7 : H7 q7 = some (.lst [v, v]) := by rw [e7]; exact upd_same
    rw [show (upd H6 q7 (.lst [v, v])) = H7 from e7.symm]
    refine ⟨q4, q7, _, _, rfl, rfl, ((s5.trans s6).trans s7) _ _ f4, f7, by show 3 + 2 ≤ sizeLine; decide, fun q8 h8 => ?_⟩
    obtain ⟨H8, e8⟩ : ∃ H8, H8 = upd H7 q8 (.lst ([v, v, v] ++ [v, v])) := ⟨_, rfl⟩
    have s8 : Same H7 H8 := e8 ▸ same_new h8 _
    have t8 := t7.trans s8
    have f8 : H8 q8 = some (.lst ([v, v, v] ++ [v, v])) := by rw [e8]; exact upd_same
    rw [show (upd H7 q8 (.lst ([v, v, v] ++ [v, v]))) = H8 from e8.symm]
    refine ⟨_, rfl, _, rfl, d, it t8, sm, fun a9 H9 n9 x9 s9 => ⟨a9, cs 5, _, v, rfl, x9, T.e5.xf, T.e5.no, lookup1 _ _, ?_⟩⟩
    have t9 := t8.trans s9
    refine ⟨_, rfl, d, it t9, sm, fun a10 H10 n10 x10 s10 => ⟨a10, cs 6, _, v, rfl, x10, T.e6.xf, T.e6.no, lookup1 _ _, ?_⟩⟩
    have t10 := t9.trans s10
    refine ⟨_, rfl, d, it t10, sm, fun a11 H11 n11 x11 s11 => ⟨a11, cs 7, _, v, rfl, x11, T.e7.xf, T.e7.no, lookup1 _ _, ?_⟩⟩
    have t11 := t10.trans s11
    refine ⟨by show 3 ≤ sizeLine; decide, fun q12 h12 => ?_⟩
    obtain ⟨H12, e12⟩ : ∃ H12, H12 = upd H11 q12 (.lst [v, v, v]) := ⟨_, rfl⟩
    have s12 : Same H11 H12 := e12 ▸ same_new h12 _
    have t12 := t11.trans s12
    have f12 : H12 q12 = some (.lst [v, v, v]) := by rw [e12]; exact upd_same
    rw [show (upd H11 q12 (.lst [v, v, v])) = H12 from e12.symm]
    refine ⟨q8, q12, _, _, rfl, rfl, (((s9.trans s10).trans s11).trans s12) _ _ f8, f12, by show 5 + 3 ≤ sizeLine; decide, fun q13 h13 => ?_⟩
    obtain ⟨H13, e13⟩ : ∃ H13, H13 = upd H12 q13 (.lst (([v, v, v] ++ [v, v]) ++ [v, v, v])) := ⟨_, rfl⟩
    have s13 : Same H12 H13 := e13 ▸ same_new h13 _
    have t13 := t12.trans s13
    have f13 : H13 q13 = some (.lst (([v, v, v] ++ [v, v]) ++ [v, v, v])) := by rw [e13]; exact upd_same
    rw [show (upd H12 q13 (.lst (([v, v, v] ++ [v, v]) ++ [v, v, v]))) = H13 from e13.symm]
    refine ⟨_, rfl, _, rfl, d, it t13, sm, fun a14 H14 n14 x14 s14 => ⟨a14, cs 8, _, v, rfl, x14, T.e8.xf, T.e8.no, lookup1 _ _, ?_⟩⟩
    have t14 := t13.trans s14
    refine ⟨_, rfl, d, it t14, sm, fun a15 H15 n15 x15 s15 => ⟨a15, cs 9, _, v, rfl, x15, T.e9.xf, T.e9.no, lookup1 _ _, ?_⟩⟩
    have t15 := t14.trans s15
    refine ⟨by show 2 ≤ sizeLine; decide, fun q16 h16 => ?_⟩
    obtain ⟨H16, e16⟩ : ∃ H16, H16 = upd H15 q16 (.lst [v, v]) := ⟨_, rfl⟩
    have s16 : Same H15 H16 := e16 ▸ same_new h16 _
    have t16 := t15.trans s16
    have f16 : H16 q16 = some (.lst [v, v]) := by rw [e16]; exact upd_same
    rw [show (upd H15 q16 (.lst [v, v])) = H16 from e16.symm]
    refine ⟨q13, q16, _, _, rfl, rfl, ((s14.trans s15).trans s16) _ _ f13, f16, by show 8 + 2 ≤ sizeLine; decide, fun q17 h17 => ?_⟩
    obtain ⟨H17, e17⟩ : ∃ H17, H17 = upd H16 q17 (.lst ((([v, v, v] ++ [v, v]) ++ [v, v, v]) ++ [v, v])) := ⟨_, rfl⟩
    have s17 : Same H16 H17 := e17 ▸ same_new h17 _
    have t17 := t16.trans s17
    have f17 : H17 q17 = some (.lst ((([v, v, v] ++ [v, v]) ++ [v, v, v]) ++ [v, v])) := by rw [e17]; exact upd_same
    rw [show (upd H16 q17 (.lst ((([v, v, v] ++ [v, v]) ++ [v, v, v]) ++ [v, v]))) = H17 from e17.symm]
    refine ⟨_, rfl, _, rfl, d, e, it t17, iu t17, sm, sn, fun a18 H18 n18 x18 s18 => ?_⟩
    have t18 := t17.trans s18
    refine ⟨_, rfl, _, rfl, d, e, it t18, iu t18, sm, sn, fun a19 H19 n19 x19 s19 => ⟨_, _, rfl, ?_⟩⟩
    have t19 := t18.trans s19
    refine ⟨_, rfl, _, rfl, d, e, it t19, iu t19, sm, sn, fun a20 H20 n20 x20 s20 => ?_⟩
    have t20 := t19.trans s20
    refine ⟨_, rfl, a18, cs 10, _, v, rfl, (ExAt.same x18 (s19.trans s20)), T.e10.xf, T.e10.no, lookup2b (by decide +kernel) _ _, _, rfl, a18, cs 10, _, u, rfl, (ExAt.same x18 (s19.trans s20)), T.e10.xf, T.e10.no2, lookup2a _ _ _ _, _, rfl, a19, cs 11, _, v, rfl, (ExAt.same x19 s20), T.e11.xf, T.e11.no, lookup2b (by decide +kernel) _ _, _, rfl, a19, cs 11, _, u, rfl, (ExAt.same x19 s20), T.e11.xf, T.e11.no2, lookup2a _ _ _ _, _, rfl, a20, cs 12, _, v, rfl, (ExAt.same x20 (Same.refl H20)), T.e12.xf, T.e12.no, lookup2b (by decide +kernel) _ _, _, rfl, a20, cs 12, _, u, rfl, (ExAt.same x20 (Same.refl H20)), T.e12.xf, T.e12.no2, lookup2a _ _ _ _, by show 6 ≤ sizeLine; decide, fun q21 h21 => ?_⟩
    obtain ⟨H21, e21⟩ : ∃ H21, H21 = upd H20 q21 (.lst [v, u, v, u, v, u]) := ⟨_, rfl⟩
    have s21 : Same H20 H21 := e21 ▸ same_new h21 _
    have t21 := t20.trans s21
    have f21 : H21 q21 = some (.lst [v, u, v, u, v, u]) := by rw [e21]; exact upd_same
    rw [show (upd H20 q21 (.lst [v, u, v, u, v, u])) = H21 from e21.symm]
    refine ⟨_, rfl, _, rfl, q17, q21, _, _, rfl, rfl, (((s18.trans s19).trans s20).trans s21) _ _ f17, f21, by show 10 + 6 ≤ sizeLine; decide, fun q22 h22 w22 => ?_⟩
    obtain ⟨H22, e22⟩ : ∃ H22, H22 = upd H21 q22 (.lst (((([v, v, v] ++ [v, v]) ++ [v, v, v]) ++ [v, v]) ++ [v, u, v, u, v, u])) := ⟨_, rfl⟩
    have s22 : Same H21 H22 := e22 ▸ same_new h22 _
    have t22 := t21.trans s22
    have f22 : H22 q22 = some (.lst (((([v, v, v] ++ [v, v]) ++ [v, v, v]) ++ [v, v]) ++ [v, u, v, u, v, u])) := by rw [e22]; exact upd_same
    rw [show (upd H21 q22 (.lst (((([v, v, v] ++ [v, v]) ++ [v, v, v]) ++ [v, v]) ++ [v, u, v, u, v, u]))) = H22 from e22.symm]
    have bigOk : ∀ {H' : Hp} {q : Addr}, Same H H' → sysModules ≠ q → H' q = some (.lst [v, v, v, v, v, v, v, v, v, v, v, u, v, u, v, u]) → Dq K H' (.ref q) (bigD d e) := by
      intro H' q t w z
      have p := it t
      have r := iu t
      exact .lst w (SqL.of z) (.cons p (.cons p (.cons p (.cons p (.cons p (.cons p (.cons p (.cons p (.cons p (.cons p (.cons p (.cons r (.cons p (.cons r (.cons p (.cons r .nil))))))))))))))))
    refine ⟨_, _, rfl, bigOk t22 w22 f22, ft, ?_⟩
    refine ⟨_, rfl, by show 1 ≤ sizeLine; decide, fun q23 h23 => ?_⟩
    obtain ⟨H23, e23⟩ : ∃ H23, H23 = upd H22 q23 (.lst [v]) := ⟨_, rfl⟩
    have s23 : Same H22 H23 := e23 ▸ same_new h23 _
    have t23 := t22.trans s23
    have f23 : H23 q23 = some (.lst [v]) := by rw [e23]; exact upd_same
    rw [show (upd H22 q23 (.lst [v])) = H23 from e23.symm]
    refine ⟨q23, 10, [v], rfl, rfl, f23, by decide, by decide, by show 1 * 10 ≤ sizeLine; decide, fun q24 h24 => ?_⟩
    obtain ⟨H24, e24⟩ : ∃ H24, H24 = upd H23 q24 (.lst (List.replicate (Int.toNat 10) [v]).flatten) := ⟨_, rfl⟩
    have s24 : Same H23 H24 := e24 ▸ same_new h24 _
    have t24 := t23.trans s24
    have f24 : H24 q24 = some (.lst (List.replicate (Int.toNat 10) [v]).flatten) := by rw [e24]; exact upd_same
    rw [show (upd H23 q24 (.lst (List.replicate (Int.toNat 10) [v]).flatten)) = H24 from e24.symm]
    refine ⟨_, rfl, _, rfl, by show 2 ≤ sizeLine; decide, fun q25 h25 => ?_⟩
    obtain ⟨H25, e25⟩ : ∃ H25, H25 = upd H24 q25 (.lst [v, u]) := ⟨_, rfl⟩
    have s25 : Same H24 H25 := e25 ▸ same_new h25 _
    have t25 := t24.trans s25
    have f25 : H25 q25 = some (.lst [v, u]) := by rw [e25]; exact upd_same
    rw [show (upd H24 q25 (.lst [v, u])) = H25 from e25.symm]
    refine ⟨q25, 3, [v, u], rfl, rfl, f25, by decide, by decide, by show 2 * 3 ≤ sizeLine; decide, fun q26 h26 => ?_⟩
    obtain ⟨H26, e26⟩ : ∃ H26, H26 = upd H25 q26 (.lst (List.replicate (Int.toNat 3) [v, u]).flatten) := ⟨_, rfl⟩
    have s26 : Same H25 H26 := e26 ▸ same_new h26 _
    have t26 := t25.trans s26
    have f26 : H26 q26 = some (.lst (List.replicate (Int.toNat 3) [v, u]).flatten) := by rw [e26]; exact upd_same
    rw [show (upd H25 q26 (.lst (List.replicate (Int.toNat 3) [v, u]).flatten)) = H26 from e26.symm]
    refine ⟨q24, q26, _, _, rfl, rfl, (s25.trans s26) _ _ f24, f26, by show 10 + 6 ≤ sizeLine; decide, fun q27 h27 w27 => ?_⟩
    refine ⟨_, _, rfl, bigOk (t26.trans (same_new h27 _)) w27 upd_same, ft, ?_⟩
    refine ⟨rfl, ?_⟩
    rw [decide_eq_true rfl]
    exact k _ (t26.trans (same_new h27 _))
end
end Sk
namespace Sk
open PySem L2 Sup Grd Shw Exg
open C8 (pss_cut tCut)
abbrev sErr : Stmt := top 35
abbrev sErrB (i : Nat) : Stmt := (defBody sErr).getD i (.Pass ⟨0, 0, 0, 0⟩)
def errN : List Str := ["_law_pen_here", "_law_some", "_law_thing", "_law_other", "_law_rows", "_law_at", "_law_error", "_law_kept", "_law_above", "_law_k"]
theorem scErr : FnScope errN ["_law_pen_here"] (defScope sErr) := ⟨rfl, rfl, rfl, by decide +kernel, rfl, by decide +kernel, by decide +kernel⟩
/-- a def that is called by its name -/
structure CalG (P : Program) (w : World) (K : PySem.W.Frag) (mg : Str → Option Value) (base : Heap) (nm : Str) (n : Nat) (ps : List Str) (sp : Sp) : Prop where
  ex : ∃ (f : Addr) (fd : FuncData), FnG P w K mg base CX0 n f fd ps sp ∧ mg nm = some (.ref f) ∧ PySem.W.keepIn K (.ref f) = true ∧ Binds K fd ps []
structure CalO (P : Program) (w : World) (K : PySem.W.Frag) (mg : Str → Option Value) (base : Heap) (nm : Str) (n : Nat) (ps : List Str) (sp : Sp) : Prop where
  ex : ∃ (f : Addr) (fd : FuncData), FnOk P w K mg base CX0 n f fd ps sp ∧ mg nm = some (.ref f) ∧ PySem.W.keepIn K (.ref f) = true ∧ Binds K fd ps []
structure LoopT (P : Program) (w : World) (K : PySem.W.Frag) (mg : Str → Option Value) (base : Heap) (cs : Nat → Addr) : Prop where
  kinds : CalO P w K mg base "_law_kinds" 1 ["_law_error"] (spKinds cs)
  bases : CalO P w K mg base "_law_bases" 1 ["_law_error"] (spBases cs)
  repr : mg "repr" = none
  range : mg "range" = none
  enum : mg "enumerate" = none
def rightV (j : Nat) (n : Nat) : List Bool := (List.range n).map fun (k : Nat) => decide (V.int ((0 : Int) + (k : Int)) = V.int (j : Int))
def aboveV (j : Nat) : List Bool := [decide ((7 : Int) > j) || decide ((j : Int) > 9), decide ((j : Int) < 7) || decide ((j : Int) > 9), inV (.int j) [.int 7, .int 8], inV (.int j) [.int 7, .int 8], decide (V.int (j : Int) = .int 9)]
theorem kinds_eqv : ∀ j, j < 15 → PyData.eqv (.list ((kindsV j).map .bool)) (.list ((rightV j 15).map .bool)) = true := by decide +kernel
theorem bases_eqv : ∀ j, j < 15 → PyData.eqv (.list ((basesV j).map .bool)) (.list ((aboveV j ++ [false, false]).map .bool)) = true := by decide +kernel
theorem dp_bools {K : PySem.W.Frag} {H : Hp} : ∀ bs : List Bool, DpAll K H (bs.map V.bl) (bs.map PyData.bool)
  | [] => .nil
  | b :: bs => .cons (.bl b) (dp_bools bs)
theorem shaped_bools (bs : List Bool) (h : SeqAt.shaped (.list (bs.map PyData.bool)) = true) : SeqAt.shaped (.list (bs.map PyData.bool)) = true := h
theorem shaped_k : ∀ j, j < 15 → SeqAt.shaped (.list ((kindsV j).map PyData.bool)) = true ∧ SeqAt.shaped (.list ((rightV j 15).map PyData.bool)) = true ∧ SeqAt.shaped (.list ((basesV j).map PyData.bool)) = true ∧ SeqAt.shaped (.list ((aboveV j ++ [false, false]).map PyData.bool)) = true := by decide +kernel
theorem ne_same (v : V) : (!decide (v = v)) = false := by
  rw [decide_eq_true rfl]
  rfl
section
variable {P : Program} {w : World} {K : PySem.W.Frag} {mg : Str → Option Value} {base : Heap} {cs : Nat → Addr}
def errSt (p so q : Addr) (v u : V) (o5 o6 o7 o8 o9 : Option V) : L2.St := [some (.ref p), some (.ref so), some v, some u, some (.ref q), o5, o6, o7, o8, o9]
theorem errs_loop {f : Addr} {cdv : Value} {A : Around} {outer : List Env} {s : Shared} {H0 : Hp} {E : XK} (T : LoopT P w K mg base cs) (hgu : A.guards = some []) (hr : Room 3 (A.deeper (PyProof.Rows.envOfC "_law_errors_right" (defScope sErr) s.heap.objs.size f cdv))) :
    ∃ t, PS (cxOf CX0 P w K mg base errN "_law_errors_right" (defScope sErr) f cdv A outer s H0 E).nox (sErrB 4) t ∧
      ∀ (p so q : Addr) (v u : V) (d e : PyData) (rs : List Row) (H : Hp) (D : Ends), RowsAt K cs H q rs → rs.map (·.i) = List.range 15 → (∀ r ∈ rs, r.d = if 10 ≤ r.i ∧ r.i < 13 then .tuple [d, e] else d) → Dq K H v d → Dq K H u e → Smalls d → Smalls e → Smalls (.tuple [d, e]) →
        (∀ σ' H', Same H H' → D.nx σ' H') → t D (errSt p so q v u none none none none none) H := by
  obtain ⟨⟨fK, fdK, GK, mK, kK, bK⟩⟩ := T.kinds
  obtain ⟨⟨fB, fdB, GB, mB, kB, bB⟩⟩ := T.bases
  have hr1 : Room 1 (A.deeper (PyProof.Rows.envOfC "_law_errors_right" (defScope sErr) s.heap.objs.size f cdv)) := hr.mono (by decide)
  refine ⟨_, ps_for PassesOwn.never rfl (pi_enum rfl T.enum (pa_cons (pv 4) pa_nil)) (pg_tup rfl (pgs_cons (pg_name (i := 5) scErr.nd rfl (Or.inr rfl)) (pgs_cons (pg_tup rfl (pgs_cons (pg_name (i := 6) scErr.nd rfl (Or.inl rfl)) (pgs_cons (pg_name (i := 7) scErr.nd rfl (Or.inl rfl)) pgs_nil))) pgs_nil)))
    (pss_cut (ps_if (pt_cmpR op_ne (pe_callB (call_show hgu hr.units) (by rfl) T.repr (by decide +kernel) (pa_cons (pv 7) pa_nil))
        (pe_callB (call_show hgu hr.units) (by rfl) T.repr (by decide +kernel) (pa_cons (pe_ifExp (pt_chain op_le op_lt pe_int (pv 5) pe_int) (pe_tup (pa_cons (pv 2) (pa_cons (pv 3) pa_nil))) (pv 2)) pa_nil)) (nomark _)) (pss_one (ps_ret pe_bl)) pss_nil)
    (pss_cons (ps_if (pt_cmpR (op_neD hr.units) (pe_call GK hr1 rfl mK kK bK .nil pass0 (pa_cons (pv 6) pa_nil))
        (pe_lc (te := tOp rEq (tVar 9) (tVar 5)) (own := [("_law_k", 9)]) (g := gName 9) (tt := tYes) rfl scErr.nd (pi_range1 rfl T.range (pa_cons pe_int pa_nil)) (blkOk_by (N := errN) (sc := defScope sErr) (by decide +kernel)) (fun _ _ _ _ _ => pg_name (i := 9) scErr.nd rfl (Or.inl rfl)) (fun _ _ _ _ _ => pts_nil)
          (fun _ _ _ _ _ => pe_cmpR op_eq (pv 9) (pv 5) (nomark _))) (nomark _)) (pss_one (ps_ret pe_bl)) pss_nil)
    (pss_cut (ps_set (i := 8) scErr.nd rfl (Or.inl rfl) (pe_lst (pa_cons (pe_or (pe_cmpR op_gt pe_int (pv 5) (nomark _)) (pe_one (pe_cmpR op_gt (pv 5) pe_int (nomark _))))
        (pa_cons (pe_or (pe_cmpR op_lt (pv 5) pe_int (nomark _)) (pe_one (pe_cmpR op_gt (pv 5) pe_int (nomark _))))
        (pa_cons (pe_cmpR op_in_seq (pv 5) (pe_tup (pa_cons pe_int (pa_cons pe_int pa_nil))) (by rfl)) (pa_cons (pe_cmpR op_in_seq (pv 5) (pe_tup (pa_cons pe_int (pa_cons pe_int pa_nil))) (by rfl)) (pa_cons (pe_cmpR op_eq (pv 5) pe_int (nomark _)) pa_nil)))))))
    (pss_one (ps_if (pt_cmpR (op_neD hr.units) (pe_call GB hr1 rfl mB kB bB .nil pass0 (pa_cons (pv 6) pa_nil)) (pe_op op_cat (pv 8) (pe_lst (pa_cons pe_bl (pa_cons pe_bl pa_nil)))) (nomark _)) (pss_one (ps_ret pe_bl)) pss_nil))))), ?_⟩
  refine fun p so q v u d e rs H D hR hi hd hv hu sm sn sp after => ?_
  have hlen : (rs.map fun r => V.ref r.t).length = 15 := by
    rw [List.length_map, ← List.length_map (f := (·.i)), hi]
    rfl
  refine ⟨_, rfl, q, _, rfl, SqL.of hR.1, for_it (walk_enum (xs := rs.map fun r => V.ref r.t)) (fun i σ H' => ∃ o5 o6 o7 o8 o9, σ = errSt p so q v u o5 o6 o7 o8 o9 ∧ Same H H') ⟨_, _, _, _, _, rfl, Same.refl H⟩ ?_ ?_ ?_⟩
  · rintro i σ H' _ ⟨_, _, _, _, _, _, t⟩
    exact SqL.of (t _ _ hR.1)
  · rintro j x σ H1 H2 hj ⟨o5, o6, o7, o8, o9, rfl, t⟩ ⟨Tt, x0, y0, rfl, hT, rfl, hx, hy⟩
    rw [hlen] at hj
    cases hx
    obtain ⟨r, hr0, rfl, hij⟩ : ∃ r, r ∈ rs ∧ y0 = .ref r.t ∧ r.i = j := by
      dsimp only at hy
      rw [List.getElem?_map] at hy
      cases e0 : rs[j]? with
      | none => rw [e0] at hy; cases hy
      | some r =>
        rw [e0] at hy
        refine ⟨r, List.mem_of_getElem? e0, (Option.some.inj hy).symm, ?_⟩
        have e1 : (rs.map (·.i))[j]? = some r.i := by rw [List.getElem?_map, e0]; rfl
        rw [hi, List.getElem?_range hj] at e1
        exact (Option.some.inj e1).symm
    have tT := t.trans (same_new hT (.tup [.int (j : Nat), .ref r.t]))
    have ok := (hR.2 r hr0).same tT
    have hrd := hd r hr0
    rw [hij] at hrd
    refine ⟨Tt, _, rfl, SqT.of upd_same, rfl, _, _, rfl, _, _, rfl, r.t, _, rfl, SqT.of ok.1, rfl, _, _, rfl, _, _, rfl, rfl, rfl, ?_⟩
    obtain ⟨HT, eT⟩ : ∃ HT, HT = upd H1 Tt (.tup [.int (j : Nat), .ref r.t]) := ⟨_, rfl⟩
    rw [← eT] at tT ok
    rw [← eT]
    have dv := Dq.same tT _ _ hv
    have du := Dq.same tT _ _ hu
    have s7 : ((((errSt p so q v u o5 o6 o7 o8 o9).set 5 (some (.int (j : Nat)))).set 6 (some (.ref r.e))).set 7 (some r.v)) = errSt p so q v u (some (.int (j : Nat))) (some (.ref r.e)) (some r.v) o8 o9 := rfl
    have ft := ok.2.2.2.fit
    -- behind the first test
    refine ⟨fun σ' H' => σ' = errSt p so q v u (some (.int (j : Nat))) (some (.ref r.e)) (some r.v) o8 o9 ∧ Same HT H', ?_, ?_⟩
    · have plain : r.d = d → rShow K [v] HT (fun y H2 => rNe (.str r.d.shown) y H2 fun x H' => ∃ k, x = V.bl k ∧ if k = true then D.rt (.bl false) H' else (errSt p so q v u (some (.int (j : Nat))) (some (.ref r.e)) (some r.v) o8 o9 = errSt p so q v u (some (.int (j : Nat))) (some (.ref r.e)) (some r.v) o8 o9 ∧ Same HT H')) := by
        intro er
        refine ⟨v, d, rfl, dv, sm.fit, rfl, _, rfl, ?_⟩
        rw [er, ne_same]
        exact iteF ⟨rfl, Same.refl _⟩
      refine ⟨_, rfl, r.v, r.d, rfl, ok.2.2.1, ft, _, rfl, _, _, rfl, rfl, _, rfl, ?_⟩
      by_cases h1 : 10 ≤ j
      · rw [decide_eq_true (show (10 : Int) ≤ (j : Nat) by omega)]
        refine iteT ⟨_, _, rfl, rfl, _, rfl, ?_⟩
        by_cases h2 : j < 13
        · rw [decide_eq_true (show ((j : Nat) : Int) < 13 by omega)]
          rw [if_pos ⟨h1, h2⟩] at hrd
          refine iteT ⟨_, rfl, _, rfl, by show 2 ≤ sizeLine; decide, fun t2 ht2 => ⟨_, .tuple [d, e], rfl, ?_, sp.fit, rfl, _, rfl, ?_⟩⟩
          · have s2 := same_new ht2 (.tup [v, u])
            exact .tup (SqT.of upd_same) (.cons (Dq.same s2 _ _ dv) (.cons (Dq.same s2 _ _ du) .nil))
          · rw [hrd, ne_same]
            exact iteF ⟨rfl, same_new ht2 _⟩
        · rw [decide_eq_false (show ¬ ((j : Nat) : Int) < 13 by omega)]
          rw [if_neg (by omega)] at hrd
          exact iteF ⟨_, rfl, plain hrd⟩
      · rw [decide_eq_false (show ¬ (10 : Int) ≤ (j : Nat) by omega)]
        rw [if_neg (by omega)] at hrd
        exact iteF ⟨_, rfl, iteF ⟨_, rfl, plain hrd⟩⟩
    rintro σ3 H3 ⟨rfl, t3⟩
    have t3' := tT.trans t3
    have ex3 := ExIs.same ok.2.1 t3
    rw [hij] at ex3
    refine ⟨_, rfl, r.e, j, rfl, hj, ex3, fun qk H4 hk t4 => ?_⟩
    have t4' := t3'.trans t4
    refine ⟨15, rfl, by decide, by decide, fun qd hqd => lc_range (n := 15) (fun i H' => Same H4 H' ∧ H' qd = some (.lst ((rightV j i).map V.bl))) ?_ ?_ ?_⟩
    · exact ⟨same_new hqd _, upd_same⟩
    · rintro i H' hi15 ⟨sH, dH⟩
      refine ⟨rfl, ?_⟩
      unfold tYes
      dsimp only
      rw [if_pos rfl]
      refine ⟨_, rfl, _, rfl, rfl, _, dH, ?_, fun b o eb => ?_, ?_⟩
      · rw [List.length_map]
        unfold rightV
        rw [List.length_map, List.length_range]
        exact Nat.lt_of_lt_of_le hi15 (by decide)
      · rw [upd_ne (ne_of_none eb hqd)]
        exact sH _ _ eb
      · rw [upd_same]
        unfold rightV
        rw [List.range_succ, List.map_append, List.map_append]
        rfl
    rintro H5 ⟨t5, d5⟩
    have t5' := t4'.trans t5
    refine ⟨_, _, .lst (SqL.of (t5 _ _ hk)) (dp_bools (kindsV j)), .lst (SqL.of d5) (dp_bools (rightV j 15)), (shaped_k j hj).1, (shaped_k j hj).2.1, _, rfl, ?_⟩
    rw [kinds_eqv j hj]
    refine iteF ?_
    refine ⟨fun σ' H' => ∃ qa, σ' = errSt p so q v u (some (.int (j : Nat))) (some (.ref r.e)) (some r.v) (some (.ref qa)) o9 ∧ Same H5 H' ∧ H' qa = some (.lst ((aboveV j).map V.bl)), ?_, ?_⟩
    · have fin : ∀ (b c : Bool), (aboveV j).map V.bl = [.bl b, .bl c, .bl (inV (.int (j : Nat)) [.int 7, .int 8]), .bl (inV (.int (j : Nat)) [.int 7, .int 8]), .bl (decide (V.int (j : Nat) = .int 9))] → ∀ (q1 q2 qa : Addr), H5 q1 = none → upd H5 q1 (.tup [.int 7, .int 8]) q2 = none →
          upd (upd H5 q1 (.tup [.int 7, .int 8])) q2 (.tup [.int 7, .int 8]) qa = none → Same H5 (upd (upd (upd H5 q1 (.tup [.int 7, .int 8])) q2 (.tup [.int 7, .int 8])) qa (.lst [.bl b, .bl c, .bl (inV (.int (j : Nat)) [.int 7, .int 8]), .bl (inV (.int (j : Nat)) [.int 7, .int 8]), .bl (decide (V.int (j : Nat) = .int 9))])) ∧
            upd (upd (upd H5 q1 (.tup [.int 7, .int 8])) q2 (.tup [.int 7, .int 8])) qa (.lst [.bl b, .bl c, .bl (inV (.int (j : Nat)) [.int 7, .int 8]), .bl (inV (.int (j : Nat)) [.int 7, .int 8]), .bl (decide (V.int (j : Nat) = .int 9))]) qa = some (.lst ((aboveV j).map V.bl)) := by
        intro b c eb q1 q2 qa h1 h2 h3
        refine ⟨((same_new h1 _).trans (same_new h2 _)).trans (same_new h3 _), ?_⟩
        rw [upd_same, eb]
      by_cases h7 : j < 7
      · have e7 : decide (((j : Nat) : Int) < 7) = true := decide_eq_true (by omega)
        have eb : (aboveV j).map V.bl = [.bl true, .bl true, .bl (inV (.int (j : Nat)) [.int 7, .int 8]), .bl (inV (.int (j : Nat)) [.int 7, .int 8]), .bl (decide (V.int (j : Nat) = .int 9))] := by
          unfold aboveV
          rw [show decide ((7 : Int) > (j : Nat)) = true from e7]
          rfl
        refine ⟨_, rfl, _, _, rfl, rfl, _, rfl, ?_⟩
        rw [e7]
        refine iteT ⟨_, rfl, _, _, rfl, rfl, _, rfl, ?_⟩
        rw [e7]
        refine iteT ⟨_, rfl, by show 2 ≤ sizeLine; decide, fun q1 h1 => ⟨q1, _, rfl, .inr (SqT.of upd_same), rfl, rfl, _, rfl, by show 2 ≤ sizeLine; decide, fun q2 h2 => ⟨q2, _, rfl, .inr (SqT.of upd_same), rfl, rfl, _, rfl, rfl, by show 5 ≤ sizeLine; decide, fun qa h3 => ?_⟩⟩⟩
        exact ⟨qa, rfl, fin true true eb q1 q2 qa h1 h2 h3⟩
      · have e7 : decide (((j : Nat) : Int) < 7) = false := decide_eq_false (by omega)
        have eb : (aboveV j).map V.bl = [.bl (decide ((9 : Int) < (j : Nat))), .bl (decide ((9 : Int) < (j : Nat))), .bl (inV (.int (j : Nat)) [.int 7, .int 8]), .bl (inV (.int (j : Nat)) [.int 7, .int 8]), .bl (decide (V.int (j : Nat) = .int 9))] := by
          unfold aboveV
          rw [show decide ((7 : Int) > (j : Nat)) = false from e7]
          rfl
        refine ⟨_, rfl, _, _, rfl, rfl, _, rfl, ?_⟩
        rw [e7]
        refine iteF ⟨_, rfl, _, _, rfl, rfl, _, rfl, _, _, rfl, rfl, _, rfl, ?_⟩
        rw [e7]
        refine iteF ⟨_, rfl, _, _, rfl, rfl, _, rfl, by show 2 ≤ sizeLine; decide, fun q1 h1 => ⟨q1, _, rfl, .inr (SqT.of upd_same), rfl, rfl, _, rfl, by show 2 ≤ sizeLine; decide, fun q2 h2 => ⟨q2, _, rfl, .inr (SqT.of upd_same), rfl, rfl, _, rfl, rfl, by show 5 ≤ sizeLine; decide, fun qa h3 => ?_⟩⟩⟩
        exact ⟨qa, rfl, fin _ _ eb q1 q2 qa h1 h2 h3⟩
    rintro σ6 H6 ⟨qa, rfl, t6, ha⟩
    have t6' := t5'.trans t6
    have ex6 := ExIs.same ex3 ((t4.trans t5).trans t6)
    refine ⟨_, rfl, r.e, j, rfl, hj, ex6, fun qb H7 hb t7 => ⟨_, rfl, by show 2 ≤ sizeLine; decide, fun q8 h8 => ?_⟩⟩
    have c8 := same_new h8 (.lst [.bl false, .bl false])
    refine ⟨qa, q8, _, _, rfl, rfl, c8 _ _ (t7 _ _ ha), upd_same, by rw [List.length_map]; show 5 + 2 ≤ sizeLine; decide, fun q9 h9 => ?_⟩
    have c9 := same_new h9 (.lst ((aboveV j).map V.bl ++ [.bl false, .bl false]))
    have dr : DpAll K (upd (upd H7 q8 (.lst [.bl false, .bl false])) q9 (.lst ((aboveV j).map V.bl ++ [.bl false, .bl false]))) ((aboveV j).map V.bl ++ [.bl false, .bl false]) ((aboveV j ++ [false, false]).map PyData.bool) := by
      have z := dp_bools (K := K) (H := upd (upd H7 q8 (.lst [.bl false, .bl false])) q9 (.lst ((aboveV j).map V.bl ++ [.bl false, .bl false]))) (aboveV j ++ [false, false])
      rw [List.map_append] at z
      exact z
    refine ⟨_, _, .lst (SqL.of (c9 _ _ (c8 _ _ hb))) (dp_bools (basesV j)), .lst (SqL.of upd_same) dr, (shaped_k j hj).2.2.1, (shaped_k j hj).2.2.2, _, rfl, ?_⟩
    rw [bases_eqv j hj]
    exact iteF ⟨_, _, _, _, _, rfl, ((t6'.trans t7).trans c8).trans c9⟩
  · rintro σ H' ⟨_, _, _, _, _, rfl, t⟩
    exact after _ _ t
end
end Sk
namespace Sk
open PySem L2 Sup Grd Shw Exg
def ten7 : Int := 10 ^ Int.toNat 60 - 1
def tenV (t l dd : Addr) : List V := [.non, .int 0, .bl true, .str "a", .ref t, .ref l, .ref dd, .int ten7, .int (-1), .str ""]
def tenD : List PyData := [.none, .int 0, .bool true, .str "a", .tuple [.int 1], .list [.int 1], .dict [], .int ten7, .int (-1), .str ""]
def fitB (d : PyData) : Bool := d.showable && (decide (d.depth ≤ 60) && decide (d.shown.length ≤ 1000))
theorem smalls_of {d : PyData} (h : fitB d = true) : Smalls d := by
  unfold fitB at h
  rw [Bool.and_eq_true, Bool.and_eq_true, decide_eq_true_eq, decide_eq_true_eq] at h
  exact ⟨⟨h.1, h.2.1, Nat.le_trans h.2.2 (by decide)⟩, h.2.2⟩
theorem tens1 : (tenD.all fun d => fitB d) = true := by decide +kernel
theorem tens2 : (tenD.all fun d => tenD.all fun e => fitB (.tuple [d, e])) = true := by decide +kernel
theorem tens4 : (tenD.all fun d => decide (d.depth ≤ 40)) = true := by decide +kernel
theorem fit_big {d e : PyData} (a : Smalls d) (b : Smalls e) (da : d.depth ≤ 40) (db : e.depth ≤ 40) : Fit (bigD d e) := by
  refine ⟨?_, ?_, ?_⟩
  · have h1 := a.fit.sh
    have h2 := b.fit.sh
    simp [bigD, PyData.showable, PyData.showableAll, h1, h2]
  · show (bigD d e).depth ≤ 60
    simp only [bigD, List.cons_append, List.nil_append, PyData.depth, PyData.depthAll]
    omega
  · have h1 := a.sz
    have h2 := b.sz
    show (listText (PyData.shownAll _)).length ≤ sizeLine
    refine Nat.le_trans (listText_len_le _) ?_
    simp only [List.cons_append, List.nil_append, PyData.shownAll, List.map_cons, List.map_nil, List.sum_cons, List.sum_nil, List.length_cons, List.length_nil]
    exact Nat.le_trans (show _ ≤ 16100 by omega) (by decide)
theorem tens_ok {d e : PyData} (hd : d ∈ tenD) (he : e ∈ tenD) : Smalls d ∧ Smalls e ∧ Smalls (.tuple [d, e]) ∧ Fit (bigD d e) := by
  have a := smalls_of (List.all_eq_true.mp tens1 d hd)
  have b := smalls_of (List.all_eq_true.mp tens1 e he)
  exact ⟨a, b, smalls_of (List.all_eq_true.mp (List.all_eq_true.mp tens2 d hd) e he), fit_big a b (of_decide_eq_true (List.all_eq_true.mp tens4 d hd)) (of_decide_eq_true (List.all_eq_true.mp tens4 e he))⟩
end Sk
namespace Sk
open PySem L2 Sup Grd Shw Exg
open C8 (pss_cut tCut)
theorem ten_of {K : PySem.W.Frag} {H : Hp} {t l dd : Addr} (ht : H t = some (.tup [.int 1])) (hl : H l = some (.lst [.int 1])) (nl : sysModules ≠ l) (hd : H dd = some (.dK [])) {j : Nat} {x : V} (h : (tenV t l dd)[j]? = some x) : ∃ d, d ∈ tenD ∧ Dq K H x d := by
  match j, h with
  | 0, h => rw [← Option.some.inj h]; exact ⟨.none, by simp [tenD], .non⟩
  | 1, h => rw [← Option.some.inj h]; exact ⟨.int 0, by simp [tenD], .int _⟩
  | 2, h => rw [← Option.some.inj h]; exact ⟨.bool true, by simp [tenD], .bl _⟩
  | 3, h => rw [← Option.some.inj h]; exact ⟨.str "a", by simp [tenD], .str _⟩
  | 4, h => rw [← Option.some.inj h]; exact ⟨.tuple [.int 1], by simp [tenD], .tup (SqT.of ht) (.cons (.int _) .nil)⟩
  | 5, h => rw [← Option.some.inj h]; exact ⟨.list [.int 1], by simp [tenD], .lst nl (SqL.of hl) (.cons (.int _) .nil)⟩
  | 6, h => rw [← Option.some.inj h]; exact ⟨.dict [], by simp [tenD], .dic (.of hd)⟩
  | 7, h => rw [← Option.some.inj h]; exact ⟨.int ten7, by simp [tenD], .int _⟩
  | 8, h => rw [← Option.some.inj h]; exact ⟨.int (-1), by simp [tenD], .int _⟩
  | 9, h => rw [← Option.some.inj h]; exact ⟨.str "", by simp [tenD], .str _⟩
theorem Pen.same {H H' : Hp} {p l : Addr} {cs : List Int} {n : Nat} (h : Pen H p l cs n) (s : Same H H') : Pen H' p l cs n := by
  obtain ⟨i, g, h1, h2, h3⟩ := h
  exact ⟨i, g, s _ _ h1, s _ _ h2, h3⟩
theorem But.of_same {H H' : Hp} {p : Addr} (s : Same H H') : But H H' p := fun b o _ e => s b o e
structure ErrsAll (P : Program) (w : World) (K : PySem.W.Frag) (mg : Str → Option Value) (base : Heap) (cs : Nat → Addr) : Prop where
  pick : CalO P w K mg base "_law_pick" 2 ["_law_pen_here", "_law_some"] spPick
  ones : CalG P w K mg base "_law_ones" 3 ["_law_thing"] (spOnes K cs)
  twos : CalG P w K mg base "_law_twos" 3 ["_law_thing", "_law_other"] (spTwos K cs)
  named : CalG P w K mg base "_law_named_right" 3 ["_law_thing", "_law_other"] (spNamed K)
  loop : LoopT P w K mg base cs
  s13 : ∃ (B newId initId : String) (tl : List Value), BaseE B newId initId tl ∧ PySem.W.excIn K (cs 13) tl newId = true ∧ PySem.W.keepIn K (.ref (cs 13)) = true ∧ mg "Settled" = some (.ref (cs 13))
  s14 : ∃ (B newId initId : String) (tl : List Value), BaseE B newId initId tl ∧ PySem.W.excIn K (cs 14) tl newId = true ∧ PySem.W.keepIn K (.ref (cs 14)) = true ∧ mg "NothingToUndo" = some (.ref (cs 14))
def spErrs : Sp := fun vs H Q _ => ∃ (p l : Addr) (ns : List Int) (n : Nat), vs = [.ref p] ∧ Pen H p l ns n ∧ n < 100000 ∧ ∀ H', Pen H' p l ns (n + 2) → But H H' p → Q (.bl true) H'
section
variable {P : Program} {w : World} {K : PySem.W.Frag} {mg : Str → Option Value} {base : Heap} {cs : Nat → Addr}
theorem ok_errs {f : Addr} {fd : FuncData} (F : Fun K "_law_errors_right" "_law_errors_right" sErr f fd) (T : ErrsAll P w K mg base cs) : FnG P w K mg base CX0 4 f fd ["_law_pen_here"] spErrs := by
  obtain ⟨⟨fK, fdK, GK, mK, kK, bK⟩⟩ := T.pick
  obtain ⟨⟨fO, fdO, GO, mO, kO, bO⟩⟩ := T.ones
  obtain ⟨⟨fT, fdT, GT, mT, kT, bT⟩⟩ := T.twos
  obtain ⟨⟨fN, fdN, GN, mN, kN, bN⟩⟩ := T.named
  obtain ⟨B1, nw1, in1, tl1, b1, q1, k1, m1⟩ := T.s13
  obtain ⟨B2, nw2, in2, tl2, b2, q2, k2, m2⟩ := T.s14
  refine fun_g F scErr (fun vs H Q E h => ?_) (fun cdv A outer s H vs Q E hgu hr h => ?_)
  · obtain ⟨p, l, ns, n, rfl, _⟩ := h
    rfl
  · obtain ⟨p, l, ns, n, rfl, hP, hn, k⟩ := h
    have hr2 : Room 2 (A.deeper (PyProof.Rows.envOfC "_law_errors_right" (defScope sErr) s.heap.objs.size f cdv)) := hr.mono (by decide)
    obtain ⟨t4, L4, read4⟩ := errs_loop (f := f) (cdv := cdv) (A := A) (outer := outer) (s := s) (H0 := H) (E := E) T.loop hgu hr
    refine ⟨_, pss_cons (ps_set (i := 1) scErr.nd rfl (Or.inl rfl) (pe_lst (pa_cons pe_non (pa_cons pe_int (pa_cons pe_bl (pa_cons pe_str (pa_cons (pe_tup (pa_cons pe_int pa_nil)) (pa_cons (pe_lstN (pa_cons pe_int pa_nil)) (pa_cons pe_dnewK
        (pa_cons (pe_op op_sub (pe_op op_pow pe_int pe_int) pe_int) (pa_cons (pe_un un_neg pe_int) (pa_cons pe_str pa_nil))))))))))))
      (pss_cons (ps_par (i := 2) (j := 3) rfl scErr.nd rfl rfl (by decide) rfl rfl (pa_cons (pe_call GK hr2 rfl mK kK bK .nil pass0 (pa_cons (pv 0) (pa_cons (pv 1) pa_nil))) (pa_cons (pe_call GK hr2 rfl mK kK bK .nil pass0 (pa_cons (pv 0) (pa_cons (pv 1) pa_nil))) pa_nil)) (by rfl))
      (pss_cons (ps_set (i := 4) scErr.nd rfl (Or.inl rfl) (pe_op op_cat (pe_op op_cat (pe_callG GO hgu hr rfl mO kO bO pass0 (pa_cons (pv 2) pa_nil)) (pe_callG GT hgu hr rfl mT kT bT pass0 (pa_cons (pv 2) (pa_cons (pv 3) pa_nil))))
        (pe_lst (pa_cons (pe_tup (pa_cons (pe_mk0E b1 q1 k1 rfl m1) (pa_cons (pv 2) pa_nil))) (pa_cons (pe_tup (pa_cons (pe_mk0E b2 q2 k2 rfl m2) (pa_cons (pv 2) pa_nil))) pa_nil)))))
      (pss_cons (ps_if (pt_not (pt_val (pe_callG GN hgu hr rfl mN kN bN pass0 (pa_cons (pv 2) (pa_cons (pv 3) pa_nil))))) (pss_one (ps_ret pe_bl)) pss_nil)
      (pss_cut L4
      (pss_one (ps_ret pe_bl)))))), ?_⟩
    refine ⟨by show 1 ≤ sizeLine; decide, fun t1 ht1 => ⟨by show 1 ≤ sizeLine; decide, fun l1 hl1 nl1 => fun d1 hd1 => ?_⟩⟩
    refine ⟨_, _, rfl, rfl, ⟨by decide, by decide, by decide⟩, _, _, rfl, rfl, _, rfl, by show 10 ≤ sizeLine; decide, fun so hso => ?_⟩
    have c1 := same_new ht1 (.tup [.int 1])
    have c2 := same_new hl1 (.lst [.int 1])
    have c3 := same_new hd1 (.dK [])
    have c4 := same_new hso (.lst (tenV t1 l1 d1))
    have f1 := c4 _ _ (c3 _ _ (c2 _ _ upd_same))
    have f2 := c4 _ _ (c3 _ _ upd_same)
    have f3 := c4 _ _ upd_same
    obtain ⟨ip, gp, hpp, hll, hz⟩ := id hP
    have n1 : t1 ≠ p := (ne_of_none hpp ht1).symm
    have n2 : l1 ≠ p := (ne_of_none (c1 _ _ hpp) hl1).symm
    have n3 : d1 ≠ p := (ne_of_none (c2 _ _ (c1 _ _ hpp)) hd1).symm
    have n4 : so ≠ p := (ne_of_none (c3 _ _ (c2 _ _ (c1 _ _ hpp))) hso).symm
    obtain ⟨Ha, eHa⟩ : ∃ Ha, Ha = upd (upd (upd (upd H t1 (.tup [.int 1])) l1 (.lst [.int 1])) d1 (.dK [])) so (.lst (tenV t1 l1 d1)) := ⟨_, rfl⟩
    have sA : Same H Ha := eHa ▸ ((c1.trans c2).trans c3).trans c4
    have fso : Ha so = some (.lst (tenV t1 l1 d1)) := by rw [eHa]; exact upd_same
    rw [← eHa] at f1 f2 f3
    show tSeq _ _ _ _ (upd (upd (upd (upd H t1 (.tup [.int 1])) l1 (.lst [.int 1])) d1 (.dK [])) so (.lst (tenV t1 l1 d1)))
    rw [← eHa]
    have PA := hP.same sA
    refine ⟨_, rfl, _, rfl, p, l, so, ns, n, tenV t1 l1 d1, rfl, PA, fso, n4, by show 0 < 10; decide, by show 10 < 1000; decide, by omega, fun j1 x1 H1 hx1 P1 b1' => ?_⟩
    refine ⟨_, rfl, _, rfl, p, l, so, ns, n + 1, tenV t1 l1 d1, rfl, P1, b1' _ _ n4 fso, n4, by show 0 < 10; decide, by show 10 < 1000; decide, by omega, fun j2 x2 H2 hx2 P2 b2' => ⟨_, _, rfl, ?_⟩⟩
    have bb : But Ha H2 p := b1'.trans b2'
    obtain ⟨d, hdm, hd⟩ := ten_of (K := K) (bb _ _ n1 f1) (bb _ _ n2 f2) nl1 (bb _ _ n3 f3) hx1
    obtain ⟨e, hem, he⟩ := ten_of (K := K) (bb _ _ n1 f1) (bb _ _ n2 f2) nl1 (bb _ _ n3 f3) hx2
    obtain ⟨sm, sn, sp, fb⟩ := tens_ok hdm hem
    refine ⟨_, rfl, x1, d, rfl, hd, sm, fun qo H3 rs3 r3 i3 w3 s3 => ?_⟩
    have hd3 := Dq.same s3 _ _ hd
    have he3 := Dq.same s3 _ _ he
    refine ⟨_, rfl, _, rfl, x1, x2, d, e, rfl, hd3, he3, sm, sn, sp, fun qt H4 rs4 r4 i4 w4 s4 => ?_⟩
    have r3' := r3.same s4
    have l3 : rs3.length = 10 := by rw [← List.length_map (f := (·.i)), i3]; rfl
    have l4 : rs4.length = 3 := by rw [← List.length_map (f := (·.i)), i4]; rfl
    refine ⟨qo, qt, _, _, rfl, rfl, r3'.1, r4.1, by rw [List.length_map, List.length_map, l3, l4]; decide, fun q5 h5 => ?_⟩
    have r5 := r3'.cat r4 h5
    have s5 := same_new h5 (.lst ((rs3.map fun r => .ref r.t) ++ (rs4.map fun r => .ref r.t)))
    obtain ⟨H5, e5⟩ : ∃ H5, H5 = upd H4 q5 (.lst ((rs3.map fun r => .ref r.t) ++ (rs4.map fun r => .ref r.t))) := ⟨_, rfl⟩
    rw [← e5] at r5 s5
    rw [← e5]
    have hd5 := Dq.same ((s3.trans s4).trans s5) _ _ hd
    have he5 := Dq.same ((s3.trans s4).trans s5) _ _ he
    refine fun a6 h6 => ⟨_, rfl, by show 2 ≤ sizeLine; decide, fun p6 g6 => fun a7 h7 => ⟨_, rfl, by show 2 ≤ sizeLine; decide, fun p7 g7 => ⟨by show 2 ≤ sizeLine; decide, fun q8 h8 => ?_⟩⟩⟩
    have u1 := same_new h6 (exo a6 (cs 13) none)
    have u2 := same_new g6 (.tup [.ref a6, x1])
    have u3 := same_new h7 (exo a7 (cs 14) none)
    have u4 := same_new g7 (.tup [.ref a7, x1])
    have u5 := same_new h8 (.lst [.ref p6, .ref p7])
    obtain ⟨H8, e8⟩ : ∃ H8, H8 = upd (upd (upd (upd (upd H5 a6 (exo a6 (cs 13) none)) p6 (.tup [.ref a6, x1])) a7 (exo a7 (cs 14) none)) p7 (.tup [.ref a7, x1])) q8 (.lst [.ref p6, .ref p7]) := ⟨_, rfl⟩
    have sU : Same H5 H8 := e8 ▸ (((u1.trans u2).trans u3).trans u4).trans u5
    have hd8 := Dq.same sU _ _ hd5
    have he8 := Dq.same sU _ _ he5
    have r8 : RowsAt K cs H8 q8 [⟨p6, a6, 13, x1, d⟩, ⟨p7, a7, 14, x1, d⟩] := by
      refine ⟨by rw [e8]; exact upd_same, fun r hr => ?_⟩
      rcases List.mem_cons.mp hr with rfl | hr
      · exact ⟨by rw [e8]; exact u5 _ _ (u4 _ _ (u3 _ _ upd_same)), .inl (by rw [e8]; exact u5 _ _ (u4 _ _ (u3 _ _ (u2 _ _ upd_same)))), hd8, sm⟩
      · obtain rfl := List.mem_singleton.mp hr
        exact ⟨by rw [e8]; exact u5 _ _ upd_same, .inl (by rw [e8]; exact u5 _ _ (u4 _ _ upd_same)), hd8, sm⟩
    rw [← e8]
    have r5' := r5.same sU
    refine ⟨q5, q8, _, _, rfl, rfl, r5'.1, r8.1, by rw [List.length_map, List.length_append, l3, l4]; show 10 + 3 + 2 ≤ sizeLine; decide, fun q9 h9 => ?_⟩
    have r9 := r5'.cat r8 h9
    have s9 := same_new h9 (.lst (((rs3 ++ rs4).map fun r => .ref r.t) ++ [.ref p6, .ref p7]))
    obtain ⟨H9, e9⟩ : ∃ H9, H9 = upd H8 q9 (.lst (((rs3 ++ rs4).map fun r => .ref r.t) ++ [.ref p6, .ref p7])) := ⟨_, rfl⟩
    have r9' : RowsAt K cs H9 q9 ((rs3 ++ rs4) ++ [⟨p6, a6, 13, x1, d⟩, ⟨p7, a7, 14, x1, d⟩]) := e9 ▸ r9
    rw [← e9] at s9
    show tSeq _ _ _ _ (upd H8 q9 (.lst (((rs3 ++ rs4).map fun r => .ref r.t) ++ [.ref p6, .ref p7])))
    rw [← e9]
    have t9 := (((s3.trans s4).trans s5).trans sU).trans s9
    refine ⟨_, rfl, _, rfl, x1, x2, d, e, rfl, Dq.same t9 _ _ hd, Dq.same t9 _ _ he, sm, sn, fb, fun H10 s10 => ⟨_, rfl, iteF ?_⟩⟩
    have t10 := t9.trans s10
    refine ⟨fun _ H' => Same H10 H', read4 p so q9 x1 x2 d e _ H10 _ (r9'.same s10) ?_ ?_ (Dq.same t10 _ _ hd) (Dq.same t10 _ _ he) sm sn sp (fun _ _ z => z), ?_⟩
    · rw [List.map_append, List.map_append, i3, i4]
      rfl
    · intro r hr
      rcases List.mem_append.mp hr with hr | hr
      · rcases List.mem_append.mp hr with hr | hr
        · have z : r.i ∈ rs3.map (·.i) := List.mem_map_of_mem hr
          rw [i3, List.mem_range] at z
          rw [if_neg (by omega)]
          exact (w3 r hr).2
        · have z : r.i ∈ rs4.map (·.i) := List.mem_map_of_mem hr
          rw [i4] at z
          have z2 : r.i = 10 ∨ r.i = 11 ∨ r.i = 12 := by simpa using z
          rw [if_pos (by omega)]
          exact w4 r hr
      · rcases List.mem_cons.mp hr with rfl | hr
        · rfl
        · obtain rfl := List.mem_singleton.mp hr
          rfl
    intro σ11 H11 s11
    have tt := t10.trans s11
    exact k _ (P2.same tt) ((But.of_same sA).trans (bb.trans (But.of_same tt)))
end
end Sk
namespace Sk
open PySem L2 Sup Grd Shw Exg
open C8 (pss_cut tCut)
abbrev sInt : Stmt := top 4
abbrev sUp : Stmt := top 6
abbrev sLeast : Stmt := top 7
abbrev sPow : Stmt := top 36
def spInt (K : PySem.W.Frag) : Sp := fun vs H Q _ => ∃ (x : V) (t : String) (b c : Bool), vs = [x] ∧ TyX K H x (.type t) ∧ kitB t "int" = some b ∧ kitB t "bool" = some c ∧ Q (.bl (b && !c)) H
def spUp : Sp := fun vs H Q _ => ∃ n d : Int, vs = [.int n, .int d] ∧ 0 < d ∧ d < 1073741824 ∧ Q (.int (-(-n / d))) H
/-- m is the least exponent -/
def LeastM (b N : Int) (m : Nat) : Prop := N ≤ b ^ m ∧ (m = 0 ∨ b ^ (m - 1) < N)
def spLeast : Sp := fun vs H Q _ => ∃ b N : Int, vs = [.int b, .int N] ∧ 2 ≤ b ∧ b < 2000000 ∧ ∀ m : Nat, LeastM b N m → Q (.int m) H
def spPow : Sp := fun vs H Q _ => ∃ (b : Int) (m : Nat), vs = [.int b, .int m] ∧ 0 ≤ b ∧ b < 2000000 ∧ m < 1000 ∧ Q (.int (b ^ m)) H
section
variable {P : Program} {w : World} {K : PySem.W.Frag} {mg : Str → Option Value} {base : Heap}
theorem scInt : FnScope ["value"] ["value"] (defScope sInt) := ⟨rfl, rfl, rfl, by decide +kernel, rfl, by decide +kernel, by decide +kernel⟩
theorem scUp : FnScope ["number", "by"] ["number", "by"] (defScope sUp) := ⟨rfl, rfl, rfl, by decide +kernel, rfl, by decide +kernel, by decide +kernel⟩
theorem scLeast : FnScope ["base", "number", "least", "power"] ["base", "number"] (defScope sLeast) := ⟨rfl, rfl, rfl, by decide +kernel, rfl, by decide +kernel, by decide +kernel⟩
theorem scPow : FnScope ["_law_factor", "_law_often", "_law_found", "_law_turn"] ["_law_factor", "_law_often"] (defScope sPow) := ⟨rfl, rfl, rfl, by decide +kernel, rfl, by decide +kernel, by decide +kernel⟩
theorem ok_int {f : Addr} {fd : FuncData} (F : Fun K "is_integer" "is_integer" sInt f fd) (mi : mg "isinstance" = none) (mn : mg "int" = none) (mb : mg "bool" = none) : FnOk P w K mg base CX0 1 f fd ["value"] (spInt K) := by
  refine F.ok scInt (fun vs H Q E h => ?_) (fun cdv A outer s H vs Q E hr h => ?_)
  · obtain ⟨x, t, b, c, rfl, _⟩ := h
    rfl
  · obtain ⟨x, t, b, c, rfl, ht, hb, hc, k⟩ := h
    refine ⟨_, pss_one (ps_ret (pe_and (pe_callB call_isi (by rfl) mi (by decide +kernel) (pa_cons (pv 0) (pa_cons (pe_bltn (by rfl) mn (by decide +kernel) (v := .ty "int") rfl) pa_nil)))
      (pe_one (pe_not (pe_callB call_isi (by rfl) mi (by decide +kernel) (pa_cons (pv 0) (pa_cons (pe_bltn (by rfl) mb (by decide +kernel) (v := .ty "bool") rfl) pa_nil))))))), ?_⟩
    refine ⟨_, rfl, _, _, _, _, b, rfl, .ty _, ht, kit_ty hb, _, rfl, ?_⟩
    cases b with
    | false => exact iteF k
    | true => exact iteT ⟨_, rfl, _, _, _, _, c, rfl, .ty _, ht, kit_ty hc, _, rfl, k⟩
theorem ok_up {f : Addr} {fd : FuncData} (F : Fun K "up" "up" sUp f fd) : FnOk P w K mg base CX0 1 f fd ["number", "by"] spUp := by
  refine F.ok scUp (fun vs H Q E h => ?_) (fun cdv A outer s H vs Q E hr h => ?_)
  · obtain ⟨n, d, rfl, _⟩ := h
    rfl
  · obtain ⟨n, d, rfl, h0, h1, k⟩ := h
    refine ⟨_, pss_one (ps_ret (pe_un un_neg (pe_op op_fdiv (pe_un un_neg (pv 0)) (pv 1)))), ?_⟩
    exact ⟨_, rfl, _, rfl, _, rfl, _, _, rfl, rfl, ⟨h0, h1⟩, _, rfl, k⟩
theorem ok_pow {f : Addr} {fd : FuncData} (F : Fun K "_law_power" "_law_power" sPow f fd) (mr : mg "range" = none) : FnOk P w K mg base CX0 1 f fd ["_law_factor", "_law_often"] spPow := by
  refine F.ok scPow (fun vs H Q E h => ?_) (fun cdv A outer s H vs Q E hr h => ?_)
  · obtain ⟨b, m, rfl, _⟩ := h
    rfl
  · obtain ⟨b, m, rfl, h0, h1, hm, k⟩ := h
    refine ⟨_, pss_cons (ps_set (i := 2) scPow.nd rfl (Or.inl rfl) pe_int)
      (pss_cons (ps_for PassesOwn.never rfl (pi_range1 rfl mr (pa_cons (pv 1) pa_nil)) (pg_name (i := 3) scPow.nd rfl (Or.inl rfl)) (pss_one (ps_set (i := 2) scPow.nd rfl (Or.inl rfl) (pe_op op_mul (pv 2) (pv 0)))))
      (pss_one (ps_ret (pv 2)))), ?_⟩
    refine ⟨_, rfl, m, rfl, by omega, by omega, for_range (n := m) (fun i σ H' => ∃ o, σ = [some (.int b), some (.int m), some (.int (b ^ i)), o] ∧ H' = H) ⟨none, by rw [Int.pow_zero]; rfl, rfl⟩ ?_ ?_⟩
    · rintro i σ H' hi ⟨o, rfl, rfl⟩
      refine ⟨_, rfl, _, rfl, _, _, rfl, rfl, .inr ⟨by omega, by omega⟩, some (.int (0 + (i : Nat))), ?_, rfl⟩
      rw [Int.pow_succ]
      rfl
    · rintro σ H' ⟨o, rfl, rfl⟩
      exact ⟨_, rfl, k⟩
theorem ok_least {f : Addr} {fd : FuncData} (F : Fun K "least_power" "least_power" sLeast f fd) : FnOk P w K mg base CX0 1 f fd ["base", "number"] spLeast := by
  refine F.ok scLeast (fun vs H Q E h => ?_) (fun cdv A outer s H vs Q E hr h => ?_)
  · obtain ⟨b, N, rfl, _⟩ := h
    rfl
  · obtain ⟨b, N, rfl, h0, h1, k⟩ := h
    refine ⟨_, pss_cons (ps_set (i := 2) scLeast.nd rfl (Or.inl rfl) pe_int)
      (pss_cons (ps_set (i := 3) scLeast.nd rfl (Or.inl rfl) pe_int)
      (pss_cons (ps_while PassesOwn.never (pt_cmpR op_lt (pv 3) (pv 1) (nomark _)) (pss_cons (ps_set (i := 3) scLeast.nd rfl (Or.inl rfl) (pe_op op_mul (pv 3) (pv 0))) (pss_one (ps_aug (i := 2) scLeast.nd rfl (Or.inl rfl) pe_int ip_add))))
      (pss_one (ps_ret (pv 2))))), ?_⟩
    · refine while_by (fun σ H' => ∃ l : Nat, σ = [some (.int b), some (.int N), some (.int (l : Nat)), some (.int (b ^ l))] ∧ H' = H ∧ (l = 0 ∨ b ^ (l - 1) < N)) (fun σ _ => match σ with | [_, _, _, some (.int p)] => (N - p).toNat | _ => 0) ⟨0, by rw [Int.pow_zero]; rfl, rfl, .inl rfl⟩ ?_ ?_
      · rintro σ H' ⟨l, rfl, rfl, hl⟩
        refine ⟨_, rfl, _, rfl, _, _, rfl, rfl, _, rfl, ?_⟩
        have p0 : (0 : Int) < b ^ l := Int.pow_pos (by omega)
        have p1 : (1 : Int) ≤ b ^ l := p0
        by_cases hp : b ^ l < N
        · rw [decide_eq_true hp]
          refine iteT ⟨_, rfl, _, rfl, _, _, rfl, rfl, .inr ⟨by omega, by omega⟩, _, rfl, _, _, rfl, rfl, ⟨l + 1, ?_, rfl, .inr hp⟩, ?_⟩
          · rw [Int.pow_succ]
            rfl
          · have p2 : b ^ l * 2 ≤ b ^ l * b := Int.mul_le_mul_of_nonneg_left h0 (by omega)
            show (N - b ^ l * b).toNat < (N - b ^ l).toNat
            omega
        · rw [decide_eq_false hp]
          exact iteF ⟨_, rfl, k l ⟨by omega, hl⟩⟩
      · rintro σ H' Q1 Q2 hQ ⟨x, e1, y, e2, i, j, e3, e4, kk, e5, q⟩
        exact ⟨x, e1, y, e2, i, j, e3, e4, kk, e5, hQ _ _ q⟩
end
end Sk
set_option exponentiation.threshold 2000
namespace Sk
open PySem L2 Sup Grd Shw Exg
open C8 (pss_cut tCut)
/-- f(k = v, ..) -/
def tKw0 (n : Nat) (sp : Sp) (gV : List V → List V → List V) (E : XK) (tk : TA) : TE := fun σ H Q => tk σ H fun zs H1 => zs.length = n ∧ sp (gV [] zs) H1 Q E
theorem pe_kw0 {X : Cx} {k : Nat} {f : Addr} {fd : FuncData} {ps ks : List Str} {sp : Sp} {E : XK} {CX : CXT} {x : Str} {p pos : Pos} {kws : List Keyword} {tk : TA} {g : List Value → List Value → List Value} {gV : List V → List V → List V}
    (F : FnOk X.prog X.w X.K X.mg X.base CX k f fd ps sp) (hr : Room k X.A) (hg : Gl X x) (hm : X.mg x = some (.ref f)) (hk : PySem.W.keepIn X.K (.ref f) = true) (hb : KBn X.K fd ps 0 ks g gV) (hx : Passes CX X E) (hkw : PK X kws tk)
    (h1 : (backToKw pos (keywordEach kws X.env)).all (·.1.isSome) = true := by rfl) (h2 : (backToKw pos (keywordEach kws X.env)).filterMap (·.1) = ks := by rfl) (h3 : (x == ("__debug__" : Str)) = false := by decide)
    (h4 : ((backTo pos (starEach [] X.env)).any (·.1) || (backToKw pos (keywordEach kws X.env)).any (·.1.isNone)) = false := by rfl) :
    PE X (.Call (.Name x p) [] kws pos) (tKw0 ks.length sp gV E tk) := by
  refine ⟨fun pins s σ H Q I h => wpAny_Call_Name_kw (ld_glob I hg hm ?_ h3)⟩
  refine PySem.W.callWith_KW0 (h₀ := X.base) I.ok.mod.kin hk h1 (thn (hkw.run pos pins s σ H _ I h) ?_) h4
  rintro ws s2 ⟨zs, H2, I2, rz, l2, q2⟩
  refine ⟨I2.kIn, ?_⟩
  rw [h2]
  exact run_fnN (us := []) (vs := []) F hr hb hx I2 .nil rz rfl l2 q2
abbrev sNum : Stmt := top 37
def numN : List Str := ["_law_pen_here", "_law_some", "_law_number_so", "_law_divisor", "_law_root", "_law_found", "_law_least"]
theorem scNum : FnScope numN ["_law_pen_here"] (defScope sNum) := ⟨rfl, rfl, rfl, by decide +kernel, rfl, by decide +kernel, by decide +kernel⟩
/-- a def called by place and by name, in that order -/
structure CalK (P : Program) (w : World) (K : PySem.W.Frag) (mg : Str → Option Value) (base : Heap) (nm : Str) (n : Nat) (ps ks : List Str) (sp : Sp) : Prop where
  ex : ∃ (f : Addr) (fd : FuncData), FnOk P w K mg base CX0 n f fd ps sp ∧ mg nm = some (.ref f) ∧ PySem.W.keepIn K (.ref f) = true ∧ Binds K fd ps [] ∧ KBn K fd ps 0 ks (fun us ws => us ++ ws) (fun vs zs => vs ++ zs)
structure NumT (P : Program) (w : World) (K : PySem.W.Frag) (mg : Str → Option Value) (base : Heap) : Prop where
  draw : CalO P w K mg base "_law_draw" 1 ["_law_pen_here", "_law_many"] spDraw
  pick : CalO P w K mg base "_law_pick" 2 ["_law_pen_here", "_law_some"] spPick
  up : CalK P w K mg base "up" 1 ["number", "by"] ["number", "by"] spUp
  least : CalK P w K mg base "least_power" 1 ["base", "number"] ["base", "number"] spLeast
  pow : CalO P w K mg base "_law_power" 1 ["_law_factor", "_law_often"] spPow
  repr : mg "repr" = none
  int : mg "int" = none
theorem draw_rd {H : Hp} {p l : Addr} {ns : List Int} {n : Nat} {m : Int} {Q : VK} {E : XK} (hP : Pen H p l ns n) (h0 : 0 < m) (h1 : m < 1073741824) (hn : n < 1000000) (k : ∀ d H', 0 ≤ d → d < m → Pen H' p l ns (n + 1) → But H H' p → Q (.int d) H') : spDraw [.ref p, .int m] H Q E :=
  ⟨p, l, ns, n, m, rfl, hP, h0, h1, hn, fun d i g H' d0 d1 i0 i1 hp b => k d H' d0 d1 (hP.next i0 i1 hp b) b⟩
theorem fit_int {i : Int} (h : i.natAbs < 2 ^ 1000) : Fit (.int i) := by
  have h2 : i.natAbs.log2 < 1920 := by
    by_cases z : i.natAbs = 0
    · rw [z]; decide
    · exact Nat.lt_trans ((Nat.log2_lt z).mpr h) (by decide)
  exact ⟨decide_eq_true h2, Nat.zero_le _, int_text_fits h2⟩
theorem ipow_mono {b : Int} (h : 1 ≤ b) {i j : Nat} (hij : i ≤ j) : b ^ i ≤ b ^ j := by
  induction hij with
  | refl => exact Int.le_refl _
  | step _ ih =>
    rename_i m hm
    rw [Int.pow_succ]
    have h0 : (0:Int) ≤ b ^ m := Int.le_of_lt (Int.pow_pos (by omega))
    have a : b ^ m * 1 ≤ b ^ m * b := Int.mul_le_mul_of_nonneg_left h h0
    omega
theorem ipow_two {b : Int} (h : 2 ≤ b) (i : Nat) : (2:Int) ^ i ≤ b ^ i := by
  induction i with
  | zero => simp
  | succ n ih =>
    rw [Int.pow_succ, Int.pow_succ]
    have h0 : (0:Int) ≤ 2 ^ n := Int.le_of_lt (Int.pow_pos (by decide))
    have a : (2:Int)^n * 2 ≤ 2 ^ n * b := Int.mul_le_mul_of_nonneg_left h h0
    have c : (2:Int)^n * b ≤ b ^ n * b := Int.mul_le_mul_of_nonneg_right ih (by omega)
    omega
theorem leastM_unique {b N : Int} (hb : 2 ≤ b) {m m' : Nat} (h : LeastM b N m) (h' : LeastM b N m') : m = m' := by
  have key : ∀ {i j : Nat}, LeastM b N i → LeastM b N j → ¬ i < j := by
    intro i j hi hj lt
    rcases hj.2 with z | z
    · omega
    · have e : b ^ i ≤ b ^ (j - 1) := ipow_mono (by omega) (by omega)
      have := hi.1
      omega
  have a := key h h'
  have c := key h' h
  omega
theorem leastM_small {b N : Int} (hb : 2 ≤ b) (hN : N ≤ 2 ^ 200) {m : Nat} (h : LeastM b N m) : m < 300 := by
  rcases h.2 with z | z
  · omega
  · apply Nat.lt_of_not_le
    intro c
    have e1 : (2 : Int) ^ (m - 1) ≤ b ^ (m - 1) := ipow_two hb _
    have e2 : (2 : Int) ^ 200 ≤ 2 ^ (m - 1) := ipow_mono (by omega) (by omega)
    omega
/-- the quotient rounded up -/
theorem up_facts {N d : Int} (hd : 0 < d) : d * (-(-N / d) - 1) < N ∧ N ≤ d * (-(-N / d)) := by
  have h1 := Int.mul_ediv_add_emod (-N) d
  have h2 := Int.emod_nonneg (-N) (show d ≠ 0 by omega)
  have h3 := Int.emod_lt_of_pos (-N) hd
  have e1 : d * (-(-N / d)) = -(d * (-N / d)) := by rw [Int.mul_neg]
  have e2 : d * (-(-N / d) - 1) = d * (-(-N / d)) - d := by rw [Int.mul_sub, Int.mul_one]
  constructor <;> omega
theorem up_small {N d : Int} (hd : 0 < d) (h1 : N ≤ 2 ^ 200) (h2 : -1000 ≤ N) : (-(-N / d)).natAbs < 2 ^ 1000 := by
  obtain ⟨a, c⟩ := up_facts (N := N) hd
  generalize -(-N / d) = q at a c
  have b1 : q ≤ 2 ^ 200 + 1 := by
    apply Int.not_lt.mp
    intro h
    have e : (1 : Int) * (q - 1) ≤ d * (q - 1) := Int.mul_le_mul_of_nonneg_right (by omega) (by omega)
    omega
  have b2 : -1001 ≤ q := by
    apply Int.not_lt.mp
    intro h
    have e : d * q ≤ 1 * q := Int.mul_le_mul_of_nonpos_right (by omega) (by omega)
    omega
  have e200 : (2 : Nat) ^ 200 + 2000 < 2 ^ 1000 := by decide
  have e200' : ((2 : Int) ^ 200) = ((2 ^ 200 : Nat) : Int) := by norm_cast
  omega
section
variable {P : Program} {w : World} {K : PySem.W.Frag} {mg : Str → Option Value} {base : Heap}
theorem ok_num {f : Addr} {fd : FuncData} (F : Fun K "_law_numbers_right" "_law_numbers_right" sNum f fd) (T : NumT P w K mg base) : FnG P w K mg base CX0 3 f fd ["_law_pen_here"] (fun vs H Q _ => ∃ (p l : Addr) (ns : List Int) (n : Nat), vs = [.ref p] ∧ Pen H p l ns n ∧ n < 100000 ∧ ∀ H', Pen H' p l ns (n + 11) → But H H' p → Q (.bl true) H') := by
  obtain ⟨⟨fD, fdD, GD, mD, kD, bD⟩⟩ := T.draw
  obtain ⟨⟨fK, fdK, GK, mK, kK, bK⟩⟩ := T.pick
  obtain ⟨⟨fU, fdU, GU, mU, kU, bU, xU⟩⟩ := T.up
  obtain ⟨⟨fL, fdL, GL, mL, kL, bL, xL⟩⟩ := T.least
  obtain ⟨⟨fP, fdP, GP, mP, kP, bP⟩⟩ := T.pow
  refine fun_g F scNum (fun vs H Q E h => ?_) (fun cdv A outer s H vs Q E hgu hr h => ?_)
  · obtain ⟨p, l, ns, n, rfl, _⟩ := h
    rfl
  · obtain ⟨p, l, ns, n, rfl, hP, hn, k⟩ := h
    have hr1 : Room 1 (A.deeper (PyProof.Rows.envOfC "_law_numbers_right" (defScope sNum) s.heap.objs.size f cdv)) := hr.mono (by decide)
    have dr : ∀ {e : Expr} {te : TE} {p1 p2 p3 : Pos}, PE (cxOf CX0 P w K mg base numN "_law_numbers_right" (defScope sNum) f cdv A outer s H E).nox e te → starEach [e] (cxOf CX0 P w K mg base numN "_law_numbers_right" (defScope sNum) f cdv A outer s H E).nox.env = (false, eval e (cxOf CX0 P w K mg base numN "_law_numbers_right" (defScope sNum) f cdv A outer s H E).nox.env) :: starEach [] (cxOf CX0 P w K mg base numN "_law_numbers_right" (defScope sNum) f cdv A outer s H E).nox.env → (backTo p3 (starEach [e] (cxOf CX0 P w K mg base numN "_law_numbers_right" (defScope sNum) f cdv A outer s H E).nox.env)).any (·.1) = false →
        PE (cxOf CX0 P w K mg base numN "_law_numbers_right" (defScope sNum) f cdv A outer s H E).nox (.Call (.Name "_law_draw" p1) [.Name "_law_pen_here" p2, e] [] p3) (tCall spDraw [] E0 (tCons (tVar 0) (tCons te tNil))) :=
      fun he hs hp => pe_call GD hr1 rfl mD kD bD .nil pass0 (pa_cons (pv 0) (pa_cons he pa_nil hs)) (hpl := hp)
    have di : ∀ {e : Expr} {te : TE}, True := trivial
    refine ⟨_, pss_cons (ps_set (i := 1) scNum.nd rfl (Or.inl rfl) (pe_lst (pa_cons pe_int (pa_cons pe_int (pa_cons (dr pe_int rfl rfl) (pa_cons (dr (pe_op op_pow pe_int pe_int) rfl rfl)
        (pa_cons (pe_op op_sub (pe_op op_pow pe_int pe_int) (dr pe_int rfl rfl)) (pa_cons (pe_op op_sub pe_int (dr pe_int rfl rfl)) pa_nil))))))))
      (pss_cons (ps_set (i := 2) scNum.nd rfl (Or.inl rfl) (pe_call GK hr rfl mK kK bK .nil pass0 (pa_cons (pv 0) (pa_cons (pv 1) pa_nil))))
      (pss_cons (ps_set (i := 3) scNum.nd rfl (Or.inl rfl) (pe_op op_add pe_int (pe_call GK hr rfl mK kK bK .nil pass0 (pa_cons (pv 0) (pa_cons (pe_lst (pa_cons (dr pe_int rfl rfl) (pa_cons (dr (pe_op op_pow pe_int pe_int) rfl rfl) pa_nil))) pa_nil)))))
      (pss_cons (ps_set (i := 4) scNum.nd rfl (Or.inl rfl) (pe_op op_add pe_int (pe_call GK hr rfl mK kK bK .nil pass0 (pa_cons (pv 0) (pa_cons (pe_lst (pa_cons (dr pe_int rfl rfl) (pa_cons (dr (pe_op op_pow pe_int pe_int) rfl rfl) pa_nil))) pa_nil)))))
      (pss_cons (ps_par (i := 5) (j := 6) rfl scNum.nd rfl rfl (by decide) rfl rfl (pa_cons (pe_call GU hr1 rfl mU kU bU .nil pass0 (pa_cons (pv 2) (pa_cons (pv 3) pa_nil))) (pa_cons (pe_call GL hr1 rfl mL kL bL .nil pass0 (pa_cons (pv 4) (pa_cons (pv 2) pa_nil))) pa_nil)) (by rfl))
      (pss_cons (ps_if (PW.pt (pw_or (pt_cmpR op_ne (pe_callB (call_show hgu hr.units) (by rfl) T.repr (by decide +kernel) (pa_cons (pe_callTy call_int1 (by rfl) T.int (by decide +kernel) (pa_cons (pv 5) pa_nil)) pa_nil))
            (pe_callB (call_show hgu hr.units) (by rfl) T.repr (by decide +kernel) (pa_cons (pv 5) pa_nil)) (nomark _))
          (pw_or1 (pt_not (pt_chain op_lt op_le (pe_op op_mul (pv 3) (pe_op op_sub (pv 5) pe_int)) (pv 2) (pe_op op_mul (pv 3) (pv 5))))))) (pss_one (ps_ret pe_bl)) pss_nil)
      (pss_cons (ps_if (PW.pt (pw_or (pt_cmpR op_ne (pe_kw0 GU hr1 rfl mU kU xU pass0 (pk_cons (pv 2) (pk_cons (pv 3) pk_nil))) (pv 5) (nomark _))
          (pw_or1 (pt_cmpR op_ne (pe_kw0 GL hr1 rfl mL kL xL pass0 (pk_cons (pv 4) (pk_cons (pv 2) pk_nil))) (pv 6) (nomark _))))) (pss_one (ps_ret pe_bl)) pss_nil)
      (pss_one (ps_ret (pe_and (pe_cmpR op_ge (pe_call GP hr1 rfl mP kP bP .nil pass0 (pa_cons (pv 4) (pa_cons (pv 6) pa_nil))) (pv 2) (nomark _))
        (pe_one (pe_or (pe_cmpR op_eq (pv 6) pe_int (nomark _)) (pe_one (pe_cmpR op_lt (pe_call GP hr1 rfl mP kP bP .nil pass0 (pa_cons (pv 4) (pa_cons (pe_op op_sub (pv 6) pe_int) pa_nil))) (pv 2) (nomark _)))))))))))))), ?_⟩
    refine ⟨_, rfl, p, l, ns, n, _, rfl, hP, by decide, by decide, by omega, fun a i1 g1 H1 a0 a1 j1 k1 z1 b1 => ?_⟩
    have P1 := hP.next j1 k1 z1 b1
    refine ⟨_, rfl, _, _, rfl, rfl, ⟨by decide, by decide, by decide⟩, p, l, ns, n + 1, _, rfl, P1, by decide, by decide, by omega, fun b i2 g2 H2 b0 b1' j2 k2 z2 b2 => ?_⟩
    have P2 := P1.next j2 k2 z2 b2
    refine ⟨_, _, rfl, rfl, ⟨by decide, by decide, by decide⟩, _, rfl, p, l, ns, n + 1 + 1, _, rfl, P2, by decide, by decide, by omega, fun c i3 g3 H3 c0 c1 j3 k3 z3 b3 => ?_⟩
    have P3 := P2.next j3 k3 z3 b3
    refine ⟨_, _, rfl, rfl, _, rfl, p, l, ns, n + 1 + 1 + 1, _, rfl, P3, by decide, by decide, by omega, fun e i4 g4 H4 e0 e1 j4 k4 z4 b4 => ?_⟩
    have P4 := P3.next j4 k4 z4 b4
    refine ⟨_, _, rfl, rfl, by show 6 ≤ sizeLine; decide, fun so hso => ?_⟩
    have s5 := same_new hso (.lst [.int 0, .int 1, .int a, .int b, .int (10 ^ Int.toNat 60 - c), .int (0 - e)])
    have P5 := P4.same s5
    obtain ⟨ip, gp, hpp, _⟩ := id P4
    have n5 : so ≠ p := (ne_of_none hpp hso).symm
    refine ⟨_, rfl, _, rfl, p, l, so, ns, n + 1 + 1 + 1 + 1, _, rfl, P5, upd_same, n5, by show 0 < 6; decide, by show 6 < 1000; decide, by omega, fun jx x H6 hx P6 b6 => ?_⟩
    obtain ⟨N, rfl, N0, N1⟩ : ∃ N : Int, x = .int N ∧ -1000 ≤ N ∧ N ≤ 2 ^ 200 := by
      have e60 : (10 : Int) ^ Int.toNat 60 ≤ 2 ^ 200 := by decide
      have e61 : (1000 : Int) ≤ 10 ^ Int.toNat 60 := by decide
      have e62 : (10 : Int) ^ Int.toNat 6 ≤ 2 ^ 200 := by decide
      have e63 : (1000 : Int) ≤ 2 ^ 200 := by decide
      have b1'' : b < 10 ^ Int.toNat 6 := b1'
      match jx, hx with
      | 0, h => exact ⟨0, (Option.some.inj h).symm, by omega, by omega⟩
      | 1, h => exact ⟨1, (Option.some.inj h).symm, by omega, by omega⟩
      | 2, h => exact ⟨a, (Option.some.inj h).symm, by omega, by omega⟩
      | 3, h => exact ⟨b, (Option.some.inj h).symm, by omega, by omega⟩
      | 4, h => exact ⟨_, (Option.some.inj h).symm, by omega, by omega⟩
      | 5, h => exact ⟨_, (Option.some.inj h).symm, by omega, by omega⟩
    -- the divisor, the root
    refine ⟨_, rfl, _, rfl, p, l, ns, n + 1 + 1 + 1 + 1 + 1, _, rfl, P6, by decide, by decide, by omega, fun d1 i7 g7 H7 d10 d11 j7 k7 z7 b7 => ?_⟩
    have P7 := P6.next j7 k7 z7 b7
    refine ⟨_, rfl, _, _, rfl, rfl, ⟨by decide, by decide, by decide⟩, p, l, ns, n + 1 + 1 + 1 + 1 + 1 + 1, _, rfl, P7, by decide, by decide, by omega, fun d2 i8 g8 H8 d20 d21 j8 k8 z8 b8 => ?_⟩
    have P8 := P7.next j8 k8 z8 b8
    refine ⟨by show 2 ≤ sizeLine; decide, fun q9 h9 => ?_⟩
    have s9 := same_new h9 (.lst [.int d1, .int d2])
    obtain ⟨ip8, gp8, hpp8, _⟩ := id P8
    refine ⟨p, l, q9, ns, n + 1 + 1 + 1 + 1 + 1 + 1 + 1, _, rfl, P8.same s9, upd_same, (ne_of_none hpp8 h9).symm, by show 0 < 2; decide, by show 2 < 1000; decide, by omega, fun jy y H10 hy P10 b10 => ?_⟩
    obtain ⟨d, rfl, dn, dm⟩ : ∃ d : Int, y = .int d ∧ 0 ≤ d ∧ d ≤ 1000000 := by
      have e62 : (10 : Int) ^ Int.toNat 6 ≤ 1000000 := by decide
      have d21' : d2 < 10 ^ Int.toNat 6 := d21
      match jy, hy with
      | 0, h => exact ⟨d1, (Option.some.inj h).symm, by omega, by omega⟩
      | 1, h => exact ⟨d2, (Option.some.inj h).symm, by omega, by omega⟩
    refine ⟨_, _, rfl, rfl, ?_⟩
    refine ⟨_, rfl, _, rfl, p, l, ns, n + 1 + 1 + 1 + 1 + 1 + 1 + 1 + 1, _, rfl, P10, by decide, by decide, by omega, fun r1 i11 g11 H11 r10 r11 j11 k11 z11 b11 => ?_⟩
    have P11 := P10.next j11 k11 z11 b11
    refine ⟨_, rfl, _, _, rfl, rfl, ⟨by decide, by decide, by decide⟩, p, l, ns, n + 1 + 1 + 1 + 1 + 1 + 1 + 1 + 1 + 1, _, rfl, P11, by decide, by decide, by omega, fun r2 i12 g12 H12 r20 r21 j12 k12 z12 b12 => ?_⟩
    have P12 := P11.next j12 k12 z12 b12
    refine ⟨by show 2 ≤ sizeLine; decide, fun q13 h13 => ?_⟩
    have s13 := same_new h13 (.lst [.int r1, .int r2])
    obtain ⟨ip12, gp12, hpp12, _⟩ := id P12
    refine ⟨p, l, q13, ns, n + 1 + 1 + 1 + 1 + 1 + 1 + 1 + 1 + 1 + 1, _, rfl, P12.same s13, upd_same, (ne_of_none hpp12 h13).symm, by show 0 < 2; decide, by show 2 < 1000; decide, by omega, fun jz z H14 hz P14 b14 => ?_⟩
    obtain ⟨r, rfl, rn, rm⟩ : ∃ r : Int, z = .int r ∧ 0 ≤ r ∧ r ≤ 1000000 := by
      have e62 : (10 : Int) ^ Int.toNat 6 ≤ 1000000 := by decide
      have r21' : r2 < 10 ^ Int.toNat 6 := r21
      match jz, hz with
      | 0, h => exact ⟨r1, (Option.some.inj h).symm, by omega, by omega⟩
      | 1, h => exact ⟨r2, (Option.some.inj h).symm, by omega, by omega⟩
    refine ⟨_, _, rfl, rfl, ?_⟩
    have bAll : But H H14 p := b1.trans (b2.trans (b3.trans (b4.trans ((But.of_same s5).trans (b6.trans (b7.trans (b8.trans ((But.of_same s9).trans (b10.trans (b11.trans (b12.trans ((But.of_same s13).trans b14))))))))))))
    have hd0 : (0 : Int) < 1 + d := by omega
    have uf := up_facts (N := N) hd0
    have us := up_small hd0 N1 N0
    refine ⟨_, rfl, _, rfl, N, 1 + d, rfl, hd0, by omega, ?_⟩
    refine ⟨_, rfl, _, rfl, 2 + r, N, rfl, by omega, by omega, fun m hm => ⟨_, _, rfl, ?_⟩⟩
    have mS := leastM_small (by omega) N1 hm
    obtain ⟨q, eq⟩ : ∃ q, q = -(-N / (1 + d)) := ⟨_, rfl⟩
    rw [← eq] at uf us
    rw [← eq]
    refine ⟨_, rfl, .inl ⟨_, rfl, _, .int q, rfl, .int _, fit_int us, _, rfl, _, .int q, rfl, .int _, fit_int us, rfl, _, rfl, ?_⟩⟩
    rw [ne_same]
    refine iteF ⟨_, rfl, _, rfl, _, _, rfl, rfl, _, _, rfl, rfl, .inl ⟨by omega, by omega⟩, _, rfl, _, _, rfl, rfl, _, rfl, ?_⟩
    rw [decide_eq_true uf.1]
    refine iteT ⟨_, rfl, _, rfl, _, _, rfl, rfl, .inl ⟨by omega, by omega⟩, _, _, rfl, rfl, _, rfl, ?_⟩
    rw [decide_eq_true uf.2]
    refine iteF ?_
    -- by their names
    refine ⟨_, rfl, _, rfl, rfl, N, 1 + d, rfl, hd0, by omega, ?_⟩
    rw [← eq]
    refine ⟨_, rfl, rfl, _, rfl, ?_⟩
    rw [ne_same]
    refine iteF ⟨_, rfl, _, rfl, rfl, 2 + r, N, rfl, by omega, by omega, fun m' hm' => ?_⟩
    obtain rfl := leastM_unique (show (2 : Int) ≤ 2 + r by omega) hm hm'
    refine ⟨_, rfl, rfl, _, rfl, ?_⟩
    rw [ne_same]
    refine iteF ?_
    -- the powers
    have fin : Q (.bl true) H14 := k _ P14 bAll
    refine ⟨_, rfl, _, rfl, 2 + r, m, rfl, by omega, by omega, by omega, _, rfl, _, _, rfl, rfl, _, rfl, ?_⟩
    rw [decide_eq_true hm.1]
    refine iteT ⟨_, rfl, rfl, _, rfl, ?_⟩
    by_cases h0 : m = 0
    · rw [decide_eq_true (show V.int (m : Nat) = V.int 0 by rw [h0]; rfl)]
      exact iteT fin
    · rw [decide_eq_false (show ¬ V.int (m : Nat) = V.int 0 from fun z => h0 (by have z' := V.int.inj z; omega))]
      have hlt : (2 + r) ^ (m - 1) < N := hm.2.resolve_left h0
      have em : ((m : Nat) : Int) - 1 = ((m - 1 : Nat) : Int) := by omega
      refine iteF ⟨_, rfl, _, rfl, _, _, rfl, rfl, 2 + r, m - 1, by rw [← em]; rfl, by omega, by omega, by omega, _, rfl, _, _, rfl, rfl, ?_⟩
      show Q (.bl (decide ((2 + r) ^ (m - 1) < N))) H14
      rw [decide_eq_true hlt]
      exact fin
end
end Sk
/-! The law's def, proved for the one place where the row calls it (so that what is shown around is known: nothing). -/
namespace Sup
open PySem PySem.Spec PyProof.Rows L2
abbrev Sp1 := V → Hp → VK → Prop
/-- called there with one value, the def keeps its promise -/
def AtCall (P : Program) (w : World) (K : PySem.W.Frag) (mg : Str → Option Value) (base : Heap) (f : Addr) (sp : Sp1) : Prop :=
  ∀ (s : Shared) (H : Hp) (u : Value) (v : V) (Q : VK), Env0 P w K mg base callerA [] s H → RelV v u → sp v H Q → codeAny (model P w) callerA (.call (.ref f) ⟨[u], []⟩) (CR CX0 [] P w H s Q E0) s
section
variable {P : Program} {w : World} {K : PySem.W.Frag} {mg mb : Str → Option Value} {base : Heap}
theorem at_call {nm q x : Str} {st : Stmt} {f : Addr} {fd : FuncData} {N : List Str} {k : Nat} {sp : Sp1} (F : Fun K nm q st f fd) (S : FnScope N [x] (defScope st)) (room : Room (k + 1) callerA) (hb : ∀ (s : Shared) (u : Value), BindsTo s fd ⟨[u], []⟩ [(x, u)])
    (body : ∀ (cdv : Value) (s : Shared) (H : Hp) (v : V) (Q : VK), Room k (callerA.deeper (envOfC q (defScope st) s.heap.objs.size f cdv)) → sp v H Q →
      ∃ t, PSs (cxOf CX0 P w K mg base N q (defScope st) f cdv callerA [] s H E0).nox (defBody st) t ∧ t { nx := fun _ H' => Q .non H', rt := Q } (start N [v]) H) : AtCall P w K mg base f sp := by
  obtain ⟨oc, od, kV, doc, pm, an, cdv, ct, osl, rfl, lk, hcd⟩ := F.ex
  intro s H u v Q env0 ru hsp
  have stand : ∀ b o, base.get? b = some o → s.heap.get? b = some o := fun b o z => (env0.bs b o z).1
  have inK := env0.mod.kin.keeps stand
  have kinds : ∀ y ∈ [x].zip [u], (defScope st).names.lookup y.1 = some .local ∨ ((defScope st).names.lookup y.1 = some .cell ∧ ((cellsFrom (s.heap.objs.size + 1) (defScope st).names []).lookup y.1).isSome = true) := by
    intro y hy
    have ey : y = (x, u) := by simpa using hy
    subst ey
    exact (S.par x (by simp)).imp id fun c => ⟨c, PySem.W.cellsFrom_some _ _ _ (.inl c)⟩
  apply codeAny_call_function room.depth (inK _ _ lk) rfl S.co S.gen rfl (PySem.W.codeRec_of inK hcd)
  apply hb s u
  apply wpAny_newFunctionEnv_cells S.kind kinds
  intro env he s1 inC
  subst he
  constructor
  · exact (env0.mod.nolimit.keeps stand).keeps inC.toInCall.keep
  · obtain ⟨t, ht, hq⟩ := body cdv s H v Q (room.deeper _) hsp
    have J := inv_start (CX := CX0) (E := E0) (P := P) (w := w) (us := [u]) (vs := [v]) S room.hd env0 rfl (.cons ru .nil) inC
    apply codeAny_func
    apply wpAny_mono (ht.nox.run [] s1 (start N [v]) H _ J hq) _ (fun _ _ z => z)
    intro fl s' hs
    have done : ∀ {σ' : L2.St} {H' : Hp} {y : V} {z : Value}, Inv (cxOf CX0 P w K mg base N q (defScope st) f cdv callerA [] s H E0) [] σ' H' s' → L2.RelV y z → Q y H' → CE [] P w H s Q z s' := by
      intro σ' H' y z I ry qy
      exact ⟨y, H', I.os, I.bare, I.base, I.hok, ry, qy⟩
    match fl, hs with
    | .ret _, ⟨_, _, _, I, ry, qy⟩ => exact done I ry qy
    | .next, ⟨_, _, I, qy⟩ => exact done (y := V.non) (z := Value.none) I rfl qy
    | .brk, ⟨_, _, _, z⟩ => exact z.elim
    | .cont, ⟨_, _, _, z⟩ => exact z.elim
/-- behind the top, from the script alone -/
theorem law_runs {f a : Addr} {sp : Sp1} {s1 : Shared} {vs : List Value} {ns : List Int} (inK : K.In s1.heap) (gl : s1.heap.Ns mainGlobals mg) (bl : s1.heap.Ns builtinsNs mb) (bb : ∀ x : Str, x ≠ "__name__" → mb x = bootBuiltins x) (lim : s1.heap.NoLimit)
    (nogen : s1.gens = #[]) (ha : s1.heap.get? a = some { cls := .type "list", data := .seq vs.toArray }) (hi : IntsAre vs ns) (hl : ns.length ≤ sizeLine)
    (go : ∀ base : Heap, K.In base → base.Ns mainGlobals mg → AtCall P w K mg base f sp) (want : ∀ H : Hp, SqL K H a (ns.map V.int) → sp (.ref a) H fun v _ => v = .bl true) :
    codeAny (model P w) callerA (.call (.ref f) ⟨[.ref a], []⟩) (fun r s' => r = .ok (.ret (.bool true)) ∧ OldK s1.heap s'.heap ∧ s'.os = s1.os ∧ AllBare s'.gens) s1 := by
  have rel := vals_ints hi
  have szV : vs.length ≤ sizeLine := hi.length ▸ hl
  -- H tracks at most the script, as a thing that is known
  have main : ∀ H : Hp, (∀ b u, H b = some u → b = a ∧ K.lookup a = none ∧ ∃ o xs, u = .frz o (.lst xs)) → SqL K H a (ns.map V.int) → HOk P w H s1.heap → codeAny (model P w) callerA (.call (.ref f) ⟨[.ref a], []⟩)
      (fun r s' => r = .ok (.ret (.bool true)) ∧ OldK s1.heap s'.heap ∧ s'.os = s1.os ∧ AllBare s'.gens) s1 := by
    intro H only hS hok
    have keepB : ∀ {b : Addr} {o : Obj}, s1.heap.get? b = some o → (∀ xs n, o.data ≠ .seq xs n) → (hidT s1.heap H).get? b = some o := by
      intro b o e no
      apply hidT_get e
      cases z : H b with
      | none => rfl
      | some u =>
        obtain ⟨eb, _⟩ := only b u z
        rw [eb, ha] at e
        exact absurd rfl (by cases e; exact no _ _)
    have keepK : K.In (hidT s1.heap H) := by
      intro b o e
      apply hidT_get (inK b o e)
      cases z : H b with
      | none => rfl
      | some u =>
        obtain ⟨eb, nk, _⟩ := only b u z
        rw [eb, nk] at e
        cases e
    have keepN : ∀ {b : Addr} {m : Str → Option Value}, s1.heap.Ns b m → (hidT s1.heap H).Ns b m := by
      rintro b m ⟨o, es, ep, e, d, r⟩
      have nl : ∀ xs n, o.data ≠ .seq xs n := fun xs n z => by
        rw [d] at z
        cases z
      exact ⟨o, es, ep, keepB e nl, d, r⟩
    have mod : Mod K mg (hidT s1.heap H) := by
      refine ⟨keepK, keepN gl, ⟨mb, keepN bl, bb⟩, ?_⟩
      obtain ⟨mc, n1, n2⟩ := lim
      exact ⟨mc, keepN n1, n2⟩
    have env : Env0 P w K mg (hidT s1.heap H) callerA [] s1 H := by
      refine ⟨rfl, mod, fun b o e => of_hidT e, Nat.le_of_eq (hidT_size _ _), trivial, ?_, hok, .of_eq nogen⟩
      intro b hb
      cases hb
    apply codeAny_mono (go _ keepK (keepN gl) s1 H (.ref a) (.ref a) _ env rfl (want H hS))
    intro r s' h
    match r, h with
    | .ok (.ret u), ⟨v, H', os, bare, un, hok', ru, q⟩ =>
      have ev : v = .bl true := q
      subst ev
      obtain rfl : u = Value.bool true := ru
      refine ⟨rfl, OldK.of_keep ?_, os, bare⟩
      intro b o e
      cases z : H b with
      | none => exact un.keep b o e z (fun k => by cases k) (fun k => by cases k)
      | some u =>
        obtain ⟨_, _, ob, xs, eu⟩ := only b u z
        subst eu
        have here := (hok b _ z).1
        have there := (hok' b _ (un.frzs b ob _ z)).1
        rw [e] at here
        cases here
        exact there
  cases known : K.lookup a with
  | some o =>
    have eo := inK a o known
    rw [ha] at eo
    cases eo
    apply main (fun _ => none) (fun b u z => by cases z)
    · exact .inr ⟨_, vs.toArray, _, known, rfl, rfl, rfl, by simpa using szV, by simpa using rel⟩
    · intro b u z
      cases z
  | none =>
    apply main (fun b => if b = a then some (.frz { cls := .type "list", data := .seq vs.toArray } (.lst (ns.map V.int))) else none)
    · intro b u z
      by_cases hb : b = a
      · rw [if_pos hb] at z
        cases z
        exact ⟨hb, known, _, _, rfl⟩
      · rw [if_neg hb] at z
        cases z
    · exact .inl (.inr ⟨{ cls := .type "list", data := .seq vs.toArray }, if_pos rfl⟩)
    · intro b u z
      dsimp only at z
      by_cases hb : b = a
      · rw [if_pos hb] at z
        cases z
        subst hb
        exact ⟨ha, by rw [List.length_map]; exact hl, vs, _, rel, ha⟩
      · rw [if_neg hb] at z
        cases z
/-- the goal that k_head leaves, from AtCall -/
theorem walk_at {l : PySem.W.OpenLaw} {n : Nat} {q : Program} {loose : List Str} {XP : (Str → Option Value) → Heap → Prop} {YP : World → Heap → Prop} {d : DefRec} {K : Params → PySem.W.Frag} {sp : PySem.W.Frag → Sp1}
    (hn : l.most = some n) (hz : n ≤ sizeLine) (hdf : d.params.defaults = []) (hY : ∀ (w : World) (h : Heap), YP w h → (K w.params).In h)
    (go : ∀ (w : World) (mg : Str → Option Value) (f : Addr) (h : Heap), (K w.params).In h → h.Ns mainGlobals mg → mg d.name = some (.ref f) →
      ∀ base : Heap, (K w.params).In base → base.Ns mainGlobals mg → AtCall l.prog w (K w.params) mg base f (sp (K w.params)))
    (want : ∀ (K : PySem.W.Frag) (H : Hp) (a : Addr) (ns : List Int), ns.length ≤ n → SqL K H a (ns.map V.int) → sp K (.ref a) H fun v _ => v = .bl true) :
    PySem.W.WalkO q loose XP YP l.row.toRowW d [] (fun f vs => PySem.call f vs) := by
  apply Att.attach_call hn hdf
  intro w _ s1 mg mb f _ _ _ _ a vs ns G Y _ _ _ hmg hobj hints hlen hg
  have inK := hY w _ Y
  exact law_runs inK G.T.g G.T.b G.T.builtins G.T.nolimit hg hobj hints (Nat.le_trans hlen hz) (go w mg f _ inK G.T.g hmg) fun H hS => want _ H a ns hlen hS
end
end Sup
namespace Sk
open PySem L2 Sup Grd Shw Exg
open C8 (pss_cut tCut)
abbrev sLaw : Stmt := top 38
abbrev sLawB (i : Nat) : Stmt := (defBody sLaw).getD i (.Pass ⟨0, 0, 0, 0⟩)
def lawN : List Str := ["_law_script", "_law_pen_here", "_law_turn", "_law_thing", "_law_right", "_law_wrong", "_law_one"]
theorem scLaw : FnScope lawN ["_law_script"] (defScope sLaw) := ⟨rfl, rfl, rfl, by decide +kernel, rfl, by decide +kernel, by decide +kernel⟩
def rightL : List V := [.str "a", .str "zzzzzzzz", .str "rest", .str "frame", .str "grounds", .str "rail", .str "word"]
def wrongL (t l dd : Addr) : List V := [.str "", .str "A", .str "a1", .str "a b", .str "abcdefghi", .str "ground", .str "power", .str "nothing", .non, .int 1, .ref t, .ref l, .ref dd]
def moreL : List V := [.str "a\n", .str "-", .str "a{", .str "`a", .str "{", .str "`", .str "a_b", .str "_", .str "a.", .str " a"]
theorem name_of {K : PySem.W.Frag} {H : Hp} {t l dd : Addr} (h1 : H t = some (.tup [.str "a"])) (h2 : H l = some (.lst [.str "a"])) (h3 : H dd = some (.dK [])) {j : Nat} {x : V} (h : (rightL ++ (wrongL t l dd ++ moreL))[j]? = some x) :
    (∃ z : Str, x = .str z ∧ z.length ≤ 1000 ∧ isName z = decide (j < 7)) ∨ (¬ j < 7 ∧ ∃ t : String, kitB t "str" = some false ∧ ∀ H2, Same H H2 → TyX K H2 x (.type t)) := by
  match j, h with
  | 0, h => exact .inl ⟨"a", (Option.some.inj h).symm, by decide +kernel, by decide +kernel⟩
  | 1, h => exact .inl ⟨"zzzzzzzz", (Option.some.inj h).symm, by decide +kernel, by decide +kernel⟩
  | 2, h => exact .inl ⟨"rest", (Option.some.inj h).symm, by decide +kernel, by decide +kernel⟩
  | 3, h => exact .inl ⟨"frame", (Option.some.inj h).symm, by decide +kernel, by decide +kernel⟩
  | 4, h => exact .inl ⟨"grounds", (Option.some.inj h).symm, by decide +kernel, by decide +kernel⟩
  | 5, h => exact .inl ⟨"rail", (Option.some.inj h).symm, by decide +kernel, by decide +kernel⟩
  | 6, h => exact .inl ⟨"word", (Option.some.inj h).symm, by decide +kernel, by decide +kernel⟩
  | 7, h => exact .inl ⟨"", (Option.some.inj h).symm, by decide +kernel, by decide +kernel⟩
  | 8, h => exact .inl ⟨"A", (Option.some.inj h).symm, by decide +kernel, by decide +kernel⟩
  | 9, h => exact .inl ⟨"a1", (Option.some.inj h).symm, by decide +kernel, by decide +kernel⟩
  | 10, h => exact .inl ⟨"a b", (Option.some.inj h).symm, by decide +kernel, by decide +kernel⟩
  | 11, h => exact .inl ⟨"abcdefghi", (Option.some.inj h).symm, by decide +kernel, by decide +kernel⟩
  | 12, h => exact .inl ⟨"ground", (Option.some.inj h).symm, by decide +kernel, by decide +kernel⟩
  | 13, h => exact .inl ⟨"power", (Option.some.inj h).symm, by decide +kernel, by decide +kernel⟩
  | 14, h => exact .inl ⟨"nothing", (Option.some.inj h).symm, by decide +kernel, by decide +kernel⟩
  | 15, h => rw [← Option.some.inj h]; exact .inr ⟨by decide, "NoneType", by decide +kernel, fun H2 _ => .base .non⟩
  | 16, h => rw [← Option.some.inj h]; exact .inr ⟨by decide, "int", by decide +kernel, fun H2 _ => .base (.int 1)⟩
  | 17, h => rw [← Option.some.inj h]; exact .inr ⟨by decide, "tuple", by decide +kernel, fun H2 s => .base (.tup (s _ _ h1))⟩
  | 18, h => rw [← Option.some.inj h]; exact .inr ⟨by decide, "list", by decide +kernel, fun H2 s => .base (.lst (s _ _ h2))⟩
  | 19, h => rw [← Option.some.inj h]; exact .inr ⟨by decide, "dict", by decide +kernel, fun H2 s => .base (.dK (s _ _ h3))⟩
  | 20, h => exact .inl ⟨"a\n", (Option.some.inj h).symm, by decide +kernel, by decide +kernel⟩
  | 21, h => exact .inl ⟨"-", (Option.some.inj h).symm, by decide +kernel, by decide +kernel⟩
  | 22, h => exact .inl ⟨"a{", (Option.some.inj h).symm, by decide +kernel, by decide +kernel⟩
  | 23, h => exact .inl ⟨"`a", (Option.some.inj h).symm, by decide +kernel, by decide +kernel⟩
  | 24, h => exact .inl ⟨"{", (Option.some.inj h).symm, by decide +kernel, by decide +kernel⟩
  | 25, h => exact .inl ⟨"`", (Option.some.inj h).symm, by decide +kernel, by decide +kernel⟩
  | 26, h => exact .inl ⟨"a_b", (Option.some.inj h).symm, by decide +kernel, by decide +kernel⟩
  | 27, h => exact .inl ⟨"_", (Option.some.inj h).symm, by decide +kernel, by decide +kernel⟩
  | 28, h => exact .inl ⟨"a.", (Option.some.inj h).symm, by decide +kernel, by decide +kernel⟩
  | 29, h => exact .inl ⟨" a", (Option.some.inj h).symm, by decide +kernel, by decide +kernel⟩
def thingL (t l dd : Addr) (a : Int) : List V := [.int 0, .int (-3), .int ten7, .bl true, .bl false, .non, .str "1", .ref t, .ref l, .ref dd, .int a]
theorem thing_of {K : PySem.W.Frag} {H : Hp} {t l dd : Addr} {a : Int} (h1 : H t = some (.tup [.int 1])) (h2 : H l = some (.lst [])) (h3 : H dd = some (.dK [])) {j : Nat} {x : V} (h : (thingL t l dd a)[j]? = some x) :
    ∃ (ty : String) (b c : Bool), TyX K H x (.type ty) ∧ kitB ty "int" = some b ∧ kitB ty "bool" = some c := by
  match j, h with
  | 0, h => rw [← Option.some.inj h]; exact ⟨"int", true, false, .base (.int _), by decide +kernel, by decide +kernel⟩
  | 1, h => rw [← Option.some.inj h]; exact ⟨"int", true, false, .base (.int _), by decide +kernel, by decide +kernel⟩
  | 2, h => rw [← Option.some.inj h]; exact ⟨"int", true, false, .base (.int _), by decide +kernel, by decide +kernel⟩
  | 3, h => rw [← Option.some.inj h]; exact ⟨"bool", true, true, .base (.bl _), by decide +kernel, by decide +kernel⟩
  | 4, h => rw [← Option.some.inj h]; exact ⟨"bool", true, true, .base (.bl _), by decide +kernel, by decide +kernel⟩
  | 5, h => rw [← Option.some.inj h]; exact ⟨"NoneType", false, false, .base .non, by decide +kernel, by decide +kernel⟩
  | 6, h => rw [← Option.some.inj h]; exact ⟨"str", false, false, .base (.str _), by decide +kernel, by decide +kernel⟩
  | 7, h => rw [← Option.some.inj h]; exact ⟨"tuple", false, false, .base (.tup h1), by decide +kernel, by decide +kernel⟩
  | 8, h => rw [← Option.some.inj h]; exact ⟨"list", false, false, .base (.lst h2), by decide +kernel, by decide +kernel⟩
  | 9, h => rw [← Option.some.inj h]; exact ⟨"dict", false, false, .base (.dK h3), by decide +kernel, by decide +kernel⟩
  | 10, h => rw [← Option.some.inj h]; exact ⟨"int", true, false, .base (.int _), by decide +kernel, by decide +kernel⟩
theorem fit_bool (b : Bool) : Fit (.bool b) := ⟨rfl, Nat.zero_le _, by cases b <;> decide +kernel⟩
theorem names_eqv : PyData.eqv (.list (((List.range 30).map fun j => decide (j < 7)).map .bool)) (.list ((List.replicate 7 true ++ List.replicate 23 false).map .bool)) = true := by decide +kernel
theorem names_sh : SeqAt.shaped (.list (((List.range 30).map fun j => decide (j < 7)).map PyData.bool)) = true ∧ SeqAt.shaped (.list ((List.replicate 7 true ++ List.replicate 23 false).map PyData.bool)) = true := by decide +kernel
structure LawT (P : Program) (w : World) (K : PySem.W.Frag) (mg : Str → Option Value) (base : Heap) : Prop where
  pen : CalO P w K mg base "_law_pen" 1 ["_law_script"] (spPen K)
  draw : CalO P w K mg base "_law_draw" 1 ["_law_pen_here", "_law_many"] spDraw
  pick : CalO P w K mg base "_law_pick" 2 ["_law_pen_here", "_law_some"] spPick
  errs : CalG P w K mg base "_law_errors_right" 4 ["_law_pen_here"] spErrs
  num : CalG P w K mg base "_law_numbers_right" 3 ["_law_pen_here"] (fun vs H Q _ => ∃ (p l : Addr) (ns : List Int) (n : Nat), vs = [.ref p] ∧ Pen H p l ns n ∧ n < 100000 ∧ ∀ H', Pen H' p l ns (n + 11) → But H H' p → Q (.bl true) H')
  isint : CalK P w K mg base "is_integer" 1 ["value"] ["value"] (spInt K)
  isname : CalK P w K mg base "is_name" 1 ["value"] ["value"] (spIsName K)
  repr : mg "repr" = none
  range : mg "range" = none
  isi : mg "isinstance" = none
  int : mg "int" = none
  bool : mg "bool" = none
  len : mg "len" = none
def spLaw1 (K : PySem.W.Frag) : Sp1 := fun v H Q => ∃ (a : Addr) (ns : List Int), v = .ref a ∧ SqL K H a (ns.map V.int) ∧ ns.length ≤ 63 ∧ ∀ H', Q (.bl true) H'
section
variable {P : Program} {w : World} {K : PySem.W.Frag} {mg : Str → Option Value} {base : Heap}
theorem at_law {f : Addr} {fd : FuncData} (F : Fun K "law" "law" sLaw f fd) (hb : ∀ (s : Shared) (u : Value), BindsTo s fd ⟨[u], []⟩ [("_law_script", u)]) (T : LawT P w K mg base) : AtCall P w K mg base f (spLaw1 K) := by
  refine at_call (k := 5) F scLaw ⟨rfl, by decide, by decide⟩ hb fun cdv s H v Q hr h => ?_
  obtain ⟨sc, ns, rfl, hS, hlen, k⟩ := h
  obtain ⟨⟨fP, fdP, GP, mP, kP, bP⟩⟩ := T.pen
  obtain ⟨⟨fD, fdD, GD, mD, kD, bD⟩⟩ := T.draw
  obtain ⟨⟨fK, fdK, GK, mK, kK, bK⟩⟩ := T.pick
  obtain ⟨⟨fE, fdE, GE, mE, kE, bE⟩⟩ := T.errs
  obtain ⟨⟨fN, fdN, GN, mN, kN, bN⟩⟩ := T.num
  obtain ⟨⟨fI, fdI, GI, mI, kI, bI, xI⟩⟩ := T.isint
  obtain ⟨⟨fM, fdM, GM, mM, kM, bM, xM⟩⟩ := T.isname
  have hgu : (callerA.deeper (PyProof.Rows.envOfC "law" (defScope sLaw) s.heap.objs.size f cdv)).guards = some [] := rfl
  have hr1 : Room 1 (callerA.deeper (PyProof.Rows.envOfC "law" (defScope sLaw) s.heap.objs.size f cdv)) := hr.mono (by decide)
  have hr2 : Room 2 (callerA.deeper (PyProof.Rows.envOfC "law" (defScope sLaw) s.heap.objs.size f cdv)) := hr.mono (by decide)
  have hr3 : Room 3 (callerA.deeper (PyProof.Rows.envOfC "law" (defScope sLaw) s.heap.objs.size f cdv)) := hr.mono (by decide)
  have hr4 : Room 4 (callerA.deeper (PyProof.Rows.envOfC "law" (defScope sLaw) s.heap.objs.size f cdv)) := hr.mono (by decide)
  refine ⟨_, pss_cons (ps_set (i := 1) scLaw.nd rfl (Or.inl rfl) (pe_call GP hr1 rfl mP kP bP .nil pass0 (pa_cons (pv 0) pa_nil)))
    (pss_cut (ps_for PassesOwn.never rfl (pi_range1 rfl T.range (pa_cons pe_int pa_nil)) (pg_name (i := 2) scLaw.nd rfl (Or.inl rfl))
      (pss_cons (ps_if (PW.pt (pw_or (pt_not (pt_val (pe_callG GE hgu hr4 rfl mE kE bE pass0 (pa_cons (pv 1) pa_nil)))) (pw_or1 (pt_not (pt_val (pe_callG GN hgu hr3 rfl mN kN bN pass0 (pa_cons (pv 1) pa_nil))))))) (pss_one (ps_ret pe_bl)) pss_nil)
      (pss_cons (ps_set (i := 3) scLaw.nd rfl (Or.inl rfl) (pe_call GK hr2 rfl mK kK bK .nil pass0 (pa_cons (pv 1) (pa_cons (pe_lst (pa_cons pe_int (pa_cons (pe_un un_neg pe_int) (pa_cons (pe_op op_sub (pe_op op_pow pe_int pe_int) pe_int) (pa_cons pe_bl (pa_cons pe_bl (pa_cons pe_non (pa_cons pe_str (pa_cons (pe_tup (pa_cons pe_int pa_nil)) (pa_cons (pe_lst pa_nil) (pa_cons pe_dnewK (pa_cons (pe_call GD hr1 rfl mD kD bD .nil pass0 (pa_cons (pv 1) (pa_cons pe_int pa_nil))) pa_nil)))))))))))) pa_nil))))
      (pss_one (ps_if (pt_cmpR op_ne (pe_callB (call_show hgu hr.units) (by rfl) T.repr (by decide +kernel) (pa_cons (pe_call GI hr1 rfl mI kI bI .nil pass0 (pa_cons (pv 3) pa_nil)) pa_nil))
        (pe_callB (call_show hgu hr.units) (by rfl) T.repr (by decide +kernel) (pa_cons (pe_and (pe_callB call_isi (by rfl) T.isi (by decide +kernel) (pa_cons (pv 3) (pa_cons (pe_bltn (by rfl) T.int (by decide +kernel) (v := .ty "int") rfl) pa_nil)))
          (pe_one (pe_not (pe_callB call_isi (by rfl) T.isi (by decide +kernel) (pa_cons (pv 3) (pa_cons (pe_bltn (by rfl) T.bool (by decide +kernel) (v := .ty "bool") rfl) pa_nil)))))) pa_nil)) (nomark _)) (pss_one (ps_ret pe_bl)) pss_nil)))))
    (pss_cons (ps_set (i := 4) scLaw.nd rfl (Or.inl rfl) (pe_lst (pa_cons pe_str (pa_cons pe_str (pa_cons pe_str (pa_cons pe_str (pa_cons pe_str (pa_cons pe_str (pa_cons pe_str pa_nil)))))))))
    (pss_cons (ps_set (i := 5) scLaw.nd rfl (Or.inl rfl) (pe_lst (pa_cons pe_str (pa_cons pe_str (pa_cons pe_str (pa_cons pe_str (pa_cons pe_str (pa_cons pe_str (pa_cons pe_str (pa_cons pe_str (pa_cons pe_non (pa_cons pe_int (pa_cons (pe_tup (pa_cons pe_str pa_nil)) (pa_cons (pe_lst (pa_cons pe_str pa_nil)) (pa_cons pe_dnewK pa_nil)))))))))))))))
    (pss_cons (ps_set (i := 5) scLaw.nd rfl (Or.inl rfl) (pe_op op_cat (pv 5) (pe_lst (pa_cons pe_str (pa_cons pe_str (pa_cons pe_str (pa_cons pe_str (pa_cons pe_str (pa_cons pe_str (pa_cons pe_str (pa_cons pe_str (pa_cons pe_str (pa_cons pe_str pa_nil)))))))))))))
    (pss_cut (ps_if (pt_cmpR (op_neD hr.units) (pe_lc (te := tKw0 (List.length [("value" : Str)]) (spIsName K) (fun vs zs => vs ++ zs) E0 (tCons (tVar 6) tNil)) (own := [("_law_one", 6)]) (g := gName 6) (tt := tYes) rfl scLaw.nd (pi_list (pe_op op_cat (pv 4) (pv 5)))
        (blkOk_by (N := lawN) (sc := defScope sLaw) (by decide +kernel)) (fun _ _ _ _ _ => pg_name (i := 6) scLaw.nd rfl (Or.inl rfl)) (fun _ _ _ _ _ => pts_nil) (fun _ _ _ _ _ => pe_kw0 GM hr1 rfl mM kM xM pass0 (pk_cons (pv 6) pk_nil)))
      (pe_op op_cat (pe_op op_rep (pe_lst (pa_cons pe_bl pa_nil)) (pe_callB call_len_seq (by rfl) T.len PySem.boot_len (pa_cons (pv 4) pa_nil))) (pe_op op_rep (pe_lst (pa_cons pe_bl pa_nil)) (pe_callB call_len_seq (by rfl) T.len PySem.boot_len (pa_cons (pv 5) pa_nil)))) (nomark _)) (pss_one (ps_ret pe_bl)) pss_nil)
    (pss_one (ps_ret (pe_and (pe_cmpR op_is_bl (pe_call GM hr1 rfl mM kM bM .nil pass0 (pa_cons pe_str pa_nil)) pe_bl (by rfl)) (pe_and (pe_cmpR op_is_bl (pe_kw0 GI hr1 rfl mI kI xI pass0 (pk_cons pe_int pk_nil)) pe_bl (by rfl))
      (pe_one (pe_cmpR op_is_bl (pe_kw0 GI hr1 rfl mI kI xI pass0 (pk_cons pe_bl pk_nil)) pe_bl (by rfl)))))))))))), ?_⟩
  refine ⟨_, rfl, sc, ns, rfl, hS, hlen, fun p l cs H1 hP s1 => ?_⟩
  refine ⟨fun σ' _ => ∃ o2 o3, σ' = [some (.ref sc), some (.ref p), o2, o3, none, none, none], ?_, ?_⟩
  · refine ⟨6, rfl, by decide, by decide, for_range (n := 6) (fun i σ H' => ∃ o2 o3, σ = [some (.ref sc), some (.ref p), o2, o3, none, none, none] ∧ Pen H' p l cs (15 * i)) ⟨_, _, rfl, hP⟩ ?_ ?_⟩
    · rintro i σ H' hi ⟨o2, o3, rfl, P0⟩
      refine ⟨_, rfl, p, l, cs, 15 * i, rfl, P0, by omega, fun H2 P2 b2 => ⟨_, rfl, iteF ?_⟩⟩
      refine ⟨_, rfl, p, l, cs, 15 * i + 2, rfl, P2, by omega, fun H3 P3 b3 => ⟨_, rfl, iteF ?_⟩⟩
      refine ⟨_, rfl, _, rfl, _, _, rfl, rfl, ⟨by decide, by decide, by decide⟩, _, _, rfl, rfl, by show 1 ≤ sizeLine; decide, fun t1 ht1 => ⟨Nat.zero_le _, fun l1 hl1 => fun d1 hd1 => ?_⟩⟩
      have c1 := same_new ht1 (.tup [.int 1])
      have c2 := same_new hl1 (.lst [])
      have c3 := same_new hd1 (.dK [])
      obtain ⟨ip, gp, hpp, _⟩ := id P3
      have n1 : t1 ≠ p := (ne_of_none hpp ht1).symm
      have n2 : l1 ≠ p := (ne_of_none (c1 _ _ hpp) hl1).symm
      have n3 : d1 ≠ p := (ne_of_none (c2 _ _ (c1 _ _ hpp)) hd1).symm
      have sc3 := (c1.trans c2).trans c3
      refine ⟨_, rfl, p, l, cs, 15 * i + 2 + 11, _, rfl, P3.same sc3, by decide, by decide, by omega, fun a i4 g4 H4 a0 a1 j4 k4 z4 b4 => ⟨by show 11 ≤ sizeLine; decide, fun so hso => ?_⟩⟩
      have P4 := (P3.same sc3).next j4 k4 z4 b4
      have c5 := same_new hso (.lst (thingL t1 l1 d1 a))
      obtain ⟨ip4, gp4, hpp4, _⟩ := id P4
      refine ⟨p, l, so, cs, 15 * i + 2 + 11 + 1, thingL t1 l1 d1 a, rfl, P4.same c5, upd_same, (ne_of_none hpp4 hso).symm, by show 0 < 11; decide, by show 11 < 1000; decide, by omega, fun j x H6 hx P6 b6 => ?_⟩
      obtain ⟨ty, b, c, ht, hb', hc'⟩ := thing_of (K := K) (b6 _ _ n1 (c5 _ _ (b4 _ _ n1 (c3 _ _ (c2 _ _ upd_same))))) (b6 _ _ n2 (c5 _ _ (b4 _ _ n2 (c3 _ _ upd_same)))) (b6 _ _ n3 (c5 _ _ (b4 _ _ n3 upd_same))) hx
      have e15 : 15 * i + 2 + 11 + 1 + 1 = 15 * (i + 1) := by omega
      rw [e15] at P6
      refine ⟨_, rfl, x, ty, b, c, rfl, ht, hb', hc', _, .bool _, rfl, .bl _, fit_bool _, _, rfl, _, _, _, _, b, rfl, .ty _, ht, kit_ty hb', _, rfl, ?_⟩
      cases b with
      | false =>
        refine iteF ⟨_, .bool false, rfl, .bl _, fit_bool _, rfl, _, rfl, ?_⟩
        rw [show (V.str (PyData.shown (.bool (false && !c)))) = V.str (PyData.shown (.bool false)) from rfl, ne_same]
        exact iteF ⟨_, _, rfl, P6⟩
      | true =>
        refine iteT ⟨_, rfl, _, _, _, _, c, rfl, .ty _, ht, kit_ty hc', _, rfl, _, .bool (!c), rfl, .bl _, fit_bool _, rfl, _, rfl, ?_⟩
        rw [show (V.str (PyData.shown (.bool (true && !c)))) = V.str (PyData.shown (.bool (!c))) from rfl, ne_same]
        exact iteF ⟨_, _, rfl, P6⟩
    · rintro σ H' ⟨o2, o3, rfl, _⟩
      exact ⟨o2, o3, rfl⟩
  rintro σ2 H2 ⟨o2, o3, rfl⟩
  refine ⟨by show 7 ≤ sizeLine; decide, fun q4 h4 => ⟨by show 1 ≤ sizeLine; decide, fun t5 ht5 => ⟨by show 1 ≤ sizeLine; decide, fun l5 hl5 => fun d5 hd5 => ⟨by show 13 ≤ sizeLine; decide, fun q5 h5 => ?_⟩⟩⟩⟩
  refine ⟨_, rfl, by show 10 ≤ sizeLine; decide, fun q6 h6 => ⟨q5, q6, _, _, rfl, rfl, same_new h6 _ _ _ upd_same, upd_same, by show 13 + 10 ≤ sizeLine; decide, fun q7 h7 => ?_⟩⟩
  have c5 := same_new ht5 (.tup [.str "a"])
  have c6 := same_new hl5 (.lst [.str "a"])
  have c7 := same_new hd5 (.dK [])
  have c8 := same_new h5 (.lst (wrongL t5 l5 d5))
  have c9 := same_new h6 (.lst moreL)
  have c10 := same_new h7 (.lst (wrongL t5 l5 d5 ++ moreL))
  obtain ⟨H7, e7⟩ : ∃ H7, H7 = upd (upd (upd (upd (upd (upd (upd H2 q4 (.lst rightL)) t5 (.tup [.str "a"])) l5 (.lst [.str "a"])) d5 (.dK [])) q5 (.lst (wrongL t5 l5 d5))) q6 (.lst moreL)) q7 (.lst (wrongL t5 l5 d5 ++ moreL)) := ⟨_, rfl⟩
  have f8 : H7 q7 = some (.lst (wrongL t5 l5 d5 ++ moreL)) := by rw [e7]; exact upd_same
  have f4 : H7 q4 = some (.lst rightL) := by rw [e7]; exact c10 _ _ (c9 _ _ (c8 _ _ (c7 _ _ (c6 _ _ (c5 _ _ upd_same)))))
  have f5 : H7 t5 = some (.tup [.str "a"]) := by rw [e7]; exact c10 _ _ (c9 _ _ (c8 _ _ (c7 _ _ (c6 _ _ upd_same))))
  have f6 : H7 l5 = some (.lst [.str "a"]) := by rw [e7]; exact c10 _ _ (c9 _ _ (c8 _ _ (c7 _ _ upd_same)))
  have f7 : H7 d5 = some (.dK []) := by rw [e7]; exact c10 _ _ (c9 _ _ (c8 _ _ upd_same))
  refine ⟨fun _ _ => True, ?_, ?_⟩
  · show tIfS _ _ _ _ _ (upd (upd (upd (upd (upd (upd (upd H2 q4 (.lst rightL)) t5 (.tup [.str "a"])) l5 (.lst [.str "a"])) d5 (.dK [])) q5 (.lst (wrongL t5 l5 d5))) q6 (.lst moreL)) q7 (.lst (wrongL t5 l5 d5 ++ moreL)))
    rw [← e7]
    refine ⟨_, rfl, _, rfl, q4, q7, rightL, wrongL t5 l5 d5 ++ moreL, rfl, rfl, f4, f8, by show 7 + 23 ≤ sizeLine; decide, fun q8 h8 => ?_⟩
    have c11 := same_new h8 (.lst (rightL ++ (wrongL t5 l5 d5 ++ moreL)))
    refine ⟨q8, rfl, ⟨_, SqL.of upd_same⟩, fun D9 hD9 => lc_list (xs := rightL ++ (wrongL t5 l5 d5 ++ moreL)) (fun i H' => Same H7 H' ∧ H' q8 = some (.lst (rightL ++ (wrongL t5 l5 d5 ++ moreL))) ∧ H' D9 = some (.lst (((List.range i).map fun j => decide (j < 7)).map V.bl))) ?_ ?_ ?_ ?_⟩
    · exact ⟨c11.trans (same_new hD9 _), same_new hD9 _ _ _ upd_same, upd_same⟩
    · rintro i H' _ ⟨_, z, _⟩
      exact SqL.of z
    · rintro i x H' hx ⟨sm, z, dH⟩
      have hi30 : i < 30 := (List.getElem?_eq_some_iff.mp hx).1
      refine ⟨rfl, ?_⟩
      unfold tYes
      dsimp only
      rw [if_pos rfl]
      have fin : ∀ (v : Bool) (H'' : Hp), v = decide (i < 7) → Same H' H'' → ∃ acc, H'' D9 = some (.lst acc) ∧ acc.length < sizeLine ∧ Same H7 (upd H'' D9 (.lst (acc ++ [.bl v]))) ∧ upd H'' D9 (.lst (acc ++ [.bl v])) q8 = some (.lst (rightL ++ (wrongL t5 l5 d5 ++ moreL))) ∧
          upd H'' D9 (.lst (acc ++ [.bl v])) D9 = some (.lst (((List.range (i + 1)).map fun j => decide (j < 7)).map V.bl)) := by
        rintro v H'' rfl s''
        have n8 : q8 ≠ D9 := ne_of_none upd_same hD9
        refine ⟨_, s'' _ _ dH, ?_, fun b o eb => ?_, ?_, ?_⟩
        · rw [List.length_map, List.length_map, List.length_range]
          exact Nat.lt_of_lt_of_le hi30 (by decide)
        · rw [upd_ne (ne_of_none (c11 _ _ eb) hD9)]
          exact s'' _ _ (sm _ _ eb)
        · rw [upd_ne n8]
          exact s'' _ _ z
        · rw [upd_same, List.range_succ, List.map_append, List.map_append]
          rfl
      refine ⟨_, rfl, rfl, x, rfl, ?_⟩
      rcases name_of (K := K) f5 f6 f7 hx with ⟨zz, rfl, hz, hnm⟩ | ⟨hno, ty, hk, hty⟩
      · exact .inl ⟨zz, rfl, hz, fun H'' s'' => fin _ H'' hnm s''⟩
      · exact .inr ⟨ty, hty _ sm, hk, fin false H' (decide_eq_false hno).symm (Same.refl _)⟩
    rintro H9 ⟨sm, _, dH⟩
    refine ⟨by show 1 ≤ sizeLine; decide, fun r1 hr1 => ?_⟩
    have g1 := same_new hr1 (.lst [.bl true])
    refine ⟨_, rfl, q4, rightL, rfl, .inl (SqL.of (g1 _ _ (sm _ _ f4))), r1, _, _, rfl, rfl, upd_same, by decide, by decide, by show 1 * 7 ≤ sizeLine; decide, fun r2 hr2 => ?_⟩
    have g2 := same_new hr2 (.lst (List.replicate (Int.toNat 7) [.bl true]).flatten)
    refine ⟨by show 1 ≤ sizeLine; decide, fun r3 hr3 => ?_⟩
    have g3 := same_new hr3 (.lst [.bl false])
    refine ⟨_, rfl, q7, _, rfl, .inl (SqL.of (g3 _ _ (g2 _ _ (g1 _ _ (sm _ _ f8))))), r3, _, _, rfl, rfl, upd_same, (by show -(2 ^ 63 : Int) ≤ 23; decide), (by show (23 : Int) < 2 ^ 63; decide), by show 1 * 23 ≤ sizeLine; decide, fun r4 hr4 => ?_⟩
    have g4 := same_new hr4 (.lst (List.replicate (Int.toNat 23) [.bl false]).flatten)
    refine ⟨r2, r4, _, _, rfl, rfl, g4 _ _ (g3 _ _ upd_same), upd_same, by show 7 + 23 ≤ sizeLine; decide, fun r5 hr5 => ?_⟩
    have g5 := same_new hr5 (.lst ((List.replicate (Int.toNat 7) [.bl true]).flatten ++ (List.replicate (Int.toNat 23) [.bl false]).flatten))
    refine ⟨_, _, .lst (SqL.of (g5 _ _ (g4 _ _ (g3 _ _ (g2 _ _ (g1 _ _ dH)))))) (dp_bools ((List.range 30).map fun j => decide (j < 7))), .lst (SqL.of upd_same) (dp_bools (List.replicate 7 true ++ List.replicate 23 false)), names_sh.1, names_sh.2, _, rfl, ?_⟩
    rw [names_eqv]
    exact iteF trivial
  · rintro σ3 H3 _
    refine ⟨.str "a", rfl, .inl ⟨"a", rfl, by decide +kernel, fun H4 _ => ⟨_, _, rfl, rfl, _, rfl, ?_⟩⟩⟩
    rw [show decide (isName "a" = true) = true from by decide +kernel]
    refine iteT ⟨rfl, .int 7, "int", true, false, rfl, .base (.int 7), by decide +kernel, by decide +kernel, _, _, rfl, rfl, _, rfl, ?_⟩
    refine iteT ⟨rfl, .bl true, "bool", true, true, rfl, .base (.bl true), by decide +kernel, by decide +kernel, _, _, rfl, rfl, ?_⟩
    exact k _
end
end Sk
namespace Sk
open PySem L2 Sup Grd Shw Exg
open NdefX (NF NScope ncx envF startF nscope_by)
abbrev sE (i : Nat) : Stmt := inClass (top i) 0
theorem in_of {st : Stmt} (h : (defScope st).kind = .function) : ∀ env : Env, env.scope = defScope st → interactive env = false := fun env e => by
  unfold interactive
  rw [e, h]
  rfl
section
variable {P : Program} {w : World} {K : PySem.W.Frag} {mg : Str → Option Value} {base : Heap} {f c cc C : Addr} {fd : FuncData}
theorem mkE0 (F : FunS P K "__init__" "InvalidFrame.__init__" (sE 10) f fd c cc C) (T : ErrT P K mg "ValueError" "ValueError.__new__" "ValueError.__init__" tlV C) (hno : PySem.W.findIn K (.ref C) "reason" = some none) : FnG P w K mg base CX0 1 f fd ["self", "reason"] (spOne K C "reason") :=
  ok_one bV F T (nscope_by (by decide +kernel)) rfl (by decide +kernel) rfl rfl rfl rfl (by decide) (by decide) ⟨_, rfl, rfl⟩ hno rfl (in_of rfl) fun _ => rfl
theorem mkE1 (F : FunS P K "__init__" "InvalidWord.__init__" (sE 11) f fd c cc C) (T : ErrT P K mg "ValueError" "ValueError.__new__" "ValueError.__init__" tlV C) (hno : PySem.W.findIn K (.ref C) "name" = some none) : FnG P w K mg base CX0 1 f fd ["self", "name"] (spOne K C "name") :=
  ok_one bV F T (nscope_by (by decide +kernel)) rfl (by decide +kernel) rfl rfl rfl rfl (by decide) (by decide) ⟨_, rfl, rfl⟩ hno rfl (in_of rfl) fun _ => rfl
theorem mkE2 (F : FunS P K "__init__" "InvalidBoard.__init__" (sE 12) f fd c cc C) (T : ErrT P K mg "ValueError" "ValueError.__new__" "ValueError.__init__" tlV C) (hno : PySem.W.findIn K (.ref C) "reason" = some none) : FnG P w K mg base CX0 1 f fd ["self", "reason"] (spOne K C "reason") :=
  ok_one bV F T (nscope_by (by decide +kernel)) rfl (by decide +kernel) rfl rfl rfl rfl (by decide) (by decide) ⟨_, rfl, rfl⟩ hno rfl (in_of rfl) fun _ => rfl
theorem mkE3 (F : FunS P K "__init__" "InvalidChain.__init__" (sE 15) f fd c cc C) (T : ErrT P K mg "ValueError" "ValueError.__new__" "ValueError.__init__" tlV C) (hno : PySem.W.findIn K (.ref C) "reason" = some none) : FnG P w K mg base CX0 1 f fd ["self", "reason"] (spOne K C "reason") :=
  ok_one bV F T (nscope_by (by decide +kernel)) rfl (by decide +kernel) rfl rfl rfl rfl (by decide) (by decide) ⟨_, rfl, rfl⟩ hno rfl (in_of rfl) fun _ => rfl
theorem mkE4 (F : FunS P K "__init__" "InvalidHurt.__init__" (sE 16) f fd c cc C) (T : ErrT P K mg "ValueError" "ValueError.__new__" "ValueError.__init__" tlV C) (hno : PySem.W.findIn K (.ref C) "reason" = some none) : FnG P w K mg base CX0 1 f fd ["self", "reason"] (spOne K C "reason") :=
  ok_one bV F T (nscope_by (by decide +kernel)) rfl (by decide +kernel) rfl rfl rfl rfl (by decide) (by decide) ⟨_, rfl, rfl⟩ hno rfl (in_of rfl) fun _ => rfl
theorem mkE5 (F : FunS P K "__init__" "InvalidScan.__init__" (sE 17) f fd c cc C) (T : ErrT P K mg "ValueError" "ValueError.__new__" "ValueError.__init__" tlV C) (hno : PySem.W.findIn K (.ref C) "index" = some none) : FnG P w K mg base CX0 1 f fd ["self", "index"] (spOne K C "index") :=
  ok_one bV F T (nscope_by (by decide +kernel)) rfl (by decide +kernel) rfl rfl rfl rfl (by decide) (by decide) ⟨_, rfl, rfl⟩ hno rfl (in_of rfl) fun _ => rfl
theorem mkE6 (F : FunS P K "__init__" "InvalidCommand.__init__" (sE 19) f fd c cc C) (T : ErrT P K mg "ValueError" "ValueError.__new__" "ValueError.__init__" tlV C) (hno : PySem.W.findIn K (.ref C) "word" = some none) : FnG P w K mg base CX0 1 f fd ["self", "word"] (spOne K C "word") :=
  ok_one bV F T (nscope_by (by decide +kernel)) rfl (by decide +kernel) rfl rfl rfl rfl (by decide) (by decide) ⟨_, rfl, rfl⟩ hno rfl (in_of rfl) fun _ => rfl
theorem mkE7 (F : FunS P K "__init__" "NoLeg.__init__" (sE 23) f fd c cc C) (T : ErrT P K mg "LookupError" "LookupError.__new__" "LookupError.__init__" tlL C) (hno : PySem.W.findIn K (.ref C) "name" = some none) : FnG P w K mg base CX0 1 f fd ["self", "name"] (spOne K C "name") :=
  ok_one bL F T (nscope_by (by decide +kernel)) rfl (by decide +kernel) rfl rfl rfl rfl (by decide) (by decide) ⟨_, rfl, rfl⟩ hno rfl (in_of rfl) fun _ => rfl
theorem mkE8 (F : FunS P K "__init__" "NoWord.__init__" (sE 24) f fd c cc C) (T : ErrT P K mg "LookupError" "LookupError.__new__" "LookupError.__init__" tlL C) (hno : PySem.W.findIn K (.ref C) "index" = some none) : FnG P w K mg base CX0 1 f fd ["self", "index"] (spOne K C "index") :=
  ok_one bL F T (nscope_by (by decide +kernel)) rfl (by decide +kernel) rfl rfl rfl rfl (by decide) (by decide) ⟨_, rfl, rfl⟩ hno rfl (in_of rfl) fun _ => rfl
theorem mkE9 (F : FunS P K "__init__" "TooMany.__init__" (sE 25) f fd c cc C) (T : ErrT P K mg "OverflowError" "OverflowError.__new__" "OverflowError.__init__" tlO C) (hno : PySem.W.findIn K (.ref C) "most" = some none) : FnG P w K mg base CX0 1 f fd ["self", "most"] (spOne K C "most") :=
  ok_one bO F T (nscope_by (by decide +kernel)) rfl (by decide +kernel) rfl rfl rfl rfl (by decide) (by decide) ⟨_, rfl, rfl⟩ hno rfl (in_of rfl) fun _ => rfl
theorem mkE10 (F : FunS P K "__init__" "InvalidAnswer.__init__" (sE 13) f fd c cc C) (T : ErrT P K mg "ValueError" "ValueError.__new__" "ValueError.__init__" tlV C) (hno : PySem.W.findIn K (.ref C) "index" = some none) (hno2 : PySem.W.findIn K (.ref C) "name" = some none) : FnG P w K mg base CX0 1 f fd ["self", "index", "name"] (spTwo K C "index" "name") :=
  ok_two bV F T (nscope_by (by decide +kernel)) rfl (by decide +kernel) (by decide +kernel) rfl rfl rfl rfl rfl (by decide) (by decide) (by decide) (by decide) ⟨_, rfl, rfl⟩ hno hno2 rfl (in_of rfl) fun _ => rfl
theorem mkE11 (F : FunS P K "__init__" "NoBoard.__init__" (sE 14) f fd c cc C) (T : ErrT P K mg "ValueError" "ValueError.__new__" "ValueError.__init__" tlV C) (hno : PySem.W.findIn K (.ref C) "index" = some none) (hno2 : PySem.W.findIn K (.ref C) "name" = some none) : FnG P w K mg base CX0 1 f fd ["self", "index", "name"] (spTwo K C "index" "name") :=
  ok_two bV F T (nscope_by (by decide +kernel)) rfl (by decide +kernel) (by decide +kernel) rfl rfl rfl rfl rfl (by decide) (by decide) (by decide) (by decide) ⟨_, rfl, rfl⟩ hno hno2 rfl (in_of rfl) fun _ => rfl
theorem mkE12 (F : FunS P K "__init__" "InvalidText.__init__" (sE 18) f fd c cc C) (T : ErrT P K mg "ValueError" "ValueError.__new__" "ValueError.__init__" tlV C) (hno : PySem.W.findIn K (.ref C) "line" = some none) (hno2 : PySem.W.findIn K (.ref C) "word" = some none) : FnG P w K mg base CX0 1 f fd ["self", "line", "word"] (spTwo K C "line" "word") :=
  ok_two bV F T (nscope_by (by decide +kernel)) rfl (by decide +kernel) (by decide +kernel) rfl rfl rfl rfl rfl (by decide) (by decide) (by decide) (by decide) ⟨_, rfl, rfl⟩ hno hno2 rfl (in_of rfl) fun _ => rfl
end
end Sk
namespace Sk
open PySem L2 Sup Grd Shw Exg
theorem vals_back {xs : List V} {us : List Value} (h : Vals xs us) : Vals xs.reverse us.reverse := by
  induction h with
  | nil => exact .nil
  | cons r t ih =>
    simp only [List.reverse_cons]
    exact ih.append (.cons r .nil)
theorem all15 {p : Nat → Bool} (h : (List.range 15).all p = true) : ∀ i, i < 15 → p i = true := fun i hi => List.all_eq_true.mp h i (List.mem_range.mpr hi)
theorem each15 {R : Nat → Prop} (h0 : R 0) (h1 : R 1) (h2 : R 2) (h3 : R 3) (h4 : R 4) (h5 : R 5) (h6 : R 6) (h7 : R 7) (h8 : R 8) (h9 : R 9) (h10 : R 10) (h11 : R 11) (h12 : R 12) (h13 : R 13) (h14 : R 14) : ∀ i, i < 15 → R i := by
  intro i hi
  match i, hi with
  | 0, _ => exact h0
  | 1, _ => exact h1
  | 2, _ => exact h2
  | 3, _ => exact h3
  | 4, _ => exact h4
  | 5, _ => exact h5
  | 6, _ => exact h6
  | 7, _ => exact h7
  | 8, _ => exact h8
  | 9, _ => exact h9
  | 10, _ => exact h10
  | 11, _ => exact h11
  | 12, _ => exact h12
  | 13, _ => exact h13
  | 14, _ => exact h14
theorem all_mk {P : Program} {w : World} {K : PySem.W.Frag} {h : Heap} {mg : Str → Option Value} {fa : Addr} (X : K.In h) (G : h.Ns mainGlobals mg) (hfa : mg "law" = some (.ref fa))
    {C0 : Addr}
    {C1 : Addr}
    {C2 : Addr}
    {C3 : Addr}
    {C4 : Addr}
    {C5 : Addr}
    {C6 : Addr}
    {C7 : Addr}
    {C8 : Addr}
    {C9 : Addr}
    {C10 : Addr}
    {C11 : Addr}
    {C12 : Addr}
    {C13 : Addr}
    {C14 : Addr}
    {CJ CM : Addr}
    {tL tN : Tok} {aR : Addr} {dR : Option Addr} {itsR : Array Value} {nR : Nat} {slR : Array (Option Value)}
    {fN : Addr} {odN anN : Option Addr} {slN : Array (Option Value)} {ocN kVN dcN pmN cdN ctN : Value}
    {fI : Addr} {odI anI : Option Addr} {slI : Array (Option Value)} {ocI kVI dcI pmI cdI ctI : Value}
    {fU : Addr} {odU anU : Option Addr} {slU : Array (Option Value)} {ocU kVU dcU pmU cdU ctU : Value}
    {fLP : Addr} {odLP anLP : Option Addr} {slLP : Array (Option Value)} {ocLP kVLP dcLP pmLP cdLP ctLP : Value}
    {fPn : Addr} {odPn anPn : Option Addr} {slPn : Array (Option Value)} {ocPn kVPn dcPn pmPn cdPn ctPn : Value}
    {fDr : Addr} {odDr anDr : Option Addr} {slDr : Array (Option Value)} {ocDr kVDr dcDr pmDr cdDr ctDr : Value}
    {fPk : Addr} {odPk anPk : Option Addr} {slPk : Array (Option Value)} {ocPk kVPk dcPk pmPk cdPk ctPk : Value}
    {fOn : Addr} {odOn anOn : Option Addr} {slOn : Array (Option Value)} {ocOn kVOn dcOn pmOn cdOn ctOn : Value}
    {fTw : Addr} {odTw anTw : Option Addr} {slTw : Array (Option Value)} {ocTw kVTw dcTw pmTw cdTw ctTw : Value}
    {fKn : Addr} {odKn anKn : Option Addr} {slKn : Array (Option Value)} {ocKn kVKn dcKn pmKn cdKn ctKn : Value}
    {fBa : Addr} {odBa anBa : Option Addr} {slBa : Array (Option Value)} {ocBa kVBa dcBa pmBa cdBa ctBa : Value}
    {fNm : Addr} {odNm anNm : Option Addr} {slNm : Array (Option Value)} {ocNm kVNm dcNm pmNm cdNm ctNm : Value}
    {fEr : Addr} {odEr anEr : Option Addr} {slEr : Array (Option Value)} {ocEr kVEr dcEr pmEr cdEr ctEr : Value}
    {fPw : Addr} {odPw anPw : Option Addr} {slPw : Array (Option Value)} {ocPw kVPw dcPw pmPw cdPw ctPw : Value}
    {fNu : Addr} {odNu anNu : Option Addr} {slNu : Array (Option Value)} {ocNu kVNu dcNu pmNu cdNu ctNu : Value}
    {fLw : Addr} {odLw anLw : Option Addr} {slLw : Array (Option Value)} {ocLw kVLw dcLw pmLw cdLw ctLw : Value}
    {fE0 xE0 yE0 : Addr} {odE0 anE0 : Option Addr} {slE0 : Array (Option Value)} {ocE0 kVE0 dcE0 pmE0 ctE0 : Value}
    {u1E0 u2E0 : Value} {v1E0 v2E0 : Option Addr} {vsE0 : Array Value} {w1E0 w2E0 : Array (Option Value)} {flE0 : Str} {tfE0 : Tok}
    {cdC0 : ClassData}
    {fE1 xE1 yE1 : Addr} {odE1 anE1 : Option Addr} {slE1 : Array (Option Value)} {ocE1 kVE1 dcE1 pmE1 ctE1 : Value}
    {u1E1 u2E1 : Value} {v1E1 v2E1 : Option Addr} {vsE1 : Array Value} {w1E1 w2E1 : Array (Option Value)} {flE1 : Str} {tfE1 : Tok}
    {cdC1 : ClassData}
    {fE2 xE2 yE2 : Addr} {odE2 anE2 : Option Addr} {slE2 : Array (Option Value)} {ocE2 kVE2 dcE2 pmE2 ctE2 : Value}
    {u1E2 u2E2 : Value} {v1E2 v2E2 : Option Addr} {vsE2 : Array Value} {w1E2 w2E2 : Array (Option Value)} {flE2 : Str} {tfE2 : Tok}
    {cdC2 : ClassData}
    {fE3 xE3 yE3 : Addr} {odE3 anE3 : Option Addr} {slE3 : Array (Option Value)} {ocE3 kVE3 dcE3 pmE3 ctE3 : Value}
    {u1E3 u2E3 : Value} {v1E3 v2E3 : Option Addr} {vsE3 : Array Value} {w1E3 w2E3 : Array (Option Value)} {flE3 : Str} {tfE3 : Tok}
    {cdC3 : ClassData}
    {fE4 xE4 yE4 : Addr} {odE4 anE4 : Option Addr} {slE4 : Array (Option Value)} {ocE4 kVE4 dcE4 pmE4 ctE4 : Value}
    {u1E4 u2E4 : Value} {v1E4 v2E4 : Option Addr} {vsE4 : Array Value} {w1E4 w2E4 : Array (Option Value)} {flE4 : Str} {tfE4 : Tok}
    {cdC4 : ClassData}
    {fE5 xE5 yE5 : Addr} {odE5 anE5 : Option Addr} {slE5 : Array (Option Value)} {ocE5 kVE5 dcE5 pmE5 ctE5 : Value}
    {u1E5 u2E5 : Value} {v1E5 v2E5 : Option Addr} {vsE5 : Array Value} {w1E5 w2E5 : Array (Option Value)} {flE5 : Str} {tfE5 : Tok}
    {cdC5 : ClassData}
    {fE6 xE6 yE6 : Addr} {odE6 anE6 : Option Addr} {slE6 : Array (Option Value)} {ocE6 kVE6 dcE6 pmE6 ctE6 : Value}
    {u1E6 u2E6 : Value} {v1E6 v2E6 : Option Addr} {vsE6 : Array Value} {w1E6 w2E6 : Array (Option Value)} {flE6 : Str} {tfE6 : Tok}
    {cdC6 : ClassData}
    {fE7 xE7 yE7 : Addr} {odE7 anE7 : Option Addr} {slE7 : Array (Option Value)} {ocE7 kVE7 dcE7 pmE7 ctE7 : Value}
    {u1E7 u2E7 : Value} {v1E7 v2E7 : Option Addr} {vsE7 : Array Value} {w1E7 w2E7 : Array (Option Value)} {flE7 : Str} {tfE7 : Tok}
    {cdC7 : ClassData}
    {fE8 xE8 yE8 : Addr} {odE8 anE8 : Option Addr} {slE8 : Array (Option Value)} {ocE8 kVE8 dcE8 pmE8 ctE8 : Value}
    {u1E8 u2E8 : Value} {v1E8 v2E8 : Option Addr} {vsE8 : Array Value} {w1E8 w2E8 : Array (Option Value)} {flE8 : Str} {tfE8 : Tok}
    {cdC8 : ClassData}
    {fE9 xE9 yE9 : Addr} {odE9 anE9 : Option Addr} {slE9 : Array (Option Value)} {ocE9 kVE9 dcE9 pmE9 ctE9 : Value}
    {u1E9 u2E9 : Value} {v1E9 v2E9 : Option Addr} {vsE9 : Array Value} {w1E9 w2E9 : Array (Option Value)} {flE9 : Str} {tfE9 : Tok}
    {cdC9 : ClassData}
    {fE10 xE10 yE10 : Addr} {odE10 anE10 : Option Addr} {slE10 : Array (Option Value)} {ocE10 kVE10 dcE10 pmE10 ctE10 : Value}
    {u1E10 u2E10 : Value} {v1E10 v2E10 : Option Addr} {vsE10 : Array Value} {w1E10 w2E10 : Array (Option Value)} {flE10 : Str} {tfE10 : Tok}
    {cdC10 : ClassData}
    {fE11 xE11 yE11 : Addr} {odE11 anE11 : Option Addr} {slE11 : Array (Option Value)} {ocE11 kVE11 dcE11 pmE11 ctE11 : Value}
    {u1E11 u2E11 : Value} {v1E11 v2E11 : Option Addr} {vsE11 : Array Value} {w1E11 w2E11 : Array (Option Value)} {flE11 : Str} {tfE11 : Tok}
    {cdC11 : ClassData}
    {fE12 xE12 yE12 : Addr} {odE12 anE12 : Option Addr} {slE12 : Array (Option Value)} {ocE12 kVE12 dcE12 pmE12 ctE12 : Value}
    {u1E12 u2E12 : Value} {v1E12 v2E12 : Option Addr} {vsE12 : Array Value} {w1E12 w2E12 : Array (Option Value)} {flE12 : Str} {tfE12 : Tok}
    {cdC12 : ClassData}
    (g0 : PySem.W.nsIn K mainGlobals "InvalidFrame" = some (some (.ref C0)))
    (g1 : PySem.W.nsIn K mainGlobals "InvalidWord" = some (some (.ref C1)))
    (g2 : PySem.W.nsIn K mainGlobals "InvalidBoard" = some (some (.ref C2)))
    (g3 : PySem.W.nsIn K mainGlobals "InvalidChain" = some (some (.ref C3)))
    (g4 : PySem.W.nsIn K mainGlobals "InvalidHurt" = some (some (.ref C4)))
    (g5 : PySem.W.nsIn K mainGlobals "InvalidScan" = some (some (.ref C5)))
    (g6 : PySem.W.nsIn K mainGlobals "InvalidCommand" = some (some (.ref C6)))
    (g7 : PySem.W.nsIn K mainGlobals "NoLeg" = some (some (.ref C7)))
    (g8 : PySem.W.nsIn K mainGlobals "NoWord" = some (some (.ref C8)))
    (g9 : PySem.W.nsIn K mainGlobals "TooMany" = some (some (.ref C9)))
    (g10 : PySem.W.nsIn K mainGlobals "InvalidAnswer" = some (some (.ref C10)))
    (g11 : PySem.W.nsIn K mainGlobals "NoBoard" = some (some (.ref C11)))
    (g12 : PySem.W.nsIn K mainGlobals "InvalidText" = some (some (.ref C12)))
    (g13 : PySem.W.nsIn K mainGlobals "Settled" = some (some (.ref C13)))
    (g14 : PySem.W.nsIn K mainGlobals "NothingToUndo" = some (some (.ref C14)))
    (gJ : PySem.W.nsIn K mainGlobals "JoinError" = some (some (.ref CJ)))
    (gM : PySem.W.nsIn K mainGlobals "MissingError" = some (some (.ref CM)))
    (gLet : PySem.W.nsIn K mainGlobals "LETTERS" = some (some (.str lettersS tL)))
    (gLon : PySem.W.nsIn K mainGlobals "LONGEST" = some (some (.int 8 tN)))
    (gRes : PySem.W.nsIn K mainGlobals "RESERVED" = some (some (.ref aR)))
    (lRes : K.lookup aR = some ⟨.type "tuple", dR, .seq itsR nR, slR⟩)
    (sRes : itsR.size ≤ sizeLine)
    (vRes : Vals reservedV itsR.toList)
    (z_isinstance : PySem.W.nsIn K mainGlobals "isinstance" = some none)
    (z_str : PySem.W.nsIn K mainGlobals "str" = some none)
    (z_len : PySem.W.nsIn K mainGlobals "len" = some none)
    (z_all : PySem.W.nsIn K mainGlobals "all" = some none)
    (z_repr : PySem.W.nsIn K mainGlobals "repr" = some none)
    (z_list : PySem.W.nsIn K mainGlobals "list" = some none)
    (z_int : PySem.W.nsIn K mainGlobals "int" = some none)
    (z_abs : PySem.W.nsIn K mainGlobals "abs" = some none)
    (z_range : PySem.W.nsIn K mainGlobals "range" = some none)
    (z_super : PySem.W.nsIn K mainGlobals "super" = some none)
    (z_enumerate : PySem.W.nsIn K mainGlobals "enumerate" = some none)
    (z_bool : PySem.W.nsIn K mainGlobals "bool" = some none)
    (z_ValueError : PySem.W.nsIn K mainGlobals "ValueError" = some none)
    (z_LookupError : PySem.W.nsIn K mainGlobals "LookupError" = some none)
    (z_OverflowError : PySem.W.nsIn K mainGlobals "OverflowError" = some none)
    (z_KeyError : PySem.W.nsIn K mainGlobals "KeyError" = some none)
    (z_IndexError : PySem.W.nsIn K mainGlobals "IndexError" = some none)
    (aN : PySem.W.nsIn K mainGlobals "is_name" = some (some (.ref fN)))
    (lN : K.lookup fN = some ⟨ocN, odN, .func (PySem.W.fnOf "is_name" "is_name" (defArgs (top 5)) (defBody (top 5)) (defScope (top 5)) .none kVN dcN pmN anN cdN ctN), slN⟩)
    (cN : PySem.W.codeIn K cdN "is_name" = true)
    (kN : PySem.W.keepIn K (.ref fN) = true)
    (aI : PySem.W.nsIn K mainGlobals "is_integer" = some (some (.ref fI)))
    (lI : K.lookup fI = some ⟨ocI, odI, .func (PySem.W.fnOf "is_integer" "is_integer" (defArgs (top 4)) (defBody (top 4)) (defScope (top 4)) .none kVI dcI pmI anI cdI ctI), slI⟩)
    (cI : PySem.W.codeIn K cdI "is_integer" = true)
    (kI : PySem.W.keepIn K (.ref fI) = true)
    (aU : PySem.W.nsIn K mainGlobals "up" = some (some (.ref fU)))
    (lU : K.lookup fU = some ⟨ocU, odU, .func (PySem.W.fnOf "up" "up" (defArgs (top 6)) (defBody (top 6)) (defScope (top 6)) .none kVU dcU pmU anU cdU ctU), slU⟩)
    (cU : PySem.W.codeIn K cdU "up" = true)
    (kU : PySem.W.keepIn K (.ref fU) = true)
    (aLP : PySem.W.nsIn K mainGlobals "least_power" = some (some (.ref fLP)))
    (lLP : K.lookup fLP = some ⟨ocLP, odLP, .func (PySem.W.fnOf "least_power" "least_power" (defArgs (top 7)) (defBody (top 7)) (defScope (top 7)) .none kVLP dcLP pmLP anLP cdLP ctLP), slLP⟩)
    (cLP : PySem.W.codeIn K cdLP "least_power" = true)
    (kLP : PySem.W.keepIn K (.ref fLP) = true)
    (aPn : PySem.W.nsIn K mainGlobals "_law_pen" = some (some (.ref fPn)))
    (lPn : K.lookup fPn = some ⟨ocPn, odPn, .func (PySem.W.fnOf "_law_pen" "_law_pen" (defArgs (top 27)) (defBody (top 27)) (defScope (top 27)) .none kVPn dcPn pmPn anPn cdPn ctPn), slPn⟩)
    (cPn : PySem.W.codeIn K cdPn "_law_pen" = true)
    (kPn : PySem.W.keepIn K (.ref fPn) = true)
    (aDr : PySem.W.nsIn K mainGlobals "_law_draw" = some (some (.ref fDr)))
    (lDr : K.lookup fDr = some ⟨ocDr, odDr, .func (PySem.W.fnOf "_law_draw" "_law_draw" (defArgs (top 28)) (defBody (top 28)) (defScope (top 28)) .none kVDr dcDr pmDr anDr cdDr ctDr), slDr⟩)
    (cDr : PySem.W.codeIn K cdDr "_law_draw" = true)
    (kDr : PySem.W.keepIn K (.ref fDr) = true)
    (aPk : PySem.W.nsIn K mainGlobals "_law_pick" = some (some (.ref fPk)))
    (lPk : K.lookup fPk = some ⟨ocPk, odPk, .func (PySem.W.fnOf "_law_pick" "_law_pick" (defArgs (top 29)) (defBody (top 29)) (defScope (top 29)) .none kVPk dcPk pmPk anPk cdPk ctPk), slPk⟩)
    (cPk : PySem.W.codeIn K cdPk "_law_pick" = true)
    (kPk : PySem.W.keepIn K (.ref fPk) = true)
    (aOn : PySem.W.nsIn K mainGlobals "_law_ones" = some (some (.ref fOn)))
    (lOn : K.lookup fOn = some ⟨ocOn, odOn, .func (PySem.W.fnOf "_law_ones" "_law_ones" (defArgs (top 30)) (defBody (top 30)) (defScope (top 30)) .none kVOn dcOn pmOn anOn cdOn ctOn), slOn⟩)
    (cOn : PySem.W.codeIn K cdOn "_law_ones" = true)
    (kOn : PySem.W.keepIn K (.ref fOn) = true)
    (aTw : PySem.W.nsIn K mainGlobals "_law_twos" = some (some (.ref fTw)))
    (lTw : K.lookup fTw = some ⟨ocTw, odTw, .func (PySem.W.fnOf "_law_twos" "_law_twos" (defArgs (top 31)) (defBody (top 31)) (defScope (top 31)) .none kVTw dcTw pmTw anTw cdTw ctTw), slTw⟩)
    (cTw : PySem.W.codeIn K cdTw "_law_twos" = true)
    (kTw : PySem.W.keepIn K (.ref fTw) = true)
    (aKn : PySem.W.nsIn K mainGlobals "_law_kinds" = some (some (.ref fKn)))
    (lKn : K.lookup fKn = some ⟨ocKn, odKn, .func (PySem.W.fnOf "_law_kinds" "_law_kinds" (defArgs (top 32)) (defBody (top 32)) (defScope (top 32)) .none kVKn dcKn pmKn anKn cdKn ctKn), slKn⟩)
    (cKn : PySem.W.codeIn K cdKn "_law_kinds" = true)
    (kKn : PySem.W.keepIn K (.ref fKn) = true)
    (aBa : PySem.W.nsIn K mainGlobals "_law_bases" = some (some (.ref fBa)))
    (lBa : K.lookup fBa = some ⟨ocBa, odBa, .func (PySem.W.fnOf "_law_bases" "_law_bases" (defArgs (top 33)) (defBody (top 33)) (defScope (top 33)) .none kVBa dcBa pmBa anBa cdBa ctBa), slBa⟩)
    (cBa : PySem.W.codeIn K cdBa "_law_bases" = true)
    (kBa : PySem.W.keepIn K (.ref fBa) = true)
    (aNm : PySem.W.nsIn K mainGlobals "_law_named_right" = some (some (.ref fNm)))
    (lNm : K.lookup fNm = some ⟨ocNm, odNm, .func (PySem.W.fnOf "_law_named_right" "_law_named_right" (defArgs (top 34)) (defBody (top 34)) (defScope (top 34)) .none kVNm dcNm pmNm anNm cdNm ctNm), slNm⟩)
    (cNm : PySem.W.codeIn K cdNm "_law_named_right" = true)
    (kNm : PySem.W.keepIn K (.ref fNm) = true)
    (aEr : PySem.W.nsIn K mainGlobals "_law_errors_right" = some (some (.ref fEr)))
    (lEr : K.lookup fEr = some ⟨ocEr, odEr, .func (PySem.W.fnOf "_law_errors_right" "_law_errors_right" (defArgs (top 35)) (defBody (top 35)) (defScope (top 35)) .none kVEr dcEr pmEr anEr cdEr ctEr), slEr⟩)
    (cEr : PySem.W.codeIn K cdEr "_law_errors_right" = true)
    (kEr : PySem.W.keepIn K (.ref fEr) = true)
    (aPw : PySem.W.nsIn K mainGlobals "_law_power" = some (some (.ref fPw)))
    (lPw : K.lookup fPw = some ⟨ocPw, odPw, .func (PySem.W.fnOf "_law_power" "_law_power" (defArgs (top 36)) (defBody (top 36)) (defScope (top 36)) .none kVPw dcPw pmPw anPw cdPw ctPw), slPw⟩)
    (cPw : PySem.W.codeIn K cdPw "_law_power" = true)
    (kPw : PySem.W.keepIn K (.ref fPw) = true)
    (aNu : PySem.W.nsIn K mainGlobals "_law_numbers_right" = some (some (.ref fNu)))
    (lNu : K.lookup fNu = some ⟨ocNu, odNu, .func (PySem.W.fnOf "_law_numbers_right" "_law_numbers_right" (defArgs (top 37)) (defBody (top 37)) (defScope (top 37)) .none kVNu dcNu pmNu anNu cdNu ctNu), slNu⟩)
    (cNu : PySem.W.codeIn K cdNu "_law_numbers_right" = true)
    (kNu : PySem.W.keepIn K (.ref fNu) = true)
    (aLw : PySem.W.nsIn K mainGlobals "law" = some (some (.ref fLw)))
    (lLw : K.lookup fLw = some ⟨ocLw, odLw, .func (PySem.W.fnOf "law" "law" (defArgs (top 38)) (defBody (top 38)) (defScope (top 38)) .none kVLw dcLw pmLw anLw cdLw ctLw), slLw⟩)
    (cLw : PySem.W.codeIn K cdLw "law" = true)
    (kLw : PySem.W.keepIn K (.ref fLw) = true)
    (top_ : (P.main.scope.names.lookup ("super" : Str)).isSome = false)
    (third : PySem.W.nsIn K cStatics "thirdparty.any" = some none)
    (cn : PySem.W.specialIn K (.builtin "object.__class__") "__get__" = some (some (.builtin "getset_descriptor.__get__")))
    (ct_ : PySem.W.takesIn K (.builtin "object.__class__") = some true)
    (aE0 : PySem.W.findIn K (.ref C0) "__init__" = some (some (.ref fE0)))
    (tE0 : PySem.W.typeIn K (.ref fE0) = some (.type "function"))
    (lE0 : K.lookup fE0 = some ⟨ocE0, odE0, .func (PySem.W.fnX "__init__" "InvalidFrame.__init__" (defArgs (sE 10)) (defBody (sE 10)) (defScope (sE 10)) [("__class__", yE0)] .none kVE0 dcE0 pmE0 anE0 (.ref xE0) ctE0), slE0⟩)
    (cE0 : PySem.W.codeIn K (.ref xE0) "InvalidFrame.__init__" = true)
    (mE0 : K.lookup xE0 = some ⟨u1E0, v1E0, .fields vsE0, w1E0⟩)
    (nE0 : vsE0[2]? = some (.str flE0 tfE0))
    (pE0 : ((P.main.file : Str) == flE0) = true)
    (qE0 : K.lookup yE0 = some ⟨u2E0, v2E0, .cell (some (.ref C0)), w2E0⟩)
    (kE0 : PySem.W.keepIn K (.ref fE0) = true)
    (clsC0 : PySem.W.clsIn K C0 = some cdC0)
    (mrC0 : PySem.W.mroIn K C0 (.ref C0) = some true)
    (iniC0 : PySem.W.excInitIn K C0 tlV "ValueError.__new__" = true)
    (ovC0 : PySem.W.excOver K C0 tlV = true)
    (saC0 : PySem.W.findIn K (.ref C0) "__setattr__" = some (some (.builtin "object.__setattr__")))
    (tyC0 : PySem.W.typeIn K (.ref C0) = some (.type "type"))
    (sBC0 : PySem.W.subIn K (.ref C0) (.type "ValueError") = some true)
    (hmC0 : PySem.W.ks_superIn K C0 C0 "__init__" = some (some (.builtin "ValueError.__init__")))
    (no0C0 : PySem.W.findIn K (.ref C0) "reason" = some none)
    (aE1 : PySem.W.findIn K (.ref C1) "__init__" = some (some (.ref fE1)))
    (tE1 : PySem.W.typeIn K (.ref fE1) = some (.type "function"))
    (lE1 : K.lookup fE1 = some ⟨ocE1, odE1, .func (PySem.W.fnX "__init__" "InvalidWord.__init__" (defArgs (sE 11)) (defBody (sE 11)) (defScope (sE 11)) [("__class__", yE1)] .none kVE1 dcE1 pmE1 anE1 (.ref xE1) ctE1), slE1⟩)
    (cE1 : PySem.W.codeIn K (.ref xE1) "InvalidWord.__init__" = true)
    (mE1 : K.lookup xE1 = some ⟨u1E1, v1E1, .fields vsE1, w1E1⟩)
    (nE1 : vsE1[2]? = some (.str flE1 tfE1))
    (pE1 : ((P.main.file : Str) == flE1) = true)
    (qE1 : K.lookup yE1 = some ⟨u2E1, v2E1, .cell (some (.ref C1)), w2E1⟩)
    (kE1 : PySem.W.keepIn K (.ref fE1) = true)
    (clsC1 : PySem.W.clsIn K C1 = some cdC1)
    (mrC1 : PySem.W.mroIn K C1 (.ref C1) = some true)
    (iniC1 : PySem.W.excInitIn K C1 tlV "ValueError.__new__" = true)
    (ovC1 : PySem.W.excOver K C1 tlV = true)
    (saC1 : PySem.W.findIn K (.ref C1) "__setattr__" = some (some (.builtin "object.__setattr__")))
    (tyC1 : PySem.W.typeIn K (.ref C1) = some (.type "type"))
    (sBC1 : PySem.W.subIn K (.ref C1) (.type "ValueError") = some true)
    (hmC1 : PySem.W.ks_superIn K C1 C1 "__init__" = some (some (.builtin "ValueError.__init__")))
    (no0C1 : PySem.W.findIn K (.ref C1) "name" = some none)
    (aE2 : PySem.W.findIn K (.ref C2) "__init__" = some (some (.ref fE2)))
    (tE2 : PySem.W.typeIn K (.ref fE2) = some (.type "function"))
    (lE2 : K.lookup fE2 = some ⟨ocE2, odE2, .func (PySem.W.fnX "__init__" "InvalidBoard.__init__" (defArgs (sE 12)) (defBody (sE 12)) (defScope (sE 12)) [("__class__", yE2)] .none kVE2 dcE2 pmE2 anE2 (.ref xE2) ctE2), slE2⟩)
    (cE2 : PySem.W.codeIn K (.ref xE2) "InvalidBoard.__init__" = true)
    (mE2 : K.lookup xE2 = some ⟨u1E2, v1E2, .fields vsE2, w1E2⟩)
    (nE2 : vsE2[2]? = some (.str flE2 tfE2))
    (pE2 : ((P.main.file : Str) == flE2) = true)
    (qE2 : K.lookup yE2 = some ⟨u2E2, v2E2, .cell (some (.ref C2)), w2E2⟩)
    (kE2 : PySem.W.keepIn K (.ref fE2) = true)
    (clsC2 : PySem.W.clsIn K C2 = some cdC2)
    (mrC2 : PySem.W.mroIn K C2 (.ref C2) = some true)
    (iniC2 : PySem.W.excInitIn K C2 tlV "ValueError.__new__" = true)
    (ovC2 : PySem.W.excOver K C2 tlV = true)
    (saC2 : PySem.W.findIn K (.ref C2) "__setattr__" = some (some (.builtin "object.__setattr__")))
    (tyC2 : PySem.W.typeIn K (.ref C2) = some (.type "type"))
    (sBC2 : PySem.W.subIn K (.ref C2) (.type "ValueError") = some true)
    (hmC2 : PySem.W.ks_superIn K C2 C2 "__init__" = some (some (.builtin "ValueError.__init__")))
    (no0C2 : PySem.W.findIn K (.ref C2) "reason" = some none)
    (aE3 : PySem.W.findIn K (.ref C3) "__init__" = some (some (.ref fE3)))
    (tE3 : PySem.W.typeIn K (.ref fE3) = some (.type "function"))
    (lE3 : K.lookup fE3 = some ⟨ocE3, odE3, .func (PySem.W.fnX "__init__" "InvalidChain.__init__" (defArgs (sE 15)) (defBody (sE 15)) (defScope (sE 15)) [("__class__", yE3)] .none kVE3 dcE3 pmE3 anE3 (.ref xE3) ctE3), slE3⟩)
    (cE3 : PySem.W.codeIn K (.ref xE3) "InvalidChain.__init__" = true)
    (mE3 : K.lookup xE3 = some ⟨u1E3, v1E3, .fields vsE3, w1E3⟩)
    (nE3 : vsE3[2]? = some (.str flE3 tfE3))
    (pE3 : ((P.main.file : Str) == flE3) = true)
    (qE3 : K.lookup yE3 = some ⟨u2E3, v2E3, .cell (some (.ref C3)), w2E3⟩)
    (kE3 : PySem.W.keepIn K (.ref fE3) = true)
    (clsC3 : PySem.W.clsIn K C3 = some cdC3)
    (mrC3 : PySem.W.mroIn K C3 (.ref C3) = some true)
    (iniC3 : PySem.W.excInitIn K C3 tlV "ValueError.__new__" = true)
    (ovC3 : PySem.W.excOver K C3 tlV = true)
    (saC3 : PySem.W.findIn K (.ref C3) "__setattr__" = some (some (.builtin "object.__setattr__")))
    (tyC3 : PySem.W.typeIn K (.ref C3) = some (.type "type"))
    (sBC3 : PySem.W.subIn K (.ref C3) (.type "ValueError") = some true)
    (hmC3 : PySem.W.ks_superIn K C3 C3 "__init__" = some (some (.builtin "ValueError.__init__")))
    (no0C3 : PySem.W.findIn K (.ref C3) "reason" = some none)
    (aE4 : PySem.W.findIn K (.ref C4) "__init__" = some (some (.ref fE4)))
    (tE4 : PySem.W.typeIn K (.ref fE4) = some (.type "function"))
    (lE4 : K.lookup fE4 = some ⟨ocE4, odE4, .func (PySem.W.fnX "__init__" "InvalidHurt.__init__" (defArgs (sE 16)) (defBody (sE 16)) (defScope (sE 16)) [("__class__", yE4)] .none kVE4 dcE4 pmE4 anE4 (.ref xE4) ctE4), slE4⟩)
    (cE4 : PySem.W.codeIn K (.ref xE4) "InvalidHurt.__init__" = true)
    (mE4 : K.lookup xE4 = some ⟨u1E4, v1E4, .fields vsE4, w1E4⟩)
    (nE4 : vsE4[2]? = some (.str flE4 tfE4))
    (pE4 : ((P.main.file : Str) == flE4) = true)
    (qE4 : K.lookup yE4 = some ⟨u2E4, v2E4, .cell (some (.ref C4)), w2E4⟩)
    (kE4 : PySem.W.keepIn K (.ref fE4) = true)
    (clsC4 : PySem.W.clsIn K C4 = some cdC4)
    (mrC4 : PySem.W.mroIn K C4 (.ref C4) = some true)
    (iniC4 : PySem.W.excInitIn K C4 tlV "ValueError.__new__" = true)
    (ovC4 : PySem.W.excOver K C4 tlV = true)
    (saC4 : PySem.W.findIn K (.ref C4) "__setattr__" = some (some (.builtin "object.__setattr__")))
    (tyC4 : PySem.W.typeIn K (.ref C4) = some (.type "type"))
    (sBC4 : PySem.W.subIn K (.ref C4) (.type "ValueError") = some true)
    (hmC4 : PySem.W.ks_superIn K C4 C4 "__init__" = some (some (.builtin "ValueError.__init__")))
    (no0C4 : PySem.W.findIn K (.ref C4) "reason" = some none)
    (aE5 : PySem.W.findIn K (.ref C5) "__init__" = some (some (.ref fE5)))
    (tE5 : PySem.W.typeIn K (.ref fE5) = some (.type "function"))
    (lE5 : K.lookup fE5 = some ⟨ocE5, odE5, .func (PySem.W.fnX "__init__" "InvalidScan.__init__" (defArgs (sE 17)) (defBody (sE 17)) (defScope (sE 17)) [("__class__", yE5)] .none kVE5 dcE5 pmE5 anE5 (.ref xE5) ctE5), slE5⟩)
    (cE5 : PySem.W.codeIn K (.ref xE5) "InvalidScan.__init__" = true)
    (mE5 : K.lookup xE5 = some ⟨u1E5, v1E5, .fields vsE5, w1E5⟩)
    (nE5 : vsE5[2]? = some (.str flE5 tfE5))
    (pE5 : ((P.main.file : Str) == flE5) = true)
    (qE5 : K.lookup yE5 = some ⟨u2E5, v2E5, .cell (some (.ref C5)), w2E5⟩)
    (kE5 : PySem.W.keepIn K (.ref fE5) = true)
    (clsC5 : PySem.W.clsIn K C5 = some cdC5)
    (mrC5 : PySem.W.mroIn K C5 (.ref C5) = some true)
    (iniC5 : PySem.W.excInitIn K C5 tlV "ValueError.__new__" = true)
    (ovC5 : PySem.W.excOver K C5 tlV = true)
    (saC5 : PySem.W.findIn K (.ref C5) "__setattr__" = some (some (.builtin "object.__setattr__")))
    (tyC5 : PySem.W.typeIn K (.ref C5) = some (.type "type"))
    (sBC5 : PySem.W.subIn K (.ref C5) (.type "ValueError") = some true)
    (hmC5 : PySem.W.ks_superIn K C5 C5 "__init__" = some (some (.builtin "ValueError.__init__")))
    (no0C5 : PySem.W.findIn K (.ref C5) "index" = some none)
    (aE6 : PySem.W.findIn K (.ref C6) "__init__" = some (some (.ref fE6)))
    (tE6 : PySem.W.typeIn K (.ref fE6) = some (.type "function"))
    (lE6 : K.lookup fE6 = some ⟨ocE6, odE6, .func (PySem.W.fnX "__init__" "InvalidCommand.__init__" (defArgs (sE 19)) (defBody (sE 19)) (defScope (sE 19)) [("__class__", yE6)] .none kVE6 dcE6 pmE6 anE6 (.ref xE6) ctE6), slE6⟩)
    (cE6 : PySem.W.codeIn K (.ref xE6) "InvalidCommand.__init__" = true)
    (mE6 : K.lookup xE6 = some ⟨u1E6, v1E6, .fields vsE6, w1E6⟩)
    (nE6 : vsE6[2]? = some (.str flE6 tfE6))
    (pE6 : ((P.main.file : Str) == flE6) = true)
    (qE6 : K.lookup yE6 = some ⟨u2E6, v2E6, .cell (some (.ref C6)), w2E6⟩)
    (kE6 : PySem.W.keepIn K (.ref fE6) = true)
    (clsC6 : PySem.W.clsIn K C6 = some cdC6)
    (mrC6 : PySem.W.mroIn K C6 (.ref C6) = some true)
    (iniC6 : PySem.W.excInitIn K C6 tlV "ValueError.__new__" = true)
    (ovC6 : PySem.W.excOver K C6 tlV = true)
    (saC6 : PySem.W.findIn K (.ref C6) "__setattr__" = some (some (.builtin "object.__setattr__")))
    (tyC6 : PySem.W.typeIn K (.ref C6) = some (.type "type"))
    (sBC6 : PySem.W.subIn K (.ref C6) (.type "ValueError") = some true)
    (hmC6 : PySem.W.ks_superIn K C6 C6 "__init__" = some (some (.builtin "ValueError.__init__")))
    (no0C6 : PySem.W.findIn K (.ref C6) "word" = some none)
    (aE7 : PySem.W.findIn K (.ref C7) "__init__" = some (some (.ref fE7)))
    (tE7 : PySem.W.typeIn K (.ref fE7) = some (.type "function"))
    (lE7 : K.lookup fE7 = some ⟨ocE7, odE7, .func (PySem.W.fnX "__init__" "NoLeg.__init__" (defArgs (sE 23)) (defBody (sE 23)) (defScope (sE 23)) [("__class__", yE7)] .none kVE7 dcE7 pmE7 anE7 (.ref xE7) ctE7), slE7⟩)
    (cE7 : PySem.W.codeIn K (.ref xE7) "NoLeg.__init__" = true)
    (mE7 : K.lookup xE7 = some ⟨u1E7, v1E7, .fields vsE7, w1E7⟩)
    (nE7 : vsE7[2]? = some (.str flE7 tfE7))
    (pE7 : ((P.main.file : Str) == flE7) = true)
    (qE7 : K.lookup yE7 = some ⟨u2E7, v2E7, .cell (some (.ref C7)), w2E7⟩)
    (kE7 : PySem.W.keepIn K (.ref fE7) = true)
    (clsC7 : PySem.W.clsIn K C7 = some cdC7)
    (mrC7 : PySem.W.mroIn K C7 (.ref C7) = some true)
    (iniC7 : PySem.W.excInitIn K C7 tlL "LookupError.__new__" = true)
    (ovC7 : PySem.W.excOver K C7 tlL = true)
    (saC7 : PySem.W.findIn K (.ref C7) "__setattr__" = some (some (.builtin "object.__setattr__")))
    (tyC7 : PySem.W.typeIn K (.ref C7) = some (.type "type"))
    (sBC7 : PySem.W.subIn K (.ref C7) (.type "LookupError") = some true)
    (hmC7 : PySem.W.ks_superIn K C7 C7 "__init__" = some (some (.builtin "LookupError.__init__")))
    (no0C7 : PySem.W.findIn K (.ref C7) "name" = some none)
    (aE8 : PySem.W.findIn K (.ref C8) "__init__" = some (some (.ref fE8)))
    (tE8 : PySem.W.typeIn K (.ref fE8) = some (.type "function"))
    (lE8 : K.lookup fE8 = some ⟨ocE8, odE8, .func (PySem.W.fnX "__init__" "NoWord.__init__" (defArgs (sE 24)) (defBody (sE 24)) (defScope (sE 24)) [("__class__", yE8)] .none kVE8 dcE8 pmE8 anE8 (.ref xE8) ctE8), slE8⟩)
    (cE8 : PySem.W.codeIn K (.ref xE8) "NoWord.__init__" = true)
    (mE8 : K.lookup xE8 = some ⟨u1E8, v1E8, .fields vsE8, w1E8⟩)
    (nE8 : vsE8[2]? = some (.str flE8 tfE8))
    (pE8 : ((P.main.file : Str) == flE8) = true)
    (qE8 : K.lookup yE8 = some ⟨u2E8, v2E8, .cell (some (.ref C8)), w2E8⟩)
    (kE8 : PySem.W.keepIn K (.ref fE8) = true)
    (clsC8 : PySem.W.clsIn K C8 = some cdC8)
    (mrC8 : PySem.W.mroIn K C8 (.ref C8) = some true)
    (iniC8 : PySem.W.excInitIn K C8 tlL "LookupError.__new__" = true)
    (ovC8 : PySem.W.excOver K C8 tlL = true)
    (saC8 : PySem.W.findIn K (.ref C8) "__setattr__" = some (some (.builtin "object.__setattr__")))
    (tyC8 : PySem.W.typeIn K (.ref C8) = some (.type "type"))
    (sBC8 : PySem.W.subIn K (.ref C8) (.type "LookupError") = some true)
    (hmC8 : PySem.W.ks_superIn K C8 C8 "__init__" = some (some (.builtin "LookupError.__init__")))
    (no0C8 : PySem.W.findIn K (.ref C8) "index" = some none)
    (aE9 : PySem.W.findIn K (.ref C9) "__init__" = some (some (.ref fE9)))
    (tE9 : PySem.W.typeIn K (.ref fE9) = some (.type "function"))
    (lE9 : K.lookup fE9 = some ⟨ocE9, odE9, .func (PySem.W.fnX "__init__" "TooMany.__init__" (defArgs (sE 25)) (defBody (sE 25)) (defScope (sE 25)) [("__class__", yE9)] .none kVE9 dcE9 pmE9 anE9 (.ref xE9) ctE9), slE9⟩)
    (cE9 : PySem.W.codeIn K (.ref xE9) "TooMany.__init__" = true)
    (mE9 : K.lookup xE9 = some ⟨u1E9, v1E9, .fields vsE9, w1E9⟩)
    (nE9 : vsE9[2]? = some (.str flE9 tfE9))
    (pE9 : ((P.main.file : Str) == flE9) = true)
    (qE9 : K.lookup yE9 = some ⟨u2E9, v2E9, .cell (some (.ref C9)), w2E9⟩)
    (kE9 : PySem.W.keepIn K (.ref fE9) = true)
    (clsC9 : PySem.W.clsIn K C9 = some cdC9)
    (mrC9 : PySem.W.mroIn K C9 (.ref C9) = some true)
    (iniC9 : PySem.W.excInitIn K C9 tlO "OverflowError.__new__" = true)
    (ovC9 : PySem.W.excOver K C9 tlO = true)
    (saC9 : PySem.W.findIn K (.ref C9) "__setattr__" = some (some (.builtin "object.__setattr__")))
    (tyC9 : PySem.W.typeIn K (.ref C9) = some (.type "type"))
    (sBC9 : PySem.W.subIn K (.ref C9) (.type "OverflowError") = some true)
    (hmC9 : PySem.W.ks_superIn K C9 C9 "__init__" = some (some (.builtin "OverflowError.__init__")))
    (no0C9 : PySem.W.findIn K (.ref C9) "most" = some none)
    (aE10 : PySem.W.findIn K (.ref C10) "__init__" = some (some (.ref fE10)))
    (tE10 : PySem.W.typeIn K (.ref fE10) = some (.type "function"))
    (lE10 : K.lookup fE10 = some ⟨ocE10, odE10, .func (PySem.W.fnX "__init__" "InvalidAnswer.__init__" (defArgs (sE 13)) (defBody (sE 13)) (defScope (sE 13)) [("__class__", yE10)] .none kVE10 dcE10 pmE10 anE10 (.ref xE10) ctE10), slE10⟩)
    (cE10 : PySem.W.codeIn K (.ref xE10) "InvalidAnswer.__init__" = true)
    (mE10 : K.lookup xE10 = some ⟨u1E10, v1E10, .fields vsE10, w1E10⟩)
    (nE10 : vsE10[2]? = some (.str flE10 tfE10))
    (pE10 : ((P.main.file : Str) == flE10) = true)
    (qE10 : K.lookup yE10 = some ⟨u2E10, v2E10, .cell (some (.ref C10)), w2E10⟩)
    (kE10 : PySem.W.keepIn K (.ref fE10) = true)
    (clsC10 : PySem.W.clsIn K C10 = some cdC10)
    (mrC10 : PySem.W.mroIn K C10 (.ref C10) = some true)
    (iniC10 : PySem.W.excInitIn K C10 tlV "ValueError.__new__" = true)
    (ovC10 : PySem.W.excOver K C10 tlV = true)
    (saC10 : PySem.W.findIn K (.ref C10) "__setattr__" = some (some (.builtin "object.__setattr__")))
    (tyC10 : PySem.W.typeIn K (.ref C10) = some (.type "type"))
    (sBC10 : PySem.W.subIn K (.ref C10) (.type "ValueError") = some true)
    (hmC10 : PySem.W.ks_superIn K C10 C10 "__init__" = some (some (.builtin "ValueError.__init__")))
    (no0C10 : PySem.W.findIn K (.ref C10) "index" = some none)
    (no1C10 : PySem.W.findIn K (.ref C10) "name" = some none)
    (aE11 : PySem.W.findIn K (.ref C11) "__init__" = some (some (.ref fE11)))
    (tE11 : PySem.W.typeIn K (.ref fE11) = some (.type "function"))
    (lE11 : K.lookup fE11 = some ⟨ocE11, odE11, .func (PySem.W.fnX "__init__" "NoBoard.__init__" (defArgs (sE 14)) (defBody (sE 14)) (defScope (sE 14)) [("__class__", yE11)] .none kVE11 dcE11 pmE11 anE11 (.ref xE11) ctE11), slE11⟩)
    (cE11 : PySem.W.codeIn K (.ref xE11) "NoBoard.__init__" = true)
    (mE11 : K.lookup xE11 = some ⟨u1E11, v1E11, .fields vsE11, w1E11⟩)
    (nE11 : vsE11[2]? = some (.str flE11 tfE11))
    (pE11 : ((P.main.file : Str) == flE11) = true)
    (qE11 : K.lookup yE11 = some ⟨u2E11, v2E11, .cell (some (.ref C11)), w2E11⟩)
    (kE11 : PySem.W.keepIn K (.ref fE11) = true)
    (clsC11 : PySem.W.clsIn K C11 = some cdC11)
    (mrC11 : PySem.W.mroIn K C11 (.ref C11) = some true)
    (iniC11 : PySem.W.excInitIn K C11 tlV "ValueError.__new__" = true)
    (ovC11 : PySem.W.excOver K C11 tlV = true)
    (saC11 : PySem.W.findIn K (.ref C11) "__setattr__" = some (some (.builtin "object.__setattr__")))
    (tyC11 : PySem.W.typeIn K (.ref C11) = some (.type "type"))
    (sBC11 : PySem.W.subIn K (.ref C11) (.type "ValueError") = some true)
    (hmC11 : PySem.W.ks_superIn K C11 C11 "__init__" = some (some (.builtin "ValueError.__init__")))
    (no0C11 : PySem.W.findIn K (.ref C11) "index" = some none)
    (no1C11 : PySem.W.findIn K (.ref C11) "name" = some none)
    (aE12 : PySem.W.findIn K (.ref C12) "__init__" = some (some (.ref fE12)))
    (tE12 : PySem.W.typeIn K (.ref fE12) = some (.type "function"))
    (lE12 : K.lookup fE12 = some ⟨ocE12, odE12, .func (PySem.W.fnX "__init__" "InvalidText.__init__" (defArgs (sE 18)) (defBody (sE 18)) (defScope (sE 18)) [("__class__", yE12)] .none kVE12 dcE12 pmE12 anE12 (.ref xE12) ctE12), slE12⟩)
    (cE12 : PySem.W.codeIn K (.ref xE12) "InvalidText.__init__" = true)
    (mE12 : K.lookup xE12 = some ⟨u1E12, v1E12, .fields vsE12, w1E12⟩)
    (nE12 : vsE12[2]? = some (.str flE12 tfE12))
    (pE12 : ((P.main.file : Str) == flE12) = true)
    (qE12 : K.lookup yE12 = some ⟨u2E12, v2E12, .cell (some (.ref C12)), w2E12⟩)
    (kE12 : PySem.W.keepIn K (.ref fE12) = true)
    (clsC12 : PySem.W.clsIn K C12 = some cdC12)
    (mrC12 : PySem.W.mroIn K C12 (.ref C12) = some true)
    (iniC12 : PySem.W.excInitIn K C12 tlV "ValueError.__new__" = true)
    (ovC12 : PySem.W.excOver K C12 tlV = true)
    (saC12 : PySem.W.findIn K (.ref C12) "__setattr__" = some (some (.builtin "object.__setattr__")))
    (tyC12 : PySem.W.typeIn K (.ref C12) = some (.type "type"))
    (sBC12 : PySem.W.subIn K (.ref C12) (.type "ValueError") = some true)
    (hmC12 : PySem.W.ks_superIn K C12 C12 "__init__" = some (some (.builtin "ValueError.__init__")))
    (no0C12 : PySem.W.findIn K (.ref C12) "line" = some none)
    (no1C12 : PySem.W.findIn K (.ref C12) "word" = some none)
    (excC0 : PySem.W.subIn K (.ref C0) (.type "BaseException") = some true)
    (kcC0 : PySem.W.keepIn K (.ref C0) = true)
    (hdC0 : PySem.W.hasDictIn K C0 = true)
    (clC0 : (PySem.W.clsIn K C0).isSome = true)
    (gaC0 : PySem.W.findIn K (.ref C0) "__getattribute__" = some (some (.builtin "BaseException.__getattribute__")))
    (ggC0 : PySem.W.findIn K (.ref C0) "__getattr__" = some none)
    (caC0 : PySem.W.findIn K (.ref C0) "__class__" = some (some (.builtin "object.__class__")))
    (obC0 : PySem.W.mroIn K C0 (.type "object") = some true)
    (excC1 : PySem.W.subIn K (.ref C1) (.type "BaseException") = some true)
    (kcC1 : PySem.W.keepIn K (.ref C1) = true)
    (hdC1 : PySem.W.hasDictIn K C1 = true)
    (clC1 : (PySem.W.clsIn K C1).isSome = true)
    (gaC1 : PySem.W.findIn K (.ref C1) "__getattribute__" = some (some (.builtin "BaseException.__getattribute__")))
    (ggC1 : PySem.W.findIn K (.ref C1) "__getattr__" = some none)
    (caC1 : PySem.W.findIn K (.ref C1) "__class__" = some (some (.builtin "object.__class__")))
    (obC1 : PySem.W.mroIn K C1 (.type "object") = some true)
    (excC2 : PySem.W.subIn K (.ref C2) (.type "BaseException") = some true)
    (kcC2 : PySem.W.keepIn K (.ref C2) = true)
    (hdC2 : PySem.W.hasDictIn K C2 = true)
    (clC2 : (PySem.W.clsIn K C2).isSome = true)
    (gaC2 : PySem.W.findIn K (.ref C2) "__getattribute__" = some (some (.builtin "BaseException.__getattribute__")))
    (ggC2 : PySem.W.findIn K (.ref C2) "__getattr__" = some none)
    (caC2 : PySem.W.findIn K (.ref C2) "__class__" = some (some (.builtin "object.__class__")))
    (obC2 : PySem.W.mroIn K C2 (.type "object") = some true)
    (excC3 : PySem.W.subIn K (.ref C3) (.type "BaseException") = some true)
    (kcC3 : PySem.W.keepIn K (.ref C3) = true)
    (hdC3 : PySem.W.hasDictIn K C3 = true)
    (clC3 : (PySem.W.clsIn K C3).isSome = true)
    (gaC3 : PySem.W.findIn K (.ref C3) "__getattribute__" = some (some (.builtin "BaseException.__getattribute__")))
    (ggC3 : PySem.W.findIn K (.ref C3) "__getattr__" = some none)
    (caC3 : PySem.W.findIn K (.ref C3) "__class__" = some (some (.builtin "object.__class__")))
    (obC3 : PySem.W.mroIn K C3 (.type "object") = some true)
    (excC4 : PySem.W.subIn K (.ref C4) (.type "BaseException") = some true)
    (kcC4 : PySem.W.keepIn K (.ref C4) = true)
    (hdC4 : PySem.W.hasDictIn K C4 = true)
    (clC4 : (PySem.W.clsIn K C4).isSome = true)
    (gaC4 : PySem.W.findIn K (.ref C4) "__getattribute__" = some (some (.builtin "BaseException.__getattribute__")))
    (ggC4 : PySem.W.findIn K (.ref C4) "__getattr__" = some none)
    (caC4 : PySem.W.findIn K (.ref C4) "__class__" = some (some (.builtin "object.__class__")))
    (obC4 : PySem.W.mroIn K C4 (.type "object") = some true)
    (excC5 : PySem.W.subIn K (.ref C5) (.type "BaseException") = some true)
    (kcC5 : PySem.W.keepIn K (.ref C5) = true)
    (hdC5 : PySem.W.hasDictIn K C5 = true)
    (clC5 : (PySem.W.clsIn K C5).isSome = true)
    (gaC5 : PySem.W.findIn K (.ref C5) "__getattribute__" = some (some (.builtin "BaseException.__getattribute__")))
    (ggC5 : PySem.W.findIn K (.ref C5) "__getattr__" = some none)
    (caC5 : PySem.W.findIn K (.ref C5) "__class__" = some (some (.builtin "object.__class__")))
    (obC5 : PySem.W.mroIn K C5 (.type "object") = some true)
    (excC6 : PySem.W.subIn K (.ref C6) (.type "BaseException") = some true)
    (kcC6 : PySem.W.keepIn K (.ref C6) = true)
    (hdC6 : PySem.W.hasDictIn K C6 = true)
    (clC6 : (PySem.W.clsIn K C6).isSome = true)
    (gaC6 : PySem.W.findIn K (.ref C6) "__getattribute__" = some (some (.builtin "BaseException.__getattribute__")))
    (ggC6 : PySem.W.findIn K (.ref C6) "__getattr__" = some none)
    (caC6 : PySem.W.findIn K (.ref C6) "__class__" = some (some (.builtin "object.__class__")))
    (obC6 : PySem.W.mroIn K C6 (.type "object") = some true)
    (excC7 : PySem.W.subIn K (.ref C7) (.type "BaseException") = some true)
    (kcC7 : PySem.W.keepIn K (.ref C7) = true)
    (hdC7 : PySem.W.hasDictIn K C7 = true)
    (clC7 : (PySem.W.clsIn K C7).isSome = true)
    (gaC7 : PySem.W.findIn K (.ref C7) "__getattribute__" = some (some (.builtin "BaseException.__getattribute__")))
    (ggC7 : PySem.W.findIn K (.ref C7) "__getattr__" = some none)
    (caC7 : PySem.W.findIn K (.ref C7) "__class__" = some (some (.builtin "object.__class__")))
    (obC7 : PySem.W.mroIn K C7 (.type "object") = some true)
    (excC8 : PySem.W.subIn K (.ref C8) (.type "BaseException") = some true)
    (kcC8 : PySem.W.keepIn K (.ref C8) = true)
    (hdC8 : PySem.W.hasDictIn K C8 = true)
    (clC8 : (PySem.W.clsIn K C8).isSome = true)
    (gaC8 : PySem.W.findIn K (.ref C8) "__getattribute__" = some (some (.builtin "BaseException.__getattribute__")))
    (ggC8 : PySem.W.findIn K (.ref C8) "__getattr__" = some none)
    (caC8 : PySem.W.findIn K (.ref C8) "__class__" = some (some (.builtin "object.__class__")))
    (obC8 : PySem.W.mroIn K C8 (.type "object") = some true)
    (excC9 : PySem.W.subIn K (.ref C9) (.type "BaseException") = some true)
    (kcC9 : PySem.W.keepIn K (.ref C9) = true)
    (hdC9 : PySem.W.hasDictIn K C9 = true)
    (clC9 : (PySem.W.clsIn K C9).isSome = true)
    (gaC9 : PySem.W.findIn K (.ref C9) "__getattribute__" = some (some (.builtin "BaseException.__getattribute__")))
    (ggC9 : PySem.W.findIn K (.ref C9) "__getattr__" = some none)
    (caC9 : PySem.W.findIn K (.ref C9) "__class__" = some (some (.builtin "object.__class__")))
    (obC9 : PySem.W.mroIn K C9 (.type "object") = some true)
    (excC10 : PySem.W.subIn K (.ref C10) (.type "BaseException") = some true)
    (kcC10 : PySem.W.keepIn K (.ref C10) = true)
    (hdC10 : PySem.W.hasDictIn K C10 = true)
    (clC10 : (PySem.W.clsIn K C10).isSome = true)
    (gaC10 : PySem.W.findIn K (.ref C10) "__getattribute__" = some (some (.builtin "BaseException.__getattribute__")))
    (ggC10 : PySem.W.findIn K (.ref C10) "__getattr__" = some none)
    (caC10 : PySem.W.findIn K (.ref C10) "__class__" = some (some (.builtin "object.__class__")))
    (obC10 : PySem.W.mroIn K C10 (.type "object") = some true)
    (excC11 : PySem.W.subIn K (.ref C11) (.type "BaseException") = some true)
    (kcC11 : PySem.W.keepIn K (.ref C11) = true)
    (hdC11 : PySem.W.hasDictIn K C11 = true)
    (clC11 : (PySem.W.clsIn K C11).isSome = true)
    (gaC11 : PySem.W.findIn K (.ref C11) "__getattribute__" = some (some (.builtin "BaseException.__getattribute__")))
    (ggC11 : PySem.W.findIn K (.ref C11) "__getattr__" = some none)
    (caC11 : PySem.W.findIn K (.ref C11) "__class__" = some (some (.builtin "object.__class__")))
    (obC11 : PySem.W.mroIn K C11 (.type "object") = some true)
    (excC12 : PySem.W.subIn K (.ref C12) (.type "BaseException") = some true)
    (kcC12 : PySem.W.keepIn K (.ref C12) = true)
    (hdC12 : PySem.W.hasDictIn K C12 = true)
    (clC12 : (PySem.W.clsIn K C12).isSome = true)
    (gaC12 : PySem.W.findIn K (.ref C12) "__getattribute__" = some (some (.builtin "BaseException.__getattribute__")))
    (ggC12 : PySem.W.findIn K (.ref C12) "__getattr__" = some none)
    (caC12 : PySem.W.findIn K (.ref C12) "__class__" = some (some (.builtin "object.__class__")))
    (obC12 : PySem.W.mroIn K C12 (.type "object") = some true)
    (excC13 : PySem.W.subIn K (.ref C13) (.type "BaseException") = some true)
    (kcC13 : PySem.W.keepIn K (.ref C13) = true)
    (hdC13 : PySem.W.hasDictIn K C13 = true)
    (clC13 : (PySem.W.clsIn K C13).isSome = true)
    (gaC13 : PySem.W.findIn K (.ref C13) "__getattribute__" = some (some (.builtin "BaseException.__getattribute__")))
    (ggC13 : PySem.W.findIn K (.ref C13) "__getattr__" = some none)
    (caC13 : PySem.W.findIn K (.ref C13) "__class__" = some (some (.builtin "object.__class__")))
    (obC13 : PySem.W.mroIn K C13 (.type "object") = some true)
    (excC14 : PySem.W.subIn K (.ref C14) (.type "BaseException") = some true)
    (kcC14 : PySem.W.keepIn K (.ref C14) = true)
    (hdC14 : PySem.W.hasDictIn K C14 = true)
    (clC14 : (PySem.W.clsIn K C14).isSome = true)
    (gaC14 : PySem.W.findIn K (.ref C14) "__getattribute__" = some (some (.builtin "BaseException.__getattribute__")))
    (ggC14 : PySem.W.findIn K (.ref C14) "__getattr__" = some none)
    (caC14 : PySem.W.findIn K (.ref C14) "__class__" = some (some (.builtin "object.__class__")))
    (obC14 : PySem.W.mroIn K C14 (.type "object") = some true)
    (ex13 : PySem.W.excIn K C13 tlV "ValueError.__new__" = true)
    (ex14 : PySem.W.excIn K C14 tlV "ValueError.__new__" = true)
    (hkk : ((List.range 15).all fun i => (List.range 15).all fun j => decide (PySem.W.kitOne K (.ref (([C0, C1, C2, C3, C4, C5, C6, C7, C8, C9, C10, C11, C12, C13, C14]).getD i C0)) (.ref (([C0, C1, C2, C3, C4, C5, C6, C7, C8, C9, C10, C11, C12, C13, C14]).getD j C0)) = some (decide (i = j)))) = true)
    (hkj : ((List.range 15).all fun i => decide (PySem.W.kitOne K (.ref (([C0, C1, C2, C3, C4, C5, C6, C7, C8, C9, C10, C11, C12, C13, C14]).getD i C0)) (.ref CJ) = some (isV i))) = true)
    (hkv : ((List.range 15).all fun i => decide (PySem.W.kitOne K (.ref (([C0, C1, C2, C3, C4, C5, C6, C7, C8, C9, C10, C11, C12, C13, C14]).getD i C0)) (.type "ValueError") = some (isV i))) = true)
    (hkm : ((List.range 15).all fun i => decide (PySem.W.kitOne K (.ref (([C0, C1, C2, C3, C4, C5, C6, C7, C8, C9, C10, C11, C12, C13, C14]).getD i C0)) (.ref CM) = some (decide (i = 7) || decide (i = 8)))) = true)
    (hkl : ((List.range 15).all fun i => decide (PySem.W.kitOne K (.ref (([C0, C1, C2, C3, C4, C5, C6, C7, C8, C9, C10, C11, C12, C13, C14]).getD i C0)) (.type "LookupError") = some (decide (i = 7) || decide (i = 8)))) = true)
    (hko : ((List.range 15).all fun i => decide (PySem.W.kitOne K (.ref (([C0, C1, C2, C3, C4, C5, C6, C7, C8, C9, C10, C11, C12, C13, C14]).getD i C0)) (.type "OverflowError") = some (decide (i = 9)))) = true)
    (hke : ((List.range 15).all fun i => decide (PySem.W.kitOne K (.ref (([C0, C1, C2, C3, C4, C5, C6, C7, C8, C9, C10, C11, C12, C13, C14]).getD i C0)) (.type "KeyError") = some (false))) = true)
    (hkx : ((List.range 15).all fun i => decide (PySem.W.kitOne K (.ref (([C0, C1, C2, C3, C4, C5, C6, C7, C8, C9, C10, C11, C12, C13, C14]).getD i C0)) (.type "IndexError") = some (false))) = true) :
    ∀ base : Heap, K.In base → base.Ns mainGlobals mg → AtCall P w K mg base fa (spLaw1 K) := by
  intro base _ _
  have e := hfa.symm.trans (PySem.W.mg_of X G aLw)
  cases e
  let cs : Nat → Addr := fun i => ([C0, C1, C2, C3, C4, C5, C6, C7, C8, C9, C10, C11, C12, C13, C14]).getD i C0
  have mC0 := PySem.W.mg_of X G g0
  have mC1 := PySem.W.mg_of X G g1
  have mC2 := PySem.W.mg_of X G g2
  have mC3 := PySem.W.mg_of X G g3
  have mC4 := PySem.W.mg_of X G g4
  have mC5 := PySem.W.mg_of X G g5
  have mC6 := PySem.W.mg_of X G g6
  have mC7 := PySem.W.mg_of X G g7
  have mC8 := PySem.W.mg_of X G g8
  have mC9 := PySem.W.mg_of X G g9
  have mC10 := PySem.W.mg_of X G g10
  have mC11 := PySem.W.mg_of X G g11
  have mC12 := PySem.W.mg_of X G g12
  have mC13 := PySem.W.mg_of X G g13
  have mC14 := PySem.W.mg_of X G g14
  have mCJ := PySem.W.mg_of X G gJ
  have mCM := PySem.W.mg_of X G gM
  have y_isinstance := PySem.W.mg_none_of X G z_isinstance
  have y_str := PySem.W.mg_none_of X G z_str
  have y_len := PySem.W.mg_none_of X G z_len
  have y_all := PySem.W.mg_none_of X G z_all
  have y_repr := PySem.W.mg_none_of X G z_repr
  have y_list := PySem.W.mg_none_of X G z_list
  have y_int := PySem.W.mg_none_of X G z_int
  have y_abs := PySem.W.mg_none_of X G z_abs
  have y_range := PySem.W.mg_none_of X G z_range
  have y_super := PySem.W.mg_none_of X G z_super
  have y_enumerate := PySem.W.mg_none_of X G z_enumerate
  have y_bool := PySem.W.mg_none_of X G z_bool
  have y_ValueError := PySem.W.mg_none_of X G z_ValueError
  have y_LookupError := PySem.W.mg_none_of X G z_LookupError
  have y_OverflowError := PySem.W.mg_none_of X G z_OverflowError
  have y_KeyError := PySem.W.mg_none_of X G z_KeyError
  have y_IndexError := PySem.W.mg_none_of X G z_IndexError
  have FN := fun_mk (x := "is_name") (qual := "is_name") (st := top 5) lN cN kN
  have mN := PySem.W.mg_of X G aN
  have bN_ := FN.binds (ps := ["value"]) fun _ _ _ _ _ _ us hl => match us, hl with | [_], _ => rfl
  have FI := fun_mk (x := "is_integer") (qual := "is_integer") (st := top 4) lI cI kI
  have mI := PySem.W.mg_of X G aI
  have bI_ := FI.binds (ps := ["value"]) fun _ _ _ _ _ _ us hl => match us, hl with | [_], _ => rfl
  have FU := fun_mk (x := "up") (qual := "up") (st := top 6) lU cU kU
  have mU := PySem.W.mg_of X G aU
  have bU_ := FU.binds (ps := ["number", "by"]) fun _ _ _ _ _ _ us hl => match us, hl with | [_, _], _ => rfl
  have FLP := fun_mk (x := "least_power") (qual := "least_power") (st := top 7) lLP cLP kLP
  have mLP := PySem.W.mg_of X G aLP
  have bLP_ := FLP.binds (ps := ["base", "number"]) fun _ _ _ _ _ _ us hl => match us, hl with | [_, _], _ => rfl
  have FPn := fun_mk (x := "_law_pen") (qual := "_law_pen") (st := top 27) lPn cPn kPn
  have mPn := PySem.W.mg_of X G aPn
  have bPn_ := FPn.binds (ps := ["_law_script"]) fun _ _ _ _ _ _ us hl => match us, hl with | [_], _ => rfl
  have FDr := fun_mk (x := "_law_draw") (qual := "_law_draw") (st := top 28) lDr cDr kDr
  have mDr := PySem.W.mg_of X G aDr
  have bDr_ := FDr.binds (ps := ["_law_pen_here", "_law_many"]) fun _ _ _ _ _ _ us hl => match us, hl with | [_, _], _ => rfl
  have FPk := fun_mk (x := "_law_pick") (qual := "_law_pick") (st := top 29) lPk cPk kPk
  have mPk := PySem.W.mg_of X G aPk
  have bPk_ := FPk.binds (ps := ["_law_pen_here", "_law_some"]) fun _ _ _ _ _ _ us hl => match us, hl with | [_, _], _ => rfl
  have FOn := fun_mk (x := "_law_ones") (qual := "_law_ones") (st := top 30) lOn cOn kOn
  have mOn := PySem.W.mg_of X G aOn
  have bOn_ := FOn.binds (ps := ["_law_thing"]) fun _ _ _ _ _ _ us hl => match us, hl with | [_], _ => rfl
  have FTw := fun_mk (x := "_law_twos") (qual := "_law_twos") (st := top 31) lTw cTw kTw
  have mTw := PySem.W.mg_of X G aTw
  have bTw_ := FTw.binds (ps := ["_law_thing", "_law_other"]) fun _ _ _ _ _ _ us hl => match us, hl with | [_, _], _ => rfl
  have FKn := fun_mk (x := "_law_kinds") (qual := "_law_kinds") (st := top 32) lKn cKn kKn
  have mKn := PySem.W.mg_of X G aKn
  have bKn_ := FKn.binds (ps := ["_law_error"]) fun _ _ _ _ _ _ us hl => match us, hl with | [_], _ => rfl
  have FBa := fun_mk (x := "_law_bases") (qual := "_law_bases") (st := top 33) lBa cBa kBa
  have mBa := PySem.W.mg_of X G aBa
  have bBa_ := FBa.binds (ps := ["_law_error"]) fun _ _ _ _ _ _ us hl => match us, hl with | [_], _ => rfl
  have FNm := fun_mk (x := "_law_named_right") (qual := "_law_named_right") (st := top 34) lNm cNm kNm
  have mNm := PySem.W.mg_of X G aNm
  have bNm_ := FNm.binds (ps := ["_law_thing", "_law_other"]) fun _ _ _ _ _ _ us hl => match us, hl with | [_, _], _ => rfl
  have FEr := fun_mk (x := "_law_errors_right") (qual := "_law_errors_right") (st := top 35) lEr cEr kEr
  have mEr := PySem.W.mg_of X G aEr
  have bEr_ := FEr.binds (ps := ["_law_pen_here"]) fun _ _ _ _ _ _ us hl => match us, hl with | [_], _ => rfl
  have FPw := fun_mk (x := "_law_power") (qual := "_law_power") (st := top 36) lPw cPw kPw
  have mPw := PySem.W.mg_of X G aPw
  have bPw_ := FPw.binds (ps := ["_law_factor", "_law_often"]) fun _ _ _ _ _ _ us hl => match us, hl with | [_, _], _ => rfl
  have FNu := fun_mk (x := "_law_numbers_right") (qual := "_law_numbers_right") (st := top 37) lNu cNu kNu
  have mNu := PySem.W.mg_of X G aNu
  have bNu_ := FNu.binds (ps := ["_law_pen_here"]) fun _ _ _ _ _ _ us hl => match us, hl with | [_], _ => rfl
  have FLw := fun_mk (x := "law") (qual := "law") (st := top 38) lLw cLw kLw
  have mLw := PySem.W.mg_of X G aLw
  have xN_ : KBn K (PySem.W.fnOf "is_name" "is_name" (defArgs (top 5)) (defBody (top 5)) (defScope (top 5)) .none kVN dcN pmN anN cdN ctN) ["value"] 0 ["value"] (fun us ws => us ++ ws) (fun vs zs => vs ++ zs) := ⟨fun s us ws _ l1 l2 => match us, l1, ws, l2 with | [], _, [_], _ => .of_eq rfl, fun r1 r2 => r1.append r2⟩
  have xI_ : KBn K (PySem.W.fnOf "is_integer" "is_integer" (defArgs (top 4)) (defBody (top 4)) (defScope (top 4)) .none kVI dcI pmI anI cdI ctI) ["value"] 0 ["value"] (fun us ws => us ++ ws) (fun vs zs => vs ++ zs) := ⟨fun s us ws _ l1 l2 => match us, l1, ws, l2 with | [], _, [_], _ => .of_eq rfl, fun r1 r2 => r1.append r2⟩
  have xU_ : KBn K (PySem.W.fnOf "up" "up" (defArgs (top 6)) (defBody (top 6)) (defScope (top 6)) .none kVU dcU pmU anU cdU ctU) ["number", "by"] 0 ["number", "by"] (fun us ws => us ++ ws) (fun vs zs => vs ++ zs) := ⟨fun s us ws _ l1 l2 => match us, l1, ws, l2 with | [], _, [_, _], _ => .of_eq rfl, fun r1 r2 => r1.append r2⟩
  have xLP_ : KBn K (PySem.W.fnOf "least_power" "least_power" (defArgs (top 7)) (defBody (top 7)) (defScope (top 7)) .none kVLP dcLP pmLP anLP cdLP ctLP) ["base", "number"] 0 ["base", "number"] (fun us ws => us ++ ws) (fun vs zs => vs ++ zs) := ⟨fun s us ws _ l1 l2 => match us, l1, ws, l2 with | [], _, [_, _], _ => .of_eq rfl, fun r1 r2 => r1.append r2⟩
  have FE0 : FunS P K "__init__" "InvalidFrame.__init__" (sE 10) fE0 _ xE0 yE0 C0 := ⟨⟨ocE0, odE0, kVE0, dcE0, pmE0, anE0, ctE0, slE0, rfl, lE0⟩, cE0, ⟨u1E0, v1E0, vsE0, w1E0, flE0, tfE0, mE0, nE0, pE0⟩, ⟨u2E0, v2E0, w2E0, qE0⟩, kE0⟩
  have bE0_ : Binds K (PySem.W.fnX "__init__" "InvalidFrame.__init__" (defArgs (sE 10)) (defBody (sE 10)) (defScope (sE 10)) [("__class__", yE0)] .none kVE0 dcE0 pmE0 anE0 (.ref xE0) ctE0) ["self", "reason"] [] := .all fun us hl => match us, hl with | [_, _], _ => rfl
  have zE0 : KBn K (PySem.W.fnX "__init__" "InvalidFrame.__init__" (defArgs (sE 10)) (defBody (sE 10)) (defScope (sE 10)) [("__class__", yE0)] .none kVE0 dcE0 pmE0 anE0 (.ref xE0) ctE0) ["self", "reason"] 1 ["reason"] (fun us ws => us ++ ws) (fun vs zs => vs ++ zs) := ⟨fun s us ws _ l1 l2 => match us, l1, ws, l2 with | [_], _, [_], _ => .of_eq rfl, fun r1 r2 => r1.append r2⟩
  have OE0 : Oex K C0 "ValueError" "ValueError.__new__" tlV := ⟨iniC0, ovC0, saC0, excC0, tyC0, kcC0, hdC0, sBC0⟩
  have TE0 : ErrT P K mg "ValueError" "ValueError.__new__" "ValueError.__init__" tlV C0 := ⟨⟨top_, y_super, ⟨cdC0, clsC0⟩, third⟩, OE0, hmC0, mrC0⟩
  have RE0 : Err1 P w K mg base "InvalidFrame" "reason" (cs 0) := ⟨⟨"ValueError", "ValueError.__new__", "ValueError.__init__", tlV, fE0, _, bV, OE0, aE0, tE0, mkE0 FE0 TE0 no0C0, bE0_, zE0⟩, mC0, ⟨gaC0, ggC0, excC0, hdC0⟩, no0C0⟩
  have FE1 : FunS P K "__init__" "InvalidWord.__init__" (sE 11) fE1 _ xE1 yE1 C1 := ⟨⟨ocE1, odE1, kVE1, dcE1, pmE1, anE1, ctE1, slE1, rfl, lE1⟩, cE1, ⟨u1E1, v1E1, vsE1, w1E1, flE1, tfE1, mE1, nE1, pE1⟩, ⟨u2E1, v2E1, w2E1, qE1⟩, kE1⟩
  have bE1_ : Binds K (PySem.W.fnX "__init__" "InvalidWord.__init__" (defArgs (sE 11)) (defBody (sE 11)) (defScope (sE 11)) [("__class__", yE1)] .none kVE1 dcE1 pmE1 anE1 (.ref xE1) ctE1) ["self", "name"] [] := .all fun us hl => match us, hl with | [_, _], _ => rfl
  have zE1 : KBn K (PySem.W.fnX "__init__" "InvalidWord.__init__" (defArgs (sE 11)) (defBody (sE 11)) (defScope (sE 11)) [("__class__", yE1)] .none kVE1 dcE1 pmE1 anE1 (.ref xE1) ctE1) ["self", "name"] 1 ["name"] (fun us ws => us ++ ws) (fun vs zs => vs ++ zs) := ⟨fun s us ws _ l1 l2 => match us, l1, ws, l2 with | [_], _, [_], _ => .of_eq rfl, fun r1 r2 => r1.append r2⟩
  have OE1 : Oex K C1 "ValueError" "ValueError.__new__" tlV := ⟨iniC1, ovC1, saC1, excC1, tyC1, kcC1, hdC1, sBC1⟩
  have TE1 : ErrT P K mg "ValueError" "ValueError.__new__" "ValueError.__init__" tlV C1 := ⟨⟨top_, y_super, ⟨cdC1, clsC1⟩, third⟩, OE1, hmC1, mrC1⟩
  have RE1 : Err1 P w K mg base "InvalidWord" "name" (cs 1) := ⟨⟨"ValueError", "ValueError.__new__", "ValueError.__init__", tlV, fE1, _, bV, OE1, aE1, tE1, mkE1 FE1 TE1 no0C1, bE1_, zE1⟩, mC1, ⟨gaC1, ggC1, excC1, hdC1⟩, no0C1⟩
  have FE2 : FunS P K "__init__" "InvalidBoard.__init__" (sE 12) fE2 _ xE2 yE2 C2 := ⟨⟨ocE2, odE2, kVE2, dcE2, pmE2, anE2, ctE2, slE2, rfl, lE2⟩, cE2, ⟨u1E2, v1E2, vsE2, w1E2, flE2, tfE2, mE2, nE2, pE2⟩, ⟨u2E2, v2E2, w2E2, qE2⟩, kE2⟩
  have bE2_ : Binds K (PySem.W.fnX "__init__" "InvalidBoard.__init__" (defArgs (sE 12)) (defBody (sE 12)) (defScope (sE 12)) [("__class__", yE2)] .none kVE2 dcE2 pmE2 anE2 (.ref xE2) ctE2) ["self", "reason"] [] := .all fun us hl => match us, hl with | [_, _], _ => rfl
  have zE2 : KBn K (PySem.W.fnX "__init__" "InvalidBoard.__init__" (defArgs (sE 12)) (defBody (sE 12)) (defScope (sE 12)) [("__class__", yE2)] .none kVE2 dcE2 pmE2 anE2 (.ref xE2) ctE2) ["self", "reason"] 1 ["reason"] (fun us ws => us ++ ws) (fun vs zs => vs ++ zs) := ⟨fun s us ws _ l1 l2 => match us, l1, ws, l2 with | [_], _, [_], _ => .of_eq rfl, fun r1 r2 => r1.append r2⟩
  have OE2 : Oex K C2 "ValueError" "ValueError.__new__" tlV := ⟨iniC2, ovC2, saC2, excC2, tyC2, kcC2, hdC2, sBC2⟩
  have TE2 : ErrT P K mg "ValueError" "ValueError.__new__" "ValueError.__init__" tlV C2 := ⟨⟨top_, y_super, ⟨cdC2, clsC2⟩, third⟩, OE2, hmC2, mrC2⟩
  have RE2 : Err1 P w K mg base "InvalidBoard" "reason" (cs 2) := ⟨⟨"ValueError", "ValueError.__new__", "ValueError.__init__", tlV, fE2, _, bV, OE2, aE2, tE2, mkE2 FE2 TE2 no0C2, bE2_, zE2⟩, mC2, ⟨gaC2, ggC2, excC2, hdC2⟩, no0C2⟩
  have FE3 : FunS P K "__init__" "InvalidChain.__init__" (sE 15) fE3 _ xE3 yE3 C3 := ⟨⟨ocE3, odE3, kVE3, dcE3, pmE3, anE3, ctE3, slE3, rfl, lE3⟩, cE3, ⟨u1E3, v1E3, vsE3, w1E3, flE3, tfE3, mE3, nE3, pE3⟩, ⟨u2E3, v2E3, w2E3, qE3⟩, kE3⟩
  have bE3_ : Binds K (PySem.W.fnX "__init__" "InvalidChain.__init__" (defArgs (sE 15)) (defBody (sE 15)) (defScope (sE 15)) [("__class__", yE3)] .none kVE3 dcE3 pmE3 anE3 (.ref xE3) ctE3) ["self", "reason"] [] := .all fun us hl => match us, hl with | [_, _], _ => rfl
  have zE3 : KBn K (PySem.W.fnX "__init__" "InvalidChain.__init__" (defArgs (sE 15)) (defBody (sE 15)) (defScope (sE 15)) [("__class__", yE3)] .none kVE3 dcE3 pmE3 anE3 (.ref xE3) ctE3) ["self", "reason"] 1 ["reason"] (fun us ws => us ++ ws) (fun vs zs => vs ++ zs) := ⟨fun s us ws _ l1 l2 => match us, l1, ws, l2 with | [_], _, [_], _ => .of_eq rfl, fun r1 r2 => r1.append r2⟩
  have OE3 : Oex K C3 "ValueError" "ValueError.__new__" tlV := ⟨iniC3, ovC3, saC3, excC3, tyC3, kcC3, hdC3, sBC3⟩
  have TE3 : ErrT P K mg "ValueError" "ValueError.__new__" "ValueError.__init__" tlV C3 := ⟨⟨top_, y_super, ⟨cdC3, clsC3⟩, third⟩, OE3, hmC3, mrC3⟩
  have RE3 : Err1 P w K mg base "InvalidChain" "reason" (cs 3) := ⟨⟨"ValueError", "ValueError.__new__", "ValueError.__init__", tlV, fE3, _, bV, OE3, aE3, tE3, mkE3 FE3 TE3 no0C3, bE3_, zE3⟩, mC3, ⟨gaC3, ggC3, excC3, hdC3⟩, no0C3⟩
  have FE4 : FunS P K "__init__" "InvalidHurt.__init__" (sE 16) fE4 _ xE4 yE4 C4 := ⟨⟨ocE4, odE4, kVE4, dcE4, pmE4, anE4, ctE4, slE4, rfl, lE4⟩, cE4, ⟨u1E4, v1E4, vsE4, w1E4, flE4, tfE4, mE4, nE4, pE4⟩, ⟨u2E4, v2E4, w2E4, qE4⟩, kE4⟩
  have bE4_ : Binds K (PySem.W.fnX "__init__" "InvalidHurt.__init__" (defArgs (sE 16)) (defBody (sE 16)) (defScope (sE 16)) [("__class__", yE4)] .none kVE4 dcE4 pmE4 anE4 (.ref xE4) ctE4) ["self", "reason"] [] := .all fun us hl => match us, hl with | [_, _], _ => rfl
  have zE4 : KBn K (PySem.W.fnX "__init__" "InvalidHurt.__init__" (defArgs (sE 16)) (defBody (sE 16)) (defScope (sE 16)) [("__class__", yE4)] .none kVE4 dcE4 pmE4 anE4 (.ref xE4) ctE4) ["self", "reason"] 1 ["reason"] (fun us ws => us ++ ws) (fun vs zs => vs ++ zs) := ⟨fun s us ws _ l1 l2 => match us, l1, ws, l2 with | [_], _, [_], _ => .of_eq rfl, fun r1 r2 => r1.append r2⟩
  have OE4 : Oex K C4 "ValueError" "ValueError.__new__" tlV := ⟨iniC4, ovC4, saC4, excC4, tyC4, kcC4, hdC4, sBC4⟩
  have TE4 : ErrT P K mg "ValueError" "ValueError.__new__" "ValueError.__init__" tlV C4 := ⟨⟨top_, y_super, ⟨cdC4, clsC4⟩, third⟩, OE4, hmC4, mrC4⟩
  have RE4 : Err1 P w K mg base "InvalidHurt" "reason" (cs 4) := ⟨⟨"ValueError", "ValueError.__new__", "ValueError.__init__", tlV, fE4, _, bV, OE4, aE4, tE4, mkE4 FE4 TE4 no0C4, bE4_, zE4⟩, mC4, ⟨gaC4, ggC4, excC4, hdC4⟩, no0C4⟩
  have FE5 : FunS P K "__init__" "InvalidScan.__init__" (sE 17) fE5 _ xE5 yE5 C5 := ⟨⟨ocE5, odE5, kVE5, dcE5, pmE5, anE5, ctE5, slE5, rfl, lE5⟩, cE5, ⟨u1E5, v1E5, vsE5, w1E5, flE5, tfE5, mE5, nE5, pE5⟩, ⟨u2E5, v2E5, w2E5, qE5⟩, kE5⟩
  have bE5_ : Binds K (PySem.W.fnX "__init__" "InvalidScan.__init__" (defArgs (sE 17)) (defBody (sE 17)) (defScope (sE 17)) [("__class__", yE5)] .none kVE5 dcE5 pmE5 anE5 (.ref xE5) ctE5) ["self", "index"] [] := .all fun us hl => match us, hl with | [_, _], _ => rfl
  have zE5 : KBn K (PySem.W.fnX "__init__" "InvalidScan.__init__" (defArgs (sE 17)) (defBody (sE 17)) (defScope (sE 17)) [("__class__", yE5)] .none kVE5 dcE5 pmE5 anE5 (.ref xE5) ctE5) ["self", "index"] 1 ["index"] (fun us ws => us ++ ws) (fun vs zs => vs ++ zs) := ⟨fun s us ws _ l1 l2 => match us, l1, ws, l2 with | [_], _, [_], _ => .of_eq rfl, fun r1 r2 => r1.append r2⟩
  have OE5 : Oex K C5 "ValueError" "ValueError.__new__" tlV := ⟨iniC5, ovC5, saC5, excC5, tyC5, kcC5, hdC5, sBC5⟩
  have TE5 : ErrT P K mg "ValueError" "ValueError.__new__" "ValueError.__init__" tlV C5 := ⟨⟨top_, y_super, ⟨cdC5, clsC5⟩, third⟩, OE5, hmC5, mrC5⟩
  have RE5 : Err1 P w K mg base "InvalidScan" "index" (cs 5) := ⟨⟨"ValueError", "ValueError.__new__", "ValueError.__init__", tlV, fE5, _, bV, OE5, aE5, tE5, mkE5 FE5 TE5 no0C5, bE5_, zE5⟩, mC5, ⟨gaC5, ggC5, excC5, hdC5⟩, no0C5⟩
  have FE6 : FunS P K "__init__" "InvalidCommand.__init__" (sE 19) fE6 _ xE6 yE6 C6 := ⟨⟨ocE6, odE6, kVE6, dcE6, pmE6, anE6, ctE6, slE6, rfl, lE6⟩, cE6, ⟨u1E6, v1E6, vsE6, w1E6, flE6, tfE6, mE6, nE6, pE6⟩, ⟨u2E6, v2E6, w2E6, qE6⟩, kE6⟩
  have bE6_ : Binds K (PySem.W.fnX "__init__" "InvalidCommand.__init__" (defArgs (sE 19)) (defBody (sE 19)) (defScope (sE 19)) [("__class__", yE6)] .none kVE6 dcE6 pmE6 anE6 (.ref xE6) ctE6) ["self", "word"] [] := .all fun us hl => match us, hl with | [_, _], _ => rfl
  have zE6 : KBn K (PySem.W.fnX "__init__" "InvalidCommand.__init__" (defArgs (sE 19)) (defBody (sE 19)) (defScope (sE 19)) [("__class__", yE6)] .none kVE6 dcE6 pmE6 anE6 (.ref xE6) ctE6) ["self", "word"] 1 ["word"] (fun us ws => us ++ ws) (fun vs zs => vs ++ zs) := ⟨fun s us ws _ l1 l2 => match us, l1, ws, l2 with | [_], _, [_], _ => .of_eq rfl, fun r1 r2 => r1.append r2⟩
  have OE6 : Oex K C6 "ValueError" "ValueError.__new__" tlV := ⟨iniC6, ovC6, saC6, excC6, tyC6, kcC6, hdC6, sBC6⟩
  have TE6 : ErrT P K mg "ValueError" "ValueError.__new__" "ValueError.__init__" tlV C6 := ⟨⟨top_, y_super, ⟨cdC6, clsC6⟩, third⟩, OE6, hmC6, mrC6⟩
  have RE6 : Err1 P w K mg base "InvalidCommand" "word" (cs 6) := ⟨⟨"ValueError", "ValueError.__new__", "ValueError.__init__", tlV, fE6, _, bV, OE6, aE6, tE6, mkE6 FE6 TE6 no0C6, bE6_, zE6⟩, mC6, ⟨gaC6, ggC6, excC6, hdC6⟩, no0C6⟩
  have FE7 : FunS P K "__init__" "NoLeg.__init__" (sE 23) fE7 _ xE7 yE7 C7 := ⟨⟨ocE7, odE7, kVE7, dcE7, pmE7, anE7, ctE7, slE7, rfl, lE7⟩, cE7, ⟨u1E7, v1E7, vsE7, w1E7, flE7, tfE7, mE7, nE7, pE7⟩, ⟨u2E7, v2E7, w2E7, qE7⟩, kE7⟩
  have bE7_ : Binds K (PySem.W.fnX "__init__" "NoLeg.__init__" (defArgs (sE 23)) (defBody (sE 23)) (defScope (sE 23)) [("__class__", yE7)] .none kVE7 dcE7 pmE7 anE7 (.ref xE7) ctE7) ["self", "name"] [] := .all fun us hl => match us, hl with | [_, _], _ => rfl
  have zE7 : KBn K (PySem.W.fnX "__init__" "NoLeg.__init__" (defArgs (sE 23)) (defBody (sE 23)) (defScope (sE 23)) [("__class__", yE7)] .none kVE7 dcE7 pmE7 anE7 (.ref xE7) ctE7) ["self", "name"] 1 ["name"] (fun us ws => us ++ ws) (fun vs zs => vs ++ zs) := ⟨fun s us ws _ l1 l2 => match us, l1, ws, l2 with | [_], _, [_], _ => .of_eq rfl, fun r1 r2 => r1.append r2⟩
  have OE7 : Oex K C7 "LookupError" "LookupError.__new__" tlL := ⟨iniC7, ovC7, saC7, excC7, tyC7, kcC7, hdC7, sBC7⟩
  have TE7 : ErrT P K mg "LookupError" "LookupError.__new__" "LookupError.__init__" tlL C7 := ⟨⟨top_, y_super, ⟨cdC7, clsC7⟩, third⟩, OE7, hmC7, mrC7⟩
  have RE7 : Err1 P w K mg base "NoLeg" "name" (cs 7) := ⟨⟨"LookupError", "LookupError.__new__", "LookupError.__init__", tlL, fE7, _, bL, OE7, aE7, tE7, mkE7 FE7 TE7 no0C7, bE7_, zE7⟩, mC7, ⟨gaC7, ggC7, excC7, hdC7⟩, no0C7⟩
  have FE8 : FunS P K "__init__" "NoWord.__init__" (sE 24) fE8 _ xE8 yE8 C8 := ⟨⟨ocE8, odE8, kVE8, dcE8, pmE8, anE8, ctE8, slE8, rfl, lE8⟩, cE8, ⟨u1E8, v1E8, vsE8, w1E8, flE8, tfE8, mE8, nE8, pE8⟩, ⟨u2E8, v2E8, w2E8, qE8⟩, kE8⟩
  have bE8_ : Binds K (PySem.W.fnX "__init__" "NoWord.__init__" (defArgs (sE 24)) (defBody (sE 24)) (defScope (sE 24)) [("__class__", yE8)] .none kVE8 dcE8 pmE8 anE8 (.ref xE8) ctE8) ["self", "index"] [] := .all fun us hl => match us, hl with | [_, _], _ => rfl
  have zE8 : KBn K (PySem.W.fnX "__init__" "NoWord.__init__" (defArgs (sE 24)) (defBody (sE 24)) (defScope (sE 24)) [("__class__", yE8)] .none kVE8 dcE8 pmE8 anE8 (.ref xE8) ctE8) ["self", "index"] 1 ["index"] (fun us ws => us ++ ws) (fun vs zs => vs ++ zs) := ⟨fun s us ws _ l1 l2 => match us, l1, ws, l2 with | [_], _, [_], _ => .of_eq rfl, fun r1 r2 => r1.append r2⟩
  have OE8 : Oex K C8 "LookupError" "LookupError.__new__" tlL := ⟨iniC8, ovC8, saC8, excC8, tyC8, kcC8, hdC8, sBC8⟩
  have TE8 : ErrT P K mg "LookupError" "LookupError.__new__" "LookupError.__init__" tlL C8 := ⟨⟨top_, y_super, ⟨cdC8, clsC8⟩, third⟩, OE8, hmC8, mrC8⟩
  have RE8 : Err1 P w K mg base "NoWord" "index" (cs 8) := ⟨⟨"LookupError", "LookupError.__new__", "LookupError.__init__", tlL, fE8, _, bL, OE8, aE8, tE8, mkE8 FE8 TE8 no0C8, bE8_, zE8⟩, mC8, ⟨gaC8, ggC8, excC8, hdC8⟩, no0C8⟩
  have FE9 : FunS P K "__init__" "TooMany.__init__" (sE 25) fE9 _ xE9 yE9 C9 := ⟨⟨ocE9, odE9, kVE9, dcE9, pmE9, anE9, ctE9, slE9, rfl, lE9⟩, cE9, ⟨u1E9, v1E9, vsE9, w1E9, flE9, tfE9, mE9, nE9, pE9⟩, ⟨u2E9, v2E9, w2E9, qE9⟩, kE9⟩
  have bE9_ : Binds K (PySem.W.fnX "__init__" "TooMany.__init__" (defArgs (sE 25)) (defBody (sE 25)) (defScope (sE 25)) [("__class__", yE9)] .none kVE9 dcE9 pmE9 anE9 (.ref xE9) ctE9) ["self", "most"] [] := .all fun us hl => match us, hl with | [_, _], _ => rfl
  have zE9 : KBn K (PySem.W.fnX "__init__" "TooMany.__init__" (defArgs (sE 25)) (defBody (sE 25)) (defScope (sE 25)) [("__class__", yE9)] .none kVE9 dcE9 pmE9 anE9 (.ref xE9) ctE9) ["self", "most"] 1 ["most"] (fun us ws => us ++ ws) (fun vs zs => vs ++ zs) := ⟨fun s us ws _ l1 l2 => match us, l1, ws, l2 with | [_], _, [_], _ => .of_eq rfl, fun r1 r2 => r1.append r2⟩
  have OE9 : Oex K C9 "OverflowError" "OverflowError.__new__" tlO := ⟨iniC9, ovC9, saC9, excC9, tyC9, kcC9, hdC9, sBC9⟩
  have TE9 : ErrT P K mg "OverflowError" "OverflowError.__new__" "OverflowError.__init__" tlO C9 := ⟨⟨top_, y_super, ⟨cdC9, clsC9⟩, third⟩, OE9, hmC9, mrC9⟩
  have RE9 : Err1 P w K mg base "TooMany" "most" (cs 9) := ⟨⟨"OverflowError", "OverflowError.__new__", "OverflowError.__init__", tlO, fE9, _, bO, OE9, aE9, tE9, mkE9 FE9 TE9 no0C9, bE9_, zE9⟩, mC9, ⟨gaC9, ggC9, excC9, hdC9⟩, no0C9⟩
  have FE10 : FunS P K "__init__" "InvalidAnswer.__init__" (sE 13) fE10 _ xE10 yE10 C10 := ⟨⟨ocE10, odE10, kVE10, dcE10, pmE10, anE10, ctE10, slE10, rfl, lE10⟩, cE10, ⟨u1E10, v1E10, vsE10, w1E10, flE10, tfE10, mE10, nE10, pE10⟩, ⟨u2E10, v2E10, w2E10, qE10⟩, kE10⟩
  have bE10_ : Binds K (PySem.W.fnX "__init__" "InvalidAnswer.__init__" (defArgs (sE 13)) (defBody (sE 13)) (defScope (sE 13)) [("__class__", yE10)] .none kVE10 dcE10 pmE10 anE10 (.ref xE10) ctE10) ["self", "index", "name"] [] := .all fun us hl => match us, hl with | [_, _, _], _ => rfl
  have zE10 : KBn K (PySem.W.fnX "__init__" "InvalidAnswer.__init__" (defArgs (sE 13)) (defBody (sE 13)) (defScope (sE 13)) [("__class__", yE10)] .none kVE10 dcE10 pmE10 anE10 (.ref xE10) ctE10) ["self", "index", "name"] 1 ["name", "index"] (fun us ws => us ++ ws.reverse) (fun vs zs => vs ++ zs.reverse) := ⟨fun s us ws _ l1 l2 => match us, l1, ws, l2 with | [_], _, [_, _], _ => .of_eq rfl, fun r1 r2 => r1.append (vals_back r2)⟩
  have OE10 : Oex K C10 "ValueError" "ValueError.__new__" tlV := ⟨iniC10, ovC10, saC10, excC10, tyC10, kcC10, hdC10, sBC10⟩
  have TE10 : ErrT P K mg "ValueError" "ValueError.__new__" "ValueError.__init__" tlV C10 := ⟨⟨top_, y_super, ⟨cdC10, clsC10⟩, third⟩, OE10, hmC10, mrC10⟩
  have RE10 : Err2 P w K mg base "InvalidAnswer" "index" "name" (cs 10) := ⟨⟨"ValueError", "ValueError.__new__", "ValueError.__init__", tlV, fE10, _, bV, OE10, aE10, tE10, mkE10 FE10 TE10 no0C10 no1C10, bE10_, zE10⟩, mC10, ⟨gaC10, ggC10, excC10, hdC10⟩, no0C10, no1C10⟩
  have FE11 : FunS P K "__init__" "NoBoard.__init__" (sE 14) fE11 _ xE11 yE11 C11 := ⟨⟨ocE11, odE11, kVE11, dcE11, pmE11, anE11, ctE11, slE11, rfl, lE11⟩, cE11, ⟨u1E11, v1E11, vsE11, w1E11, flE11, tfE11, mE11, nE11, pE11⟩, ⟨u2E11, v2E11, w2E11, qE11⟩, kE11⟩
  have bE11_ : Binds K (PySem.W.fnX "__init__" "NoBoard.__init__" (defArgs (sE 14)) (defBody (sE 14)) (defScope (sE 14)) [("__class__", yE11)] .none kVE11 dcE11 pmE11 anE11 (.ref xE11) ctE11) ["self", "index", "name"] [] := .all fun us hl => match us, hl with | [_, _, _], _ => rfl
  have zE11 : KBn K (PySem.W.fnX "__init__" "NoBoard.__init__" (defArgs (sE 14)) (defBody (sE 14)) (defScope (sE 14)) [("__class__", yE11)] .none kVE11 dcE11 pmE11 anE11 (.ref xE11) ctE11) ["self", "index", "name"] 1 ["name", "index"] (fun us ws => us ++ ws.reverse) (fun vs zs => vs ++ zs.reverse) := ⟨fun s us ws _ l1 l2 => match us, l1, ws, l2 with | [_], _, [_, _], _ => .of_eq rfl, fun r1 r2 => r1.append (vals_back r2)⟩
  have OE11 : Oex K C11 "ValueError" "ValueError.__new__" tlV := ⟨iniC11, ovC11, saC11, excC11, tyC11, kcC11, hdC11, sBC11⟩
  have TE11 : ErrT P K mg "ValueError" "ValueError.__new__" "ValueError.__init__" tlV C11 := ⟨⟨top_, y_super, ⟨cdC11, clsC11⟩, third⟩, OE11, hmC11, mrC11⟩
  have RE11 : Err2 P w K mg base "NoBoard" "index" "name" (cs 11) := ⟨⟨"ValueError", "ValueError.__new__", "ValueError.__init__", tlV, fE11, _, bV, OE11, aE11, tE11, mkE11 FE11 TE11 no0C11 no1C11, bE11_, zE11⟩, mC11, ⟨gaC11, ggC11, excC11, hdC11⟩, no0C11, no1C11⟩
  have FE12 : FunS P K "__init__" "InvalidText.__init__" (sE 18) fE12 _ xE12 yE12 C12 := ⟨⟨ocE12, odE12, kVE12, dcE12, pmE12, anE12, ctE12, slE12, rfl, lE12⟩, cE12, ⟨u1E12, v1E12, vsE12, w1E12, flE12, tfE12, mE12, nE12, pE12⟩, ⟨u2E12, v2E12, w2E12, qE12⟩, kE12⟩
  have bE12_ : Binds K (PySem.W.fnX "__init__" "InvalidText.__init__" (defArgs (sE 18)) (defBody (sE 18)) (defScope (sE 18)) [("__class__", yE12)] .none kVE12 dcE12 pmE12 anE12 (.ref xE12) ctE12) ["self", "line", "word"] [] := .all fun us hl => match us, hl with | [_, _, _], _ => rfl
  have zE12 : KBn K (PySem.W.fnX "__init__" "InvalidText.__init__" (defArgs (sE 18)) (defBody (sE 18)) (defScope (sE 18)) [("__class__", yE12)] .none kVE12 dcE12 pmE12 anE12 (.ref xE12) ctE12) ["self", "line", "word"] 1 ["word", "line"] (fun us ws => us ++ ws.reverse) (fun vs zs => vs ++ zs.reverse) := ⟨fun s us ws _ l1 l2 => match us, l1, ws, l2 with | [_], _, [_, _], _ => .of_eq rfl, fun r1 r2 => r1.append (vals_back r2)⟩
  have OE12 : Oex K C12 "ValueError" "ValueError.__new__" tlV := ⟨iniC12, ovC12, saC12, excC12, tyC12, kcC12, hdC12, sBC12⟩
  have TE12 : ErrT P K mg "ValueError" "ValueError.__new__" "ValueError.__init__" tlV C12 := ⟨⟨top_, y_super, ⟨cdC12, clsC12⟩, third⟩, OE12, hmC12, mrC12⟩
  have RE12 : Err2 P w K mg base "InvalidText" "line" "word" (cs 12) := ⟨⟨"ValueError", "ValueError.__new__", "ValueError.__init__", tlV, fE12, _, bV, OE12, aE12, tE12, mkE12 FE12 TE12 no0C12 no1C12, bE12_, zE12⟩, mC12, ⟨gaC12, ggC12, excC12, hdC12⟩, no0C12, no1C12⟩
  have ET : ErrsT P w K mg base cs := ⟨RE0, RE1, RE2, RE3, RE4, RE5, RE6, RE7, RE8, RE9, RE10, RE11, RE12⟩
  have XI : ∀ i, i < 15 → XiT K (cs i) := each15 ⟨clC0, gaC0, ggC0, excC0, caC0, cn, ct_, obC0⟩ ⟨clC1, gaC1, ggC1, excC1, caC1, cn, ct_, obC1⟩ ⟨clC2, gaC2, ggC2, excC2, caC2, cn, ct_, obC2⟩ ⟨clC3, gaC3, ggC3, excC3, caC3, cn, ct_, obC3⟩ ⟨clC4, gaC4, ggC4, excC4, caC4, cn, ct_, obC4⟩ ⟨clC5, gaC5, ggC5, excC5, caC5, cn, ct_, obC5⟩ ⟨clC6, gaC6, ggC6, excC6, caC6, cn, ct_, obC6⟩ ⟨clC7, gaC7, ggC7, excC7, caC7, cn, ct_, obC7⟩ ⟨clC8, gaC8, ggC8, excC8, caC8, cn, ct_, obC8⟩ ⟨clC9, gaC9, ggC9, excC9, caC9, cn, ct_, obC9⟩ ⟨clC10, gaC10, ggC10, excC10, caC10, cn, ct_, obC10⟩ ⟨clC11, gaC11, ggC11, excC11, caC11, cn, ct_, obC11⟩ ⟨clC12, gaC12, ggC12, excC12, caC12, cn, ct_, obC12⟩ ⟨clC13, gaC13, ggC13, excC13, caC13, cn, ct_, obC13⟩ ⟨clC14, gaC14, ggC14, excC14, caC14, cn, ct_, obC14⟩
  have KT : KindT K mg cs CJ CM := { isi := y_isinstance, xi := XI, kk := fun i j hi hj => of_decide_eq_true (all15 (all15 hkk i hi) j hj), kj := fun i hi => of_decide_eq_true (all15 hkj i hi), kv := fun i hi => of_decide_eq_true (all15 hkv i hi), km := fun i hi => of_decide_eq_true (all15 hkm i hi), kl := fun i hi => of_decide_eq_true (all15 hkl i hi), ko := fun i hi => of_decide_eq_true (all15 hko i hi), ke := fun i hi => of_decide_eq_true (all15 hke i hi), kx := fun i hi => of_decide_eq_true (all15 hkx i hi), m13 := mC13, m14 := mC14, mj := mCJ, mm := mCM, bv := y_ValueError, bl := y_LookupError, bo := y_OverflowError, bk := y_KeyError, bx := y_IndexError }
  have NT : NmT K mg := ⟨y_isinstance, y_str, y_len, y_all, ⟨tL, PySem.W.mg_of X G gLet⟩, ⟨tN, PySem.W.mg_of X G gLon⟩, ⟨aR, PySem.W.mg_of X G gRes, fun H => .inr ⟨_, itsR, nR, lRes, rfl, rfl, sRes, vRes⟩⟩⟩
  have BI : Bi mg := ⟨y_int, y_len, y_abs⟩
  have cDr : CalO P w K mg base "_law_draw" 1 ["_law_pen_here", "_law_many"] spDraw := ⟨⟨fDr, _, ok_draw FDr BI, mDr, kDr, bDr_⟩⟩
  have cPk : CalO P w K mg base "_law_pick" 2 ["_law_pen_here", "_law_some"] spPick := ⟨⟨fPk, _, ok_pick FPk BI FDr bDr_ mDr, mPk, kPk, bPk_⟩⟩
  have LO : LoopT P w K mg base cs := ⟨⟨⟨fKn, _, ok_kinds FKn ET KT, mKn, kKn, bKn_⟩⟩, ⟨⟨fBa, _, ok_bases FBa KT, mBa, kBa, bBa_⟩⟩, y_repr, y_range, y_enumerate⟩
  have EA : ErrsAll P w K mg base cs := ⟨cPk, ⟨⟨fOn, _, ok_ones FOn ET, mOn, kOn, bOn_⟩⟩, ⟨⟨fTw, _, ok_twos FTw ET, mTw, kTw, bTw_⟩⟩, ⟨⟨fNm, _, ok_named FNm ET y_repr, mNm, kNm, bNm_⟩⟩, LO, ⟨_, _, _, _, bV, ex13, kcC13, mC13⟩, ⟨_, _, _, _, bV, ex14, kcC14, mC14⟩⟩
  have NU : NumT P w K mg base := ⟨cDr, cPk, ⟨⟨fU, _, ok_up FU, mU, kU, bU_, xU_⟩⟩, ⟨⟨fLP, _, ok_least FLP, mLP, kLP, bLP_, xLP_⟩⟩, ⟨⟨fPw, _, ok_pow FPw y_range, mPw, kPw, bPw_⟩⟩, y_repr, y_int⟩
  refine at_law FLw (fun s u => .of_eq rfl) ?_
  exact ⟨⟨⟨fPn, _, ok_pen FPn y_list, mPn, kPn, bPn_⟩⟩, cDr, cPk, ⟨⟨fEr, _, ok_errs FEr EA, mEr, kEr, bEr_⟩⟩, ⟨⟨fNu, _, ok_num FNu NU, mNu, kNu, bNu_⟩⟩, ⟨⟨fI, _, ok_int FI y_isinstance y_int y_bool, mI, kI, bI_, xI_⟩⟩, ⟨⟨fN, _, ok_isname FN NT, mN, kN, bN_, xN_⟩⟩, y_repr, y_range, y_isinstance, y_int, y_bool, y_len⟩
end Sk
open PySem PySem.W PyProof.Rows in
set_option maxRecDepth 100000 in
set_option maxHeartbeats 0 in
theorem PySem.Challenge.cw_strayjoins_k01_errors_and_numbers_holds : PySem.Challenge.rw_strayjoins_k01_errors_and_numbers.Holds := by
  w_on; o_law; k_head; (case hw => w_witness2)
  k_fill
  refine Sup.walk_at (l := PySem.Challenge.rw_strayjoins_k01_errors_and_numbers) (sp := Sk.spLaw1) rfl (by decide) rfl (fun w h Y => PySem.W.kIn_of Y) ?F ?W
  case W => exact fun K H a ns hl hS => ⟨a, ns, rfl, hS, hl, fun _ => rfl⟩
  case F =>
    intro w mg f h KX G hmg
    refine' Sk.all_mk KX G hmg ?uu_g0 ?uu_g1 ?uu_g2 ?uu_g3 ?uu_g4 ?uu_g5 ?uu_g6 ?uu_g7 ?uu_g8 ?uu_g9 ?uu_g10 ?uu_g11 ?uu_g12 ?uu_g13 ?uu_g14 ?uu_gJ ?uu_gM ?uu_gLet ?uu_gLon ?uu_gRes ?uu_lRes ?uu_sRes ?uu_vRes ?uu_z_isinstance ?uu_z_str ?uu_z_len ?uu_z_all ?uu_z_repr ?uu_z_list ?uu_z_int ?uu_z_abs ?uu_z_range ?uu_z_super ?uu_z_enumerate ?uu_z_bool ?uu_z_ValueError ?uu_z_LookupError ?uu_z_OverflowError ?uu_z_KeyError ?uu_z_IndexError ?uu_aN ?uu_lN ?uu_cN ?uu_kN ?uu_aI ?uu_lI ?uu_cI ?uu_kI ?uu_aU ?uu_lU ?uu_cU ?uu_kU ?uu_aLP ?uu_lLP ?uu_cLP ?uu_kLP ?uu_aPn ?uu_lPn ?uu_cPn ?uu_kPn ?uu_aDr ?uu_lDr ?uu_cDr ?uu_kDr ?uu_aPk ?uu_lPk ?uu_cPk ?uu_kPk ?uu_aOn ?uu_lOn ?uu_cOn ?uu_kOn ?uu_aTw ?uu_lTw ?uu_cTw ?uu_kTw ?uu_aKn ?uu_lKn ?uu_cKn ?uu_kKn ?uu_aBa ?uu_lBa ?uu_cBa ?uu_kBa ?uu_aNm ?uu_lNm ?uu_cNm ?uu_kNm ?uu_aEr ?uu_lEr ?uu_cEr ?uu_kEr ?uu_aPw ?uu_lPw ?uu_cPw ?uu_kPw ?uu_aNu ?uu_lNu ?uu_cNu ?uu_kNu ?uu_aLw ?uu_lLw ?uu_cLw ?uu_kLw ?uu_top_ ?uu_third ?uu_cn ?uu_ct_ ?uu_aE0 ?uu_tE0 ?uu_lE0 ?uu_cE0 ?uu_mE0 ?uu_nE0 ?uu_pE0 ?uu_qE0 ?uu_kE0 ?uu_clsC0 ?uu_mrC0 ?uu_iniC0 ?uu_ovC0 ?uu_saC0 ?uu_tyC0 ?uu_sBC0 ?uu_hmC0 ?uu_no0C0 ?uu_aE1 ?uu_tE1 ?uu_lE1 ?uu_cE1 ?uu_mE1 ?uu_nE1 ?uu_pE1 ?uu_qE1 ?uu_kE1 ?uu_clsC1 ?uu_mrC1 ?uu_iniC1 ?uu_ovC1 ?uu_saC1 ?uu_tyC1 ?uu_sBC1 ?uu_hmC1 ?uu_no0C1 ?uu_aE2 ?uu_tE2 ?uu_lE2 ?uu_cE2 ?uu_mE2 ?uu_nE2 ?uu_pE2 ?uu_qE2 ?uu_kE2 ?uu_clsC2 ?uu_mrC2 ?uu_iniC2 ?uu_ovC2 ?uu_saC2 ?uu_tyC2 ?uu_sBC2 ?uu_hmC2 ?uu_no0C2 ?uu_aE3 ?uu_tE3 ?uu_lE3 ?uu_cE3 ?uu_mE3 ?uu_nE3 ?uu_pE3 ?uu_qE3 ?uu_kE3 ?uu_clsC3 ?uu_mrC3 ?uu_iniC3 ?uu_ovC3 ?uu_saC3 ?uu_tyC3 ?uu_sBC3 ?uu_hmC3 ?uu_no0C3 ?uu_aE4 ?uu_tE4 ?uu_lE4 ?uu_cE4 ?uu_mE4 ?uu_nE4 ?uu_pE4 ?uu_qE4 ?uu_kE4 ?uu_clsC4 ?uu_mrC4 ?uu_iniC4 ?uu_ovC4 ?uu_saC4 ?uu_tyC4 ?uu_sBC4 ?uu_hmC4 ?uu_no0C4 ?uu_aE5 ?uu_tE5 ?uu_lE5 ?uu_cE5 ?uu_mE5 ?uu_nE5 ?uu_pE5 ?uu_qE5 ?uu_kE5 ?uu_clsC5 ?uu_mrC5 ?uu_iniC5 ?uu_ovC5 ?uu_saC5 ?uu_tyC5 ?uu_sBC5 ?uu_hmC5 ?uu_no0C5 ?uu_aE6 ?uu_tE6 ?uu_lE6 ?uu_cE6 ?uu_mE6 ?uu_nE6 ?uu_pE6 ?uu_qE6 ?uu_kE6 ?uu_clsC6 ?uu_mrC6 ?uu_iniC6 ?uu_ovC6 ?uu_saC6 ?uu_tyC6 ?uu_sBC6 ?uu_hmC6 ?uu_no0C6 ?uu_aE7 ?uu_tE7 ?uu_lE7 ?uu_cE7 ?uu_mE7 ?uu_nE7 ?uu_pE7 ?uu_qE7 ?uu_kE7 ?uu_clsC7 ?uu_mrC7 ?uu_iniC7 ?uu_ovC7 ?uu_saC7 ?uu_tyC7 ?uu_sBC7 ?uu_hmC7 ?uu_no0C7 ?uu_aE8 ?uu_tE8 ?uu_lE8 ?uu_cE8 ?uu_mE8 ?uu_nE8 ?uu_pE8 ?uu_qE8 ?uu_kE8 ?uu_clsC8 ?uu_mrC8 ?uu_iniC8 ?uu_ovC8 ?uu_saC8 ?uu_tyC8 ?uu_sBC8 ?uu_hmC8 ?uu_no0C8 ?uu_aE9 ?uu_tE9 ?uu_lE9 ?uu_cE9 ?uu_mE9 ?uu_nE9 ?uu_pE9 ?uu_qE9 ?uu_kE9 ?uu_clsC9 ?uu_mrC9 ?uu_iniC9 ?uu_ovC9 ?uu_saC9 ?uu_tyC9 ?uu_sBC9 ?uu_hmC9 ?uu_no0C9 ?uu_aE10 ?uu_tE10 ?uu_lE10 ?uu_cE10 ?uu_mE10 ?uu_nE10 ?uu_pE10 ?uu_qE10 ?uu_kE10 ?uu_clsC10 ?uu_mrC10 ?uu_iniC10 ?uu_ovC10 ?uu_saC10 ?uu_tyC10 ?uu_sBC10 ?uu_hmC10 ?uu_no0C10 ?uu_no1C10 ?uu_aE11 ?uu_tE11 ?uu_lE11 ?uu_cE11 ?uu_mE11 ?uu_nE11 ?uu_pE11 ?uu_qE11 ?uu_kE11 ?uu_clsC11 ?uu_mrC11 ?uu_iniC11 ?uu_ovC11 ?uu_saC11 ?uu_tyC11 ?uu_sBC11 ?uu_hmC11 ?uu_no0C11 ?uu_no1C11 ?uu_aE12 ?uu_tE12 ?uu_lE12 ?uu_cE12 ?uu_mE12 ?uu_nE12 ?uu_pE12 ?uu_qE12 ?uu_kE12 ?uu_clsC12 ?uu_mrC12 ?uu_iniC12 ?uu_ovC12 ?uu_saC12 ?uu_tyC12 ?uu_sBC12 ?uu_hmC12 ?uu_no0C12 ?uu_no1C12 ?uu_excC0 ?uu_kcC0 ?uu_hdC0 ?uu_clC0 ?uu_gaC0 ?uu_ggC0 ?uu_caC0 ?uu_obC0 ?uu_excC1 ?uu_kcC1 ?uu_hdC1 ?uu_clC1 ?uu_gaC1 ?uu_ggC1 ?uu_caC1 ?uu_obC1 ?uu_excC2 ?uu_kcC2 ?uu_hdC2 ?uu_clC2 ?uu_gaC2 ?uu_ggC2 ?uu_caC2 ?uu_obC2 ?uu_excC3 ?uu_kcC3 ?uu_hdC3 ?uu_clC3 ?uu_gaC3 ?uu_ggC3 ?uu_caC3 ?uu_obC3 ?uu_excC4 ?uu_kcC4 ?uu_hdC4 ?uu_clC4 ?uu_gaC4 ?uu_ggC4 ?uu_caC4 ?uu_obC4 ?uu_excC5 ?uu_kcC5 ?uu_hdC5 ?uu_clC5 ?uu_gaC5 ?uu_ggC5 ?uu_caC5 ?uu_obC5 ?uu_excC6 ?uu_kcC6 ?uu_hdC6 ?uu_clC6 ?uu_gaC6 ?uu_ggC6 ?uu_caC6 ?uu_obC6 ?uu_excC7 ?uu_kcC7 ?uu_hdC7 ?uu_clC7 ?uu_gaC7 ?uu_ggC7 ?uu_caC7 ?uu_obC7 ?uu_excC8 ?uu_kcC8 ?uu_hdC8 ?uu_clC8 ?uu_gaC8 ?uu_ggC8 ?uu_caC8 ?uu_obC8 ?uu_excC9 ?uu_kcC9 ?uu_hdC9 ?uu_clC9 ?uu_gaC9 ?uu_ggC9 ?uu_caC9 ?uu_obC9 ?uu_excC10 ?uu_kcC10 ?uu_hdC10 ?uu_clC10 ?uu_gaC10 ?uu_ggC10 ?uu_caC10 ?uu_obC10 ?uu_excC11 ?uu_kcC11 ?uu_hdC11 ?uu_clC11 ?uu_gaC11 ?uu_ggC11 ?uu_caC11 ?uu_obC11 ?uu_excC12 ?uu_kcC12 ?uu_hdC12 ?uu_clC12 ?uu_gaC12 ?uu_ggC12 ?uu_caC12 ?uu_obC12 ?uu_excC13 ?uu_kcC13 ?uu_hdC13 ?uu_clC13 ?uu_gaC13 ?uu_ggC13 ?uu_caC13 ?uu_obC13 ?uu_excC14 ?uu_kcC14 ?uu_hdC14 ?uu_clC14 ?uu_gaC14 ?uu_ggC14 ?uu_caC14 ?uu_obC14 ?uu_ex13 ?uu_ex14 ?uu_hkk ?uu_hkj ?uu_hkv ?uu_hkm ?uu_hkl ?uu_hko ?uu_hke ?uu_hkx
    case uu_g0 => k_is
    case uu_g1 => k_is
    case uu_g2 => k_is
    case uu_g3 => k_is
    case uu_g4 => k_is
    case uu_g5 => k_is
    case uu_g6 => k_is
    case uu_g7 => k_is
    case uu_g8 => k_is
    case uu_g9 => k_is
    case uu_g10 => k_is
    case uu_g11 => k_is
    case uu_g12 => k_is
    case uu_g13 => k_is
    case uu_g14 => k_is
    case uu_gJ => k_is
    case uu_gM => k_is
    case uu_gLet => k_is
    case uu_gLon => k_is
    case uu_gRes => k_is
    case uu_lRes => k_is
    case uu_sRes => decide
    case uu_vRes => exact .cons ⟨_, rfl⟩ (.cons ⟨_, rfl⟩ (.cons ⟨_, rfl⟩ .nil))
    case uu_z_isinstance => k_is
    case uu_z_str => k_is
    case uu_z_len => k_is
    case uu_z_all => k_is
    case uu_z_repr => k_is
    case uu_z_list => k_is
    case uu_z_int => k_is
    case uu_z_abs => k_is
    case uu_z_range => k_is
    case uu_z_super => k_is
    case uu_z_enumerate => k_is
    case uu_z_bool => k_is
    case uu_z_ValueError => k_is
    case uu_z_LookupError => k_is
    case uu_z_OverflowError => k_is
    case uu_z_KeyError => k_is
    case uu_z_IndexError => k_is
    case uu_aN => k_is
    case uu_lN => k_is
    case uu_cN => k_is
    case uu_kN => k_is
    case uu_aI => k_is
    case uu_lI => k_is
    case uu_cI => k_is
    case uu_kI => k_is
    case uu_aU => k_is
    case uu_lU => k_is
    case uu_cU => k_is
    case uu_kU => k_is
    case uu_aLP => k_is
    case uu_lLP => k_is
    case uu_cLP => k_is
    case uu_kLP => k_is
    case uu_aPn => k_is
    case uu_lPn => k_is
    case uu_cPn => k_is
    case uu_kPn => k_is
    case uu_aDr => k_is
    case uu_lDr => k_is
    case uu_cDr => k_is
    case uu_kDr => k_is
    case uu_aPk => k_is
    case uu_lPk => k_is
    case uu_cPk => k_is
    case uu_kPk => k_is
    case uu_aOn => k_is
    case uu_lOn => k_is
    case uu_cOn => k_is
    case uu_kOn => k_is
    case uu_aTw => k_is
    case uu_lTw => k_is
    case uu_cTw => k_is
    case uu_kTw => k_is
    case uu_aKn => k_is
    case uu_lKn => k_is
    case uu_cKn => k_is
    case uu_kKn => k_is
    case uu_aBa => k_is
    case uu_lBa => k_is
    case uu_cBa => k_is
    case uu_kBa => k_is
    case uu_aNm => k_is
    case uu_lNm => k_is
    case uu_cNm => k_is
    case uu_kNm => k_is
    case uu_aEr => k_is
    case uu_lEr => k_is
    case uu_cEr => k_is
    case uu_kEr => k_is
    case uu_aPw => k_is
    case uu_lPw => k_is
    case uu_cPw => k_is
    case uu_kPw => k_is
    case uu_aNu => k_is
    case uu_lNu => k_is
    case uu_cNu => k_is
    case uu_kNu => k_is
    case uu_aLw => k_is
    case uu_lLw => k_is
    case uu_cLw => k_is
    case uu_kLw => k_is
    case uu_top_ => first | rfl | decide +kernel
    case uu_third => k_is
    case uu_cn => k_is
    case uu_ct_ => k_is
    case uu_aE0 => k_is
    case uu_tE0 => k_is
    case uu_lE0 => k_is
    case uu_cE0 => k_is
    case uu_mE0 => k_is
    case uu_nE0 => rfl
    case uu_pE0 => first | rfl | decide +kernel
    case uu_qE0 => k_is
    case uu_kE0 => k_is
    case uu_clsC0 => k_is
    case uu_mrC0 => k_is
    case uu_iniC0 => kernel_rfl
    case uu_ovC0 => kernel_rfl
    case uu_saC0 => k_is
    case uu_tyC0 => k_is
    case uu_sBC0 => k_is
    case uu_hmC0 => kernel_rfl
    case uu_no0C0 => k_is
    case uu_aE1 => k_is
    case uu_tE1 => k_is
    case uu_lE1 => k_is
    case uu_cE1 => k_is
    case uu_mE1 => k_is
    case uu_nE1 => rfl
    case uu_pE1 => first | rfl | decide +kernel
    case uu_qE1 => k_is
    case uu_kE1 => k_is
    case uu_clsC1 => k_is
    case uu_mrC1 => k_is
    case uu_iniC1 => kernel_rfl
    case uu_ovC1 => kernel_rfl
    case uu_saC1 => k_is
    case uu_tyC1 => k_is
    case uu_sBC1 => k_is
    case uu_hmC1 => kernel_rfl
    case uu_no0C1 => k_is
    case uu_aE2 => k_is
    case uu_tE2 => k_is
    case uu_lE2 => k_is
    case uu_cE2 => k_is
    case uu_mE2 => k_is
    case uu_nE2 => rfl
    case uu_pE2 => first | rfl | decide +kernel
    case uu_qE2 => k_is
    case uu_kE2 => k_is
    case uu_clsC2 => k_is
    case uu_mrC2 => k_is
    case uu_iniC2 => kernel_rfl
    case uu_ovC2 => kernel_rfl
    case uu_saC2 => k_is
    case uu_tyC2 => k_is
    case uu_sBC2 => k_is
    case uu_hmC2 => kernel_rfl
    case uu_no0C2 => k_is
    case uu_aE3 => k_is
    case uu_tE3 => k_is
    case uu_lE3 => k_is
    case uu_cE3 => k_is
    case uu_mE3 => k_is
    case uu_nE3 => rfl
    case uu_pE3 => first | rfl | decide +kernel
    case uu_qE3 => k_is
    case uu_kE3 => k_is
    case uu_clsC3 => k_is
    case uu_mrC3 => k_is
    case uu_iniC3 => kernel_rfl
    case uu_ovC3 => kernel_rfl
    case uu_saC3 => k_is
    case uu_tyC3 => k_is
    case uu_sBC3 => k_is
    case uu_hmC3 => kernel_rfl
    case uu_no0C3 => k_is
    case uu_aE4 => k_is
    case uu_tE4 => k_is
    case uu_lE4 => k_is
    case uu_cE4 => k_is
    case uu_mE4 => k_is
    case uu_nE4 => rfl
    case uu_pE4 => first | rfl | decide +kernel
    case uu_qE4 => k_is
    case uu_kE4 => k_is
    case uu_clsC4 => k_is
    case uu_mrC4 => k_is
    case uu_iniC4 => kernel_rfl
    case uu_ovC4 => kernel_rfl
    case uu_saC4 => k_is
    case uu_tyC4 => k_is
    case uu_sBC4 => k_is
    case uu_hmC4 => kernel_rfl
    case uu_no0C4 => k_is
    case uu_aE5 => k_is
    case uu_tE5 => k_is
    case uu_lE5 => k_is
    case uu_cE5 => k_is
    case uu_mE5 => k_is
    case uu_nE5 => rfl
    case uu_pE5 => first | rfl | decide +kernel
    case uu_qE5 => k_is
    case uu_kE5 => k_is
    case uu_clsC5 => k_is
    case uu_mrC5 => k_is
    case uu_iniC5 => kernel_rfl
    case uu_ovC5 => kernel_rfl
    case uu_saC5 => k_is
    case uu_tyC5 => k_is
    case uu_sBC5 => k_is
    case uu_hmC5 => kernel_rfl
    case uu_no0C5 => k_is
    case uu_aE6 => k_is
    case uu_tE6 => k_is
    case uu_lE6 => k_is
    case uu_cE6 => k_is
    case uu_mE6 => k_is
    case uu_nE6 => rfl
    case uu_pE6 => first | rfl | decide +kernel
    case uu_qE6 => k_is
    case uu_kE6 => k_is
    case uu_clsC6 => k_is
    case uu_mrC6 => k_is
    case uu_iniC6 => kernel_rfl
    case uu_ovC6 => kernel_rfl
    case uu_saC6 => k_is
    case uu_tyC6 => k_is
    case uu_sBC6 => k_is
    case uu_hmC6 => kernel_rfl
    case uu_no0C6 => k_is
    case uu_aE7 => k_is
    case uu_tE7 => k_is
    case uu_lE7 => k_is
    case uu_cE7 => k_is
    case uu_mE7 => k_is
    case uu_nE7 => rfl
    case uu_pE7 => first | rfl | decide +kernel
    case uu_qE7 => k_is
    case uu_kE7 => k_is
    case uu_clsC7 => k_is
    case uu_mrC7 => k_is
    case uu_iniC7 => kernel_rfl
    case uu_ovC7 => kernel_rfl
    case uu_saC7 => k_is
    case uu_tyC7 => k_is
    case uu_sBC7 => k_is
    case uu_hmC7 => kernel_rfl
    case uu_no0C7 => k_is
    case uu_aE8 => k_is
    case uu_tE8 => k_is
    case uu_lE8 => k_is
    case uu_cE8 => k_is
    case uu_mE8 => k_is
    case uu_nE8 => rfl
    case uu_pE8 => first | rfl | decide +kernel
    case uu_qE8 => k_is
    case uu_kE8 => k_is
    case uu_clsC8 => k_is
    case uu_mrC8 => k_is
    case uu_iniC8 => kernel_rfl
    case uu_ovC8 => kernel_rfl
    case uu_saC8 => k_is
    case uu_tyC8 => k_is
    case uu_sBC8 => k_is
    case uu_hmC8 => kernel_rfl
    case uu_no0C8 => k_is
    case uu_aE9 => k_is
    case uu_tE9 => k_is
    case uu_lE9 => k_is
    case uu_cE9 => k_is
    case uu_mE9 => k_is
    case uu_nE9 => rfl
    case uu_pE9 => first | rfl | decide +kernel
    case uu_qE9 => k_is
    case uu_kE9 => k_is
    case uu_clsC9 => k_is
    case uu_mrC9 => k_is
    case uu_iniC9 => kernel_rfl
    case uu_ovC9 => kernel_rfl
    case uu_saC9 => k_is
    case uu_tyC9 => k_is
    case uu_sBC9 => k_is
    case uu_hmC9 => kernel_rfl
    case uu_no0C9 => k_is
    case uu_aE10 => k_is
    case uu_tE10 => k_is
    case uu_lE10 => k_is
    case uu_cE10 => k_is
    case uu_mE10 => k_is
    case uu_nE10 => rfl
    case uu_pE10 => first | rfl | decide +kernel
    case uu_qE10 => k_is
    case uu_kE10 => k_is
    case uu_clsC10 => k_is
    case uu_mrC10 => k_is
    case uu_iniC10 => kernel_rfl
    case uu_ovC10 => kernel_rfl
    case uu_saC10 => k_is
    case uu_tyC10 => k_is
    case uu_sBC10 => k_is
    case uu_hmC10 => kernel_rfl
    case uu_no0C10 => k_is
    case uu_no1C10 => k_is
    case uu_aE11 => k_is
    case uu_tE11 => k_is
    case uu_lE11 => k_is
    case uu_cE11 => k_is
    case uu_mE11 => k_is
    case uu_nE11 => rfl
    case uu_pE11 => first | rfl | decide +kernel
    case uu_qE11 => k_is
    case uu_kE11 => k_is
    case uu_clsC11 => k_is
    case uu_mrC11 => k_is
    case uu_iniC11 => kernel_rfl
    case uu_ovC11 => kernel_rfl
    case uu_saC11 => k_is
    case uu_tyC11 => k_is
    case uu_sBC11 => k_is
    case uu_hmC11 => kernel_rfl
    case uu_no0C11 => k_is
    case uu_no1C11 => k_is
    case uu_aE12 => k_is
    case uu_tE12 => k_is
    case uu_lE12 => k_is
    case uu_cE12 => k_is
    case uu_mE12 => k_is
    case uu_nE12 => rfl
    case uu_pE12 => first | rfl | decide +kernel
    case uu_qE12 => k_is
    case uu_kE12 => k_is
    case uu_clsC12 => k_is
    case uu_mrC12 => k_is
    case uu_iniC12 => kernel_rfl
    case uu_ovC12 => kernel_rfl
    case uu_saC12 => k_is
    case uu_tyC12 => k_is
    case uu_sBC12 => k_is
    case uu_hmC12 => kernel_rfl
    case uu_no0C12 => k_is
    case uu_no1C12 => k_is
    case uu_excC0 => k_is
    case uu_kcC0 => k_is
    case uu_hdC0 => k_is
    case uu_clC0 => rfl
    case uu_gaC0 => k_is
    case uu_ggC0 => k_is
    case uu_caC0 => k_is
    case uu_obC0 => k_is
    case uu_excC1 => k_is
    case uu_kcC1 => k_is
    case uu_hdC1 => k_is
    case uu_clC1 => rfl
    case uu_gaC1 => k_is
    case uu_ggC1 => k_is
    case uu_caC1 => k_is
    case uu_obC1 => k_is
    case uu_excC2 => k_is
    case uu_kcC2 => k_is
    case uu_hdC2 => k_is
    case uu_clC2 => rfl
    case uu_gaC2 => k_is
    case uu_ggC2 => k_is
    case uu_caC2 => k_is
    case uu_obC2 => k_is
    case uu_excC3 => k_is
    case uu_kcC3 => k_is
    case uu_hdC3 => k_is
    case uu_clC3 => rfl
    case uu_gaC3 => k_is
    case uu_ggC3 => k_is
    case uu_caC3 => k_is
    case uu_obC3 => k_is
    case uu_excC4 => k_is
    case uu_kcC4 => k_is
    case uu_hdC4 => k_is
    case uu_clC4 => rfl
    case uu_gaC4 => k_is
    case uu_ggC4 => k_is
    case uu_caC4 => k_is
    case uu_obC4 => k_is
    case uu_excC5 => k_is
    case uu_kcC5 => k_is
    case uu_hdC5 => k_is
    case uu_clC5 => rfl
    case uu_gaC5 => k_is
    case uu_ggC5 => k_is
    case uu_caC5 => k_is
    case uu_obC5 => k_is
    case uu_excC6 => k_is
    case uu_kcC6 => k_is
    case uu_hdC6 => k_is
    case uu_clC6 => rfl
    case uu_gaC6 => k_is
    case uu_ggC6 => k_is
    case uu_caC6 => k_is
    case uu_obC6 => k_is
    case uu_excC7 => k_is
    case uu_kcC7 => k_is
    case uu_hdC7 => k_is
    case uu_clC7 => rfl
    case uu_gaC7 => k_is
    case uu_ggC7 => k_is
    case uu_caC7 => k_is
    case uu_obC7 => k_is
    case uu_excC8 => k_is
    case uu_kcC8 => k_is
    case uu_hdC8 => k_is
    case uu_clC8 => rfl
    case uu_gaC8 => k_is
    case uu_ggC8 => k_is
    case uu_caC8 => k_is
    case uu_obC8 => k_is
    case uu_excC9 => k_is
    case uu_kcC9 => k_is
    case uu_hdC9 => k_is
    case uu_clC9 => rfl
    case uu_gaC9 => k_is
    case uu_ggC9 => k_is
    case uu_caC9 => k_is
    case uu_obC9 => k_is
    case uu_excC10 => k_is
    case uu_kcC10 => k_is
    case uu_hdC10 => k_is
    case uu_clC10 => rfl
    case uu_gaC10 => k_is
    case uu_ggC10 => k_is
    case uu_caC10 => k_is
    case uu_obC10 => k_is
    case uu_excC11 => k_is
    case uu_kcC11 => k_is
    case uu_hdC11 => k_is
    case uu_clC11 => rfl
    case uu_gaC11 => k_is
    case uu_ggC11 => k_is
    case uu_caC11 => k_is
    case uu_obC11 => k_is
    case uu_excC12 => k_is
    case uu_kcC12 => k_is
    case uu_hdC12 => k_is
    case uu_clC12 => rfl
    case uu_gaC12 => k_is
    case uu_ggC12 => k_is
    case uu_caC12 => k_is
    case uu_obC12 => k_is
    case uu_excC13 => k_is
    case uu_kcC13 => k_is
    case uu_hdC13 => k_is
    case uu_clC13 => rfl
    case uu_gaC13 => k_is
    case uu_ggC13 => k_is
    case uu_caC13 => k_is
    case uu_obC13 => k_is
    case uu_excC14 => k_is
    case uu_kcC14 => k_is
    case uu_hdC14 => k_is
    case uu_clC14 => rfl
    case uu_gaC14 => k_is
    case uu_ggC14 => k_is
    case uu_caC14 => k_is
    case uu_obC14 => k_is
    case uu_ex13 => kernel_rfl
    case uu_ex14 => kernel_rfl
    case uu_hkk => kernel_rfl
    case uu_hkj => kernel_rfl
    case uu_hkv => kernel_rfl
    case uu_hkm => kernel_rfl
    case uu_hkl => kernel_rfl
    case uu_hko => kernel_rfl
    case uu_hke => kernel_rfl
    case uu_hkx => kernel_rfl
