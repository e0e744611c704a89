import PyProof.Rows.All
import Wide.All
import OpenK.AllK
import Wide.FinOn
import KE.KSuper
import HandS.ForMost
import HandS.Codes
import HandS.Nested
import KE.KExcSuper
import HandS.Exc
import HandS.ExcInit
import HandS.FStr
import HandS.WordsExc
import HandS.ExcOwn
import HandS.TryOnly
import HandS.IsInst
import HandS.MakeKw
import HandS.MakeKwOnly
import HandS.Property
import HandS.ClsMeth
import HandS.RaiseMore
import HandS.Walk
import PyProof.ReprRoads
import KE.KCallOwn
import HandS.SetBool
import HandS.SetKeys
import HandS.DictComp
import HandS.Star
import HandS.MethStar
import HandS.CallLocal
import HandS.WordsList
import HandS.More
import HandS.WordsDict
import HandS.Conv
import HandS.Iter
import HandS.DictEq
import HandS.OwnEq
import HandS.Lambda
import KE.KDictSum
import PyProof.TupleOfSeq
import HandS.TupAny
import KE.KExcInit
import HandS.ExcField
import HandS.ExcIs
import HandS.ExcValue
import KE.KExcIs
import PyProof.Rows.SortStr
import HandS.BoundList
import KE.KParD
import HandS.Words
import HandS.Deep
import HandS.Strs
import HandS.SetFor
import PyProof.ReprBulk
import HandS.EndTab
import HandS.EndOwn
import PySem.Challenge.RW_strayjoins_k66_chains_refused
set_option Elab.async false
set_option linter.all false
set_option maxRecDepth 100000
set_option maxHeartbeats 8000000
namespace Sup
open PySem PySem.Spec PyProof.Rows L2
open NdefX (NF NScope ncx envF startF CellsAt inv_startN)
/-! ### a def of a class body that says super(): it closes over the class -/
structure FunS (P : Program) (K : PySem.W.Frag) (x qual : Str) (st : Stmt) (f : Addr) (fd : FuncData) (c cc D : Addr) : Prop where
  ex : ∃ (oc : Value) (od : Option Addr) (kV doc pm : Value) (an : Option Addr) (ct : Value) (osl : Array (Option Value)),
    fd = PySem.W.fnX x qual (defArgs st) (defBody st) (defScope st) [("__class__", cc)] .none kV doc pm an (.ref c) ct ∧ K.lookup f = some ⟨oc, od, .func fd, osl⟩
  cd : PySem.W.codeIn K (.ref c) qual = true
  file : ∃ (ccl : Value) (cdd : Option Addr) (vs : Array Value) (ccs : Array (Option Value)) (fl : Str) (tf : Tok), K.lookup c = some ⟨ccl, cdd, .fields vs, ccs⟩ ∧ vs[2]? = some (.str fl tf) ∧ ((P.main.file : Str) == fl) = true
  cell : ∃ (cl : Value) (cld : Option Addr) (csl : Array (Option Value)), K.lookup cc = some ⟨cl, cld, .cell (some (.ref D)), csl⟩
  kp : PySem.W.keepIn K (.ref f) = true
def nf (x qual : Str) (st : Stmt) (c cc : Addr) : NF := ⟨x, qual, defArgs st, defBody st, defScope st, [("__class__", cc)], c⟩
section
variable {P : Program} {w : World} {K : PySem.W.Frag} {mg : Str → Option Value} {base : Heap} {CX : CXT} {x qual : Str} {st : Stmt} {f c cc D : Addr} {fd : FuncData} {N ps : List Str} {k : Nat} {sp : Sp}
theorem fn_super (F : FunS P K x qual st f fd c cc D) (S : NScope N ps ["__class__"] (defScope st)) (len : ∀ vs H Q E, sp vs H Q E → vs.length = ps.length)
    (hbody : ∀ (A : Around) (outer : List Env) (s : Shared) (H : Hp) (vs : List V) (Q : VK) (E : XK), Room k (A.deeper (envF (nf x qual st c cc) f s.heap.objs.size)) → sp vs H Q E → ∀ s1,
      Inv (ncx CX P w K mg base N (nf x qual st c cc) f A outer s H E) [] (startF N vs [some (.ref D)]) H s1 →
      PySem.wpAt (model P w) (A.deeper (envF (nf x qual st c cc) f s.heap.objs.size)) (.func (defBody st) (envF (nf x qual st c cc) f s.heap.objs.size)) (execs (defBody st) (envF (nf x qual st c cc) f s.heap.objs.size))
        (SP (ncx CX P w K mg base N (nf x qual st c cc) f A outer s H E) [] { nx := fun _ H' => Q .non H', rt := Q }) (ncx CX P w K mg base N (nf x qual st c cc) f A outer s H E).xe s1) :
    FnOk P w K mg base CX (k + 1) f fd ps sp := by
  obtain ⟨oc, od, kV, doc, pm, an, ct, osl, rfl, lk⟩ := F.ex
  obtain ⟨cl, cld, csl, lc⟩ := F.cell
  refine ⟨len, fun A outer s H args us vs Q E hr e0 hb r hsp => ?_⟩
  have hl := len _ _ _ _ hsp
  have KX : K.In s.heap := e0.mod.kin.keeps fun b o e => (e0.bs b o e).1
  have lim : s.heap.NoLimit := e0.mod.nolimit.keeps fun b o e => (e0.bs b o e).1
  have hcc : s.heap.get? cc = some ⟨cl, cld, .cell (some (.ref D)), csl⟩ := KX _ _ lc
  have C : CellsAt (nf x qual st c cc).cl ["__class__"] [some (V.ref D)] s.heap H := by
    refine ⟨rfl, fun y b e => ?_, fun a b q h1 h2 => ?_, fun i y hy => ?_⟩
    · have e : (if y == "__class__" then some cc else none) = some b := by
        have q : List.lookup y [(("__class__" : Str), cc)] = some b := e
        rw [List.lookup_cons] at q
        cases z : y == ("__class__" : Str) with
        | true => rw [z] at q; rw [if_pos rfl]; exact q
        | false => rw [z] at q; cases q
      split at e
      · cases e
        exact ⟨(e0.bs _ _ (e0.mod.kin _ _ lc)).2, _, _, hcc, rfl⟩
      · cases e
    · have key : ∀ {y : Str} {b : Addr}, List.lookup y [(("__class__" : Str), cc)] = some b → y = "__class__" := fun {y b} q => by
        rw [List.lookup_cons] at q
        cases z : y == ("__class__" : Str) with
        | true => exact eq_of_beq z
        | false => rw [z] at q; cases q
      exact (key h1).trans (key h2).symm
    · match i, hy with
      | 0, hy =>
        have e : (("__class__" : Str)) = y := Option.some.inj hy
        subst e
        refine ⟨cc, by show List.lookup _ [(("__class__" : Str), cc)] = some cc; rw [List.lookup_cons, beq_self_eq_true], fun v hv => ?_⟩
        have e : V.ref D = v := Option.some.inj (Option.some.inj hv)
        subst e
        exact ⟨_, rfl, _, hcc, rfl⟩
  refine ks_codeAny_call_defAt (fd := PySem.W.fnX x qual (defArgs st) (defBody st) (defScope st) [("__class__", cc)] .none kV doc pm an (.ref c) ct) (body := defBody st) (binds := ps.zip us) hr.depth (KX _ _ lk) rfl lim (PySem.W.codeRec_of KX F.cd) rfl hb
    S.nocell (fun ⟨n, _⟩ hy => S.par n (List.of_mem_zip hy).1) (fun h₁ hns kp => ?_) S.co S.gen S.kind
  have I : Inv (ncx CX P w K mg base N (nf x qual st c cc) f A outer s H E) [] (startF N vs [some (.ref D)]) H { s with heap := h₁, toks := s.toks + (ps.zip us).length } := inv_startN S hr.hd e0 hl r C hns kp
  refine ks_wpAt_mono (hbody A outer s H vs Q E (hr.deeper _) hsp _ I) (fun fl s' hs => ?_) fun e s' hs => hs
  have fin : ∀ {σ' : L2.St} {H' : Hp} {v : V} {u : Value}, Inv (ncx CX P w K mg base N (nf x qual st c cc) f A outer s H E) [] σ' H' s' → L2.RelV v u → Q v H' → CE outer P w H s Q u s' :=
    fun {σ' H' v u} J rv q => ⟨v, H', J.os, J.bare, J.base, J.hok, rv, q⟩
  cases fl with
  | ret u =>
    obtain ⟨v, σ', H', J, rv, q⟩ := hs
    exact fin J rv q
  | next =>
    obtain ⟨σ', H', J, q⟩ := hs
    exact fin (v := V.non) (u := Value.none) J rfl q
  | brk =>
    obtain ⟨_, _, _, q⟩ := hs
    exact False.elim q
  | cont =>
    obtain ⟨_, _, _, q⟩ := hs
    exact False.elim q
end
/-! ### super().m(e, ..) as the first statement, m a def of a class above -/
/-- facts of the running def, by the context -/
structure AtS (X : Cx) (body : List Stmt) (f c cc D : Addr) (me : Str) : Prop where
  hk : X.env.scope.kind = .function
  hks : X.env.kindOf "super" = some .globalImplicit
  hkc : X.env.kindOf "__class__" = some .free
  hfu : X.env.func = some f
  hco : X.env.code = .ref c
  cl : X.env.cells.lookup ("__class__" : Str) = some cc
  hkl : X.env.kindOf me = some .local
  fn : ∃ (oc : Value) (od : Option Addr) (fd : FuncData) (osl : Array (Option Value)) (ar : Arg), X.K.lookup f = some ⟨oc, od, .func fd, osl⟩ ∧ (fd.params.posonlyargs ++ fd.params.args).head? = some ar ∧ ar.arg = me
  file : ∃ (ccl : Value) (cdd : Option Addr) (vs : Array Value) (ccs : Array (Option Value)) (fl : Str) (tf : Tok), X.K.lookup c = some ⟨ccl, cdd, .fields vs, ccs⟩ ∧ vs[2]? = some (.str fl tf) ∧ ((X.prog.main.file : Str) == fl) = true
  cell : ∃ (l : Value) (ld : Option Addr) (csl : Array (Option Value)), X.K.lookup cc = some ⟨l, ld, .cell (some (.ref D)), csl⟩
/-- facts of the text -/
structure SupT (prog : Program) (K : PySem.W.Frag) (mg : Str → Option Value) (D : Addr) : Prop where
  top : (prog.main.scope.names.lookup ("super" : Str)).isSome = false
  mg : mg "super" = none
  cls : ∃ cdD, PySem.W.clsIn K D = some cdD
  third : PySem.W.nsIn K cStatics "thirdparty.any" = some none
section
variable {X : Cx} {body : List Stmt} {f c cc D : Addr} {me : Str} {pins : List (Addr × Obj)} {s : Shared} {σ : L2.St} {H : Hp}
/-- super() itself: a new object, kept aside -/
theorem super_base {attr : Str} {whole : Sem Value} {p0 p1 : Pos} {x C : Addr} {ox : Obj} {Q : Value → Shared → Prop} (a : AtS X body f c cc D me) (t : SupT X.prog X.K X.mg D) (I : Inv X pins σ H s)
    (hN : X.N[0]? = some me) (hx : σ[0]? = some (some (.ref x))) (ho : s.heap.get? x = some ox) (hc : ox.cls = .ref C) (hnc : ∀ c, ox.data ≠ .cls c)
    (hsub : PySem.W.mroIn X.K C (.ref D) = some true) (hat : (attr == ("__class__" : Str)) = false)
    (h : ∀ so h', so = s.heap.objs.size → h'.get? so = some (PySem.W.ks_superObj D x C) → (∀ b o, s.heap.get? b = some o → h'.get? b = some o) → Inv X pins σ H { s with heap := h' } → Q (.ref so) { s with heap := h' }) :
    PySem.wpAt (model X.prog X.w) X.A (.func body X.env) (attributeBase (.Call (.Name "super" p0) [] [] p1) attr X.env whole) Q X.xe s := by
  obtain ⟨oc, od, fd, osl, ar, lf, hp, hself⟩ := a.fn
  obtain ⟨ccl, cdd, vs, ccs, fl, tf, lc, hvs, hfile⟩ := a.file
  obtain ⟨l, ld, csl, lcc⟩ := a.cell
  obtain ⟨cdD, hD⟩ := t.cls
  have KX := I.kIn
  obtain ⟨oD, hD1, hD2⟩ : ∃ oD, s.heap.get? D = some oD ∧ oD.data = .cls cdD := by
    unfold PySem.W.clsIn at hD
    split at hD
    · rename_i c d cd' sl ho
      cases hD
      exact ⟨_, KX _ _ ho, rfl⟩
    · cases hD
  obtain ⟨m, hns, hl⟩ := I.loc
  obtain ⟨u, ru, lk⟩ := hl 0 me _ hN hx (.inl a.hkl)
  obtain rfl : u = Value.ref x := ru
  have hm : m me = some (Value.ref x) := by
    rcases lk with ⟨_, e⟩ | ⟨e, _⟩
    · exact e
    · rw [a.hkl] at e
      rcases e with e | e <;> cases e
  refine ks_wpAt_super_base a.hks a.hkc hat a.hfu (KX _ _ lf) rfl hp a.hco (KX _ _ lc) rfl hvs hfile t.top ?_
  obtain ⟨mb, b1, b2⟩ := I.mod.blt
  refine PySem.W.ks_loadName_global a.hk a.hks (Calls.loadGlobal_builtin (by rw [I.ok.glob]; exact I.mod.glob.keeps I.bk) t.mg (by rw [I.ok.blt]; exact b1.keeps I.bk) ((b2 _ (by decide)).trans (by decide +kernel : bootBuiltins "super" = some (.type "super"))) ⟨rfl, ?_⟩)
  refine wpAny_loadName_free a.hk a.hkc a.cl ⟨_, KX _ _ lcc, rfl⟩ ?_
  rw [hself]
  refine wpAny_loadName_local a.hk a.hkl hns hm ?_
  refine ks_wpAny_isType_cls hD1 hD2 ⟨rfl, ?_⟩
  obtain ⟨hh, g, d, tk, os⟩ := s
  exact ks_wpAny_call_super hD1 hD2 ho hc hnc (PySem.W.looks_mroIn KX hsub) fun h' e k => h _ _ rfl e k (I.kept (t' := tk) k)
/-- super().m: the def of the class above, bound; kept aside -/
theorem super_meth {name : Str} {pl : Sem Bool} {x C so f2 : Addr} {ox : Obj} {Q : Value × List Value → Shared → Prop} (I : Inv X pins σ H s) (hso : s.heap.get? so = some (PySem.W.ks_superObj D x C))
    (ho : s.heap.get? x = some ox) (hnc : ∀ c, ox.data ≠ .cls c) (third : PySem.W.nsIn X.K cStatics "thirdparty.any" = some none)
    (hm : PySem.W.ks_superIn X.K C D name = some (some (.ref f2))) (ht : PySem.W.typeIn X.K (.ref f2) = some (.type "function")) (hn : (name == ("__class__" : Str)) = false)
    (h : ∀ q s', q = s.heap.objs.size → s'.heap.get? q = some (PySem.W.methodObj (.ref f2) (.ref x)) → (∀ b o, s.heap.get? b = some o → s'.heap.get? b = some o) → Inv X pins σ H s' → Q (.ref q, []) s') :
    wpAny (model X.prog X.w) X.A (getMethod (.ref so) name pl) Q X.xe s := by
  have KX := I.kIn
  obtain ⟨hh, g, d, tk, os⟩ := s
  cases hc : PySem.W.clsIn X.K C with
  | none => unfold PySem.W.ks_superIn at hm; rw [hc] at hm; cases hm
  | some cd =>
    unfold PySem.W.ks_superIn at hm
    rw [hc] at hm
    have hxC : x ≠ C := by
      rintro rfl
      unfold PySem.W.clsIn at hc
      split at hc
      · rename_i c d cd' sl hoc
        have e := KX _ _ hoc
        rw [ho] at e
        cases e
        exact hnc _ rfl
      · cases hc
    obtain ⟨of, hof, hofc⟩ : ∃ of, hh.get? f2 = some of ∧ of.cls = .type "function" := by
      have ht' : (X.K.lookup f2).map (·.cls) = some (.type "function") := ht
      cases z : X.K.lookup f2 with
      | none => rw [z] at ht'; cases ht'
      | some of => rw [z] at ht'; exact ⟨of, KX _ _ z, Option.some.inj ht'⟩
    refine ks_wpAny_getMethod_super hso (PySem.W.looks_opaque KX third) (l₀ := cd.mro) ?_ rfl KX hm hof hofc hxC hn ?_
    · exact fun A Q E s k q => wpAny_bind ((PySem.W.looks_clsIn KX hc) A _ E s k (wpAny_pure q))
    · have kp : ∀ b o, hh.get? b = some o → (hh.push (PySem.W.methodObj (.ref f2) (.ref x))).get? b = some o := fun b o e => Heap.get?_push_of_some _ e
      exact h _ _ rfl (Heap.get?_push_at rfl rfl) kp (I.kept (t' := tk + 1) kp)
/-- an instance that is tracked: what super() asks of it -/
theorem ins_obj {a C dx : Addr} {fs : List (Str × V)} (I : Inv X pins σ H s) (e : H a = some (.ins C dx fs)) : ∃ ox : Obj, s.heap.get? a = some ox ∧ ox.cls = .ref C ∧ ∀ c, ox.data ≠ .cls c := by
  obtain ⟨d, z, ne, ob, _⟩ := (show ObjOk X.prog X.w H s.heap a (.ins C dx fs) from I.hok a _ e)
  exact ⟨_, ob, rfl, fun c h => by cases h⟩
/-- super().m(e, ..), then the rest -/
theorem super_own {CX : CXT} {k : Nat} {f2 x C : Addr} {fd2 : FuncData} {ps2 : List Str} {sp2 : Sp} {dvs : List V} {ds : List Value} {E : XK} {attr : Str} {e : Expr} {es : List Expr} {t : TA} {rest : List Stmt} {u : TS} {D' : Ends} {p0 p1 p2 p3 p4 : Pos}
    (a : AtS X body f c cc D me) (T : SupT X.prog X.K X.mg D) (F : FnOk X.prog X.w X.K X.mg X.base CX k f2 fd2 ps2 sp2) (hr : Room k X.A) (hb : Binds X.K fd2 ps2 ds) (hd : Vals dvs ds) (hx : Passes CX X E)
    (hN : X.N[0]? = some me) (hm : PySem.W.ks_superIn X.K C D attr = some (some (.ref f2))) (ht : PySem.W.typeIn X.K (.ref f2) = some (.type "function")) (hfn : PySem.W.fnIn X.K f2 = true)
    (hsub : PySem.W.mroIn X.K C (.ref D) = some true) (hat : (attr == ("__class__" : Str)) = false) (ha : PA X (e :: es) t) (hrest : PSs X rest u)
    (I : Inv X pins σ H s) (hσ : σ[0]? = some (some (.ref x))) (hins : ∃ ox : Obj, s.heap.get? x = some ox ∧ ox.cls = .ref C ∧ ∀ c, ox.data ≠ .cls c)
    (hq : t σ H fun vs H1 => sp2 (.ref x :: (vs ++ dvs)) H1 (fun _ H2 => u D' σ H2) E)
    (hi : interactive X.env = false) (hs : swapsWith (.Call (.Attribute (.Call (.Name "super" p0) [] [] p1) attr p2) (e :: es) [] p3) none p4.line X.env = pure false)
    (he : eval (.Call (.Attribute (.Call (.Name "super" p0) [] [] p1) attr p2) (e :: es) [] p3) X.env = (do
      let ov ← attributeBase (.Call (.Name "super" p0) [] [] p1) attr X.env (eval (.Call (.Name "super" p0) [] [] p1) X.env)
      standAt p2.atName
      let (f, first) ← holding [ov] (getMethod ov attr (pure false))
      callWith p3 f first (backTo p3 (starEach (e :: es) X.env)) []))
    (hst : starEach (e :: es) X.env = (false, eval e X.env) :: starEach es X.env) (hpl : (backTo p3 (starEach es X.env)).any (·.1) = false) :
    PySem.wpAt (model X.prog X.w) X.A (.func body X.env) (execs (.Expr (.Call (.Attribute (.Call (.Name "super" p0) [] [] p1) attr p2) (e :: es) [] p3) p4 :: rest) X.env) (SP X pins D') X.xe s := by
  obtain ⟨ox, ho, hc, hnc⟩ := hins
  refine ks_wpAt_execs_cons (ks_wpAt_Expr_any (ks_wpAt_MethodCall (pl := pure false) (super_base a T I hN hσ ho hc hnc hsub hat fun so h' eso hso kp I1 => ?_) he) hi hs)
  refine super_meth (x := x) (C := C) (D := D) I1 hso (kp _ _ ho) hnc T.third hm ht hat fun q s2 eq hq2 kp2 I2 => ?_
  have hqn : H q = none := by rw [eq]; exact I1.hok.fresh (Nat.le_refl _)
  have hq0 : X.s_0.heap.objs.size ≤ q := by rw [eq]; exact I1.sz
  have hqL : q ≠ X.env.locals := by rw [eq]; exact (Nat.ne_of_lt I1.lt).symm
  have hqf : q ∉ X.fs := by rw [eq]; exact I1.nofs (Nat.le_refl _)
  have J : Inv X (pins ++ [(q, PySem.W.methodObj (.ref f2) (.ref x))]) σ H s2 := I2.pins_of fun p hp => by
    rcases List.mem_append.mp hp with hp | hp
    · exact I2.pin p (List.mem_append_right _ hp)
    · obtain rfl := List.mem_singleton.mp hp
      exact ⟨hq2, hqn, hqL, hqf, fun v hv => by cases hv⟩
  refine PySem.W.callWith_M (h₀ := X.base) (L := X.env.locals) (news := [(q, PySem.W.methodObj (.ref f2) (.ref x))]) I.ok.mod.kin ?_ (List.mem_singleton.mpr rfl) hfn ?_ hst hpl
  · intro p hp
    obtain rfl := List.mem_singleton.mp hp
    exact ⟨hq2, hqL, Heap.get?_none_of_le (Nat.le_trans I.ok.bsz hq0)⟩
  refine thn (ha.run p3 _ s2 σ H _ J hq) fun us s3 ⟨vs, H3, I3, r, q3⟩ => ?_
  have hq3 : s3.heap.get? q = some (PySem.W.methodObj (.ref f2) (.ref x)) := (I3.pin _ (List.mem_append_right _ (List.mem_append_right _ (List.mem_singleton.mpr rfl)))).1
  refine ⟨⟨hq3, I3.kIn⟩, ?_⟩
  refine wpAny_call (PySem.W.method_call hq3 ?_)
  have r2 : Vals (V.ref x :: (vs ++ dvs)) (Value.ref x :: (us ++ ds)) := .cons rfl (r.append hd)
  have hl : (Value.ref x :: (us ++ ds)).length = ps2.length := by rw [← r2.length]; exact F.len _ _ _ _ q3
  have I4 : Inv X pins σ H3 s3 := I3.pins_of fun p hp => I3.pin p (List.mem_append_right _ (List.mem_append_left _ hp))
  refine codeAny_mono (F.run X.A X.stack s3 H3 ⟨.ref x :: us, []⟩ (.ref x :: (us ++ ds)) (.ref x :: (vs ++ dvs)) _ E hr I3.env0 (hb s3 (.ref x :: us) I3.kIn hl) r2 q3) fun r s' hq' => ?_
  cases r with
  | error e => exact hx pins σ H3 s3 e s' I4 hq'
  | ok fl =>
    cases fl with
    | ret v =>
      obtain ⟨v', H', I5, _, q5⟩ := I4.after hq'
      exact wpAt_of_wpAny (hrest.run pins s' σ H' D' I5 q5)
    | next => exact False.elim hq'
    | brk => exact False.elim hq'
    | cont => exact False.elim hq'
end
end Sup
namespace Sup
open PySem PySem.Spec PyProof.Rows L2
open NdefX (NF NScope ncx envF startF CellsAt inv_startN)
section
variable {X : Cx} {body : List Stmt} {f c cc D : Addr} {me : Str} {pins : List (Addr × Obj)} {s : Shared} {σ : L2.St} {H : Hp}
/-- an exception that is being made: what super() asks of it -/
theorem exo_obj {a C : Addr} {d : Option Addr} (I : Inv X pins σ H s) (e : H a = some (exo a C d)) : ∃ ox : Obj, s.heap.get? a = some ox ∧ ox.cls = .ref C ∧ ∀ c, ox.data ≠ .cls c := by
  obtain ⟨t1, ho⟩ := exo_at I.hok e
  exact ⟨_, ho, rfl, fun c h => by cases h⟩
/-- super().__init__, ValueError's, bound; kept aside -/
theorem super_methX {pl : Sem Bool} {x C so : Addr} {Q : Value × List Value → Shared → Prop} (I : Inv X pins σ H s) (hso : s.heap.get? so = some (PySem.W.ks_superObj D x C))
    (hx : H x = some (exo x C none)) (third : PySem.W.nsIn X.K cStatics "thirdparty.any" = some none)
    (hm : PySem.W.ks_superIn X.K C D "__init__" = some (some (.builtin "ValueError.__init__"))) (hB : PySem.W.subIn X.K (.ref C) (.type "ValueError") = some true)
    (h : ∀ q s', q = s.heap.objs.size → s'.heap.get? q = some (PySem.W.kxs_mw "ValueError.__init__" x) → Inv X pins σ H s' → Q (.ref q, []) s') :
    wpAny (model X.prog X.w) X.A (getMethod (.ref so) "__init__" pl) Q X.xe s := by
  have KX := I.kIn
  obtain ⟨t1, ho⟩ := exo_at I.hok hx
  have hI : PySem.W.Looks (model X.prog X.w) s.heap (isInstance (.ref x) (.type "ValueError")) true :=
    (PySem.W.InstAt.type (ox := { cls := .ref C, dict := none, data := .fields #[.ref t1, .none, .none, .none, .bool false, .none] }) (od := none) ⟨ho, rfl, rfl, trivial⟩).andThen (PySem.W.looks_subIn KX hB)
  obtain ⟨hh, g, d, tk, os⟩ := s
  cases hc : PySem.W.clsIn X.K C with
  | none => unfold PySem.W.ks_superIn at hm; rw [hc] at hm; cases hm
  | some cd =>
    unfold PySem.W.ks_superIn at hm
    rw [hc] at hm
    have hxC : x ≠ C := by
      rintro rfl
      unfold PySem.W.clsIn at hc
      split at hc
      · rename_i c d cd' sl hoc
        have e := KX _ _ hoc
        rw [ho] at e
        cases e
      · cases hc
    refine PySem.W.kxs_getMethod PySem.W.kxs_ValueError hso (PySem.W.looks_opaque KX third) (l₀ := cd.mro) ?_ rfl KX hm hI hxC (by decide) ?_
    · exact fun A Q E s k q => wpAny_bind ((PySem.W.looks_clsIn KX hc) A _ E s k (wpAny_pure q))
    · have kp : ∀ b o, hh.get? b = some o → (hh.push (PySem.W.kxs_mw "ValueError.__init__" x)).get? b = some o := fun b o e => Heap.get?_push_of_some _ e
      exact h _ _ rfl (Heap.get?_push_at rfl rfl) (I.kept (t' := tk + 1) kp)
/-- it is called: nothing of it is told -/
theorem call_mw {u a C : Addr} {us : List Value} {Q : Value → Shared → Prop} (T : OexC X.K C) (I : Inv X pins σ H s) (hu : s.heap.get? u = some (PySem.W.kxs_mw "ValueError.__init__" a)) (e : H a = some (exo a C none)) (hl : us.length ≤ sizeLine)
    (h : ∀ s', Inv X pins σ H s' → Q .none s') : wpAny (model X.prog X.w) X.A (call (.ref u) us) Q X.xe s := by
  obtain ⟨nm, q, N, bs, bm, sn, sub, ab, col, dd, k0, k1, k2, k3, k5, hC, hbm⟩ := T.cls
  obtain ⟨t1, ho⟩ := exo_at I.hok e
  have hCs := I.kIn _ _ hC
  obtain ⟨hh, g, d, tk, os⟩ := s
  refine wpAny_call (codeAny_of_tree ?_)
  show wpAny _ X.A.in1 (callAny (.ref u) ⟨us, []⟩) _ _ _
  simp only [callAny]
  refine wpAny_bind (wpAny_load hu ?_)
  simp only [PySem.W.kxs_mw, show (Value.type "method-wrapper" == Value.type "method" || Value.type "method-wrapper" == Value.type "builtin_function_or_method" || Value.type "method-wrapper" == Value.type "method-wrapper") = true by decide, if_true]
  refine PySem.W.KFB.if_so (by decide) ?_
  refine wpAny_bind (PySem.W.check_bound_init F.excBase_ValueError.toExcCallFacts hCs ho rfl ?_)
  refine wpAny_bind (wpAny_pure (wpAny_pure ?_))
  refine ⟨plainId_quiet F.excBase_ValueError.init.plain _, codeAny_builtin F.excBase_ValueError.initEntry ?_⟩
  refine PySem.W.exc_init_tree (cls := .ref C) (t0 := t1) (dv := none) (c2 := .none) (c3 := .none) (b4 := .bool false) ho hl fun h' k e' t' => ?_
  have J := I.write (t' := tk) (x := a) (e := a) (o := exo a C none) (by rw [e]; exact True.intro) (.inl rfl) k ⟨_, e'⟩ (exo_ok e')
  have eu : upd H a (exo a C none) = H := by
    funext b
    by_cases hb : b = a
    · rw [hb, upd_same, e]
    · rw [upd_ne hb]
  rw [eu] at J
  exact h _ J
end
end Sup
namespace Sup
open PySem PySem.Spec PyProof.Rows L2
open NdefX (NF NScope ncx envF startF CellsAt inv_startN)
section
variable {X : Cx} {body : List Stmt} {f c cc D : Addr} {me : Str} {pins : List (Addr × Obj)} {s : Shared} {σ : L2.St} {H : Hp}
/-- super().__init__(e, ..) of an exception, then the rest -/
theorem super_exc {x C : Addr} {e : Expr} {es : List Expr} {t : TA} {rest : List Stmt} {u : TS} {D' : Ends} {p0 p1 p2 p3 p4 : Pos}
    (a : AtS X body f c cc D me) (T : SupT X.prog X.K X.mg D) (TC : OexC X.K C)
    (hN : X.N[0]? = some me) (hm : PySem.W.ks_superIn X.K C D "__init__" = some (some (.builtin "ValueError.__init__"))) (hB : PySem.W.subIn X.K (.ref C) (.type "ValueError") = some true)
    (hsub : PySem.W.mroIn X.K C (.ref D) = some true) (ha : PA X (e :: es) t) (hrest : PSs X rest u)
    (I : Inv X pins σ H s) (hσ : σ[0]? = some (some (.ref x))) (hx : H x = some (exo x C none))
    (hq : t σ H fun vs H1 => vs.length ≤ 1000 ∧ H1 x = some (exo x C none) ∧ u D' σ H1)
    (hi : interactive X.env = false) (hs : swapsWith (.Call (.Attribute (.Call (.Name "super" p0) [] [] p1) "__init__" p2) (e :: es) [] p3) none p4.line X.env = pure false)
    (he : eval (.Call (.Attribute (.Call (.Name "super" p0) [] [] p1) "__init__" p2) (e :: es) [] p3) X.env = (do
      let ov ← attributeBase (.Call (.Name "super" p0) [] [] p1) "__init__" X.env (eval (.Call (.Name "super" p0) [] [] p1) X.env)
      standAt p2.atName
      let (f, first) ← holding [ov] (getMethod ov "__init__" (pure false))
      callWith p3 f first (backTo p3 (starEach (e :: es) X.env)) []))
    (hst : starEach (e :: es) X.env = (false, eval e X.env) :: starEach es X.env) (hpl : (backTo p3 (starEach es X.env)).any (·.1) = false) :
    PySem.wpAt (model X.prog X.w) X.A (.func body X.env) (execs (.Expr (.Call (.Attribute (.Call (.Name "super" p0) [] [] p1) "__init__" p2) (e :: es) [] p3) p4 :: rest) X.env) (SP X pins D') X.xe s := by
  obtain ⟨ox, ho, hc, hnc⟩ := exo_obj I hx
  refine ks_wpAt_execs_cons (ks_wpAt_Expr_any (ks_wpAt_MethodCall (pl := pure false) (super_base a T I hN hσ ho hc hnc hsub (by decide) fun so h' eso hso kp I1 => ?_) he) hi hs)
  refine super_methX (x := x) (C := C) (D := D) I1 hso hx T.third hm hB fun q s2 eq hq2 I2 => ?_
  have hqn : H q = none := by rw [eq]; exact I1.hok.fresh (Nat.le_refl _)
  have hq0 : X.s_0.heap.objs.size ≤ q := by rw [eq]; exact I1.sz
  have hqL : q ≠ X.env.locals := by rw [eq]; exact (Nat.ne_of_lt I1.lt).symm
  have hqf : q ∉ X.fs := by rw [eq]; exact I1.nofs (Nat.le_refl _)
  have J : Inv X (pins ++ [(q, PySem.W.kxs_mw "ValueError.__init__" x)]) σ H s2 := I2.pins_of fun p hp => by
    rcases List.mem_append.mp hp with hp | hp
    · exact I2.pin p (List.mem_append_right _ hp)
    · obtain rfl := List.mem_singleton.mp hp
      exact ⟨hq2, hqn, hqL, hqf, fun v hv => by cases hv⟩
  refine PySem.W.kxs_callWith1 (h₀ := X.base) (L := X.env.locals) (news := [(q, PySem.W.kxs_mw "ValueError.__init__" x)]) (i := "ValueError.__init__") (x := x) ?_ (List.mem_singleton.mpr rfl) ?_ hst hpl
  · intro p hp
    obtain rfl := List.mem_singleton.mp hp
    exact ⟨hq2, hqL, Heap.get?_none_of_le (Nat.le_trans I.ok.bsz hq0)⟩
  refine thn (ha.run p3 _ s2 σ H _ J hq) fun us s3 ⟨vs, H3, I3, r, hl, hx3, q3⟩ => ?_
  have hq3 : s3.heap.get? q = some (PySem.W.kxs_mw "ValueError.__init__" x) := (I3.pin _ (List.mem_append_right _ (List.mem_append_right _ (List.mem_singleton.mpr rfl)))).1
  have I4 : Inv X pins σ H3 s3 := I3.pins_of fun p hp => I3.pin p (List.mem_append_right _ (List.mem_append_left _ hp))
  refine ⟨hq3, ?_⟩
  exact call_mw TC I4 hq3 hx3 (by rw [← r.length]; exact Nat.le_trans hl (by decide)) fun s' I5 => wpAt_of_wpAny (hrest.run pins s' σ H3 D' I5 q3)
end
theorem atS_of {P : Program} {w : World} {K : PySem.W.Frag} {mg : Str → Option Value} {base : Heap} {CX : CXT} {x qual : Str} {st : Stmt} {f c cc D : Addr} {fd : FuncData} {N : List Str} {A : Around} {outer : List Env} {s : Shared} {H : Hp} {E : XK} {me : Str} {body : List Stmt}
    (F : FunS P K x qual st f fd c cc D) (hk : (defScope st).kind = .function) (hs : (defScope st).names.lookup ("super" : Str) = some .globalImplicit) (hc : (defScope st).names.lookup ("__class__" : Str) = some .free)
    (hm : (defScope st).names.lookup me = some .local) (ha : ∃ ar, ((defArgs st).posonlyargs ++ (defArgs st).args).head? = some ar ∧ ar.arg = me) : AtS (ncx CX P w K mg base N (nf x qual st c cc) f A outer s H E) body f c cc D me := by
  obtain ⟨oc, od, kV, doc, pm, an, ct, osl, rfl, lk⟩ := F.ex
  obtain ⟨ar, h1, h2⟩ := ha
  refine ⟨hk, hs, hc, rfl, rfl, ?_, hm, ⟨oc, od, _, osl, ar, lk, h1, h2⟩, F.file, F.cell⟩
  show List.lookup _ [(("__class__" : Str), cc)] = some cc
  rw [List.lookup_cons, beq_self_eq_true]
end Sup
namespace Sj
open PySem L2
open C8 (pss_cut tCut)
def top (i : Nat) : Stmt := PySem.Challenge.pw_strayjoins_k66_chains_refused.main.body.getD i (.Pass ⟨0, 0, 0, 0⟩)
abbrev sPen : Stmt := top 25
abbrev sDraw : Stmt := top 26
abbrev sPick : Stmt := top 27
/-! ### the pen: its cells, the next place, what is left of a great one -/
def penO (l : Addr) (i g : Int) : HO := .lst [.ref l, .int i, .int g]
def Pen (H : Hp) (p l : Addr) (cs : List Int) (n : Nat) : Prop :=
  ∃ i g : Int, H p = some (penO l i g) ∧ H l = some (.lst (cs.map V.int)) ∧ cs.length ≤ 63 ∧ 0 ≤ i ∧ i ≤ n
/-- all that stood but at p stands as it was -/
def But (H H' : Hp) (p : Addr) : Prop := ∀ b o, b ≠ p → H b = some o → H' b = some o
theorem But.upd (H : Hp) (p : Addr) (o : HO) : But H (upd H p o) p := fun b _ h e => by rw [upd_ne h]; exact e
theorem But.trans {H H1 H2 : Hp} {p : Addr} (a : But H H1 p) (b : But H1 H2 p) : But H H2 p := fun c o h e => b c o h (a c o h e)
theorem But.put {H H1 : Hp} {p : Addr} (a : But H H1 p) (o : HO) : But H (L2.upd H1 p o) p := a.trans (.upd _ _ _)
theorem But.new {H H1 : Hp} {p q : Addr} (a : But H H1 p) (hq : H1 q = none) (o : HO) : But H (L2.upd H1 q o) p := fun b _ h e => by
  have e1 := a b _ h e
  rw [upd_ne (ne_of_none e1 hq)]
  exact e1
def spDraw : Sp := fun vs H Q _ => ∃ (p l : Addr) (cs : List Int) (n : Nat) (m : Int), vs = [.ref p, .int m] ∧ Pen H p l cs n ∧ 0 < m ∧ m < 1073741824 ∧ n < 1000000 ∧
  ∀ (d i g : Int) (H' : Hp), 0 ≤ d → d < m → 0 ≤ i → i ≤ n + 1 → H' p = some (penO l i g) → But H H' p → Q (.int d) H'
structure Bi (mg : Str → Option Value) : Prop where
  int : mg "int" = none
  len : mg "len" = none
  abs : mg "abs" = none
theorem dp_ints {K : PySem.W.Frag} {H : Hp} : ∀ cs : List Int, DpAll K H (cs.map V.int) (cs.map PyData.int)
  | [] => .nil
  | c :: cs => .cons (.int c) (dp_ints cs)
theorem shaped_ints (cs : List Int) : SeqAt.shaped (.list (cs.map PyData.int)) = true := by
  unfold SeqAt.shaped
  rw [Bool.and_eq_true]
  refine ⟨?_, decide_eq_true ?_⟩
  · show PyData.canLayAll0 (cs.map PyData.int) = true
    induction cs with
    | nil => rfl
    | cons c cs ih => exact Bool.and_eq_true_iff.mpr ⟨rfl, ih⟩
  · have e : PyData.depthAll (cs.map PyData.int) ≤ 1 := by
      induction cs with
      | nil => exact Nat.zero_le _
      | cons c cs ih => exact Nat.max_le.mpr ⟨(show (0 : Nat) ≤ 1 by decide), ih⟩
    show PyData.depthAll (cs.map PyData.int) + 1 ≤ 64
    omega
theorem small1 {b c i m : Int} {n : Nat} {x : Int} (i0 : 0 ≤ i) (i1 : i ≤ n) (n1 : n < 1000000) (hm : 0 < m ∧ m < 4294967296 := by decide) (hb : 0 ≤ b ∧ b < 100000 := by decide) (hc : 0 ≤ c ∧ c < 100000 := by decide) :
    (x % m + b * i + c).natAbs < 2 ^ 64 := by
  have h1 := Int.emod_nonneg x (show m ≠ 0 by omega)
  have h2 := Int.emod_lt_of_pos x hm.1
  have h3 : 0 ≤ b * i := Int.mul_nonneg hb.1 i0
  have h4 : b * i ≤ 100000 * 1000000 := Int.mul_le_mul (by omega) (by omega) i0 (by decide)
  have h5 : (2 : Nat) ^ 64 = 18446744073709551616 := by decide
  omega
theorem small3 {b i : Int} (i0 : 0 ≤ i) (hb : 0 ≤ b ∧ b < 100000 := by decide) : -(2 ^ 64) < b * i := by
  have h3 : 0 ≤ b * i := Int.mul_nonneg hb.1 i0
  have h5 : (2 : Int) ^ 64 = 18446744073709551616 := by decide
  omega
theorem small4 {b i : Int} {n : Nat} (i1 : i ≤ n) (n1 : n < 1000000) (hb : 0 ≤ b ∧ b < 100000 := by decide) : b * i < 2 ^ 64 := by
  have h4 : b * i ≤ b * 1000000 := Int.mul_le_mul_of_nonneg_left (by omega) hb.1
  have h5 : (2 : Int) ^ 64 = 18446744073709551616 := by decide
  omega
theorem small2 {a b c e i y : Int} {n : Nat} (i0 : 0 ≤ i) (i1 : i ≤ n) (n1 : n < 1000000) (y0 : 0 ≤ y) (y1 : y < 2147483648) (ha : 0 ≤ a ∧ a < 10 := by decide) (hb : 0 ≤ b ∧ b < 100000 := by decide)
    (hc : 0 ≤ c ∧ c < 100000 := by decide) (he : 0 ≤ e ∧ e < 100000 := by decide) : (y * (a * i + b) + c * i * i + e).natAbs < 2 ^ 64 := by
  have h3 : 0 ≤ a * i := Int.mul_nonneg ha.1 i0
  have h4 : a * i ≤ 10 * 1000000 := Int.mul_le_mul (by omega) (by omega) i0 (by decide)
  have h6 : 0 ≤ y * (a * i + b) := Int.mul_nonneg y0 (by omega)
  have h7 : y * (a * i + b) ≤ 2147483648 * 20000000 := Int.mul_le_mul (by omega) (by omega) (by omega) (by decide)
  have h8 : 0 ≤ c * i := Int.mul_nonneg hc.1 i0
  have h9 : c * i ≤ 100000 * 1000000 := Int.mul_le_mul (by omega) (by omega) i0 (by decide)
  have h10 : 0 ≤ c * i * i := Int.mul_nonneg h8 i0
  have h11 : c * i * i ≤ (100000 * 1000000) * 1000000 := Int.mul_le_mul h9 (by omega) i0 (by decide)
  have h5 : (2 : Nat) ^ 64 = 18446744073709551616 := by decide
  omega
theorem cut_ints (ns : List Int) (a b : Option Int) : ∃ cs : List Int, cutV (ns.map V.int) a b = cs.map V.int ∧ cs.length ≤ ns.length := by
  unfold cutV
  rw [← List.map_drop, ← List.map_take]
  exact ⟨_, rfl, by rw [List.length_take, List.length_drop]; omega⟩
theorem cell_at {cs : List Int} {i : Int} (h0 : 0 ≤ i) (hn : cs ≠ []) : ∃ v : Int, atI (cs.map V.int) (i % ((cs.map V.int).length : Nat)) = some (.int v) := by
  have hl : 0 < cs.length := List.length_pos_iff.mpr hn
  have e : (cs.map V.int).length = cs.length := List.length_map _
  have hb := Int.emod_lt_of_pos i (show (0 : Int) < (cs.length : Int) by omega)
  have hp := Int.emod_nonneg i (show (cs.length : Int) ≠ 0 by omega)
  obtain ⟨j, hj⟩ : ∃ j : Nat, i % (cs.length : Int) = (j : Int) := ⟨(i % (cs.length : Int)).toNat, by omega⟩
  have hjl : j < cs.length := by omega
  refine ⟨cs[j], ?_⟩
  rw [e, hj]
  exact atI_nat (by simp [hjl])
section
variable {P : Program} {w : World} {K : PySem.W.Frag} {mg : Str → Option Value} {base : Heap}
theorem scDraw : FnScope ["_law_pen_here", "_law_many", "_law_digit", "_law_at", "_law_cell", "_law_great", "_law_mixed"] ["_law_pen_here", "_law_many"] (defScope sDraw) :=
  ⟨rfl, rfl, rfl, by decide +kernel, rfl, by decide +kernel, by decide +kernel⟩
theorem ok_draw {f : Addr} {fd : FuncData} (F : Fun K "_law_draw" "_law_draw" sDraw f fd) (B : Bi mg) : FnOk P w K mg base CX0 1 f fd ["_law_pen_here", "_law_many"] spDraw := by
  refine F.ok scDraw (fun vs H Q E h => ?_) (fun cdv A outer s H vs Q E hr h => ?_)
  · obtain ⟨p, l, cs, n, m, rfl, _⟩ := h
    rfl
  · obtain ⟨p, l, cs, n, m, rfl, ⟨i, g, hp, hl, hz, i0, i1⟩, m0, m1, n1, k⟩ := h
    have npl : p ≠ l := fun q => by
      subst q
      rw [hp] at hl
      have e := List.map_eq_cons_iff.mp (HO.lst.inj (Option.some.inj hl)).symm
      obtain ⟨_, _, _, h1, _⟩ := e
      cases h1
    refine ⟨_, pss_cut
        (ps_if (pt_cmpR op_gt (pe_ix ix_list (pv 0) pe_int (fun _ _ => rfl)) pe_int (nomark _))
          (pss_cons (ps_set (i := 2) scDraw.nd rfl (Or.inl rfl) (pe_op op_mod (pe_callTy call_int1 (by rfl) B.int (by decide +kernel) (pa_cons (pe_ix ix_list (pv 0) pe_int (fun _ _ => rfl)) pa_nil)) (pv 1)))
          (pss_cons (ps_asg (pe_op op_fdiv (pe_callTy call_int1 (by rfl) B.int (by decide +kernel) (pa_cons (pe_ix ix_list (pv 0) pe_int (fun _ _ => rfl)) pa_nil)) (pv 1)) (pg_sub (pv 0) pe_int set_list))
          (pss_one (ps_ret (pv 2)))))
          pss_nil)
      (pss_cons (ps_set (i := 3) scDraw.nd rfl (Or.inl rfl) (pe_ix ix_list (pv 0) pe_int (fun _ _ => rfl)))
      (pss_cons (ps_asg (pe_op op_add (pv 3) pe_int) (pg_sub (pv 0) pe_int set_list))
      (pss_cons (ps_set (i := 4) scDraw.nd rfl (Or.inl rfl) (pe_op op_add (pe_op op_mul pe_int (pv 3)) pe_int))
      (pss_cut (ps_if (pt_cmpR (op_neD hr.units) (pe_ix ix_list (pv 0) pe_int (fun _ _ => rfl)) (pe_lst pa_nil) (nomark _))
          (pss_one (ps_set (i := 4) scDraw.nd rfl (Or.inl rfl) (pe_ix ix_list (pe_ix ix_list (pv 0) pe_int (fun _ _ => rfl))
            (pe_op op_mod (pe_callTy call_int1 (by rfl) B.int (by decide +kernel) (pa_cons (pv 3) pa_nil)) (pe_callB call_len_seq (by rfl) B.len PySem.boot_len (pa_cons (pe_ix ix_list (pv 0) pe_int (fun _ _ => rfl)) pa_nil))) (fun _ _ => rfl))))
          pss_nil)
      (pss_cut (ps_if (PW.pt (pw_and (pt_cmpR op_lt (pv 3) (pe_callB call_len_seq (by rfl) B.len PySem.boot_len (pa_cons (pe_ix ix_list (pv 0) pe_int (fun _ _ => rfl)) pa_nil)) (nomark _))
            (pw_and1 (pt_cmpR op_ge (pe_callB call_abs (by rfl) B.abs (by decide +kernel) (pa_cons (pv 4) pa_nil)) (pe_op op_pow pe_int pe_int) (nomark _)))))
          (pss_cons (ps_set (i := 5) scDraw.nd rfl (Or.inl rfl) (pe_op op_add (pe_op op_mul pe_int (pe_callB call_abs (by rfl) B.abs (by decide +kernel) (pa_cons (pv 4) pa_nil)))
              (pe_callTy call_int1 (by rfl) B.int (by decide +kernel) (pa_cons (pe_cmpR op_lt (pv 4) pe_int (nomark _)) pa_nil))))
          (pss_cons (ps_asg (pe_op op_fdiv (pv 5) (pv 1)) (pg_sub (pv 0) pe_int set_list))
          (pss_one (ps_ret (pe_op op_mod (pe_callTy call_int1 (by rfl) B.int (by decide +kernel) (pa_cons (pv 5) pa_nil)) (pv 1))))))
          pss_nil)
      (pss_cut (ps_set (i := 6) scDraw.nd rfl (Or.inl rfl) (pe_op op_mod (pe_callTy call_int1 (by rfl) B.int (by decide +kernel) (pa_cons (pe_op op_pow
          (pe_op op_add (pe_op op_add (pe_op op_mod (pe_callTy call_int1 (by rfl) B.int (by decide +kernel) (pa_cons (pv 4) pa_nil)) pe_int) (pe_op op_mul pe_int (pv 3))) pe_int) pe_int) pa_nil)) pe_int))
      (pss_cut (ps_set (i := 6) scDraw.nd rfl (Or.inl rfl) (pe_op op_mod (pe_callTy call_int1 (by rfl) B.int (by decide +kernel) (pa_cons (pe_op op_pow
          (pe_op op_add (pe_op op_add (pe_op op_mul (pv 6) (pe_op op_add (pe_op op_mul pe_int (pv 3)) pe_int)) (pe_op op_mul (pe_op op_mul pe_int (pv 3)) (pv 3))) pe_int) pe_int) pa_nil)) pe_int))
      (pss_one (ps_ret (pe_op op_mod (pe_callTy call_int1 (by rfl) B.int (by decide +kernel) (pa_cons (pe_op op_fdiv (pv 6) pe_int) pa_nil)) (pv 1))))))))))), ?_⟩
    refine ⟨fun σ' H' => σ' = start ["_law_pen_here", "_law_many", "_law_digit", "_law_at", "_law_cell", "_law_great", "_law_mixed"] [.ref p, .int m] ∧ H' = H,
      ⟨_, rfl, p, _, _, .int g, rfl, rfl, SqL.of hp, rfl, _, _, rfl, rfl, _, rfl, ite2 (fun _ => ?_) (fun _ => ⟨rfl, rfl⟩)⟩, ?_⟩
    · refine ⟨_, rfl, p, _, _, .int g, rfl, rfl, SqL.of hp, rfl, .inl ⟨_, rfl, _, rfl, _, _, rfl, rfl, m0, ?_⟩⟩
      refine ⟨_, rfl, p, _, _, .int g, rfl, rfl, SqL.of hp, rfl, .inl ⟨_, rfl, _, rfl, _, _, rfl, rfl, ⟨m0, m1⟩, ?_⟩⟩
      refine ⟨_, rfl, p, _, _, 2, rfl, rfl, hp, rfl, ?_⟩
      refine ⟨_, rfl, ?_⟩
      exact k _ _ _ _ (Int.emod_nonneg _ (by omega)) (Int.emod_lt_of_pos _ m0) i0 (by omega) upd_same (.upd _ _ _)
    · rintro σ' H' ⟨rfl, rfl⟩
      refine ⟨_, rfl, p, _, _, .int i, rfl, rfl, SqL.of hp, rfl, ?_⟩
      refine ⟨_, rfl, _, _, rfl, rfl, _, rfl, p, _, _, 1, rfl, rfl, hp, rfl, ?_⟩
      have b1 : But H' (upd H' p (penO l (i + 1) g)) p := .upd _ _ _
      have hp1 : upd H' p (penO l (i + 1) g) p = some (penO l (i + 1) g) := upd_same
      have hl1 : upd H' p (penO l (i + 1) g) l = some (.lst (cs.map V.int)) := b1 _ _ npl.symm hl
      refine ⟨_, rfl, _, _, rfl, rfl, .inl ⟨by decide, by decide⟩, _, _, rfl, rfl, ?_⟩
      refine ⟨fun σ2 H2 => ∃ c : Int, σ2 = [some (.ref p), some (.int m), none, some (.int i), some (.int c), none, none] ∧ H2 p = some (penO l (i + 1) g) ∧ H2 l = some (.lst (cs.map V.int)) ∧ But H' H2 p, ?_, ?_⟩
      · refine ⟨_, rfl, p, _, _, .ref l, rfl, rfl, SqL.of hp1, rfl, Nat.zero_le _, fun q hq => ?_⟩
        have npq : p ≠ q := ne_of_none hp1 hq
        have nlq : l ≠ q := ne_of_none hl1 hq
        have hp2 : upd (upd H' p (penO l (i + 1) g)) q (.lst []) p = some (penO l (i + 1) g) := by rw [upd_ne npq]; exact hp1
        have hl2 : upd (upd H' p (penO l (i + 1) g)) q (.lst []) l = some (.lst (cs.map V.int)) := by rw [upd_ne nlq]; exact hl1
        have b2 := b1.new hq (.lst [])
        refine ⟨.list (cs.map PyData.int), .list [], .lst (SqL.of hl2) (dp_ints cs), .lst (SqL.of upd_same) .nil, shaped_ints cs, rfl, _, rfl, ?_⟩
        cases cs with
        | nil => exact ⟨_, rfl, hp2, hl2, b2⟩
        | cons c cs =>
          refine iteT ?_
          obtain ⟨v, hv⟩ := cell_at (cs := c :: cs) i0 (by simp)
          refine ⟨_, rfl, p, _, _, .ref l, rfl, rfl, SqL.of hp2, rfl, _, rfl, .inl ⟨_, rfl, _, rfl, p, _, _, .ref l, rfl, rfl, SqL.of hp2, rfl, l, _, rfl, .inl (SqL.of hl2), _, _, rfl, rfl, ?_, ?_⟩⟩
          · show (0 : Int) < (((c :: cs).map V.int).length : Nat)
            simp
          · exact ⟨l, _, _, .int v, rfl, rfl, SqL.of hl2, hv, v, rfl, hp2, hl2, b2⟩
      · rintro σ2 H2 ⟨c, rfl, hp2, hl2, b2⟩
        have len63 : (cs.map V.int).length = cs.length := List.length_map _
        refine ⟨fun σ3 H3 => σ3 = [some (.ref p), some (.int m), none, some (.int i), some (.int c), none, none] ∧ H3 = H2, ?_, ?_⟩
        · refine ⟨_, rfl, _, rfl, p, _, _, .ref l, rfl, rfl, SqL.of hp2, rfl, l, _, rfl, .inl (SqL.of hl2), _, _, rfl, rfl, _, rfl, ite2 (fun _ => ?_) (fun _ => ⟨rfl, rfl⟩)⟩
          refine ⟨_, rfl, _, rfl, _, _, rfl, rfl, ⟨by decide, by decide, by decide⟩, _, _, rfl, rfl, _, rfl, ite2 (fun _ => ?_) (fun _ => ⟨rfl, rfl⟩)⟩
          refine ⟨_, rfl, _, rfl, _, _, rfl, rfl, .inl ⟨by decide, by decide⟩, _, rfl, _, _, rfl, rfl, .inr ⟨_, rfl, _, _, rfl, rfl, ?_⟩⟩
          refine ⟨_, rfl, _, rfl, _, _, rfl, rfl, ⟨m0, m1⟩, _, rfl, p, _, _, 2, rfl, rfl, hp2, rfl, ?_⟩
          refine ⟨_, rfl, .inl ⟨_, rfl, _, rfl, _, _, rfl, rfl, m0, ?_⟩⟩
          exact k _ _ _ _ (Int.emod_nonneg _ (by omega)) (Int.emod_lt_of_pos _ m0) (by omega) (by omega) upd_same (b2.put _)
        · rintro σ3 H3 ⟨rfl, rfl⟩
          refine ⟨fun σ4 H4 => ∃ y : Int, 0 ≤ y ∧ y < 2147483648 ∧ σ4 = [some (.ref p), some (.int m), none, some (.int i), some (.int c), none, some (.int y)] ∧ H4 = H3, ?_, ?_⟩
          · refine ⟨_, rfl, .inl ⟨_, rfl, _, _, rfl, rfl, (by show (0 : Int) < 2147483563; decide), _, rfl, _, _, rfl, rfl, .inl ⟨by decide, by decide⟩, _, _, rfl, rfl, _, _, rfl, rfl, _, _, rfl, rfl,
              ⟨by decide, by decide, ?_⟩, .inl ⟨_, rfl, _, _, rfl, rfl, (by show (0 : Int) < 2147483587; decide), _, Int.emod_nonneg _ (by decide), Int.lt_trans (Int.emod_lt_of_pos _ (by decide)) (by decide), rfl, rfl⟩⟩⟩
            exact small1 i0 i1 n1
          · rintro σ4 H4 ⟨y, y0, y1, rfl, rfl⟩
            refine ⟨fun σ5 H5 => ∃ y : Int, 0 ≤ y ∧ y < 2147483648 ∧ σ5 = [some (.ref p), some (.int m), none, some (.int i), some (.int c), none, some (.int y)] ∧ H5 = H4, ?_, ?_⟩
            · refine ⟨_, rfl, _, rfl, _, _, rfl, rfl, .inl ⟨by decide, by decide⟩, _, _, rfl, rfl, _, _, rfl, rfl, .inl ⟨?_, ?_⟩, _, rfl, _, _, rfl, rfl, .inl ⟨by decide, by decide⟩, _, rfl, _, _, rfl, rfl, .inl ⟨?_, ?_⟩,
                _, _, rfl, rfl, _, _, rfl, rfl, _, _, rfl, rfl, ⟨by decide, by decide, ?_⟩, .inl ⟨_, rfl, _, _, rfl, rfl, (by show (0 : Int) < 2147483629; decide), _, Int.emod_nonneg _ (by decide), Int.lt_trans (Int.emod_lt_of_pos _ (by decide)) (by decide), rfl, rfl⟩⟩
              · exact Int.lt_of_lt_of_le (by decide) y0
              · exact Int.lt_trans y1 (by decide)
              · exact small3 i0
              · exact small4 i1 n1
              · exact small2 i0 i1 n1 y0 y1
            · rintro σ5 H5 ⟨y, y0, y1, rfl, rfl⟩
              refine ⟨_, rfl, _, _, rfl, rfl, ⟨by decide, by decide⟩, .inl ⟨_, rfl, _, rfl, _, _, rfl, rfl, m0, ?_⟩⟩
              exact k _ _ _ _ (Int.emod_nonneg _ (by omega)) (Int.emod_lt_of_pos _ m0) (by omega) (by omega) hp2 b2
theorem scPick : FnScope ["_law_pen_here", "_law_some"] ["_law_pen_here", "_law_some"] (defScope sPick) := ⟨rfl, rfl, rfl, by decide +kernel, rfl, by decide +kernel, by decide +kernel⟩
def spPick : Sp := fun vs H Q _ => ∃ (p l q : Addr) (cs : List Int) (n : Nat) (xs : List V), vs = [.ref p, .ref q] ∧ Pen H p l cs n ∧ H q = some (.lst xs) ∧ q ≠ p ∧ 0 < xs.length ∧ xs.length < 1000 ∧ n < 1000000 ∧
  ∀ (j : Nat) (x : V) (H' : Hp), xs[j]? = some x → Pen H' p l cs (n + 1) → But H H' p → Q x H'
theorem Pen.next {H H' : Hp} {p l : Addr} {cs : List Int} {n : Nat} {i g : Int} (h : Pen H p l cs n) (i0 : 0 ≤ i) (i1 : i ≤ n + 1) (hp : H' p = some (penO l i g)) (b : But H H' p) : Pen H' p l cs (n + 1) := by
  obtain ⟨i', g', h1, h2, h3, h4, h5⟩ := h
  refine ⟨i, g, hp, b _ _ ?_ h2, h3, i0, by omega⟩
  intro e
  subst e
  rw [h1] at h2
  have e := List.map_eq_cons_iff.mp (HO.lst.inj (Option.some.inj h2)).symm
  obtain ⟨_, _, _, q, _⟩ := e
  cases q
theorem ok_pick {f fD : Addr} {fd fdD : FuncData} (F : Fun K "_law_pick" "_law_pick" sPick f fd) (B : Bi mg) (FD : Fun K "_law_draw" "_law_draw" sDraw fD fdD) (bD : Binds K fdD ["_law_pen_here", "_law_many"] []) (mD : mg "_law_draw" = some (.ref fD)) :
    FnOk P w K mg base CX0 2 f fd ["_law_pen_here", "_law_some"] spPick := by
  have GD : FnOk P w K mg base CX0 1 fD fdD ["_law_pen_here", "_law_many"] spDraw := ok_draw FD B
  refine F.ok scPick (fun vs H Q E h => ?_) (fun cdv A outer s H vs Q E hr h => ?_)
  · obtain ⟨p, l, q, cs, n, xs, rfl, _⟩ := h
    rfl
  · obtain ⟨p, l, q, cs, n, xs, rfl, hP, hq, nqp, x0, x1, n1, k⟩ := h
    refine ⟨_, pss_one (ps_ret (pe_ix ix_list (pv 1) (pe_call GD hr rfl mD FD.kp bD .nil pass0 (pa_cons (pv 0) (pa_cons (pe_callB call_len_seq (by rfl) B.len PySem.boot_len (pa_cons (pv 1) pa_nil)) pa_nil))) (fun _ _ => rfl))), ?_⟩
    refine ⟨_, rfl, _, rfl, _, rfl, q, _, rfl, .inl (SqL.of hq), p, l, cs, n, _, rfl, hP, by omega, by omega, n1, fun d i g H' d0 d1 i0 i1 hp b => ?_⟩
    obtain ⟨j, rfl⟩ : ∃ j : Nat, d = j := ⟨d.toNat, by omega⟩
    have hj : j < xs.length := by omega
    exact ⟨q, xs, _, xs[j], rfl, rfl, SqL.of (b _ _ nqp hq), atI_nat (by simp [hj]), k j _ _ (by simp [hj]) (hP.next i0 i1 hp b) b⟩
theorem scPen : FnScope ["_law_script"] ["_law_script"] (defScope sPen) := ⟨rfl, rfl, rfl, by decide +kernel, rfl, by decide +kernel, by decide +kernel⟩
def spPen (K : PySem.W.Frag) : Sp := fun vs H Q _ => ∃ (a : Addr) (ns : List Int), vs = [.ref a] ∧ SqL K H a (ns.map V.int) ∧ ns.length ≤ 63 ∧ ∀ (p l : Addr) (cs : List Int) (H' : Hp), Pen H' p l cs 0 → Same H H' → Q (.ref p) H'
theorem ok_pen {f : Addr} {fd : FuncData} (F : Fun K "_law_pen" "_law_pen" sPen f fd) (mL : mg "list" = none) : FnOk P w K mg base CX0 1 f fd ["_law_script"] (spPen K) := by
  refine F.ok scPen (fun vs H Q E h => ?_) (fun cdv A outer s H vs Q E hr h => ?_)
  · obtain ⟨a, ns, rfl, _⟩ := h
    rfl
  · obtain ⟨a, ns, rfl, hS, hz, k⟩ := h
    refine ⟨_, pss_one (ps_ret (pe_lst (pa_cons (pe_callTy call_list_of (by rfl) mL (by decide +kernel) (pa_cons (pe_slice sl_list (pv 0) po_none (po_some pe_int)) pa_nil)) (pa_cons pe_int (pa_cons pe_int pa_nil))))), ?_⟩
    refine ⟨_, rfl, _, rfl, a, _, rfl, hS, fun q hq => ?_⟩
    refine ⟨q, _, rfl, .inl (SqL.of upd_same), fun l hl => ⟨(by show 3 ≤ sizeLine; decide), fun p hp => ?_⟩⟩
    have nql : q ≠ l := ne_of_none upd_same hl
    have nlp : l ≠ p := ne_of_none upd_same hp
    have hHl : H l = none := by rw [upd_ne nql.symm] at hl; exact hl
    have hHp : H p = none := by
      have h1 : p ≠ l := nlp.symm
      rw [upd_ne h1] at hp
      have h2 : p ≠ q := fun e => by rw [e, upd_same] at hp; cases hp
      rw [upd_ne h2] at hp
      exact hp
    refine k p l _ _ ⟨0, 0, upd_same, Eq.trans (upd_ne nlp) (Eq.trans upd_same (congrArg (fun z => some (HO.lst z)) (cut_ints ns none (some 63)).choose_spec.1)), Nat.le_trans (cut_ints ns none (some 63)).choose_spec.2 hz, Int.le_refl _, Int.le_refl _⟩ fun b o e => ?_
    rw [upd_ne (ne_of_none e hHp), upd_ne (ne_of_none e hHl), upd_ne (ne_of_none e hq)]
    exact e
end
end Sj
namespace Sj
open PySem L2 Sup
open NdefX (NF NScope ncx envF startF nscope_by)
abbrev sInv : Stmt := inClass (top 3) 0
abbrev sIsName : Stmt := top 13
abbrev sLegI : Stmt := inClass (top 15) 1
abbrev sDrvI : Stmt := inClass (top 16) 1
abbrev sLisI : Stmt := inClass (top 17) 1
theorem strLen (a b : Str) : (a ++ b).length = a.length + b.length := by
  exact strLen_append a b
section
variable {P : Program} {w : World} {K : PySem.W.Frag} {mg : Str → Option Value} {base : Heap}
theorem scInv : NScope ["self", "reason", "__class__"] ["self", "reason"] ["__class__"] (defScope sInv) := nscope_by (by decide +kernel)
/-- InvalidFrame(reason), reason a text -/
def spInv (K : PySem.W.Frag) (C : Addr) : Sp := fun vs H Q _ => ∃ (a : Addr) (z : Str), vs = [.ref a, .str z] ∧ (reprText z).length ≤ 1000 ∧ H a = some (exo a C none) ∧
  ∀ (dx : Addr), H dx = none → dx ≠ a → Q .non (upd (upd H dx (exd dx [("reason", .str z)])) a (exo a C (some dx)))
structure ExT (P : Program) (K : PySem.W.Frag) (mg : Str → Option Value) (C : Addr) (fld : Str) : Prop where
  sup : SupT P K mg C
  oex : OexC K C
  hm : PySem.W.ks_superIn K C C "__init__" = some (some (.builtin "ValueError.__init__"))
  hB : PySem.W.subIn K (.ref C) (.type "ValueError") = some true
  hs : PySem.W.mroIn K C (.ref C) = some true
  no : PySem.W.findIn K (.ref C) fld = some none
theorem ok_inv {f c cc C : Addr} {fd : FuncData} (F : FunS P K "__init__" "InvalidFrame.__init__" sInv f fd c cc C) (T : ExT P K mg C "reason") : FnOk P w K mg base CX0 1 f fd ["self", "reason"] (spInv K C) := by
  refine fn_super F scInv (fun vs H Q E h => ?_) (fun A outer s H vs Q E hr h s1 I => ?_)
  · obtain ⟨a, z, rfl, _⟩ := h
    rfl
  · obtain ⟨a, z, rfl, hz, ha, k⟩ := h
    refine super_exc (me := "self") (x := a) (C := C) (atS_of F rfl rfl rfl rfl ⟨_, rfl, rfl⟩) T.sup T.oex rfl T.hm T.hB T.hs
      (pa_cons (pe_joined (.cons pe_str (.cons (pe_fmtR (pv 1)) .nil))) pa_nil) (pss_one (ps_ost (pv 0) (pv 1))) I rfl ha ?_ rfl rfl rfl rfl rfl
    refine ⟨_, rfl, by decide +kernel, _, rfl, .inl ⟨z, rfl, Nat.le_trans hz (by decide), _, rfl, ?_, by show 1 ≤ 1000; decide, ha, ?_⟩⟩
    · have e1 : ((Str.empty ++ ("invalid frame: " : Str)) ++ reprText z).length ≤ 15 + (reprText z).length := by
        rw [strLen]
        exact Nat.add_le_add_right (by decide +kernel) _
      exact Nat.le_trans e1 (Nat.le_trans (Nat.add_le_add_left hz 15) (by decide))
    · exact ⟨_, rfl, _, rfl, a, C, rfl, T.oex, T.no, .inl ⟨ha, fun dx hd hne => k dx hd hne⟩⟩
end
end Sj
namespace Sj
open PySem L2 Sup
open NdefX (NF NScope ncx envF startF nscope_by)
open C8 (pss_cut tCut)
def lettersS : Str := "abcdefghijklmnopqrstuvwxyz"
def reservedV : List V := [.str "ground", .str "power", .str "nothing"]
/-- whether a text is a name -/
def isName (z : Str) : Bool := decide ((1 : Int) ≤ z.length) && decide ((z.length : Int) ≤ 8) && !inV (.str z) reservedV && z.cps.toList.all fun c => decide (c ∈ lettersS.cps.toList)
structure NmT (K : PySem.W.Frag) (mg : Str → Option Value) : Prop where
  isi : mg "isinstance" = none
  str : mg "str" = none
  len : mg "len" = none
  all : mg "all" = none
  letters : ∃ t, mg "LETTERS" = some (.str lettersS t)
  longest : ∃ t, mg "LONGEST" = some (.int 8 t)
  reserved : ∃ a, mg "RESERVED" = some (.ref a) ∧ ∀ H, SqT K H a reservedV
def spIsName (K : PySem.W.Frag) : Sp := fun vs H Q _ => ∃ x : V, vs = [x] ∧
  ((∃ z : Str, x = .str z ∧ z.length ≤ 1000 ∧ ∀ H', Same H H' → Q (.bl (isName z)) H') ∨
   ∃ t : String, TyX K H x (.type t) ∧ kitB t "str" = some false ∧ Q (.bl false) H)
section
variable {P : Program} {w : World} {K : PySem.W.Frag} {mg : Str → Option Value} {base : Heap}
theorem scIsName : FnScope ["value", "sign"] ["value"] (defScope sIsName) := ⟨rfl, rfl, rfl, by decide +kernel, rfl, by decide +kernel, by decide +kernel⟩
theorem ok_isname {f : Addr} {fd : FuncData} (F : Fun K "is_name" "is_name" sIsName f fd) (T : NmT K mg) : FnOk P w K mg base CX0 1 f fd ["value"] (spIsName K) := by
  obtain ⟨tL, gL⟩ := T.letters
  obtain ⟨tN, gN⟩ := T.longest
  obtain ⟨aR, gR, hR⟩ := T.reserved
  refine F.ok scIsName (fun vs H Q E h => ?_) (fun cdv A outer s H vs Q E hr h => ?_)
  · obtain ⟨x, rfl, _⟩ := h
    rfl
  · obtain ⟨x, rfl, h⟩ := h
    refine ⟨_, pss_cons
      (ps_if (PW.pt (pw_or (pt_not (pt_val (pe_callB call_isi (by rfl) T.isi (by decide +kernel) (pa_cons (pv 0) (pa_cons (pe_bltn (by rfl) T.str (by decide +kernel) (v := .ty "str") rfl) pa_nil)))))
          (pw_or1 (pt_not (pt_chain op_le op_le pe_int (pe_callB call_len_str (by rfl) T.len PySem.boot_len (pa_cons (pv 0) pa_nil)) (pe_glob rfl gN (v := .int 8) ⟨_, rfl⟩))))))
        (pss_one (ps_ret pe_bl)) pss_nil)
      (pss_one (ps_ret (pe_and (pe_cmpR op_notIn_seq (pv 0) (pe_glob rfl gR (v := .ref aR) rfl) (by rfl))
        (pe_one (pe_callB (cr_all rfl) (by rfl) T.all (by decide +kernel) (pa_cons
          (pe_lc (own := [("sign", 1)]) (g := gName 1) (tt := tYes) rfl scIsName.nd (pi_str (pv 0)) (blkOk_by (N := ["value", "sign"]) (sc := defScope sIsName) (by decide +kernel))
            (fun _ _ _ _ _ => pg_name (i := 1) scIsName.nd rfl (Or.inl rfl)) (fun _ _ _ _ _ => pts_nil) (fun _ _ _ _ _ => pe_cmpR op_in_sign (pv 1) (pe_glob rfl gL (v := .str lettersS) ⟨_, rfl⟩) (by rfl))) pa_nil)))))), ?_⟩
    rcases h with ⟨z, rfl, hz, k⟩ | ⟨t, ht, hk, k⟩
    · have hzl : z.length ≤ sizeLine := small1000 hz |> Nat.le_of_lt
      refine ⟨_, rfl, _, _, .type "str", .type "str", true, rfl, .ty _, .base (.str _), kit_ty (by decide +kernel), _, rfl, iteF ?_⟩
      refine ⟨_, rfl, _, rfl, hzl, _, _, rfl, rfl, _, rfl, ?_⟩
      have e0 : isName z = (decide ((1 : Int) ≤ z.length) && decide ((z.length : Int) ≤ 8) && !inV (.str z) reservedV && z.cps.toList.all fun c => decide (c ∈ lettersS.cps.toList)) := rfl
      by_cases h1 : (1 : Int) ≤ z.length
      · rw [decide_eq_true h1]
        refine iteT ⟨_, _, rfl, rfl, _, rfl, ?_⟩
        by_cases h2 : (z.length : Int) ≤ 8
        · rw [decide_eq_true h2]
          refine iteF ⟨_, rfl, aR, _, rfl, .inr (hR _), rfl, rfl, _, rfl, ?_⟩
          rw [decide_eq_true h1, decide_eq_true h2] at e0
          cases h3 : inV (.str z) reservedV with
          | true =>
            rw [h3] at e0
            refine iteF ?_
            rw [show isName z = false from e0] at k
            exact k _ (Same.refl _)
          | false =>
            rw [h3] at e0
            refine iteT ?_
            refine ⟨_, rfl, z, rfl, fun D hD => lc_it walk_str (fun i H' => Same H H' ∧ H' D = some (.lst (((z.cps.toList.take i).map fun c => decide (c ∈ lettersS.cps.toList)).map V.bl))) ⟨?_, ?_⟩ (fun _ _ _ _ => True.intro) ?_ ?_⟩
            · exact fun b o e => by rw [upd_ne (ne_of_none e hD)]; exact e
            · rw [upd_same]; rfl
            · rintro i x H1 H2 hi ⟨s1, d1⟩ ⟨rfl, c, hc, rfl⟩
              refine ⟨rfl, ?_⟩
              unfold tYes
              dsimp only
              rw [if_pos rfl]
              refine ⟨_, rfl, c, lettersS, rfl, rfl, _, d1, ?_, ?_, ?_⟩
              · rw [List.length_map, List.length_map, List.length_take]
                exact Nat.lt_of_le_of_lt (Nat.min_le_right _ _) (Nat.lt_of_le_of_lt (show z.cps.toList.length ≤ 1000 from hz) (by decide))
              · exact fun b o e => by rw [upd_ne (ne_of_none e hD)]; exact s1 _ _ e
              · rw [upd_same]
                have hc' : z.cps.toList[i]? = some c := by rw [Array.getElem?_toList]; exact hc
                rw [List.take_add_one, hc', List.map_append, List.map_append]
                rfl
            · rintro H1 ⟨s1, d1⟩
              refine ⟨D, (z.cps.toList.take z.cps.size).map (fun c => decide (c ∈ lettersS.cps.toList)), rfl, SqL.of d1, ?_⟩
              have e2 : (z.cps.toList.take z.cps.size) = z.cps.toList := List.take_of_length_le (by rw [Array.length_toList]; exact Nat.le_refl _)
              have e1 : List.all ((z.cps.toList.take z.cps.size).map (fun c => decide (c ∈ lettersS.cps.toList))) id = z.cps.toList.all fun c => decide (c ∈ lettersS.cps.toList) := by
                rw [e2, List.all_map]; rfl
              have e3 : isName z = List.all ((z.cps.toList.take z.cps.size).map (fun c => decide (c ∈ lettersS.cps.toList))) id := by
                rw [e0, e1]; simp
              show Q (.bl (List.all _ id)) H1
              rw [← e3]
              exact k _ s1
        · rw [decide_eq_false h2]
          rw [decide_eq_false h2, Bool.and_false] at e0
          rw [show isName z = false from by rw [e0]; rfl] at k
          exact iteT (k _ (Same.refl _))
      · rw [decide_eq_false h1] at e0 ⊢
        rw [show isName z = false from e0] at k
        exact iteF ⟨_, rfl, iteT (k _ (Same.refl _))⟩
    · refine ⟨_, rfl, _, _, .type t, .type "str", false, rfl, .ty _, ht, kit_ty hk, _, rfl, iteT ?_⟩
      exact iteT k
end
end Sj
namespace Sj
open PySem L2 Sup
open NdefX (NF NScope ncx envF startF nscope_by)
open C8 (pss_cut tCut)
/-- a leg's attributes -/
def legF (z : Str) : List (Str × V) := putF "name" (.str z) []
theorem legF_name (z : Str) : (legF z).lookup ("name" : Str) = some (.str z) := by
  unfold legF
  rw [lookup_putF, if_pos rfl]
def errH (H H' : Hp) (d : Addr) (fld : Str) (v : V) : Prop := H d = none ∧ H' d = some (.xd [(fld, v)]) ∧ Same H H'
/-- X.__init__(self, name) of a leg's class: the wish of an error -/
def spLegI (K : PySem.W.Frag) (CI C : Addr) : Sp := fun vs H Q E => ∃ (p dx : Addr) (x : V), vs = [.ref p, x] ∧ H p = some (.ins C dx []) ∧
  ((∃ z : Str, x = .str z ∧ z.length ≤ 1000 ∧ (isName z = true → ∀ H', H' p = some (.ins C dx (legF z)) → But H H' p → Q .non H') ∧
      (isName z = false → ∀ d H', errH H H' d "reason" (.str "name") → E (.ref CI) (some d) H')) ∨
   ∃ t : String, TyX K H x (.type t) ∧ kitB t "str" = some false ∧ ∀ d H', errH H H' d "reason" (.str "name") → E (.ref CI) (some d) H')
structure LgT (P : Program) (K : PySem.W.Frag) (mg : Str → Option Value) (CI fI f n : Addr) : Prop where
  ex : ExT P K mg CI "reason"
  iC : PySem.W.findIn K (.ref CI) "__init__" = some (some (.ref fI))
  tI : PySem.W.typeIn K (.ref fI) = some (.type "function")
  mI : mg "InvalidFrame" = some (.ref CI)
  mN : mg "is_name" = some (.ref n)
structure LegC (K : PySem.W.Frag) (C : Addr) : Prop where
  cl : Cls K C
  nN : NoAttr K C "name"
section
variable {P : Program} {w : World} {K : PySem.W.Frag} {mg : Str → Option Value} {base : Heap}
theorem scLegI : FnScope ["self", "name"] ["self", "name"] (defScope sLegI) := ⟨rfl, rfl, rfl, by decide +kernel, rfl, by decide +kernel, by decide +kernel⟩
theorem ok_legI {f fI fN CI C c cc : Addr} {fd fdI fdN : FuncData} (F : Fun K "__init__" "Leg.__init__" sLegI f fd) (T : LgT P K mg CI fI f fN) (NT : NmT K mg) (LC : LegC K C)
    (FN : Fun K "is_name" "is_name" sIsName fN fdN) (bN : Binds K fdN ["value"] []) (FI : FunS P K "__init__" "InvalidFrame.__init__" sInv fI fdI c cc CI) (bI : Binds K fdI ["self", "reason"] []) :
    FnOk P w K mg base (L2.CX P w) 3 f fd ["self", "name"] (spLegI K CI C) := by
  have GN : FnOk P w K mg base CX0 1 fN fdN ["value"] (spIsName K) := ok_isname FN NT
  have GI : FnOk P w K mg base CX0 1 fI fdI ["self", "reason"] (spInv K CI) := ok_inv FI T.ex
  refine F.okX scLegI (fun vs H Q E h => ?_) (fun cdv A outer s H vs Q E hr h => ?_)
  · obtain ⟨p, dx, x, rfl, _⟩ := h
    rfl
  · obtain ⟨p, dx, x, rfl, hp, h⟩ := h
    have hr1 : Room 1 _ := hr.mono (by decide)
    refine ⟨_, pss_cons (ps_if (pt_not (pt_val (pe_call GN hr1 rfl T.mN FN.kp bN .nil pass0 (pa_cons (pv 1) pa_nil))))
        (pss_one (ps_raise rfl (takes_of rfl rfl rfl rfl) (pmk_oex T.ex.oex T.iC T.tI GI hr bI .nil pass0 rfl T.mI (pa_cons pe_str pa_nil)))) pss_nil)
      (pss_one (ps_fld (pv 0) (pv 1) rfl)), ?_⟩
    have fin : ∀ H1, Same H H1 → (∀ d H', errH H H' d "reason" (.str "name") → E (.ref CI) (some d) H') →
        tMkO CI (spInv K CI) [] (tCons (tC (.str "name")) tNil) (start ["self", "name"] [.ref p, x]) H1 fun cls d H' => E cls d H' := fun H1 s1 k => by
      refine ⟨by show 1 ≤ 1000; decide, fun a ha => ⟨a, "name", rfl, by decide +kernel, upd_same, fun d hd hda => ⟨rfl, d, [("reason", .str "name")], upd_same, ?_, ?_, ?_⟩⟩⟩
      · rw [upd_ne hda, upd_same]
      · rw [upd_ne hda] at hd
        exact hd
      · refine k d _ ⟨?_, upd_same, fun b o e => ?_⟩
        · rw [upd_ne hda] at hd
          exact s1.free hd
        · rw [upd_ne hda] at hd
          have e1 := s1 _ _ e
          have nbd : b ≠ d := ne_of_none e1 hd
          have nba : b ≠ a := ne_of_none e1 ha
          rw [upd_ne nbd, del_ne nba, upd_ne nba, upd_ne nbd, upd_ne nba]
          exact e1
    rcases h with ⟨z, rfl, hz, k1, k2⟩ | ⟨t, ht, hk, k2⟩
    · refine ⟨_, rfl, _, rfl, .inl ⟨z, rfl, hz, fun H1 s1 => ⟨_, rfl, ?_⟩⟩⟩
      cases hn : isName z with
      | true =>
        refine iteF ⟨_, rfl, _, rfl, p, C, dx, _, rfl, s1 _ _ hp, LC.cl, LC.nN, by show 0 < 1000; decide, ?_⟩
        exact k1 hn _ upd_same fun b o hb e => by rw [upd_ne hb]; exact s1 _ _ e
      | false => exact iteT (fin H1 s1 (k2 hn))
    · refine ⟨_, rfl, _, rfl, .inr ⟨t, ht, hk, ⟨_, rfl, ?_⟩⟩⟩
      exact iteT (fin H (Same.refl _) k2)
end
end Sj
namespace Sj
open PySem L2 Sup
open NdefX (NF NScope ncx envF startF nscope_by)
open C8 (pss_cut tCut)
structure SubT (P : Program) (K : PySem.W.Frag) (mg : Str → Option Value) (C f : Addr) : Prop where
  sup : SupT P K mg C
  hm : PySem.W.ks_superIn K C C "__init__" = some (some (.ref f))
  tf : PySem.W.typeIn K (.ref f) = some (.type "function")
  ff : PySem.W.fnIn K f = true
  hs : PySem.W.mroIn K C (.ref C) = some true
section
variable {P : Program} {w : World} {K : PySem.W.Frag} {mg : Str → Option Value} {base : Heap}
theorem scDrvI : NScope ["self", "name", "__class__"] ["self", "name"] ["__class__"] (defScope sDrvI) := nscope_by (by decide +kernel)
theorem scLisI : NScope ["self", "name", "__class__"] ["self", "name"] ["__class__"] (defScope sLisI) := nscope_by (by decide +kernel)
theorem ok_drvI {fL f CI C c cc : Addr} {fd fdL : FuncData} (F : FunS P K "__init__" "Driver.__init__" sDrvI f fd c cc C) (T : SubT P K mg C fL) (bL : Binds K fdL ["self", "name"] [])
    (GL : FnOk P w K mg base (L2.CX P w) 3 fL fdL ["self", "name"] (spLegI K CI C)) : FnOk P w K mg base (L2.CX P w) 4 f fd ["self", "name"] (spLegI K CI C) := by
  refine fn_super F scDrvI (fun vs H Q E h => ?_) (fun A outer s H vs Q E hr h s1 I => ?_)
  · obtain ⟨p, dx, x, rfl, _⟩ := h
    rfl
  · obtain ⟨p, dx, x, rfl, hp, h⟩ := h
    refine super_own (me := "self") (x := p) (C := C) (E := E) (atS_of F rfl rfl rfl rfl ⟨_, rfl, rfl⟩) T.sup GL hr bL .nil (passes_call (takes_of rfl rfl rfl rfl) fun _ _ _ _ h => h) rfl T.hm T.tf T.ff T.hs (by decide)
      (pa_cons (pv 1) pa_nil) pss_nil I rfl (ins_obj I hp) ?_ rfl rfl rfl rfl rfl
    exact ⟨_, rfl, p, dx, x, rfl, hp, h⟩
theorem ok_lisI {fL f CI C c cc : Addr} {fd fdL : FuncData} (F : FunS P K "__init__" "Listener.__init__" sLisI f fd c cc C) (T : SubT P K mg C fL) (bL : Binds K fdL ["self", "name"] [])
    (GL : FnOk P w K mg base (L2.CX P w) 3 fL fdL ["self", "name"] (spLegI K CI C)) : FnOk P w K mg base (L2.CX P w) 4 f fd ["self", "name"] (spLegI K CI C) := by
  refine fn_super F scLisI (fun vs H Q E h => ?_) (fun A outer s H vs Q E hr h s1 I => ?_)
  · obtain ⟨p, dx, x, rfl, _⟩ := h
    rfl
  · obtain ⟨p, dx, x, rfl, hp, h⟩ := h
    refine super_own (me := "self") (x := p) (C := C) (E := E) (atS_of F rfl rfl rfl rfl ⟨_, rfl, rfl⟩) T.sup GL hr bL .nil (passes_call (takes_of rfl rfl rfl rfl) fun _ _ _ _ h => h) rfl T.hm T.tf T.ff T.hs (by decide)
      (pa_cons (pv 1) pa_nil) pss_nil I rfl (ins_obj I hp) ?_ rfl rfl rfl rfl rfl
    exact ⟨_, rfl, p, dx, x, rfl, hp, h⟩
end
end Sj
namespace Sup
open PySem PySem.Spec PyProof.Rows L2
/-! ### x == y, x != y where x or y is an instance with an __eq__ of its own -/
end Sup
namespace Sup
open PySem PySem.Spec PyProof.Rows L2
end Sup
namespace Sj
open PySem L2 Sup
open NdefX (NF NScope ncx envF startF nscope_by)
open C8 (pss_cut tCut)
/-- a leg of the class at C with the name z stands at a -/
def LegAt (H : Hp) (a C : Addr) (z : Str) : Prop := ∃ dx, H a = some (.ins C dx (legF z))
theorem LegAt.same {H H' : Hp} {a C : Addr} {z : Str} (h : LegAt H a C z) (s : Same H H') : LegAt H' a C z := h.imp fun _ e => s _ _ e
/-- the facts of a class that isinstance asks -/
structure IsiC (K : PySem.W.Frag) (C : Addr) : Prop where
  cl : Cls K C
  ca : PySem.W.findIn K (.ref C) "__class__" = some (some (.builtin "object.__class__"))
  cn : PySem.W.specialIn K (.builtin "object.__class__") "__get__" = some (some (.builtin "getset_descriptor.__get__"))
  ct : PySem.W.takesIn K (.builtin "object.__class__") = some true
  cm : PySem.W.mroIn K C (.type "object") = some true
theorem LegAt.ty {K : PySem.W.Frag} {H : Hp} {a C : Addr} {z : Str} (h : LegAt H a C z) (c : IsiC K C) : TyX K H (.ref a) (.ref C) := by
  obtain ⟨dx, e⟩ := h
  exact .base (.ins e c.cl c.ca c.cn c.ct c.cm)
end Sj
/-! {e for x in xs if ..}, e an int or a text (SetK), and len of such a set -/
namespace SetT
open PySem PySem.Spec PyProof.Rows L2
/-- the empty set at D -/
abbrev zeroK (P : Program) (w : World) (D : Addr) : HO := SetK P w D (fun _ => false) 0
/-- y is added to the set at D, then Nx -/
def rAdd (P : Program) (w : World) (D : Addr) (y : V) (H : Hp) (Nx : Hp → Prop) : Prop := ∃ (c : Key) (S : Key → Bool) (n : Nat), y = kV c ∧ H D = some (SetK P w D S n) ∧ n + 1 < scanBound ∧ Nx (upd H D (SetK P w D (fun j => S j || decide (j = c)) (if S c = true then n else n + 1)))
/-- one turn's reading -/
def turnT (P : Program) (w : World) (D : Addr) (g : TG) (tt : TT) (te : TE) (vs : List Nat) (σ : L2.St) (Nx : Hp → Prop) (x : V) (H : Hp) : Prop :=
  g x (wipe σ vs) H fun σ2 H2 => wipe σ2 vs = wipe σ vs ∧ tt σ2 H2 fun b H3 => if b = true then te σ2 H3 fun y H4 => rAdd P w D y H4 Nx else Nx H3
/-- all turns: W i m: ahead of turn i, m falls -/
def loopT (P : Program) (w : World) (D : Addr) (J : It) (g : TG) (tt : TT) (te : TE) (vs : List Nat) (σ : L2.St) (W : Nat → Nat → Hp → Prop) (Qd : Hp → Prop) : Prop :=
  ∀ i m H, W i m H → (J.stop i H ∧ Qd H) ∨ (J.go i H ∧ ∃ Nx : Hp → Prop, (∀ H', Nx H' → ∃ m', m' < m ∧ W (i + 1) m' H') ∧ ∀ x H', J.yld i H x H' → turnT P w D g tt te vs σ Nx x H')
def tSet (P : Program) (w : World) (wi : TI) (g : TG) (tt : TT) (te : TE) (vs : List Nat) : TE := fun σ H Q => wi σ H fun J H1 => ∀ D, H1 D = none → ∃ W : Nat → Nat → Hp → Prop, (∃ m, W 0 m (upd H1 D (zeroK P w D))) ∧ loopT P w D J g tt te vs σ W (Q (.ref D))
section
variable {X : Cx}
theorem zero_new {P : Program} {w : World} {h : Heap} : (h.push { cls := .type "set", dict := none, data := .set #[] 0 (.fresh 0 0 (!w.params.followText "set-order")) }).SetOf (mixKind P w) h.objs.size (fun _ => false) 0 :=
  ⟨_, #[], 0, _, Heap.get?_push_size _ rfl, ⟨rfl, rfl, rfl⟩, rfl, (fun e he => by simp at he), (fun k => by simp), (by decide), (by rfl), rfl⟩
/-- the loop in the block's context Y -/
theorem loop_run {Y : Cx} {elt tg iter : Expr} {ifs : List Expr} {scope : Scope} {pos : Pos} {it D : Addr} {J : It} {g : TG} {tt : TT} {te : TE} {vs : List Nat} {fp : List Addr} {tn : Nat → Heap → Prop} {σ : L2.St} {W : Nat → Nat → Hp → Prop} {Qd : Hp → Prop} {R : Result → Shared → Prop}
    (hc : Y.calm = true) (T : Turn Y.prog Y.w Y.K tg J fp it tn) (hg : PG Y tg g) (ht : PTs Y ifs tt) (he : PE Y elt te) (hl : loopT Y.prog Y.w D J g tt te vs σ W Qd)
    (xe : ∀ e s', Y.xe e s' → notedBy (model Y.prog Y.w) Y.A Y.env (fun e s' => R (.error e) s') e s')
    (stat : ∀ (σ' : L2.St) (H' : Hp) (s' : Shared), Inv Y [] σ' H' s' → (∀ b ∈ fp, H' b = none) → ∀ b ∈ fp, FpOk Y [] H' b)
    (fin : ∀ i s' H', Inv Y [] (wipe σ vs) H' s' → tn i s'.heap → (∀ b ∈ fp, H' b = none) → J.stop i H' → Qd H' → ∀ s6, Inv Y [] (wipe σ vs) H' s6 → R (.ok .next) s6)
    {i m : Nat} {H : Hp} {s : Shared} (I : Inv Y [] (wipe σ vs) H s) (st : tn i s.heap) (nf : ∀ b ∈ fp, H b = none) (hw : W i m H) :
    codeAny (model Y.prog Y.w) Y.A (.compLoop (.SetComp elt [⟨tg, iter, ifs, 0⟩] scope pos) 0 (.ref it) (.ref D) Y.env) R s := by
  refine PpSet.compLoopS_any (fun n s' => ∃ i H', Inv Y [] (wipe σ vs) H' s' ∧ tn i s'.heap ∧ (∀ b ∈ fp, H' b = none) ∧ W i n H') ?_ m ⟨i, H, I, st, nf, hw⟩
  rintro n s5 ⟨i, H5, I5, st5, n5, w5⟩
  rcases hl i n H5 w5 with ⟨stop, qq⟩ | ⟨go, Nx, hNx, step⟩
  · refine thnF (T.done Y rfl rfl rfl hc i [] s5 _ H5 (fun _ _ => False) I5 (stat _ _ _ I5 n5) st5 stop) fun r s6 ⟨hr, I6⟩ => ?_
    subst hr
    exact fin i s5 H5 I5 st5 n5 stop qq s6 I6
  · refine thnF (T.item Y rfl rfl rfl hc i [] s5 _ H5 (fun _ _ => False) I5 (stat _ _ _ I5 n5) st5 go) fun r s6 ⟨u, hr, h6⟩ => ?_
    subst hr
    refine thnF h6 fun _ s7 ⟨x, H7, I7, r7, y7, st7, n7⟩ => ?_
    have I7' := I7.pinned (stat _ _ _ I7 n7) (T.obj _ _ st7)
    refine wpAny_mono (hg.run _ s7 _ H7 x u _ I7' r7 (step x H7 y7)) (fun _ s8 ⟨σ8, H8, I8, hw8, q8⟩ => ?_) xe
    -- what stands when a turn is through
    have back : ∀ {s' : Shared} {H' : Hp}, Inv Y ([] ++ pinsAt fp s7.heap) σ8 H' s' → Nx H' → ∃ m, m < n ∧ ∃ i H', Inv Y [] (wipe σ vs) H' s' ∧ tn i s'.heap ∧ (∀ b ∈ fp, H' b = none) ∧ W i m H' := fun {s' H'} I' nx => by
      obtain ⟨m', hm, w'⟩ := hNx H' nx
      have held : ∀ b ∈ fp, ∀ o, s7.heap.get? b = some o → s'.heap.get? b = some o ∧ H' b = none := fun b hb o e => by
        have z := I'.pin (b, o) (List.mem_append_right _ (List.mem_append_right _ (mem_pinsAt hb e)))
        exact ⟨z.1, z.2.1⟩
      refine ⟨m', hm, i + 1, H', ?_, T.keep _ _ _ st7 fun b hb o e => (held b hb o e).1, fun b hb => ?_, w'⟩
      · refine (I'.unpinned (pins := [])).weak (by rw [← hw8, wipe_length]) fun j v e => ?_
        rw [← hw8] at e
        exact (wipe_some e).1
      · obtain ⟨o, e, _⟩ := T.obj _ _ st7 b hb
        exact (held b hb o e).2
    refine wpAny_mono (ht.run _ s8 σ8 H8 _ I8 q8) (fun b s9 ⟨H9, I9, q9⟩ => ?_) xe
    cases b with
    | false =>
      simp only [Bool.false_eq_true, if_false] at q9 ⊢
      exact back I9 q9
    | true =>
      simp only [if_true] at q9 ⊢
      refine wpAny_mono (he.run _ s9 σ8 H9 _ I9 q9) (fun z s10 ⟨yv, H10, I10, r10, c, S, n0, ey, hD, hz, nx⟩ => ?_) xe
      refine wpAny_mono (mt_saddK _ s10 σ8 H10 (.ref D) [yv] (.ref D) [z] (fun _ H' => Nx H') I10 rfl (.cons r10 .nil) ⟨D, c, S, n0, rfl, by rw [ey], hD, hz, nx⟩) (fun _ s11 ⟨_, H11, I11, _, q11⟩ => back I11 q11) xe
/-- the block's start, the set at D laid -/
theorem start_run {elt tg iter : Expr} {ifs : List Expr} {scope : Scope} {own : List (PySem.Str × Nat)} {pos : Pos} {J : It} {g : TG} {tt : TT} {te : TE} {pins : List (Addr × Obj)} {σ : L2.St} {s3 : Shared} {H3 : Hp} {it D : Addr} {fp : List Addr} {tn : Nat → Heap → Prop} {W : Nat → Nat → Hp → Prop} {m0 : Nat} {Q : VK}
    (hc : X.calm = true) (hN : X.N.Nodup) (ok : BlkOk X.N X.env.scope scope own) (I3 : Inv X pins σ H3 s3) (f3 : ∀ b ∈ fp, FpOk X pins H3 b ∧ b < s3.heap.objs.size) (T : Turn X.prog X.w X.K tg J fp it tn) (st3 : tn 0 s3.heap)
    (hg : ∀ (s : Shared) (H : Hp) (C : Addr) (cl : List (PySem.Str × Addr)) (fp : List Addr), PG (X.blk s H scope (compEnvC scope cl C X.env) fp) tg g) (ht : ∀ (s : Shared) (H : Hp) (C : Addr) (cl : List (PySem.Str × Addr)) (fp : List Addr), PTs (X.blk s H scope (compEnvC scope cl C X.env) fp) ifs tt)
    (he : ∀ (s : Shared) (H : Hp) (C : Addr) (cl : List (PySem.Str × Addr)) (fp : List Addr), PE (X.blk s H scope (compEnvC scope cl C X.env) fp) elt te) (w0 : W 0 m0 H3) (hl : loopT X.prog X.w D J g tt te (own.map (·.2)) σ W (Q (.ref D))) :
    codeAny (model X.prog X.w) X.A (.compStart (.SetComp elt [⟨tg, iter, ifs, 0⟩] scope pos) 0 (.ref it) (.ref D) (compEnvC scope (cellsFrom (s3.heap.objs.size + 1) scope.names (cloFrom X.env.cells scope.names [])) s3.heap.objs.size X.env))
      (compPost (model X.prog X.w) X.A X.xe none (EP X pins σ Q) (.ref D) s3.heap.objs.size) { s3 with heap := pushCells (s3.heap.push { cls := .type "dict", data := .dict #[] }) scope.names } := by
  have I4 := block_start I3 ok hN f3
  have st4 := T.keep _ _ (pushCells (s3.heap.push { cls := .type "dict", data := .dict #[] }) scope.names) st3 fun b _ o e => pushCells_keeps _ _ _ _ (Heap.get?_push_of_some _ e)
  have loop := loop_run (Y := X.blk s3 H3 scope (compEnvC scope (cellsFrom (s3.heap.objs.size + 1) scope.names (cloFrom X.env.cells scope.names [])) s3.heap.objs.size X.env) fp) (elt := elt) (iter := iter) (scope := scope) (pos := pos)
    (R := compPost (model X.prog X.w) X.A X.xe none (EP X pins σ Q) (.ref D) s3.heap.objs.size) hc T (hg _ _ _ _ _) (ht _ _ _ _ _) (he _ _ _ _ _) hl (fun _ _ z => False.elim z)
    (fun σ' H' s' I' hn b hb => ⟨hn b hb, (I'.ok.exf b hb).1, I'.ok.exfs b hb, .inl hb, fun x c e => (I'.ok.exf b hb).2 x c e, fun p hp => absurd (show p ∈ ([] : List (Addr × Obj)) ++ [] from hp) (by simp)⟩)
    (fun i s' H' I' _ _ _ qd s6 I6 => ?_) I4 st4 (fun b hb => (f3 b hb).1.1) w0
  · exact PpSet.codeAny_compStart_set loop (T.self X.A 0 _ _ _ st4 loop)
  · have I7 : Inv X pins σ H' s6 := I3.call' (ch := fp) I6.os I6.base I6.hok I6.bare fun b hb => ⟨(f3 b hb).1.2.2.2.1, (f3 b hb).1.2.1, (f3 b hb).1.2.2.2.2.1, (f3 b hb).1.2.2.2.2.2⟩
    have nC : H' s3.heap.objs.size = none := I6.free
    obtain ⟨m, hn, _⟩ := I6.loc
    obtain ⟨f0, f1, f2', f4, f5, f6⟩ := I3.fpOk (H' := H') (Nat.le_refl _) nC
    exact ⟨m, hn, fun h'' sb => ⟨.ref D, H', I7.turned (t' := s6.toks) (fun b o hb e => (sb.2 b hb).trans e) f0 f1 f4 f5 f6, rfl, qd⟩⟩
/-- {e for x in xs if ..} -/
theorem pe_set {elt tg iter : Expr} {ifs : List Expr} {scope : Scope} {own : List (PySem.Str × Nat)} {pos : Pos} {wi : TI} {g : TG} {tt : TT} {te : TE} (hc : X.calm = true) (hN : X.N.Nodup) (hi : PI X tg iter wi) (ok : BlkOk X.N X.env.scope scope own)
    (hg : ∀ (s : Shared) (H : Hp) (C : Addr) (cl : List (PySem.Str × Addr)) (fp : List Addr), PG (X.blk s H scope (compEnvC scope cl C X.env) fp) tg g) (ht : ∀ (s : Shared) (H : Hp) (C : Addr) (cl : List (PySem.Str × Addr)) (fp : List Addr), PTs (X.blk s H scope (compEnvC scope cl C X.env) fp) ifs tt)
    (he : ∀ (s : Shared) (H : Hp) (C : Addr) (cl : List (PySem.Str × Addr)) (fp : List Addr), PE (X.blk s H scope (compEnvC scope cl C X.env) fp) elt te) (hs : ∀ x, foldedSetIterable iter X.env x = pure x := by intro _; rfl) :
    PE X (.SetComp elt [⟨tg, iter, ifs, 0⟩] scope pos) (tSet X.prog X.w wi g tt te (own.map (·.2))) := by
  refine ⟨fun pins s σ H Q I h => ?_⟩
  have hfree : ∀ y ∈ scope.names, y.2 = .free → ∃ c, X.env.cells.lookup y.1 = some c := fun y hy e => (ok.free y hy e).elim (fun k => I.ok.has _ (.inl k)) fun k => I.ok.has _ (.inr k)
  rw [PpSet.eval_SetComp]
  refine wpAny_comprehension_free (use := none) rfl hs (closure_ok hfree) ok.kind (fun y hy e => by rw [ok.uniq y hy, e]) (thn (hi.run pins s σ H _ I h) fun xv s1 hx => thn hx fun itv s2 h2 => ?_)
  obtain ⟨it, fp, tn, J, H2, e, I2, T, st2, f2, q⟩ := h2
  subst e
  refine PpSet.newSet_ok (newEnv_comp ?_)
  obtain ⟨W, ⟨m0, w0⟩, hl⟩ := q _ (I2.hok.fresh (Nat.le_refl s2.heap.objs.size))
  have kp : ∀ b o, s2.heap.get? b = some o → (s2.heap.push { cls := .type "set", dict := none, data := .set #[] 0 (.fresh 0 0 (!X.w.params.followText "set-order")) }).get? b = some o := fun b o e => Heap.get?_push_of_some _ e
  refine start_run (s3 := { s2 with heap := s2.heap.push { cls := .type "set", dict := none, data := .set #[] 0 (.fresh 0 0 (!X.w.params.followText "set-order")) } }) hc hN ok
    (I2.laid (t' := s2.toks) kp (Nat.le_refl _) (setK_new (P := X.prog) (w := X.w) (H := upd H2 s2.heap.objs.size (zeroK X.prog X.w s2.heap.objs.size)) zero_new)) (fun b hb => ?_) T (T.keep _ _ _ st2 fun b _ o e => kp b o e) hg ht he w0 hl
  obtain ⟨o, e, _⟩ := T.obj _ _ st2 b hb
  have lt := Heap.lt_size e
  refine ⟨⟨?_, (f2 b hb).2⟩, by rw [Heap.size_push]; exact Nat.lt_succ_of_lt lt⟩
  rw [upd_ne (Nat.ne_of_lt lt)]
  exact (f2 b hb).1
/-- len of such a set -/
theorem call_len_setK : CallR X (.builtin "len") (fun xs H Q => ∃ p S n, xs = [.ref p] ∧ H p = some (SetK X.prog X.w p S n) ∧ Q (.int n) H) := by
  intro pins s σ H xs us Q I r h
  obtain ⟨p, S, n, rfl, hp, q⟩ := h
  obtain ⟨u, rfl, rx⟩ := vals1 r
  cases rx
  obtain ⟨o, es, ep, t, ho, hex, hd, _, _, hb, hf, hn⟩ := setK_get I hp
  exact call_len_set ho hex hd hf (Int.lt_trans (Int.ofNat_lt.mpr hb) (by decide)) ⟨.int n, H, I.tok _, ⟨_, by rw [hn]⟩, q⟩
end
/-- over a walk -/
theorem set_it {J : It} {n : Nat} {G : Hp → Prop} {Y : Nat → Hp → V → Hp → Prop} (wk : Walk J n G Y) {P : Program} {w : World} {g : TG} {tt : TT} {te : TE} {vs : List Nat} {σ : L2.St} {H1 : Hp} {D : Addr} {Qd : Hp → Prop} (Pv : Nat → Hp → Prop) (h0 : Pv 0 (upd H1 D (zeroK P w D))) (hG : ∀ i H, i ≤ n → Pv i H → G H)
    (hs : ∀ i x H H', i < n → Pv i H → Y i H x H' → turnT P w D g tt te vs σ (Pv (i + 1)) x H') (hd : ∀ H, Pv n H → Qd H) :
    ∃ W : Nat → Nat → Hp → Prop, (∃ m, W 0 m (upd H1 D (zeroK P w D))) ∧ loopT P w D J g tt te vs σ W Qd := by
  refine ⟨fun i m H => m + i = n ∧ Pv i H, ⟨n, rfl, h0⟩, fun i m H ⟨e, p⟩ => ?_⟩
  have q := hG i H (by omega) p
  match m, e with
  | 0, e =>
    obtain rfl : i = n := by omega
    exact .inl ⟨wk.stops H q, hd H p⟩
  | m + 1, e => exact .inr ⟨wk.goes i H (by omega) q, Pv (i + 1), fun H' p' => ⟨m, Nat.lt_succ_self m, by omega, p'⟩, fun x H' y => hs i x H H' (by omega) p (wk.yields i H x H' (by omega) q y)⟩
/-- {k: v for ..} over a walk -/
theorem dict_it {J : It} {n : Nat} {G : Hp → Prop} {Y : Nat → Hp → V → Hp → Prop} (wk : Walk J n G Y) {g : TG} {tt : TT} {tk tv : TE} {vs : List Nat} {σ : L2.St} {H1 : Hp} {D : Addr} {Qd : Hp → Prop} (Pv : Nat → Hp → Prop) (h0 : Pv 0 (upd H1 D (.dK []))) (hG : ∀ i H, i ≤ n → Pv i H → G H)
    (hs : ∀ i x H H', i < n → Pv i H → Y i H x H' → g x (wipe σ vs) H' fun σ2 H2 => wipe σ2 vs = wipe σ vs ∧ tt σ2 H2 fun b H3 =>
      if b = true then tk σ2 H3 fun y H4 => tv σ2 H4 fun z H5 => ∃ kvs k, y = kV k ∧ H5 D = some (.dK kvs) ∧ kvs.length < sizeLine ∧ Pv (i + 1) (upd H5 D (.dK (putK kvs k z))) else Pv (i + 1) H3) (hd : ∀ H, Pv n H → Qd H) :
    ∃ W : Nat → Nat → Hp → Prop, (∃ m, W 0 m (upd H1 D (.dK []))) ∧ ∀ i m H, W i m H →
      (J.stop i H ∧ Qd H) ∨ (J.go i H ∧ ∃ Nx : Hp → Prop, (∀ H', Nx H' → ∃ m', m' < m ∧ W (i + 1) m' H') ∧ ∀ x H', J.yld i H x H' → g x (wipe σ vs) H' fun σ2 H2 => wipe σ2 vs = wipe σ vs ∧ tt σ2 H2 fun b H3 =>
        if b = true then tk σ2 H3 fun y H4 => tv σ2 H4 fun z H5 => ∃ kvs k, y = kV k ∧ H5 D = some (.dK kvs) ∧ kvs.length < sizeLine ∧ Nx (upd H5 D (.dK (putK kvs k z))) else Nx H3) := by
  refine ⟨fun i m H => m + i = n ∧ Pv i H, ⟨n, rfl, h0⟩, fun i m H ⟨e, p⟩ => ?_⟩
  have q := hG i H (by omega) p
  match m, e with
  | 0, e =>
    obtain rfl : i = n := by omega
    exact .inl ⟨wk.stops H q, hd H p⟩
  | m + 1, e => exact .inr ⟨wk.goes i H (by omega) q, Pv (i + 1), fun H' p' => ⟨m, Nat.lt_succ_self m, by omega, p'⟩, fun x H' y => hs i x H H' (by omega) p (wk.yields i H x H' (by omega) q y)⟩
/-! ### how many unlike ones -/
def nd : List Str → Nat
  | [] => 0
  | x :: xs => if x ∈ xs then nd xs else nd xs + 1
theorem nd_le : ∀ xs : List Str, nd xs ≤ xs.length
  | [] => Nat.le_refl 0
  | x :: xs => by
    have := nd_le xs
    unfold nd
    rw [List.length_cons]
    split <;> omega
theorem nd_iff : ∀ xs : List Str, nd xs < xs.length ↔ ¬ xs.Nodup
  | [] => by simp [nd]
  | x :: xs => by
    have h1 := nd_le xs
    have h2 := nd_iff xs
    unfold nd
    rw [List.length_cons, List.nodup_cons]
    by_cases hx : x ∈ xs
    · rw [if_pos hx]
      exact ⟨fun _ z => z.1 hx, fun _ => by omega⟩
    · rw [if_neg hx]
      constructor
      · intro h z
        exact h2.mp (by omega) z.2
      · intro h
        have : nd xs < xs.length := h2.mpr fun z => h ⟨hx, z⟩
        omega
end SetT
/-! defs with *args and keyword-only parameters, called with keywords; C(*y, k = v), C.m(e, k = v) -/
namespace StK
open PySem PySem.Spec PyProof.Rows L2
open StX
/-- as KwChain, but r is what is left to be done -/
def KwEnd {α : Type} (D : Addr) : List (Str × Value) → Sem α → Sem α → Prop
  | [], t, r => t = r
  | q :: l, t, r => ∃ (β γ : Type) (k1 : Option Value → Sem β) (k2 : β → Sem γ) (k3 : γ → Sem α) (a : β), t = ((nsGet D q.1 >>= k1) >>= k2) >>= k3 ∧ k1 (some q.2) = pure a ∧ KwEnd D l (k2 a >>= k3) r
theorem KwEnd.run {α : Type} {K : PySem.W.Frag} {M : Model} {A : Around} {Ex : Value → Shared → Prop} {Q : α → Shared → Prop} {s : Shared} {D : Addr} (X : K.In s.heap) : ∀ {l : List (Str × Value)} {t r : Sem α}, (∀ q ∈ l, PySem.W.nsIn K D q.1 = some (some q.2)) → KwEnd D l t r → wpAny M A r Q Ex s → wpAny M A t Q Ex s
  | [], t, r, _, e, h => by
    obtain rfl : t = r := e
    exact h
  | q :: l, t, r, hl, e, h => by
    obtain ⟨β, γ, k1, k2, k3, a, e1, e2, e3⟩ := e
    have l1 : PySem.W.Looks M s.heap (nsGet D q.1 >>= k1) a := (PySem.W.looks_nsIn X (hl q (List.mem_cons_self ..))).andThen (PySem.W.Looks.of_pure e2)
    rw [e1, bind_assoc]
    exact wpAny_bind (l1.here (KwEnd.run X (fun p hp => hl p (List.mem_cons_of_mem _ hp)) e3 h))
/-- a promise by positional values and by the values of the keywords ks -/
def FnK (P : Program) (w : World) (K : PySem.W.Frag) (mg : Str → Option Value) (base : Heap) (CX : CXT) (k : Nat) (f : Addr) (ks : List Str) (sp : List V → List V → Hp → VK → XK → Prop) : Prop :=
  ∀ (A : Around) (outer : List Env) (s : Shared) (H : Hp) (us ws : List Value) (vs zs : List V) (Q : VK) (E : XK), Room k A → Env0 P w K mg base A outer s H → Vals vs us → Vals zs ws → zs.length = ks.length → sp vs zs H Q E →
    codeAny (model P w) A (.call (.ref f) ⟨us, ks.zip ws⟩) (CR CX outer P w H s Q E) s
section
variable {CX : CXT} {P : Program} {w : World} {K : PySem.W.Frag} {mg : Str → Option Value} {base : Heap} {k : Nat} {f : Addr} {x qual : Str} {params : Arguments} {body : List Stmt} {scope : Scope} {kws : List (Str × V)} {fd : FuncData} {N ps : List Str} {sp : Sp}
theorem FnK.mono {j : Nat} {ks : List Str} {sp : List V → List V → Hp → VK → XK → Prop} (F : FnK P w K mg base CX j f ks sp) (h : j ≤ k) : FnK P w K mg base CX k f ks sp := fun A outer s H us ws vs zs Q E hr => F A outer s H us ws vs zs Q E (hr.mono h)
theorem FnK.imp {ks : List Str} {sp sp' : List V → List V → Hp → VK → XK → Prop} (F : FnK P w K mg base CX k f ks sp) (h : ∀ vs zs H Q E, sp' vs zs H Q E → sp vs zs H Q E) : FnK P w K mg base CX k f ks sp' := fun A outer s H us ws vs zs Q E hr e0 r rz hl hs => F A outer s H us ws vs zs Q E hr e0 r rz hl (h _ _ _ _ _ hs)
/-- what a def with *v is promised of: the values ahead, a new tuple of the rest -/
def spStarK (n : Nat) (gV : List V → List V → List V) (sp : Sp) : List V → List V → Hp → VK → XK → Prop := fun vs zs H Q E => ∃ ws rest, vs = ws ++ rest ∧ ws.length = n ∧ rest.length ≤ sizeLine ∧ ∀ p, H p = Option.none → sp (gV ws zs ++ [V.ref p]) (upd H p (.tup rest)) Q E
/-- def f(a, .., *v, k = d, ..): n positional values ahead, keywords ks, ms: the keyword-only parameters that lack -/
theorem fn_starK {pv : Str} (F : FunD K x qual params body scope [] kws f fd) (S : FnScope N (ps ++ [pv]) scope) (hCX : CXUp CX) (n : Nat) (ks : List Str) (ms : List (Str × V)) (g : {α : Type} → List α → List α → List α → List α) (hk : kws ≠ []) (hms : ∀ q ∈ ms, q ∈ kws)
    (hrel : ∀ {vs mz zs : List V} {us mv ws : List Value}, Vals vs us → Vals mz mv → Vals zs ws → Vals (g vs mz zs) (g us mv ws))
    (hgl : ∀ (us mv ws : List Value), us.length = n → mv.length = ms.length → ws.length = ks.length → (g us mv ws).length = ps.length)
    (hb : ∀ (D : Addr) (doc pm : Value) (an : Option Addr) (cdv ct : Value) (us rest mv ws : List Value), us.length = n → mv.length = ms.length → ws.length = ks.length →
      KwEnd D ((ms.map (·.1)).zip mv) (bindArgs (PySem.W.fnOf x qual params body scope .none (.ref D) doc pm an cdv ct) ⟨us ++ rest, ks.zip ws⟩) (newTuple rest >>= fun t => pure (ps.zip (g us mv ws) ++ [(pv, t)])))
    (hbody : ∀ (cdv : Value) (A : Around) (outer : List Env) (s : Shared) (H : Hp) (vs : List V) (Q : VK) (E : XK), Room k (A.deeper (envOfC qual scope s.heap.objs.size f cdv)) → sp vs H Q E →
      ∃ t, PSs (cxOf CX P w K mg base N qual scope f cdv A outer s H E) body t ∧ t { nx := fun _ H' => Q .non H', rt := Q } (start N vs) H) :
    FnK P w K mg base CX (k + 1) f ks (spStarK n (fun vs zs => g vs (ms.map (·.2)) zs) sp) := by
  obtain ⟨oc, od, dV, kV, doc, pm, an, cdv, ct, osl, rfl, lk, hcd, hD, hK⟩ := F.ex
  rcases hD with ⟨_, rfl⟩ | ⟨e, _⟩
  case inr => exact absurd rfl e
  rcases hK with e | ⟨D, rfl, hq⟩
  · exact absurd e hk
  obtain ⟨mv, hl, rk, hks⟩ := kwd_vals (ms := ms) fun q hm => hq q (hms q hm)
  intro A outer s H us ws vs zs Q E hr e0 r rz hzl hsp
  obtain ⟨v1, rest, ev, hl1, hz, hsp⟩ := hsp
  subst ev
  obtain ⟨u1, u2, eu, r1, r2⟩ := vals_split r
  subst eu
  have hn : H s.heap.objs.size = Option.none := e0.hok.fresh (Nat.le_refl _)
  have l1 : u1.length = n := by rw [← r1.length]; exact hl1
  have l2 : u2.length ≤ sizeLine := by rw [← r2.length]; exact hz
  have l3 : ws.length = ks.length := by rw [← rz.length]; exact hzl
  have gl := hgl u1 mv ws l1 hl l3
  have gr := hrel r1 rk rz
  refine run_bnd lk hcd S hr e0 (G := fun xs H2 => ∃ p, H p = Option.none ∧ xs = g v1 (ms.map (·.2)) zs ++ [V.ref p] ∧ H2 = upd H p (.tup rest)) (fun A' Ex Q' h => ?_) fun s2 H2 xs ⟨p, hp, ex, eH⟩ hr' => ?_
  · refine KwEnd.run (e0.mod.kin.keeps fun b o e => (e0.bs b o e).1) hks (hb D doc pm an cdv ct u1 u2 mv ws l1 hl l3) ?_
    refine wpAny_bind (wpAny_newTuple (wpAny_pure ?_) l2)
    have new : ObjOk P w (upd H s.heap.objs.size (.tup rest)) (s.heap.push ({ cls := .type "tuple", data := .seq u2.toArray } : Obj)) s.heap.objs.size (.tup rest) := ⟨hz, u2, r2, ⟨_, Heap.get?_push_size _ rfl, rfl, _, rfl⟩⟩
    have un := un_laid (fs := frs outer) (s := s) (o := ({ cls := .type "tuple", data := .seq u2.toArray } : Obj)) (u := .tup rest) hn
    have z := h _ _ (g v1 (ms.map (·.2)) zs ++ [V.ref s.heap.objs.size]) (g u1 mv ws ++ [Value.ref s.heap.objs.size]) (env0_laid e0 new) un rfl (fun e s' => hCX outer s H _ _ E e s' un (fun b o q => Heap.get?_push_of_some _ q) rfl) (gr.append (.cons rfl .nil))
      (by rw [List.length_append, List.length_append, gr.length, gl] <;> rfl) ⟨_, hn, rfl, rfl⟩
    rw [List.zip_append gl.symm] at z
    exact z
  · subst ex eH
    exact hbody cdv A outer s2 _ _ Q E hr' (hsp p hp)
end
section
variable {CX : CXT} {P : Program} {w : World} {K : PySem.W.Frag} {mg : Str → Option Value} {base : Heap} {k n : Nat} {f : Addr} {fd : FuncData} {ps ks : List Str} {sp : Sp} {g : List Value → List Value → List Value} {gV : List V → List V → List V}
/-- a promise with its binding, as a promise by keywords -/
theorem fnK_of (F : FnOk P w K mg base CX k f fd ps sp) (hb : KBn K fd ps n ks g gV) : FnK P w K mg base CX k f ks (fun vs zs H Q E => vs.length = n ∧ sp (gV vs zs) H Q E) := fun A outer s H us ws vs zs Q E hr e0 r rz hl hs =>
  F.run A outer s H ⟨us, ks.zip ws⟩ (g us ws) (gV vs zs) Q E hr e0 (hb.to s us ws (e0.mod.kin.keeps fun b o e => (e0.bs b o e).1) (r.length.symm.trans hs.1) (rz.length.symm.trans hl)) (hb.rel r rz) hs.2
end
/-! ### the call's node -/
section
variable {M : Model} {A : Around} {E : Value → Shared → Prop} {s : Shared}
theorem sk_lone {f : Value} {x : Sem Value} {pos : Pos} {keywords : List (Option Str × Sem Value)} {Q : Args → Shared → Prop} (hall : keywords.all (·.1.isSome) = true)
    (h : wpAny M A x (fun v s₁ => wpAny M A (evalAll (keywords.map (·.2))) (fun ks s₂ => PySem.W.StarOf M A E v (fun vs s₃ => Q ⟨vs, (keywords.filterMap (·.1)).zip ks⟩ s₃) s₂) E s₁) E s) :
    wpAny M A (evalArgs f true [(true, (do let v ← x; standAt pos; pure v))] keywords) Q E s := by
  unfold evalArgs
  first
    | refine wpAny_bind (wpAny_bind (wpAny_mono h (fun v s₁ h₁ => wpAny_bind (wpAny_standAt (wpAny_pure ?_))) fun _ _ x => x))
    | refine wpAny_bind (wpAny_bind (wpAny_bind (wpAny_mono h (fun v s₁ h₁ => wpAny_bind (wpAny_standAt (wpAny_pure (wpAny_pure ?_)))) fun _ _ x => x)))
  refine wpAny_holding ?_
  simp only [hall, if_true]
  refine wpAny_bind (wpAny_mono h₁ (fun ks s₂ h₂ => ?_) fun _ _ x => x)
  unfold PySem.W.StarOf at h₂
  refine wpAny_bind ?_
  refine wpAny_bind (wpAny_mono h₂ (fun b s₃ h₃ => ?_) fun _ _ x => x)
  obtain ⟨rfl, h₃⟩ := h₃
  have z := wpAny_holding (vs := (((keywords.filterMap (·.1)).zip ks).map (·.2))) (wpAny_mono h₃ (fun vs s₄ h₄ => h₄) fun _ _ x => x)
  try simp only [Bool.false_eq_true, if_false]
  first
    | exact wpAny_mono z (fun vs s₄ h₄ => wpAny_pure h₄) fun _ _ x => x
    | exact wpAny_bind (wpAny_pure (wpAny_mono z (fun vs s₄ h₄ => wpAny_pure h₄) fun _ _ x => x))
theorem sk_call {f : Value} {first : List Value} {pos : Pos} {Q : Value → Shared → Prop} {P : Heap → Prop} {args : List (Bool × Sem Value)} {kws : List (Option Str × Sem Value)} (hst : args.any (·.1) = true)
    (hk : ∀ h, P h → ∃ k, (k = Keeper.frame ∨ k = Keeper.machine ∨ k = Keeper.boundFrame) ∧ PySem.W.Looks M h (keeperOf f) k)
    (h : wpAny M A (evalArgs f true args kws) (fun a s₁ => P s₁.heap ∧ wpAny M A (call f (first ++ a.pos) a.kw) Q E s₁) E s) : wpAny M A (callWith pos f first args kws) Q E s := by
  unfold callWith
  refine wpAny_bind (wpAny_holding (wpAny_mono h (fun a s₁ h₁ => wpAny_bind (wpAny_standAt ?_)) fun _ _ x => x))
  obtain ⟨k, hk', L⟩ := hk _ h₁.1
  simp only [hst, Bool.true_or]
  refine wpAny_bind (L.here ?_)
  have tail : ∀ {t : Sem Value}, wpAny M A t Q E s₁ → wpAny M A (t >>= fun r => holding [r] point >>= fun _ => pure r) Q E s₁ :=
    fun ht => wpAny_bind (wpAny_mono ht (fun r s₂ hr => wpAny_bind (wpAny_holding (wpAny_point (wpAny_pure hr)))) fun _ _ x => x)
  have marked (mk : Value) : wpAny M A (callMarked mk f (first ++ a.pos) a.kw) Q E s₁ := by unfold callMarked; exact Calls.wpAny_keep h₁.2
  rcases hk' with rfl | rfl | rfl <;> dsimp only <;> first | exact tail (marked _) | exact tail (wpAny_operating h₁.2)
end
/-! ### making -/
/-- what the making of a C asks: behind the values t gives and the keywords' values, a new instance and its dict -/
def spMk (C : Addr) (sp : List V → List V → Hp → VK → XK → Prop) (E : XK) (vs zs : List V) (H : Hp) (Q : VK) : Prop := ∀ x dx, H x = Option.none → H dx = Option.none → dx ≠ x →
  sp (V.ref x :: vs) zs (upd (upd H dx (.own x)) x (.ins C dx [])) (fun v H2 => v = .non ∧ Q (.ref x) H2) E
section
variable {X : Cx} {CX : CXT} {k n i : Nat} {f C : Addr} {ks : List Str} {sp : List V → List V → Hp → VK → XK → Prop} {E : XK} {x m : Str} {p pos sp_ apos : Pos} {e o : Expr} {es : List Expr} {kws : List Keyword} {te ta : TE} {t tk : TA} {mc : Value} {q g : Addr}
theorem run_makeK {pins : List (Addr × Obj)} {σ : L2.St} {H : Hp} {s : Shared} {Q : VK} {us ws : List Value} {vs zs : List V} (M : Mk X.K C f) (F : FnK X.prog X.w X.K X.mg X.base CX k f ks sp) (hr : Room (k + 1) X.A) (hx : Passes CX X E) (I : Inv X pins σ H s) (r : Vals vs us) (rz : Vals zs ws) (hl : zs.length = ks.length)
    (h : spMk C sp E vs zs H Q) : wpAny (model X.prog X.w) X.A (call (.ref C) us (ks.zip ws)) (EP X pins σ Q) X.xe s := by
  have hq := h (s.heap.objs.size + 1) s.heap.objs.size (I.hok.fresh (Nat.le_succ _)) (I.hok.fresh (Nat.le_refl _)) (Nat.ne_of_lt (Nat.lt_succ_self _))
  have I2 := Inv.made (C := C) I
  have r2 : Vals (V.ref (s.heap.objs.size + 1) :: vs) (Value.ref (s.heap.objs.size + 1) :: us) := .cons rfl r
  refine wpAny_call (make_map (f := f) I.kIn M.makes M.init (beq_iff_eq.mp M.fn) (codeAny_mono (F _ X.stack _ _ (Value.ref (s.heap.objs.size + 1) :: us) ws _ zs _ E (hr.make C us (ks.zip ws)) (I2.env0.make C us (ks.zip ws)) r2 rz hl hq) fun r s' hq' => ?_))
  cases r with
  | error e => exact hx pins σ _ _ e s' I2 hq'
  | ok fl =>
    cases fl with
    | ret u =>
      obtain ⟨v, H', I3, rv, ev, q3⟩ := I2.after hq'
      subst ev
      exact ⟨rv, ⟨V.ref (s.heap.objs.size + 1), H', I3, rfl, q3⟩⟩
    | next => exact False.elim hq'
    | brk => exact False.elim hq'
    | cont => exact False.elim hq'
/-- c(*e, k = v, ..), c a name whose value is the class at C -/
def tMakeT (K : PySem.W.Frag) (C : Addr) (m : Nat) (sp : List V → List V → Hp → VK → XK → Prop) (E : XK) (tf te : TE) (tk : TA) : TE := fun σ H Q => tf σ H fun c H0 => c = .ref C ∧ te σ H0 fun y H1 => tk σ H1 fun zs H2 => zs.length = m ∧ ∃ a xs, y = V.ref a ∧ (SqT K H2 a xs ∨ SqL K H2 a xs) ∧ spMk C sp E xs zs H2 Q
theorem pe_makeT {tf : TE} (M : Mk X.K C f) (F : FnK X.prog X.w X.K X.mg X.base CX k f ks sp) (hr : Room (k + 1) X.A) (hx : Passes CX X E) (hf : PE X (.Name x p) tf) (he : PE X e te) (hkw : PK X kws tk)
    (hall : (backToKw pos (keywordEach kws X.env)).all (·.1.isSome) = true := by rfl) (hks : (backToKw pos (keywordEach kws X.env)).filterMap (·.1) = ks := by rfl)
    (hst : starEach [.Starred e sp_] X.env = [(true, eval e X.env)] := by rfl) :
    PE X (.Call (.Name x p) [.Starred e sp_] kws pos) (tMakeT X.K C ks.length sp E tf te tk) := by
  refine ⟨fun pins s σ H Q I h => ?_⟩
  refine wpAny_Call_Name_kw (thn (hf.run pins s σ H _ I h) fun u s1 ⟨c, H1, I1, rc, ec, q1⟩ => ?_)
  subst ec
  obtain rfl : u = Value.ref C := rc
  rw [hst]
  refine sk_call (P := X.K.In) rfl (PySem.W.keeps_K M.kp) (sk_lone hall (thn (he.run pins s1 σ H1 _ I1 q1) fun v s2 ⟨y, H2, I2, ry, q2⟩ => ?_))
  refine thn (hkw.run pos pins s2 σ H2 _ I2 q2) fun ws s3 ⟨zs, H3, I3, rz, l2, a, xs, ey, hxs, q3⟩ => ?_
  subst ey
  obtain rfl : v = Value.ref a := ry
  refine star_any I3 hxs fun us s4 I4 rv => ⟨I4.kIn, ?_⟩
  rw [hks]
  exact run_makeK M F hr hx I4 rv rz l2 q3
/-! ### classmethods -/
theorem run_cmK {Q : VK} {pins : List (Addr × Obj)} {σ : L2.St} {H : Hp} {s : Shared} {us ws : List Value} {vs zs : List V} (F : FnK X.prog X.w X.K X.mg X.base CX k g ks sp) (hr : Room k X.A) (hx : Passes CX X E) (I : Inv X ((q, PySem.W.methodObj (.ref g) (.ref C)) :: pins) σ H s)
    (r : Vals vs us) (rz : Vals zs ws) (hl : zs.length = ks.length) (h : sp (.ref C :: vs) zs H Q E) : wpAny (model X.prog X.w) X.A (call (.ref q) us (ks.zip ws)) (EP X pins σ Q) X.xe s := by
  have z : wpAny (model X.prog X.w) X.A (call (.ref q) us (ks.zip ws)) (EP X ((q, PySem.W.methodObj (.ref g) (.ref C)) :: pins) σ Q) X.xe s := by
    refine wpAny_call (PySem.W.method_call (ClX.pin_at I) (codeAny_mono (F X.A X.stack s H (.ref C :: us) ws (.ref C :: vs) zs Q E hr I.env0 (.cons rfl r) rz hl h) fun r s' hq => ?_))
    cases r with
    | error e => exact hx _ σ H s e s' I hq
    | ok fl =>
      cases fl with
      | ret u => exact I.after hq
      | next => exact False.elim hq
      | brk => exact False.elim hq
      | cont => exact False.elim hq
  exact thn z fun _ _ y => ClX.unpinE y
/-- C.m(e, .., k = v, ..), m a classmethod of C -/
def tCMethK (C : Addr) (m : Nat) (sp : List V → List V → Hp → VK → XK → Prop) (E : XK) (ta : TE) (t tk : TA) : TE := fun σ H Q => ta σ H fun x H1 => x = .ref C ∧ t σ H1 fun vs H2 => tk σ H2 fun zs H3 => zs.length = m ∧ sp (.ref C :: vs) zs H3 Q E
theorem pe_cmethK {pl : Sem Bool} (he : PE X o ta) (r : ClX.CRead X.K C mc) (c : ClX.CMet X.K C mc m q g) (F : FnK X.prog X.w X.K X.mg X.base CX k g ks sp) (hr : Room k X.A) (hx : Passes CX X E) (ha : PA X (e :: es) t) (hkw : PK X kws tk)
    (hall : (backToKw pos (keywordEach kws X.env)).all (·.1.isSome) = true := by rfl) (hks : (backToKw pos (keywordEach kws X.env)).filterMap (·.1) = ks := by rfl)
    (hst : starEach (e :: es) X.env = (false, eval e X.env) :: starEach es X.env := by rfl) (hpl : ((backTo pos (starEach (e :: es) X.env)).any (·.1) || (backToKw pos (keywordEach kws X.env)).any (·.1.isNone)) = false := by rfl)
    (ht : eval (.Call (.Attribute o m apos) (e :: es) kws pos) X.env = (do
      let ov ← eval o X.env
      standAt apos.atName
      let (f, first) ← holding [ov] (getMethod ov m pl)
      callWith pos f first (backTo pos (starEach (e :: es) X.env)) (backToKw pos (keywordEach kws X.env))) := by rfl) :
    PE X (.Call (.Attribute o m apos) (e :: es) kws pos) (tCMethK C ks.length sp E ta t tk) := by
  refine ⟨fun pins s σ H Q I h => ?_⟩
  refine PySem.W.methodCall_KW (pl := pl) (thn (he.run pins s σ H _ I h) fun u s1 ⟨x, H1, I1, rx, ex, q1⟩ => ?_) ht
  subst ex
  obtain rfl : u = Value.ref C := rx
  refine ClX.getmethcm_ok I1 r c fun s2 I2 => ?_
  refine PySem.W.callWith_of (P := PySem.W.MethP X.K _ g (.ref C)) hpl (PySem.W.keeps_M c.fi) ?_
  have z := ha.run pos _ s2 σ H1 _ I2 q1
  rw [hst] at z ⊢
  refine evalArgs_kw hall ?_
  refine thn z fun us s3 ⟨vs, H2, I3, rv, q2⟩ => ?_
  refine thn (hkw.run pos _ s3 σ H2 _ I3 q2) fun ws s4 ⟨zs, H3, I4, rz, l2, q3⟩ => ⟨⟨ClX.pin_at I4, I4.kIn⟩, ?_⟩
  rw [hks]
  exact run_cmK F hr hx I4 rv rz l2 q3
end
end StK
namespace Sj
open PySem L2 Sup
open NdefX (NF NScope ncx envF startF nscope_by)
open C8 (pss_cut tCut)
abbrev sIsInt : Stmt := top 11
abbrev sBetw : Stmt := top 12
abbrev sWrong : Stmt := top 20
theorem tyx_same {K : PySem.W.Frag} {H H' : Hp} {x : V} {t : Value} (h : TyX K H x t) (s : Same H H') : TyX K H' x t := by
  cases h with
  | base b =>
    refine .base ?_
    cases b with
    | non => exact .non
    | bl x => exact .bl x
    | int i => exact .int i
    | str x => exact .str x
    | flt x => exact .flt x
    | lst e => exact .lst (s _ _ e)
    | frz e => exact .frz (s _ _ e)
    | tup e => exact .tup (s _ _ e)
    | dK e => exact .dK (s _ _ e)
    | dT e => exact .dT (s _ _ e)
    | ins e c h1 h2 h3 h4 => exact .ins (s _ _ e) c h1 h2 h3 h4
  | byt b => exact .byt b
  | set e => exact .set (s _ _ e)
  | kList e c => exact .kList e c
  | kTuple e c => exact .kTuple e c
  | kDict e c => exact .kDict e c
  | fTuple e => exact .fTuple (s _ _ e)
  | fDict e => exact .fDict (s _ _ e)
/-- the three classes of legs -/
structure Kinds where
  drv : Addr
  lis : Addr
  leg : Addr
/-- isinstance(x, (Driver, Listener)) -/
def IsL (K : PySem.W.Frag) (ks : Kinds) (H : Hp) (x : V) (b : Bool) : Prop := ∃ t, TyX K H x t ∧ PySem.W.kitAny K t [.ref ks.drv, .ref ks.lis] = some b
theorem IsL.same {K : PySem.W.Frag} {ks : Kinds} {H H' : Hp} {x : V} {b : Bool} (h : IsL K ks H x b) (s : Same H H') : IsL K ks H' x b := h.imp fun _ ⟨a, e⟩ => ⟨tyx_same a s, e⟩
/-- a driver or a listener -/
structure LegR where
  a : Addr
  C : Addr
  z : Str
def LegR.ok (ks : Kinds) (H : Hp) (r : LegR) : Prop := (r.C = ks.drv ∨ r.C = ks.lis) ∧ LegAt H r.a r.C r.z
theorem LegR.ok.same {ks : Kinds} {H H' : Hp} {r : LegR} (h : r.ok ks H) (s : Same H H') : r.ok ks H' := ⟨h.1, h.2.same s⟩
def refs (rs : List LegR) : List V := rs.map fun r => .ref r.a
def names (rs : List LegR) : List Str := rs.map (·.z)
/-- an integer from 1 to 3 -/
def TopIs (K : PySem.W.Frag) (H : Hp) (T : V) (b : Bool) : Prop := (∃ i : Int, T = .int i ∧ b = (decide (1 ≤ i) && decide (i ≤ 3))) ∨ ∃ (t : String) (m c : Bool), TyX K H T (.type t) ∧ kitB t "int" = some m ∧ kitB t "bool" = some c ∧ (m && !c) = false ∧ b = false
def RailIs (K : PySem.W.Frag) (H : Hp) (G : V) (b : Bool) : Prop := ∃ t : String, TyX K H G (.type t) ∧ kitB t "bool" = some b
theorem TopIs.same {K : PySem.W.Frag} {H H' : Hp} {T : V} {b : Bool} (h : TopIs K H T b) (s : Same H H') : TopIs K H' T b := h.imp id fun ⟨t, m, c, a, r⟩ => ⟨t, m, c, tyx_same a s, r⟩
theorem RailIs.same {K : PySem.W.Frag} {H H' : Hp} {T : V} {b : Bool} (h : RailIs K H T b) (s : Same H H') : RailIs K H' T b := h.imp fun _ ⟨a, r⟩ => ⟨tyx_same a s, r⟩
def spIsInt (K : PySem.W.Frag) : Sp := fun vs H Q _ => ∃ (x : V) (t : String) (b c : Bool), vs = [x] ∧ TyX K H x (.type t) ∧ kitB t "int" = some b ∧ kitB t "bool" = some c ∧ Q (.bl (b && !c)) H
def spBetw (K : PySem.W.Frag) : Sp := fun vs H Q _ => ∃ (T : V) (b : Bool), vs = [T, .int 1, .int 3] ∧ TopIs K H T b ∧ Q (.bl b) H
section
variable {P : Program} {w : World} {K : PySem.W.Frag} {mg : Str → Option Value} {base : Heap}
theorem scIsInt : FnScope ["value"] ["value"] (defScope sIsInt) := ⟨rfl, rfl, rfl, by decide +kernel, rfl, by decide +kernel, by decide +kernel⟩
theorem scBetw : FnScope ["value", "least", "most"] ["value", "least", "most"] (defScope sBetw) := ⟨rfl, rfl, rfl, by decide +kernel, rfl, by decide +kernel, by decide +kernel⟩
theorem ok_isint {f : Addr} {fd : FuncData} (F : Fun K "is_integer" "is_integer" sIsInt f fd) (mi : mg "isinstance" = none) (mn : mg "int" = none) (mb : mg "bool" = none) : FnOk P w K mg base CX0 1 f fd ["value"] (spIsInt K) := by
  refine F.ok scIsInt (fun vs H Q E h => ?_) (fun cdv A outer s H vs Q E hr h => ?_)
  · obtain ⟨x, t, b, c, rfl, _⟩ := h
    rfl
  · obtain ⟨x, t, b, c, rfl, ht, hb, hc, k⟩ := h
    refine ⟨_, pss_one (ps_ret (pe_and (pe_callB call_isi (by rfl) mi (by decide +kernel) (pa_cons (pv 0) (pa_cons (pe_bltn (by rfl) mn (by decide +kernel) (v := .ty "int") rfl) pa_nil)))
      (pe_one (pe_not (pe_callB call_isi (by rfl) mi (by decide +kernel) (pa_cons (pv 0) (pa_cons (pe_bltn (by rfl) mb (by decide +kernel) (v := .ty "bool") rfl) pa_nil))))))), ?_⟩
    refine ⟨_, rfl, _, _, _, _, b, rfl, .ty _, ht, kit_ty hb, _, rfl, ?_⟩
    cases b with
    | false => exact iteF k
    | true => exact iteT ⟨_, rfl, _, _, _, _, c, rfl, .ty _, ht, kit_ty hc, _, rfl, k⟩
theorem ok_betw {f fI : Addr} {fd fdI : FuncData} (F : Fun K "is_between" "is_between" sBetw f fd) (FI : FnOk P w K mg base CX0 1 fI fdI ["value"] (spIsInt K)) (mI : mg "is_integer" = some (.ref fI)) (kI : PySem.W.keepIn K (.ref fI) = true) (bI : Binds K fdI ["value"] []) :
    FnOk P w K mg base CX0 2 f fd ["value", "least", "most"] (spBetw K) := by
  refine F.ok scBetw (fun vs H Q E h => ?_) (fun cdv A outer s H vs Q E hr h => ?_)
  · obtain ⟨T, b, rfl, _⟩ := h
    rfl
  · obtain ⟨T, b, rfl, ht, k⟩ := h
    refine ⟨_, pss_one (ps_ret (pe_and (pe_call FI hr rfl mI kI bI .nil pass0 (pa_cons (pv 0) pa_nil)) (pe_one (pe_chain op_le op_le (pv 1) (pv 0) (pv 2))))), ?_⟩
    rcases ht with ⟨i, rfl, rfl⟩ | ⟨t, m, c, ht, hm, hc, e, rfl⟩
    · refine ⟨_, rfl, _, _, _, _, rfl, .base (.int i), (by decide +kernel : kitB "int" "int" = some true), (by decide +kernel : kitB "int" "bool" = some false), _, rfl, ?_⟩
      refine iteT ⟨_, rfl, _, rfl, _, _, rfl, rfl, _, rfl, ?_⟩
      by_cases h1 : (1 : Int) ≤ i
      · rw [decide_eq_true h1] at k ⊢
        exact iteT ⟨_, rfl, _, _, rfl, rfl, k⟩
      · rw [decide_eq_false h1] at k ⊢
        exact iteF k
    · refine ⟨_, rfl, _, _, _, _, rfl, ht, hm, hc, _, rfl, ?_⟩
      rw [e]
      exact iteF k
end
end Sj
namespace Sj
open PySem L2 Sup
open NdefX (NF NScope ncx envF startF nscope_by)
open C8 (pss_cut tCut)
/-- the first reason, the legs being right -/
def due (zs : List Str) (tb rb : Bool) : V := if 40 < zs.length then .str "many" else if zs.Nodup then (if tb = false then .str "top" else if rb = false then .str "rails" else .non) else .str "name"
/-- wrong_frame(legs, top, ground, power) -/
def spWrong (K : PySem.W.Frag) (ks : Kinds) : Sp := fun vs H Q _ => ∃ (t : Addr) (xs : List V) (T G R : V) (tb gb pb : Bool), vs = [.ref t, T, G, R] ∧ H t = some (.tup xs) ∧ xs.length ≤ 1000 ∧ TopIs K H T tb ∧ RailIs K H G gb ∧ RailIs K H R pb ∧
  ((∃ bs : List Bool, bs.length = xs.length ∧ bs.all id = false ∧ (∀ (i : Nat) (x : V) (b : Bool), xs[i]? = some x → bs[i]? = some b → IsL K ks H x b) ∧ ∀ H', Same H H' → Q (.str "legs") H') ∨
   ∃ rs : List LegR, xs = refs rs ∧ (∀ r ∈ rs, r.ok ks H) ∧ ∀ H', Same H H' → Q (due (names rs) tb (gb && pb)) H')
/-- what the text gives -/
structure WrT (P : Program) (w : World) (K : PySem.W.Frag) (mg : Str → Option Value) (base : Heap) (ks : Kinds) (CF : Addr) : Prop where
  isi : mg "isinstance" = none
  all : mg "all" = none
  len : mg "len" = none
  bool : mg "bool" = none
  mD : mg "Driver" = some (.ref ks.drv)
  mI : mg "Listener" = some (.ref ks.lis)
  mF : mg "Frame" = some (.ref CF)
  most : ∃ mc u, ClX.CRead K CF mc ∧ ClX.CVal K CF mc "MOST" (.int 40) u
  icD : IsiC K ks.drv
  icI : IsiC K ks.lis
  nD : NoAttr K ks.drv "name"
  nI : NoAttr K ks.lis "name"
  dd : PySem.W.kitAny K (.ref ks.drv) [.ref ks.drv, .ref ks.lis] = some true
  ii : PySem.W.kitAny K (.ref ks.lis) [.ref ks.drv, .ref ks.lis] = some true
  betw : ∃ fB fdB, mg "is_between" = some (.ref fB) ∧ PySem.W.keepIn K (.ref fB) = true ∧ Binds K fdB ["value", "least", "most"] [] ∧ FnOk P w K mg base CX0 2 fB fdB ["value", "least", "most"] (spBetw K)
theorem LegR.ok.isl {P : Program} {w : World} {K : PySem.W.Frag} {mg : Str → Option Value} {base : Heap} {ks : Kinds} {CF : Addr} {H : Hp} {r : LegR} (h : r.ok ks H) (T : WrT P w K mg base ks CF) : IsL K ks H (.ref r.a) true := by
  obtain ⟨hc, hl⟩ := h
  rcases hc with e | e
  · rw [e] at hl
    exact ⟨_, hl.ty T.icD, T.dd⟩
  · rw [e] at hl
    exact ⟨_, hl.ty T.icI, T.ii⟩
/-- the reading of isinstance(leg, (Driver, Listener)) -/
def teIsL (K : PySem.W.Frag) (ks : Kinds) : TE := tCB (rIsiT K) (tCons (tVar 4) (tCons (tTup (tCons (tC (.ref ks.drv)) (tCons (tC (.ref ks.lis)) tNil))) tNil))
def teNm (K : PySem.W.Frag) : TE := tFld K (tVar 4) "name"
theorem isl_rd {K : PySem.W.Frag} {ks : Kinds} {σ : L2.St} {H : Hp} {x : V} {b : Bool} {Q : VK} (hx : σ[4]? = some (some x)) (h : IsL K ks H x b) (k : ∀ H', Same H H' → Q (.bl b) H') : teIsL K ks σ H Q := by
  obtain ⟨t, ty, e⟩ := h
  refine ⟨x, hx, by show 2 ≤ sizeLine; decide, fun p hp => ?_⟩
  have s1 : Same H (upd H p (.tup [.ref ks.drv, .ref ks.lis])) := fun b o e => by rw [upd_ne (ne_of_none e hp)]; exact e
  refine ⟨x, p, [.ref ks.drv, .ref ks.lis], t, [.ref ks.drv, .ref ks.lis], b, rfl, upd_same, .cons (.own _) (.cons (.own _) .nil), tyx_same ty s1, e, k _ s1⟩
abbrev stW (t : Addr) (T G R : V) : L2.St := L2.start ["legs", "top", "ground", "power", "leg"] [.ref t, T, G, R]
theorem isl_walk {K : PySem.W.Frag} {ks : Kinds} {t D : Addr} {T G R : V} {xs : List V} {bs : List Bool} {H : Hp} {Qd : Hp → Prop} (ht : H t = some (.tup xs)) (hD : H D = none) (hl : bs.length = xs.length) (hx : xs.length ≤ 1000)
    (hb : ∀ (i : Nat) (x : V) (b : Bool), xs[i]? = some x → bs[i]? = some b → IsL K ks H x b) (hd : ∀ H', Same H H' → H' D = some (.lst (bs.map V.bl)) → Qd H') :
    ∃ W : Nat → Nat → Hp → Prop, (∃ m, W 0 m (upd H D (.lst []))) ∧ ∀ i m H, W i m H →
      ((Itt K t).stop i H ∧ Qd H) ∨ ((Itt K t).go i H ∧ ∃ Nx : Hp → Prop, (∀ H', Nx H' → ∃ m', m' < m ∧ W (i + 1) m' H') ∧ ∀ x H', (Itt K t).yld i H x H' → gName 4 x (wipe (stW t T G R) [4]) H' fun σ2 H2 => wipe σ2 [4] = wipe (stW t T G R) [4] ∧ tYes σ2 H2 fun b H3 =>
        if b = true then teIsL K ks σ2 H3 fun y H4 => ∃ acc, H4 D = some (.lst acc) ∧ acc.length < sizeLine ∧ Nx (upd H4 D (.lst (acc ++ [y]))) else Nx H3) := by
  have sD : ∀ (o : HO), Same H (upd H D o) := fun o b u e => by rw [upd_ne (ne_of_none e hD)]; exact e
  refine lc_it (walk_tup (K := K) (a := t) (xs := xs)) (fun i H' => Same H H' ∧ H' D = some (.lst ((bs.take i).map V.bl))) ⟨sD _, by rw [upd_same]; rfl⟩ (fun i H' _ p => .inl (.inl (p.1 _ _ ht))) ?_ ?_
  · rintro i x H1 H2 hi ⟨s1, d1⟩ ⟨rfl, hx1⟩
    refine ⟨rfl, ?_⟩
    have hi' : i < bs.length := by omega
    have hb1 : bs[i]? = some bs[i] := List.getElem?_eq_getElem hi'
    unfold tYes
    dsimp only
    rw [if_pos rfl]
    refine isl_rd rfl ((hb i x _ hx1 hb1).same s1) fun H3 s3 => ⟨_, s3 _ _ d1, ?_, ?_, ?_⟩
    · rw [List.length_map, List.length_take]
      exact Nat.lt_of_le_of_lt (Nat.min_le_right _ _) (Nat.lt_of_le_of_lt (show bs.length ≤ 1000 by omega) (by decide))
    · exact fun b o e => by
        rw [upd_ne (ne_of_none e hD)]
        exact s3 _ _ (s1 _ _ e)
    · rw [upd_same, List.take_add_one, hb1, List.map_append]
      rfl
  · rintro H1 ⟨s1, d1⟩
    rw [← hl, List.take_length] at d1
    exact hd H1 s1 d1
/-- the set of the names -/
theorem names_walk {P : Program} {w : World} {K : PySem.W.Frag} {ks : Kinds} {t D : Addr} {T G R : V} {rs : List LegR} {H : Hp} {Qd : Hp → Prop} (ht : H t = some (.tup (refs rs))) (hD : H D = none) (hx : rs.length ≤ 1000) (hr : ∀ r ∈ rs, r.ok ks H)
    (cD : Cls K ks.drv) (cI : Cls K ks.lis) (nD : NoAttr K ks.drv "name") (nI : NoAttr K ks.lis "name") (hd : ∀ H' S, Same H H' → H' D = some (SetK P w D S (SetT.nd (names rs).reverse)) → Qd H') :
    ∃ W : Nat → Nat → Hp → Prop, (∃ m, W 0 m (upd H D (SetT.zeroK P w D))) ∧ SetT.loopT P w D (Itt K t) (gName 4) tYes (teNm K) [4] (stW t T G R) W Qd := by
  have sD : ∀ (o : HO), Same H (upd H D o) := fun o b u e => by rw [upd_ne (ne_of_none e hD)]; exact e
  have hlen : (refs rs).length = rs.length := by unfold refs; rw [List.length_map]
  refine SetT.set_it (walk_tup (K := K) (a := t) (xs := refs rs)) (fun i H' => Same H H' ∧ H' D = some (SetK P w D (fun j : Key => (names (rs.take i)).any fun z => decide (j = Sum.inr z)) (SetT.nd (names (rs.take i)).reverse))) ⟨sD _, ?_⟩ (fun i H' _ p => .inl (.inl (p.1 _ _ ht))) ?_ ?_
  · rw [upd_same]
    rfl
  · rintro i x H1 H2 hi ⟨s1, d1⟩ ⟨rfl, hx1⟩
    rw [hlen] at hi
    have e1 : (refs rs)[i]? = some (.ref rs[i].a) := by unfold refs; rw [List.getElem?_map, List.getElem?_eq_getElem hi]; rfl
    rw [e1] at hx1
    obtain rfl := Option.some.inj hx1
    obtain ⟨hc, dx, ea⟩ := (hr _ (List.getElem_mem hi)).same s1
    have fld : ∃ C, H2 rs[i].a = some (.ins C dx (legF rs[i].z)) ∧ Cls K C ∧ NoAttr K C "name" := by
      refine ⟨_, ea, ?_⟩
      rcases hc with e | e <;> rw [e]
      · exact ⟨cD, nD⟩
      · exact ⟨cI, nI⟩
    obtain ⟨C, ea', cl, nn⟩ := fld
    unfold SetT.turnT tYes
    refine ⟨rfl, ?_⟩
    dsimp only
    rw [if_pos rfl]
    refine ⟨_, rfl, _, C, dx, _, _, rfl, ea', cl, nn, legF_name _, ?_⟩
    have et : names (rs.take (i + 1)) = names (rs.take i) ++ [rs[i].z] := by
      unfold names
      rw [List.take_add_one, List.getElem?_eq_getElem hi, List.map_append]
      rfl
    refine ⟨Sum.inr rs[i].z, _, _, rfl, d1, ?_, ?_, ?_⟩
    · have h1 := SetT.nd_le (names (rs.take i)).reverse
      rw [List.length_reverse] at h1
      have h2 : (names (rs.take i)).length ≤ 1000 := by
        unfold names
        rw [List.length_map, List.length_take]
        omega
      exact Nat.lt_of_le_of_lt (show _ ≤ 1001 by omega) (by decide)
    · exact fun b o e => by
        rw [upd_ne (ne_of_none e hD)]
        exact s1 _ _ e
    · rw [upd_same, et]
      congr 2
      · funext j
        rw [List.any_append]
        simp
      · rw [List.reverse_append]
        show _ = if rs[i].z ∈ (names (rs.take i)).reverse then SetT.nd (names (rs.take i)).reverse else SetT.nd (names (rs.take i)).reverse + 1
        have e9 : ((names (rs.take i)).any fun z => decide ((Sum.inr rs[i].z : Key) = Sum.inr z)) = true ↔ rs[i].z ∈ (names (rs.take i)).reverse := by
          rw [List.any_eq_true, List.mem_reverse]
          constructor
          · rintro ⟨z, hz, e⟩
            have e := of_decide_eq_true e
            injection e with e
            rw [e]
            exact hz
          · exact fun h => ⟨_, h, decide_eq_true rfl⟩
        by_cases h9 : rs[i].z ∈ (names (rs.take i)).reverse
        · rw [if_pos h9, if_pos (e9.mpr h9)]
        · rw [if_neg h9, if_neg fun z => h9 (e9.mp z)]
  · rintro H1 ⟨s1, d1⟩
    rw [hlen, List.take_length] at d1
    exact hd H1 _ s1 d1
section
variable {P : Program} {w : World} {K : PySem.W.Frag} {mg : Str → Option Value} {base : Heap}
theorem scWrong : FnScope ["legs", "top", "ground", "power", "leg"] ["legs", "top", "ground", "power"] (defScope sWrong) := ⟨rfl, rfl, rfl, by decide +kernel, rfl, by decide +kernel, by decide +kernel⟩
theorem ok_wrong {f CF : Addr} {fd : FuncData} {ks : Kinds} (F : Fun K "wrong_frame" "wrong_frame" sWrong f fd) (T : WrT P w K mg base ks CF) : FnOk P w K mg base CX0 3 f fd ["legs", "top", "ground", "power"] (spWrong K ks) := by
  obtain ⟨fB, fdB, mB, kB, bB, GB⟩ := T.betw
  obtain ⟨mc, u, cr, cv⟩ := T.most
  refine F.ok scWrong (fun vs H Q E h => ?_) (fun cdv A outer s H vs Q E hr h => ?_)
  · obtain ⟨t, xs, T, G, R, tb, gb, pb, rfl, _⟩ := h
    rfl
  · obtain ⟨t, xs, TT, G, R, tb, gb, pb, rfl, ht, hlen, hT, hG, hR, h⟩ := h
    refine ⟨_, pss_cons (ps_if (pt_not (pt_val (pe_callB (cr_all rfl) (by rfl) T.all (by decide +kernel) (pa_cons
          (pe_lc (te := teIsL K ks) (own := [("leg", 4)]) (g := gName 4) (tt := tYes) rfl scWrong.nd (pi_tup (pv 0)) (blkOk_by (N := ["legs", "top", "ground", "power", "leg"]) (sc := defScope sWrong) (by decide +kernel))
            (fun _ _ _ _ _ => pg_name (i := 4) scWrong.nd rfl (Or.inl rfl)) (fun _ _ _ _ _ => pts_nil) (fun _ _ _ _ _ => pe_callB call_isiT (by rfl) T.isi (by decide +kernel) (pa_cons (pv 4) (pa_cons (pe_tup (pa_cons (pe_glob rfl T.mD (v := .ref ks.drv) rfl) (pa_cons (pe_glob rfl T.mI (v := .ref ks.lis) rfl) pa_nil))) pa_nil)))) pa_nil))))
        (pss_one (ps_ret pe_str)) pss_nil)
      (pss_cons (ps_if (pt_cmpR op_gt (pe_callB call_len_seq (by rfl) T.len PySem.boot_len (pa_cons (pv 0) pa_nil)) (ClX.pe_cval (pe_glob rfl T.mF (v := .ref CF) rfl)) (nomark _)) (pss_one (ps_ret pe_str)) pss_nil)
      (pss_cons (ps_if (pt_cmpR op_lt (pe_callB SetT.call_len_setK (by rfl) T.len PySem.boot_len (pa_cons
          (SetT.pe_set (te := teNm K) (own := [("leg", 4)]) (g := gName 4) (tt := tYes) rfl scWrong.nd (pi_tup (pv 0)) (blkOk_by (N := ["legs", "top", "ground", "power", "leg"]) (sc := defScope sWrong) (by decide +kernel))
            (fun _ _ _ _ _ => pg_name (i := 4) scWrong.nd rfl (Or.inl rfl)) (fun _ _ _ _ _ => pts_nil) (fun _ _ _ _ _ => pe_fld (pv 4) rfl)) pa_nil)) (pe_callB call_len_seq (by rfl) T.len PySem.boot_len (pa_cons (pv 0) pa_nil)) (nomark _)) (pss_one (ps_ret pe_str)) pss_nil)
      (pss_cons (ps_if (pt_not (pt_val (pe_call GB (hr.mono (by decide)) rfl mB kB bB .nil pass0 (pa_cons (pv 1) (pa_cons pe_int (pa_cons pe_int pa_nil)))))) (pss_one (ps_ret pe_str)) pss_nil)
      (pss_cons (ps_if (PW.pt (pw_or (pt_not (pt_val (pe_callB call_isi (by rfl) T.isi (by decide +kernel) (pa_cons (pv 2) (pa_cons (pe_bltn (by rfl) T.bool (by decide +kernel) (v := .ty "bool") rfl) pa_nil)))))
          (pw_or1 (pt_not (pt_val (pe_callB call_isi (by rfl) T.isi (by decide +kernel) (pa_cons (pv 3) (pa_cons (pe_bltn (by rfl) T.bool (by decide +kernel) (v := .ty "bool") rfl) pa_nil)))))))) (pss_one (ps_ret pe_str)) pss_nil)
      (pss_one (ps_ret pe_non)))))), ?_⟩
    have sz : ∀ H' : Hp, Same H H' → ((SqL K H' t xs ∨ SqT K H' t xs)) := fun H' s1 => .inr (SqT.of (s1 _ _ ht))
    refine ⟨_, rfl, t, rfl, ⟨xs, SqT.of ht⟩, fun D hD => ?_⟩
    rcases h with ⟨bs, hbl, hall, hb, k⟩ | ⟨rs, rfl, hrs, k⟩
    · refine isl_walk ht hD hbl hlen hb fun H1 s1 d1 => ⟨D, bs, rfl, SqL.of d1, _, rfl, ?_⟩
      rw [hall]
      exact iteT (k H1 s1)
    · have hlr : (refs rs).length = rs.length := by unfold refs; rw [List.length_map]
      have hnl : (names rs).length = rs.length := by unfold names; rw [List.length_map]
      refine isl_walk (bs := List.replicate rs.length true) ht hD (by rw [List.length_replicate, hlr]) hlen (fun i x b hx hb => ?_) fun H1 s1 d1 => ⟨D, _, rfl, SqL.of d1, _, rfl, ?_⟩
      · have hi : i < rs.length := by
          have := (List.getElem?_eq_some_iff.mp hx).1
          rw [hlr] at this
          exact this
        have e1 : (refs rs)[i]? = some (.ref rs[i].a) := by unfold refs; rw [List.getElem?_map, List.getElem?_eq_getElem hi]; rfl
        rw [e1] at hx
        obtain rfl := Option.some.inj hx
        have e2 := (List.getElem?_replicate (n := rs.length) (a := true) (i := i)).symm.trans hb
        rw [if_pos hi] at e2
        obtain rfl := Option.some.inj e2
        exact (hrs _ (List.getElem_mem hi)).isl T
      · have ea : (List.replicate rs.length true).all id = true := by
          rw [List.all_eq_true]
          intro b hb
          rw [List.eq_of_mem_replicate hb]
          rfl
        rw [ea]
        refine iteF ⟨_, rfl, t, _, rfl, sz _ s1, CF, mc, _, u, rfl, cr, cv, _, _, rfl, rfl, _, rfl, ?_⟩
        have hdue : ∀ b : V, due (names rs) tb (gb && pb) = b → ∀ H', Same H H' → Q b H' := fun b e H' s => by rw [← e]; exact k H' s
        clear k
        by_cases h40 : 40 < rs.length
        · rw [decide_eq_true (show (40 : Int) < (refs rs).length by rw [hlr]; omega)]
          refine iteT (hdue _ ?_ _ s1)
          unfold due
          rw [hnl, if_pos h40]
        · rw [decide_eq_false (show ¬ (40 : Int) < (refs rs).length by rw [hlr]; omega)]
          refine iteF ⟨_, rfl, t, rfl, ⟨refs rs, SqT.of (s1 _ _ ht)⟩, fun D2 hD2 => ?_⟩
          refine names_walk (s1 _ _ ht) hD2 (by omega) (fun r hr => (hrs r hr).same s1) T.icD.cl T.icI.cl T.nD T.nI fun H2 S s2 d2 => ?_
          have s02 := s1.trans s2
          refine ⟨D2, S, _, rfl, d2, _, rfl, t, _, rfl, sz _ s02, _, _, rfl, rfl, _, rfl, ?_⟩
          have hnd := SetT.nd_iff (names rs).reverse
          rw [List.length_reverse, hnl, (List.reverse_perm (names rs)).nodup_iff] at hnd
          by_cases hno : (names rs).Nodup
          · rw [decide_eq_false (show ¬ ((SetT.nd (names rs).reverse : Int)) < (refs rs).length by rw [hlr]; exact fun z => hnd.mp (by omega) hno)]
            refine iteF ⟨_, rfl, _, _, rfl, hT.same s02, _, rfl, ?_⟩
            have hd2 : due (names rs) tb (gb && pb) = if tb = false then .str "top" else if (gb && pb) = false then .str "rails" else .non := by
              unfold due
              rw [hnl, if_neg h40, if_pos hno]
            rw [hd2] at hdue
            cases tb with
            | false => exact iteT (hdue _ rfl _ s02)
            | true =>
              obtain ⟨tg, tyg, eg⟩ := hG.same s02
              obtain ⟨tp, typ, ep⟩ := hR.same s02
              refine iteF ⟨_, rfl, _, _, _, _, gb, rfl, .ty _, tyg, kit_ty eg, _, rfl, ?_⟩
              cases gb with
              | false => exact iteT (hdue _ rfl _ s02)
              | true =>
                refine iteF ⟨_, rfl, _, _, _, _, pb, rfl, .ty _, typ, kit_ty ep, _, rfl, ?_⟩
                cases pb with
                | false => exact iteT (hdue _ rfl _ s02)
                | true => exact iteF (hdue _ rfl _ s02)
          · rw [decide_eq_true (show ((SetT.nd (names rs).reverse : Int)) < (refs rs).length by rw [hlr]; have := hnd.mpr hno; omega)]
            refine iteT (hdue _ ?_ _ s02)
            unfold due
            rw [hnl, if_neg h40, if_neg hno]
end
end Sj
namespace Sj
open PySem L2 Sup
open NdefX (NF NScope ncx envF startF nscope_by)
open C8 (pss_cut tCut)
abbrev sFrI : Stmt := inClass (top 19) 1
/-- raise InvalidFrame(e), e a short text -/
theorem raise_inv {K : PySem.W.Frag} {CI : Addr} {z : Str} {σ : L2.St} {H H1 : Hp} {te : TE} {Q : XK} (hte : ∀ Q' : VK, Q' (.str z) H1 → te σ H1 Q') (hz : (reprText z).length ≤ 1000) (s1 : Same H H1)
    (k : ∀ d H', errH H H' d "reason" (.str z) → Q (.ref CI) (some d) H') : tMkO CI (spInv K CI) [] (tCons te tNil) σ H1 Q := by
  refine hte _ ⟨by show 1 ≤ 1000; decide, fun a ha => ⟨a, z, rfl, hz, upd_same, fun d hd hda => ⟨rfl, d, [("reason", .str z)], upd_same, ?_, ?_, ?_⟩⟩⟩
  · rw [upd_ne hda, upd_same]
  · rw [upd_ne hda] at hd
    exact hd
  · refine k d _ ⟨?_, upd_same, fun b o e => ?_⟩
    · rw [upd_ne hda] at hd
      exact s1.free hd
    · rw [upd_ne hda] at hd
      have e1 := s1 _ _ e
      have nbd : b ≠ d := ne_of_none e1 hd
      have nba : b ≠ a := ne_of_none e1 ha
      rw [upd_ne nbd, del_ne nba, upd_ne nba, upd_ne nbd, upd_ne nba]
      exact e1
/-- a frame's attributes -/
def frF (D : Addr) (T G R : V) : List (Str × V) := putF "power" R (putF "ground" G (putF "top" T (putF "_legs" (.ref D) [])))
def legRow (r : LegR) : Key × V := (Sum.inr r.z, .ref r.a)
/-- a frame stands at a: its legs, sorted by name -/
def FrAt (H : Hp) (a C : Addr) (ys : List LegR) (T G R : V) : Prop := ∃ dx D, H a = some (.ins C dx (frF D T G R)) ∧ H D = some (.dK (ys.map legRow)) ∧ D ≠ a
theorem FrAt.same {H H' : Hp} {a C : Addr} {ys : List LegR} {T G R : V} (h : FrAt H a C ys T G R) (s : Same H H') : FrAt H' a C ys T G R := by
  obtain ⟨dx, D, h1, h2, h3⟩ := h
  exact ⟨dx, D, s _ _ h1, s _ _ h2, h3⟩
/-- rows put in order -/
def Ordd (rs ys : List LegR) : Prop := ys.Perm rs ∧ PyProof.Rows.sortedS (names ys) = true
/-- Frame.__init__ -/
def spFrI (K : PySem.W.Frag) (ks : Kinds) (CI CF : Addr) : Sp := fun vs H Q E => ∃ (a dx t : Addr) (xs : List V) (T G R : V) (tb gb pb : Bool), vs = [.ref a, T, G, R, .ref t] ∧ H a = some (.ins CF dx []) ∧ H t = some (.tup xs) ∧ xs.length ≤ 1000 ∧ TopIs K H T tb ∧ RailIs K H G gb ∧ RailIs K H R pb ∧
  ((∃ bs : List Bool, bs.length = xs.length ∧ bs.all id = false ∧ (∀ (i : Nat) (x : V) (b : Bool), xs[i]? = some x → bs[i]? = some b → IsL K ks H x b) ∧ ∀ d H', errH H H' d "reason" (.str "legs") → E (.ref CI) (some d) H') ∨
   ∃ rs : List LegR, xs = refs rs ∧ (∀ r ∈ rs, r.ok ks H) ∧ (∀ z, due (names rs) tb (gb && pb) = .str z → ∀ d H', errH H H' d "reason" (.str z) → E (.ref CI) (some d) H') ∧
     (due (names rs) tb (gb && pb) = .non → ∀ H' ys, Ordd rs ys → FrAt H' a CF ys T G R → But H H' a → Q .non H'))
structure FrT (P : Program) (w : World) (K : PySem.W.Frag) (mg : Str → Option Value) (base : Heap) (ks : Kinds) (CI fI CF : Addr) : Prop where
  wr : WrT P w K mg base ks CF
  sorted : mg "sorted" = none
  mI : mg "InvalidFrame" = some (.ref CI)
  ex : ExT P K mg CI "reason"
  iC : PySem.W.findIn K (.ref CI) "__init__" = some (some (.ref fI))
  tI : PySem.W.typeIn K (.ref fI) = some (.type "function")
  inv : ∃ fdI, Binds K fdI ["self", "reason"] [] ∧ FnOk P w K mg base CX0 1 fI fdI ["self", "reason"] (spInv K CI)
  wrong : ∃ f fd, mg "wrong_frame" = some (.ref f) ∧ PySem.W.keepIn K (.ref f) = true ∧ Binds K fd ["legs", "top", "ground", "power"] [] ∧ FnOk P w K mg base CX0 3 f fd ["legs", "top", "ground", "power"] (spWrong K ks)
  cl : Cls K CF
  nL : NoAttr K CF "_legs"
  nT : NoAttr K CF "top"
  nG : NoAttr K CF "ground"
  nP : NoAttr K CF "power"
theorem due_str {zs : List Str} {tb rb : Bool} {z : Str} (h : due zs tb rb = .str z) : (reprText z).length ≤ 1000 := by
  unfold due at h
  have hh : z = "many" ∨ z = "top" ∨ z = "rails" ∨ z = "name" := by
    split at h
    · exact .inl (V.str.inj h).symm
    · split at h
      · split at h
        · exact .inr (.inl (V.str.inj h).symm)
        · split at h
          · exact .inr (.inr (.inl (V.str.inj h).symm))
          · cases h
      · exact .inr (.inr (.inr (V.str.inj h).symm))
  rcases hh with rfl | rfl | rfl | rfl <;> decide +kernel
theorem due_cases (zs : List Str) (tb rb : Bool) : due zs tb rb = .non ∨ ∃ z, due zs tb rb = .str z := by
  unfold due
  split
  · exact .inr ⟨_, rfl⟩
  · split
    · split
      · exact .inr ⟨_, rfl⟩
      · split
        · exact .inr ⟨_, rfl⟩
        · exact .inl rfl
    · exact .inr ⟨_, rfl⟩
theorem due_non {zs : List Str} {tb rb : Bool} (h : due zs tb rb = .non) : zs.length ≤ 40 ∧ zs.Nodup := by
  unfold due at h
  split at h
  · cases h
  · split at h
    · rename_i h1 h2
      exact ⟨by omega, h2⟩
    · cases h
theorem perm_rows : ∀ (ys : List Str) (rs : List LegR), ys.Perm (names rs) → ∃ qs : List LegR, qs.Perm rs ∧ names qs = ys
  | [], rs, h => by
    have e := h.length_eq
    unfold names at e
    rw [List.length_map] at e
    obtain rfl : rs = [] := List.length_eq_zero_iff.mp e.symm
    exact ⟨[], .refl _, rfl⟩
  | y :: ys, rs, h => by
    have hy : y ∈ names rs := h.mem_iff.mp List.mem_cons_self
    obtain ⟨r, hr, e⟩ := List.mem_map.mp hy
    obtain ⟨l1, l2, rfl⟩ := List.append_of_mem hr
    have p1 : (l1 ++ r :: l2).Perm (r :: (l1 ++ l2)) := List.perm_middle
    have h2 : (y :: ys).Perm (y :: names (l1 ++ l2)) := by
      have q := h.trans (p1.map fun r : LegR => r.z)
      rw [List.map_cons, e] at q
      exact q
    obtain ⟨qs, hq, en⟩ := perm_rows ys (l1 ++ l2) h2.cons_inv
    refine ⟨r :: qs, (List.Perm.cons r hq).trans p1.symm, ?_⟩
    show r.z :: names qs = _
    rw [en, e]
theorem valV_rows : ∀ (rs : List LegR) (r : LegR), (names rs).Nodup → r ∈ rs → valV (rs.map legRow) (Sum.inr r.z) = some (.ref r.a)
  | q :: rs, r, hn, hr => by
    unfold names at hn
    rw [List.map_cons, List.nodup_cons] at hn
    rcases List.mem_cons.mp hr with rfl | hr
    · exact valV_pos rfl
    · have ne : ¬ (legRow q).1 = Sum.inr r.z := fun z => by
        injection z with z
        exact hn.1 (List.mem_map.mpr ⟨r, hr, z.symm⟩)
      rw [List.map_cons, valV_neg ne]
      exact valV_rows rs r hn.2 hr
theorem valV_out : ∀ (rs : List LegR) (z : Str), z ∉ names rs → valV (rs.map legRow) (Sum.inr z) = none
  | [], _, _ => rfl
  | q :: rs, z, h => by
    have ne : ¬ (legRow q).1 = Sum.inr z := fun e => by
      injection e with e
      exact h (List.mem_map.mpr ⟨q, List.mem_cons_self, e⟩)
    rw [List.map_cons, valV_neg ne]
    exact valV_out rs z fun hz => h (List.mem_cons_of_mem _ hz)
end Sj
namespace Sj
open PySem L2 Sup
open NdefX (NF NScope ncx envF startF nscope_by)
open C8 (pss_cut tCut)
abbrev nFr : List Str := ["self", "top", "ground", "power", "legs", "reason", "by_name", "leg", "name"]
theorem scFrI : FnScope nFr ["self", "top", "ground", "power", "legs"] (defScope sFrI) := ⟨rfl, rfl, rfl, by decide +kernel, rfl, by decide +kernel, by decide +kernel⟩
def teNm7 (K : PySem.W.Frag) : TE := tFld K (tVar 7) "name"
def teGet : TE := tDGet (tVar 6) (tVar 8)
section
variable {P : Program} {w : World} {K : PySem.W.Frag} {mg : Str → Option Value} {base : Heap}
theorem body_frI {CI fI CF f : Addr} {ks : Kinds} (T : FrT P w K mg base ks CI fI CF) (cdv : Value) (A : Around) (outer : List Env) (s : Shared) (H : Hp) (vs : List V) (Q : VK) (E : XK)
    (hr : Room 3 (A.deeper (PyProof.Rows.envOfC "Frame.__init__" (defScope sFrI) s.heap.objs.size f cdv))) (h : spFrI K ks CI CF vs H Q E) :
    ∃ t, PSs (cxOf (L2.CX P w) P w K mg base nFr "Frame.__init__" (defScope sFrI) f cdv A outer s H E) (defBody sFrI) t ∧ t { nx := fun _ H' => Q .non H', rt := Q } (start nFr vs) H := by
  obtain ⟨fdI, bI, GI⟩ := T.inv
  obtain ⟨fW, fdW, mW, kW, bW, GW⟩ := T.wrong
  have hr1 := hr.mono (show 2 ≤ 3 by decide)
  obtain ⟨a, dx, t, xs, TT, G, R, tb, gb, pb, rfl, ha, ht, hlen, hT, hG, hR, h⟩ := h
  refine ⟨_, pss_cons (ps_set (i := 5) scFrI.nd rfl (Or.inl rfl) (pe_call GW hr rfl mW kW bW .nil pass0 (pa_cons (pv 4) (pa_cons (pv 1) (pa_cons (pv 2) (pa_cons (pv 3) pa_nil))))))
      (pss_cons (ps_if (pt_cmpR op_notN (pv 5) pe_non (nomark _)) (pss_one (ps_raise rfl (takes_of rfl rfl rfl rfl) (pmk_oex T.ex.oex T.iC T.tI GI hr1 bI .nil pass0 rfl T.mI (pa_cons (pv 5) pa_nil)))) pss_nil)
      (pss_cons (ps_set (i := 6) scFrI.nd rfl (Or.inr rfl) (pe_dc (tk := teNm7 K) (tv := tVar 7) (own := [("leg", 7)]) (g := gName 7) (tt := tYes) rfl scFrI.nd (pi_tup (pv 4)) (blkOk_by (N := nFr) (sc := defScope sFrI) (by decide +kernel))
          (fun _ _ _ _ _ => pg_name (i := 7) scFrI.nd rfl (Or.inl rfl)) (fun _ _ _ _ _ => pts_nil) (fun _ _ _ _ _ => pe_fld (pv 7) rfl) (fun _ _ _ _ _ => pv 7)))
      (pss_cons (ps_fld (pv 0) (pe_dc (tk := tVar 8) (tv := teGet) (own := [("name", 8)]) (g := gName 8) (tt := tYes) rfl scFrI.nd (pi_list (pe_callB (call_sortedD rfl) (by rfl) T.sorted (by decide +kernel) (pa_cons (pv 6) pa_nil))) (blkOk_by (N := nFr) (sc := defScope sFrI) (by decide +kernel))
          (fun _ _ _ _ _ => pg_name (i := 8) scFrI.nd rfl (Or.inl rfl)) (fun _ _ _ _ _ => pts_nil) (fun _ _ _ _ _ => pv 8) (fun _ _ _ _ _ => pe_dget (hu_of hr) (pv 6) (pv 8) (fun _ _ => rfl))) rfl)
      (pss_cons (ps_fld (pv 0) (pv 1) rfl) (pss_cons (ps_fld (pv 0) (pv 2) rfl) (pss_one (ps_fld (pv 0) (pv 3) rfl))))))), ?_⟩
  rcases h with ⟨bs, hbl, hall, hb, k⟩ | ⟨rs, rfl, hrs, k1, k2⟩
  · refine ⟨_, rfl, _, rfl, _, rfl, _, rfl, t, xs, TT, G, R, tb, gb, pb, rfl, ht, hlen, hT, hG, hR, .inl ⟨bs, hbl, hall, hb, fun H1 s1 => ?_⟩⟩
    refine ⟨_, rfl, rfl, _, rfl, iteT ?_⟩
    exact raise_inv (fun Q' q => ⟨_, rfl, q⟩) (by decide +kernel) s1 k
  · have hlr : (refs rs).length = rs.length := by unfold refs; rw [List.length_map]
    have hnl : (names rs).length = rs.length := by unfold names; rw [List.length_map]
    refine ⟨_, rfl, _, rfl, _, rfl, _, rfl, t, refs rs, TT, G, R, tb, gb, pb, rfl, ht, hlen, hT, hG, hR, .inr ⟨rs, rfl, hrs, fun H1 s1 => ?_⟩⟩
    rcases due_cases (names rs) tb (gb && pb) with e | ⟨z, e⟩
    · rw [e]
      obtain ⟨h40, hno⟩ := due_non e
      rw [hnl] at h40
      refine ⟨_, rfl, rfl, _, rfl, iteF ⟨_, rfl, t, rfl, ⟨refs rs, SqT.of (s1 _ _ ht)⟩, fun D hD => ?_⟩⟩
      have sD : ∀ (o : HO), Same H1 (upd H1 D o) := fun o b u e => by rw [upd_ne (ne_of_none e hD)]; exact e
      refine SetT.dict_it (walk_tup (K := K) (a := t) (xs := refs rs)) (fun i H' => Same H1 H' ∧ H' D = some (.dK ((rs.take i).map legRow))) ⟨sD _, by rw [upd_same]; rfl⟩ (fun i H' _ p => .inl (.inl (p.1 _ _ (s1 _ _ ht)))) ?_ ?_
      · rintro i x H2 H3 hi ⟨s2, d2⟩ ⟨rfl, hx1⟩
        rw [hlr] at hi
        have e1 : (refs rs)[i]? = some (.ref rs[i].a) := by unfold refs; rw [List.getElem?_map, List.getElem?_eq_getElem hi]; rfl
        rw [e1] at hx1
        obtain rfl := Option.some.inj hx1
        obtain ⟨hc, dy, eb⟩ := (hrs _ (List.getElem_mem hi)).same (s1.trans s2)
        have fld : ∃ C, H3 rs[i].a = some (.ins C dy (legF rs[i].z)) ∧ Cls K C ∧ NoAttr K C "name" := by
          refine ⟨_, eb, ?_⟩
          rcases hc with e | e <;> rw [e]
          · exact ⟨T.wr.icD.cl, T.wr.nD⟩
          · exact ⟨T.wr.icI.cl, T.wr.nI⟩
        obtain ⟨C, eb', cl, nn⟩ := fld
        refine ⟨rfl, ?_⟩
        unfold tYes
        dsimp only
        rw [if_pos rfl]
        have hti : (names (rs.take i)) = (names rs).take i := by unfold names; rw [List.map_take]
        have hout : rs[i].z ∉ names (rs.take i) := by
          have hi' : i < (names rs).length := by rw [hnl]; exact hi
          have ez : (names rs)[i] = rs[i].z := List.getElem_map (fun r : LegR => r.z)
          rw [hti, ← ez]
          intro hm
          obtain ⟨j, hj, ej⟩ := List.getElem_of_mem hm
          rw [List.length_take] at hj
          rw [List.getElem_take] at ej
          have := (List.getElem_inj hno).mp ej
          omega
        refine ⟨_, rfl, _, C, dy, _, _, rfl, eb', cl, nn, legF_name _, _, rfl, _, Sum.inr rs[i].z, rfl, d2, ?_, ?_, ?_⟩
        · rw [List.length_map, List.length_take]
          exact Nat.lt_of_le_of_lt (Nat.min_le_right _ _) (Nat.lt_of_le_of_lt (show rs.length ≤ 1000 by omega) (by decide))
        · exact fun b o e => by
            rw [upd_ne (ne_of_none e hD)]
            exact s2 _ _ e
        · rw [upd_same, putK_new _ (valV_out _ _ hout), List.take_add_one, List.getElem?_eq_getElem hi, List.map_append]
          rfl
      · rintro H2 ⟨s2, d2⟩
        rw [hlr, List.take_length] at d2
        have s02 := s1.trans s2
        clear k1
        refine ⟨_, rfl, D, _, names rs, rfl, .inl d2, ?_, by rw [hnl]; omega, fun ys q hp hs hq => ?_⟩
        · unfold names
          rw [List.map_map, List.map_map]
          rfl
        obtain ⟨qs, hqs, rfl⟩ := perm_rows ys rs hp
        obtain ⟨H3, eH3⟩ : ∃ H3, H3 = upd H2 q (.lst ((names qs).map V.str)) := ⟨_, rfl⟩
        have s3 : Same H2 H3 := fun b o e => by rw [eH3, upd_ne (ne_of_none e hq)]; exact e
        have hq3 : H3 q = some (.lst ((names qs).map V.str)) := by rw [eH3, upd_same]
        rw [← eH3]
        have s03 := s02.trans s3
        have hql : ((names qs).map V.str).length = qs.length := by unfold names; rw [List.length_map, List.length_map]
        have hqr : qs.length = rs.length := hqs.length_eq
        have hnq : (names qs).Nodup := (hqs.map fun r : LegR => r.z).nodup_iff.mpr hno
        refine ⟨q, rfl, ⟨_, SqL.of hq3⟩, fun D2 hD2 => ?_⟩
        have sD2 : ∀ (o : HO), Same H3 (upd H3 D2 o) := fun o b u e => by rw [upd_ne (ne_of_none e hD2)]; exact e
        refine SetT.dict_it (walk_list (K := K) (a := q) (xs := (names qs).map V.str)) (fun i H' => Same H3 H' ∧ H' D2 = some (.dK ((qs.take i).map legRow))) ⟨sD2 _, by rw [upd_same]; rfl⟩ (fun i H' _ p => SqL.of (p.1 _ _ hq3)) ?_ ?_
        · rintro i x H4 H5 hi ⟨s4, d4⟩ ⟨rfl, hx1⟩
          rw [hql] at hi
          have e1 : ((names qs).map V.str)[i]? = some (.str qs[i].z) := by unfold names; rw [List.map_map, List.getElem?_map, List.getElem?_eq_getElem hi]; rfl
          rw [e1] at hx1
          obtain rfl := Option.some.inj hx1
          refine ⟨rfl, ?_⟩
          unfold tYes
          dsimp only
          rw [if_pos rfl]
          have hti : (names (qs.take i)) = (names qs).take i := by unfold names; rw [List.map_take]
          have hout : qs[i].z ∉ names (qs.take i) := by
            have hi' : i < (names qs).length := by unfold names; rw [List.length_map]; exact hi
            have ez : (names qs)[i] = qs[i].z := List.getElem_map (fun r : LegR => r.z)
            rw [hti, ← ez]
            intro hm
            obtain ⟨j, hj, ej⟩ := List.getElem_of_mem hm
            rw [List.length_take] at hj
            rw [List.getElem_take] at ej
            have := (List.getElem_inj hnq).mp ej
            omega
          have hg : DGet H5 D (.str qs[i].z) (some (.ref qs[i].a)) := by
            rw [← valV_rows rs qs[i] hno (hqs.mem_iff.mp (List.getElem_mem hi))]
            exact DGet.k (k := Sum.inr qs[i].z) (s4 _ _ (s3 _ _ d2))
          refine ⟨_, rfl, _, rfl, _, rfl, D, _, rfl, hg, _, Sum.inr qs[i].z, rfl, d4, ?_, ?_, ?_⟩
          · rw [List.length_map, List.length_take]
            exact Nat.lt_of_le_of_lt (Nat.min_le_right _ _) (Nat.lt_of_le_of_lt (show qs.length ≤ 1000 by omega) (by decide))
          · exact fun b o e => by
              rw [upd_ne (ne_of_none e hD2)]
              exact s4 _ _ e
          · rw [upd_same, putK_new _ (valV_out _ _ hout), List.take_add_one, List.getElem?_eq_getElem hi, List.map_append]
            rfl
        · rintro H4 ⟨s4, d4⟩
          rw [hql, List.take_length] at d4
          have s04 := s03.trans s4
          have ha4 := s04 _ _ ha
          have nDa : D2 ≠ a := fun z => by rw [z] at hD2; rw [s03 _ _ ha] at hD2; cases hD2
          refine ⟨_, rfl, a, CF, dx, [], rfl, ha4, T.cl, T.nL, by show 0 < 1000; decide, ?_⟩
          refine ⟨_, rfl, _, rfl, a, CF, dx, _, rfl, upd_same, T.cl, T.nT, by show 1 < 1000; decide, ?_⟩
          refine ⟨_, rfl, _, rfl, a, CF, dx, _, rfl, upd_same, T.cl, T.nG, by show 2 < 1000; decide, ?_⟩
          refine ⟨_, rfl, _, rfl, a, CF, dx, _, rfl, upd_same, T.cl, T.nP, by show 3 < 1000; decide, ?_⟩
          refine k2 e _ qs ⟨hqs, hs⟩ ⟨dx, D2, upd_same, ?_, nDa⟩ fun b o hb eb => ?_
          · rw [upd_ne nDa, upd_ne nDa, upd_ne nDa, upd_ne nDa]
            exact d4
          · rw [upd_ne hb, upd_ne hb, upd_ne hb, upd_ne hb]
            exact s04 _ _ eb
    · rw [e]
      refine ⟨_, rfl, rfl, _, rfl, iteT ?_⟩
      exact raise_inv (fun Q' q => ⟨_, rfl, q⟩) (due_str e) s1 (k1 z e)
end
end Sj
namespace Sj
open PySem L2 Sup StK
open NdefX (NF NScope ncx envF startF nscope_by)
open C8 (pss_cut tCut)
abbrev sOf : Stmt := inClass (top 19) 2
def kwsF : List (Str × V) := [("top", .int 1), ("ground", .bl false), ("power", .bl false)]
abbrev ksB : List Str := ["top", "ground", "power"]
theorem errH.of {H H1 H' : Hp} {d : Addr} {fld : Str} {v : V} (h : errH H1 H' d fld v) (s : Same H H1) : errH H H' d fld v := ⟨s.free h.1, h.2.1, s.trans h.2.2⟩
section
variable {P : Program} {w : World} {K : PySem.W.Frag} {mg : Str → Option Value} {base : Heap}
theorem fr_kwB {CI fI CF f : Addr} {fd : FuncData} {ks : Kinds} (F : FunD K "__init__" "Frame.__init__" (defArgs sFrI) (defBody sFrI) (defScope sFrI) [] kwsF f fd) (T : FrT P w K mg base ks CI fI CF) :
    FnK P w K mg base (L2.CX P w) 4 f ksB (spStarK 1 (fun vs zs => vs ++ zs) (spFrI K ks CI CF)) :=
  fn_starK (ps := ["self", "top", "ground", "power"]) (pv := "legs") F scFrI StX.cxUp 1 ksB [] (fun us mv ws => us ++ ws) (by decide) (fun q h => nomatch h) (fun r1 _ r3 => r1.append r3)
    (fun us mv ws h1 _ h3 => by rw [List.length_append, h1, h3] <;> rfl)
    (fun D doc pm an cdv ct us rest mv ws h1 h2 h3 => match us, rest, mv, ws, h1, h2, h3 with
      | [a], [], [], [x, y, z], _, _, _ => rfl
      | [a], r :: rs, [], [x, y, z], _, _, _ => rfl)
    (fun cdv A outer s H vs Q E hr h => body_frI T cdv A outer s H vs Q E hr h)
end
end Sj
namespace Sj
open PySem L2 Sup StK
open NdefX (NF NScope ncx envF startF nscope_by)
open C8 (pss_cut tCut)
/-- what is asked of legs xs, with top, rails: the outcomes of the making of a frame, from H on -/
def Outc (K : PySem.W.Frag) (ks : Kinds) (CI CF : Addr) (xs : List V) (T G R : V) (tb rb : Bool) (H : Hp) (Q : VK) (E : XK) : Prop :=
  (∃ bs : List Bool, bs.length = xs.length ∧ bs.all id = false ∧ (∀ (i : Nat) (x : V) (b : Bool), xs[i]? = some x → bs[i]? = some b → IsL K ks H x b) ∧ ∀ d H', errH H H' d "reason" (.str "legs") → E (.ref CI) (some d) H') ∨
   ∃ rs : List LegR, xs = refs rs ∧ (∀ r ∈ rs, r.ok ks H) ∧ (∀ z, due (names rs) tb rb = .str z → ∀ d H', errH H H' d "reason" (.str z) → E (.ref CI) (some d) H') ∧
     (due (names rs) tb rb = .non → ∀ a H' ys, H a = none → Ordd rs ys → FrAt H' a CF ys T G R → Same H H' → Q (.ref a) H')
/-- the making keeps its promise -/
theorem mk_outc {K : PySem.W.Frag} {ks : Kinds} {CI CF : Addr} {xs : List V} {T G R : V} {tb gb pb : Bool} {H0 H : Hp} {Q : VK} {E : XK} {gV : List V → List V → List V} {zs : List V} (hg : ∀ x : Addr, gV [.ref x] zs = [.ref x, T, G, R]) (s0 : Same H0 H) (hlen : xs.length ≤ 1000)
    (hT : TopIs K H0 T tb) (hG : RailIs K H0 G gb) (hR : RailIs K H0 R pb) (o : Outc K ks CI CF xs T G R tb (gb && pb) H0 Q E) : spMk CF (spStarK 1 gV (spFrI K ks CI CF)) E xs zs H Q := by
  intro x dx hx hdx hne
  have s1 : Same H (upd (upd H dx (.own x)) x (.ins CF dx [])) := fun b o e => by
    rw [upd_ne (ne_of_none e hx), upd_ne (ne_of_none e hdx)]
    exact e
  refine ⟨[.ref x], xs, rfl, rfl, Nat.le_trans hlen (by decide), fun p hp => ?_⟩
  obtain ⟨H2, e2⟩ : ∃ H2, H2 = upd (upd (upd H dx (.own x)) x (.ins CF dx [])) p (.tup xs) := ⟨_, rfl⟩
  have hxp : x ≠ p := ne_of_none upd_same hp
  have hx2 : H2 x = some (.ins CF dx []) := by rw [e2, upd_ne hxp, upd_same]
  have hp2 : H2 p = some (.tup xs) := by rw [e2, upd_same]
  have s2 : Same H H2 := fun b o e => by
    rw [e2, upd_ne (ne_of_none (s1 _ _ e) hp)]
    exact s1 _ _ e
  have s02 := s0.trans s2
  rw [hg, ← e2]
  refine ⟨x, dx, p, xs, T, G, R, tb, gb, pb, rfl, hx2, hp2, hlen, hT.same s02, hG.same s02, hR.same s02, ?_⟩
  rcases o with ⟨bs, h1, h2, h3, k⟩ | ⟨rs, h1, h2, k1, k2⟩
  · exact .inl ⟨bs, h1, h2, fun i x b e1 e2 => (h3 i x b e1 e2).same s02, fun d H' e => k d H' (e.of s02)⟩
  · refine .inr ⟨rs, h1, fun r hr => (h2 r hr).same s02, fun z hz d H' e => k1 z hz d H' (e.of s02), fun hd H' ys ho hf hb => ⟨rfl, k2 hd x H' ys (s0.free hx) ho hf fun b o e => ?_⟩⟩
    exact hb b o (ne_of_none e (s0.free hx)) (s02 _ _ e)
/-- Frame.of -/
def spOf (K : PySem.W.Frag) (ks : Kinds) (CI CF : Addr) : Sp := fun vs H Q E => ∃ (x T G R : V) (tb gb pb : Bool), vs = [.ref CF, x, T, G, R] ∧ TopIs K H T tb ∧ RailIs K H G gb ∧ RailIs K H R pb ∧
  ((∃ t, TyX K H x t ∧ PySem.W.kitAny K t [.type "list", .type "tuple"] = some false ∧ ∀ d H', errH H H' d "reason" (.str "legs") → E (.ref CI) (some d) H') ∨
   ∃ (l : Addr) (xs : List V), x = .ref l ∧ (H l = some (.lst xs) ∨ H l = some (.tup xs)) ∧ xs.length ≤ 1000 ∧ Outc K ks CI CF xs T G R tb (gb && pb) H Q E)
structure OfT (P : Program) (w : World) (K : PySem.W.Frag) (mg : Str → Option Value) (base : Heap) (ks : Kinds) (CI fI CF fF : Addr) : Prop where
  isi : mg "isinstance" = none
  list : mg "list" = none
  tuple : mg "tuple" = none
  mI : mg "InvalidFrame" = some (.ref CI)
  ex : ExT P K mg CI "reason"
  iC : PySem.W.findIn K (.ref CI) "__init__" = some (some (.ref fI))
  tI : PySem.W.typeIn K (.ref fI) = some (.type "function")
  inv : ∃ fdI, Binds K fdI ["self", "reason"] [] ∧ FnOk P w K mg base CX0 1 fI fdI ["self", "reason"] (spInv K CI)
  mkc : Mk K CF fF
  kt : PySem.W.kitAny K (.type "list") [.type "list", .type "tuple"] = some true
  kt2 : PySem.W.kitAny K (.type "tuple") [.type "list", .type "tuple"] = some true
section
variable {P : Program} {w : World} {K : PySem.W.Frag} {mg : Str → Option Value} {base : Heap}
theorem scOf : FnScope ["cls", "legs", "top", "ground", "power"] ["cls", "legs", "top", "ground", "power"] (defScope sOf) := ⟨rfl, rfl, rfl, by decide +kernel, rfl, by decide +kernel, by decide +kernel⟩
theorem ok_of {CI fI CF fF f : Addr} {fd : FuncData} {ks : Kinds} (F : FunD K "of" "Frame.of" (defArgs sOf) (defBody sOf) (defScope sOf) [] kwsF f fd) (T : OfT P w K mg base ks CI fI CF fF)
    (GF : FnK P w K mg base (L2.CX P w) 4 fF ksB (spStarK 1 (fun vs zs => vs ++ zs) (spFrI K ks CI CF))) : FnOk P w K mg base (L2.CX P w) 6 f fd ["cls", "legs", "top", "ground", "power"] (spOf K ks CI CF) := by
  obtain ⟨fdI, bI, GI⟩ := T.inv
  refine F.ok scOf (fun vs H Q E h => ?_) (fun cdv A outer s H vs Q E hr h => ?_)
  · obtain ⟨x, T, G, R, tb, gb, pb, rfl, _⟩ := h
    rfl
  · obtain ⟨x, TT, G, R, tb, gb, pb, rfl, hT, hG, hR, h⟩ := h
    refine ⟨_, pss_cons (ps_if (pt_not (pt_val (pe_callB call_isiT (by rfl) T.isi (by decide +kernel) (pa_cons (pv 1) (pa_cons (pe_tup (pa_cons (pe_bltn (by rfl) T.list (by decide +kernel) (v := .ty "list") rfl) (pa_cons (pe_bltn (by rfl) T.tuple (by decide +kernel) (v := .ty "tuple") rfl) pa_nil))) pa_nil)))))
        (pss_one (ps_raise rfl (takes_of rfl rfl rfl rfl) (pmk_oex T.ex.oex T.iC T.tI GI (hr.mono (by decide)) bI .nil pass0 rfl T.mI (pa_cons pe_str pa_nil)))) pss_nil)
      (pss_one (ps_ret (pe_makeT T.mkc GF hr (passes_call (takes_of rfl rfl rfl rfl) fun _ _ _ _ h => h) (pv 0) (pv 1) (pk_cons (pv 2) (pk_cons (pv 3) (pk_cons (pv 4) pk_nil)))))), ?_⟩
    have lay : ∀ (t : Value) (b : Bool) (Q' : VK), TyX K H x t → PySem.W.kitAny K t [.type "list", .type "tuple"] = some b → (∀ H', Same H H' → Q' (.bl b) H') →
        tCB (rIsiT K) (tCons (tVar 1) (tCons (tTup (tCons (tC (.ty "list")) (tCons (tC (.ty "tuple")) tNil))) tNil)) (L2.start ["cls", "legs", "top", "ground", "power"] [.ref CF, x, TT, G, R]) H Q' := by
      intro t b Q' ty e k
      refine ⟨_, rfl, by show 2 ≤ sizeLine; decide, fun p hp => ?_⟩
      have s1 : Same H (upd H p (.tup [.ty "list", .ty "tuple"])) := fun b o e => by rw [upd_ne (ne_of_none e hp)]; exact e
      exact ⟨x, p, [.ty "list", .ty "tuple"], t, [.type "list", .type "tuple"], b, rfl, upd_same, .cons (.ty _) (.cons (.ty _) .nil), tyx_same ty s1, e, k _ s1⟩
    rcases h with ⟨t, ty, e, k⟩ | ⟨l, xs, rfl, hl, hlen, o⟩
    · refine lay t false _ ty e fun H1 s1 => ⟨_, rfl, iteT ?_⟩
      exact raise_inv (fun Q' q => q) (by decide +kernel) s1 k
    · have hty : ∃ t, TyX K H (.ref l) t ∧ PySem.W.kitAny K t [.type "list", .type "tuple"] = some true := by
        rcases hl with h | h
        · exact ⟨_, .base (.lst h), T.kt⟩
        · exact ⟨_, .base (.tup h), T.kt2⟩
      obtain ⟨t, ty, e⟩ := hty
      refine lay t true _ ty e fun H1 s1 => ⟨_, rfl, iteF ?_⟩
      refine ⟨_, rfl, rfl, _, rfl, _, rfl, _, rfl, _, rfl, rfl, l, xs, rfl, ?_, ?_⟩
      · rcases hl with h | h
        · exact .inr (SqL.of (s1 _ _ h))
        · exact .inl (SqT.of (s1 _ _ h))
      · exact mk_outc (fun x => rfl) s1 hlen hT hG hR o
end
end Sj
namespace Sj
open PySem L2 Sup StK
open NdefX (NF NScope ncx envF startF nscope_by)
open C8 (pss_cut tCut)
/-! Frame's own small methods (k03, k05): len, in, legs, names -/
abbrev sFr (i : Nat) : Stmt := inClass (top 19) i
theorem frF_legs (D : Addr) (T G R : V) : (frF D T G R).lookup ("_legs" : Str) = some (.ref D) := by
  unfold frF
  rw [lookup_putF, if_neg (by decide +kernel), lookup_putF, if_neg (by decide +kernel), lookup_putF, if_neg (by decide +kernel), lookup_putF, if_pos rfl]
def spFLen (C : Addr) : Sp := fun vs H Q _ => ∃ (a : Addr) (ys : List LegR) (T G R : V), vs = [.ref a] ∧ FrAt H a C ys T G R ∧ Q (.int ys.length) H
def spFIn (K : PySem.W.Frag) (C : Addr) : Sp := fun vs H Q _ => ∃ (a : Addr) (ys : List LegR) (T G R x : V), vs = [.ref a, x] ∧ FrAt H a C ys T G R ∧
  ((∃ z : Str, x = .str z ∧ Q (.bl (decide (z ∈ names ys))) H) ∨ ∃ t : String, TyX K H x (.type t) ∧ kitB t "str" = some false ∧ Q (.bl false) H)
structure FmT (K : PySem.W.Frag) (mg : Str → Option Value) (C : Addr) : Prop where
  cl : Cls K C
  nL : NoAttr K C "_legs"
  len : mg "len" = none
  isi : mg "isinstance" = none
  str : mg "str" = none
theorem valV_in : ∀ (rs : List LegR) (z : Str), (valV (rs.map legRow) (Sum.inr z)).isSome = decide (z ∈ names rs)
  | [], z => rfl
  | q :: rs, z => by
    by_cases e : (legRow q).1 = Sum.inr z
    · rw [List.map_cons, valV_pos e]
      have ez : q.z = z := Sum.inr.inj e
      rw [decide_eq_true (show z ∈ names (q :: rs) by rw [← ez]; exact List.mem_cons_self)]
      rfl
    · rw [List.map_cons, valV_neg e, valV_in rs z]
      have ez : ¬ z = q.z := fun h => e (by rw [h]; rfl)
      have h2 : z ∈ names (q :: rs) ↔ z ∈ names rs := by
        show z ∈ q.z :: names rs ↔ _
        rw [List.mem_cons]
        exact ⟨fun h => h.resolve_left ez, .inr⟩
      exact Bool.eq_iff_iff.mpr (by rw [decide_eq_true_eq, decide_eq_true_eq]; exact h2.symm)
section
variable {P : Program} {w : World} {K : PySem.W.Frag} {mg : Str → Option Value} {base : Heap}
theorem scF1 : FnScope ["self"] ["self"] (defScope (sFr 12)) := ⟨rfl, rfl, rfl, by decide +kernel, rfl, by decide +kernel, by decide +kernel⟩
theorem scFIn : FnScope ["self", "x"] ["self", "x"] (defScope (sFr 9)) := ⟨rfl, rfl, rfl, by decide +kernel, rfl, by decide +kernel, by decide +kernel⟩
theorem ok_flen {f C : Addr} {fd : FuncData} (F : Fun K "__len__" "Frame.__len__" (sFr 12) f fd) (T : FmT K mg C) : FnOk P w K mg base CX0 1 f fd ["self"] (spFLen C) := by
  refine F.ok scF1 (fun vs H Q E h => ?_) (fun cdv A outer s H vs Q E hr h => ?_)
  · obtain ⟨a, ys, _, _, _, rfl, _⟩ := h
    rfl
  · obtain ⟨a, ys, TT, G, R, rfl, ⟨dx, D, ea, eD, _⟩, k⟩ := h
    refine ⟨_, pss_one (ps_ret (pe_callB call_lenD (by rfl) T.len PySem.boot_len (pa_cons (pe_fld (pv 0) rfl) pa_nil))), ?_⟩
    refine ⟨_, rfl, a, C, dx, _, _, rfl, ea, T.cl, T.nL, frF_legs _ _ _ _, D, _, rfl, eD, ?_⟩
    rw [List.length_map]
    exact k
theorem ok_fin {f C : Addr} {fd : FuncData} (F : Fun K "__contains__" "Frame.__contains__" (sFr 9) f fd) (T : FmT K mg C) : FnOk P w K mg base CX0 1 f fd ["self", "x"] (spFIn K C) := by
  refine F.ok scFIn (fun vs H Q E h => ?_) (fun cdv A outer s H vs Q E hr h => ?_)
  · obtain ⟨a, ys, _, _, _, x, rfl, _⟩ := h
    rfl
  · obtain ⟨a, ys, TT, G, R, x, rfl, ⟨dx, D, ea, eD, _⟩, k⟩ := h
    refine ⟨_, pss_one (ps_ret (pe_and (pe_callB call_isi (by rfl) T.isi (by decide +kernel) (pa_cons (pv 1) (pa_cons (pe_bltn (by rfl) T.str (by decide +kernel) (v := .ty "str") rfl) pa_nil)))
      (pe_one (pe_cmp (pc_din (hu_of hr) (pv 1) (pe_fld (pv 0) rfl)) (by rfl))))), ?_⟩
    rcases k with ⟨z, rfl, k⟩ | ⟨t, ty, e, k⟩
    · refine ⟨_, rfl, _, _, _, _, true, rfl, .ty _, .base (.str z), kit_ty (by decide +kernel), _, rfl, iteT ?_⟩
      refine ⟨_, rfl, _, rfl, a, C, dx, _, _, rfl, ea, T.cl, T.nL, frF_legs _ _ _ _, D, _, rfl, DGet.k (k := Sum.inr z) eD, ?_⟩
      rw [valV_in]
      exact k
    · exact ⟨_, rfl, _, _, _, _, false, rfl, .ty _, ty, kit_ty e, _, rfl, iteF k⟩
end
end Sj
/-! == of two dicts whose values are instances with an __eq__ of their own -/
namespace Own
open PySem PySem.Spec PyProof.Rows L2 Sup
end Own
/-! Defs of which more is known: that nothing is being shown around them (a repr of a list asks it). -/
namespace Grd
open PySem PySem.Spec PyProof.Rows L2
/-- as FnOk, called where nothing is being shown -/
structure FnG (P : Program) (w : World) (K : PySem.W.Frag) (mg : Str → Option Value) (base : Heap) (CX : CXT) (k : Nat) (f : Addr) (fd : FuncData) (ps : List Str) (sp : Sp) : Prop where
  len : ∀ vs H Q E, sp vs H Q E → vs.length = ps.length
  run : ∀ (A : Around) (outer : List Env) (s : Shared) (H : Hp) (args : Args) (us : List Value) (vs : List V) (Q : VK) (E : XK),
    A.guards = some [] → Room k A → Env0 P w K mg base A outer s H → BindsTo s fd args (ps.zip us) → Vals vs us → sp vs H Q E → codeAny (model P w) A (.call (.ref f) args) (CR CX outer P w H s Q E) s
section
variable {P : Program} {w : World} {K : PySem.W.Frag} {mg : Str → Option Value} {base : Heap} {CX : CXT} {j k : Nat} {f : Addr} {fd : FuncData} {ps : List Str} {sp sp' : Sp}
theorem FnG.of (F : FnOk P w K mg base CX k f fd ps sp) : FnG P w K mg base CX k f fd ps sp := ⟨F.len, fun A outer s H args us vs Q E _ => F.run A outer s H args us vs Q E⟩
theorem FnG.mono (F : FnG P w K mg base CX j f fd ps sp) (h : j ≤ k) : FnG P w K mg base CX k f fd ps sp := ⟨F.len, fun A outer s H args us vs Q E hg hr => F.run A outer s H args us vs Q E hg (hr.mono h)⟩
theorem FnG.imp (F : FnG P w K mg base CX k f fd ps sp) (h : ∀ vs H Q E, sp' vs H Q E → sp vs H Q E) : FnG P w K mg base CX k f fd ps sp' :=
  ⟨fun vs H Q E q => F.len vs H Q E (h _ _ _ _ q), fun A outer s H args us vs Q E hg hr he hb hv hs => F.run A outer s H args us vs Q E hg hr he hb hv (h _ _ _ _ hs)⟩
/-- by its body -/
theorem fun_g {x qual : Str} {st : Stmt} {N : List Str} (F : Fun K x qual st f fd) (S : FnScope N ps (defScope st)) (len : ∀ vs H Q E, sp vs H Q E → vs.length = ps.length)
    (hbody : ∀ (cdv : Value) (A : Around) (outer : List Env) (s : Shared) (H : Hp) (vs : List V) (Q : VK) (E : XK), A.guards = some [] → Room k (A.deeper (envOfC qual (defScope st) s.heap.objs.size f cdv)) → sp vs H Q E →
      ∃ t, PSs (cxOf CX0 P w K mg base N qual (defScope st) f cdv A outer s H E).nox (defBody st) t ∧ t { nx := fun _ H' => Q .non H', rt := Q } (start N vs) H) : FnG P w K mg base CX0 (k + 1) f fd ps sp := by
  obtain ⟨oc, od, kV, doc, pm, an, cdv, ct, osl, rfl, lk, hcd⟩ := F.ex
  refine ⟨len, fun A outer s H args us vs Q E hg hr e0 hb r hsp => ?_⟩
  refine LamX.run_ofS (CX := CX0) lk hcd S hr e0 hb r (len _ _ _ _ hsp) fun hr1 => ?_
  obtain ⟨t, ht, hq⟩ := hbody cdv A outer s H vs Q E hg hr1 hsp
  exact ⟨t, ht.nox, hq⟩
end
section
variable {X : Cx} {CX : CXT} {k : Nat} {f : Addr} {fd : FuncData} {ps : List Str} {sp : Sp} {E : XK} {x : Str} {p pos : Pos} {e : Expr} {es : List Expr} {t : TA}
theorem run_g {pins : List (Addr × Obj)} {σ : L2.St} {H : Hp} {s : Shared} {Q : VK} {us : List Value} {vs : List V} (F : FnG X.prog X.w X.K X.mg X.base CX k f fd ps sp) (hG : X.A.guards = some []) (hr : Room k X.A) (hb : Binds X.K fd ps []) (hx : Passes CX X E)
    (I : Inv X pins σ H s) (r : Vals vs us) (h : sp vs H Q E) : wpAny (model X.prog X.w) X.A (call (.ref f) us) (EP X pins σ Q) X.xe s := by
  have hl : (us ++ []).length = ps.length := by rw [List.append_nil, ← r.length]; exact F.len _ _ _ _ h
  have hB := hb s us I.kIn hl
  rw [List.append_nil] at hB
  refine wpAny_call (codeAny_mono (F.run X.A X.stack s H ⟨us, []⟩ us vs Q E hG hr I.env0 hB r h) fun res s' hq => ?_)
  match res, hq with
  | .error e, hq => exact hx pins σ H s e s' I hq
  | .ok (.ret u), hq => exact I.after hq
theorem pe_callG (F : FnG X.prog X.w X.K X.mg X.base CX k f fd ps sp) (hG : X.A.guards = some []) (hr : Room k X.A) (hg : Gl X x) (hm : X.mg x = some (.ref f)) (hk : PySem.W.keepIn X.K (.ref f) = true) (hb : Binds X.K fd ps []) (hx : Passes CX X E)
    (ha : PA X (e :: es) t) (hdb : (x == ("__debug__" : Str)) = false := by decide) (hs : starEach (e :: es) X.env = (false, eval e X.env) :: starEach es X.env := by rfl) (hp : (backTo pos (starEach es X.env)).any (·.1) = false := by rfl) :
    PE X (.Call (.Name x p) (e :: es) [] pos) (tCall sp [] E t) := by
  refine ⟨fun pins s σ H Q I h => wpAny_Call_Name_kw (ld_glob I hg hm ?_ hdb)⟩
  refine PySem.W.callWith_K (h₀ := X.base) I.ok.mod.kin hk (thn (ha.run pos pins s σ H _ I h) ?_) hs hp
  rintro us s1 ⟨vs, H1, I1, r, q⟩
  rw [List.append_nil] at q
  exact ⟨I1.kIn, run_g F hG hr hb hx I1 r q⟩
end
end Grd
/-! len(o), x in o, o[x] of an instance with such methods of its own; o in (None, "a", (..)) by its __eq__ -/
namespace Own
open PySem PySem.Spec PyProof.Rows L2 Sup Grd
section
variable {X : Cx} {CX : CXT} {pins : List (Addr × Obj)} {σ : L2.St} {H : Hp} {s : Shared} {k : Nat} {C f : Addr} {fd : FuncData} {ps : List Str} {sp : Sp} {E : XK}
/-- len(o) -/
def rLenO (C : Addr) (sp : Sp) : List V → Hp → VK → Prop := fun xs H Q => ∃ a dx fs, xs = [.ref a] ∧ H a = some (.ins C dx fs) ∧ sp [.ref a] H (fun z H' => ∃ n : Nat, z = .int n ∧ n < 2 ^ 62 ∧ Q (.int n) H') E0
/-- x in o, x not in o -/
def rInO (C : Addr) (neg : Bool) (sp : Sp) : R2 := fun x y H Q => ∃ a dx fs, y = .ref a ∧ H a = some (.ins C dx fs) ∧ sp [.ref a, x] H (fun z H' => ∃ b : Bool, z = .bl b ∧ Q (.bl (if neg then !b else b)) H') E0
end
/-! ### o in (None, "a", (..)) -/
/-- None or a tuple -/
inductive OddL (K : PySem.W.Frag) (H : Hp) : V → Prop
  | non : OddL K H .non
  | tup {t : Addr} {xs : List V} : SqT K H t xs → OddL K H (.ref t)
theorem OddL.same {K : PySem.W.Frag} {H H' : Hp} {x : V} (h : OddL K H x) (s : Same H H') : OddL K H' x := by
  cases h with
  | non => exact .non
  | tup q => exact .tup (SqT.ext q s)
end Own
/-! e.f, a property, of an instance of one of some classes -/
namespace Own
open PySem PySem.Spec PyProof.Rows L2 Sup Grd
end Own
/-! tuple(d), tuple(d.values()) of a dict whose keys are ints or texts -/
/-! sorted(t) of a tuple of texts (fewer than 64) -/
namespace Sj
open PySem L2 Sup StK Own
open NdefX (NF NScope ncx envF startF nscope_by)
open C8 (pss_cut tCut)
/-! Frame's properties (k03, k05, ..) -/
theorem same_at {H : Hp} {a : Addr} {o : HO} (h : H a = none) : Same H (upd H a o) := fun b u e => by rw [upd_ne (ne_of_none e h)]; exact e
/-- a frame as data -/
structure FrD where
  ys : List LegR
  t : Int
  g : Bool
  r : Bool
structure FrIs (ks : Kinds) (CF : Addr) (H : Hp) (a : Addr) (d : FrD) : Prop where
  at_ : FrAt H a CF d.ys (.int d.t) (.bl d.g) (.bl d.r)
  ok : ∀ r ∈ d.ys, r.ok ks H
  nd : (names d.ys).Nodup
  le : d.ys.length ≤ 40
  so : PyProof.Rows.sortedS (names d.ys) = true
theorem FrIs.same {ks : Kinds} {CF : Addr} {H H' : Hp} {a : Addr} {d : FrD} (h : FrIs ks CF H a d) (s : Same H H') : FrIs ks CF H' a d := ⟨h.at_.same s, fun r hr => (h.ok r hr).same s, h.nd, h.le, h.so⟩
def strv (zs : List Str) : List V := zs.map V.str
/-- the names of the legs of the kind b -/
def kindZ (ks : Kinds) (b : Bool) (ys : List LegR) : List Str := names (ys.filter fun r => decide (r.C = ks.drv) == b)
def railsZ (g r : Bool) : List Str := (if g then [("ground" : Str)] else []) ++ if r then [("power" : Str)] else []
end Sj
/-! Own exceptions over any built-in base, made and kept as values. -/
namespace Exg
open PySem PySem.Spec PyProof.Rows L2 Sup
open NdefX (NF NScope ncx envF startF CellsAt inv_startN)
/-- a built-in base -/
structure BaseE (B newId initId : String) (tl : List Value) : Prop where
  F : ExcBaseFacts B newId initId tl
  SF : StoreFacts B tl "object.__setattr__" "object"
  KF : PySem.W.KxsFacts B initId
abbrev tlL : List Value := [.type "LookupError", .type "Exception", .type "BaseException", .type "object"]
theorem bL : BaseE "LookupError" "LookupError.__new__" "LookupError.__init__" tlL := ⟨PySem.F.excBase_LookupError, PySem.F.store_LookupError, PySem.W.kxs_LookupError⟩
/-- what the text says of the class at C -/
structure Oex (K : PySem.W.Frag) (C : Addr) (B newId : String) (tl : List Value) : Prop where
  ini : PySem.W.excInitIn K C tl newId = true
  ov : PySem.W.excOver K C tl = true
  sa : PySem.W.findIn K (.ref C) "__setattr__" = some (some (.builtin "object.__setattr__"))
  exC : PySem.W.subIn K (.ref C) (.type "BaseException") = some true
  tyC : PySem.W.typeIn K (.ref C) = some (.type "type")
  kC : PySem.W.keepIn K (.ref C) = true
  hd : PySem.W.hasDictIn K C = true
  sB : PySem.W.subIn K (.ref C) (.type B) = some true
theorem upd_twice {H : Hp} {a : Addr} {o u : HO} : upd (upd H a o) a u = upd H a u := by
  funext b
  by_cases z : b = a
  · rw [z, upd_same, upd_same]
  · rw [upd_ne z, upd_ne z, upd_ne z]
theorem upd_swap {H : Hp} {a b : Addr} {o u : HO} (n : a ≠ b) : upd (upd H a o) b u = upd (upd H b u) a o := by
  funext c
  by_cases z : c = b
  · rw [z, upd_same, upd_ne n.symm, upd_same]
  · by_cases y : c = a
    · rw [y, upd_ne n, upd_same, upd_same]
    · rw [upd_ne z, upd_ne y, upd_ne y, upd_ne z]
section
variable {B newId initId : String} {tl : List Value} {X : Cx} {pins : List (Addr × Obj)} {σ : L2.St} {H : Hp} {s : Shared} {a C dx : Addr} {f : Str} {y : V} {u : Value} {fs : List (Str × V)} {Q : Unit → Shared → Prop} {E : Value → Shared → Prop} {A : Around}
/-- self.f = y, the dict is there -/
theorem put_old (b : BaseE B newId initId tl) (T : Oex X.K C B newId tl) (I : Inv X pins σ H s) (e : H a = some (exo a C (some dx))) (ed : H dx = some (exd dx fs)) (hl : fs.length ≤ 900)
    (hno : PySem.W.findIn X.K (.ref C) f = some none) (ry : RelV y u) (h : ∀ s', Inv X pins σ (upd H dx (exd dx ((f, y) :: fs))) s' → Q () s') : wpAny (model X.prog X.w) A (setAttr (.ref a) f u) Q E s := by
  obtain ⟨t1, ho⟩ := exo_at I.hok e
  obtain ⟨mA, hns, rel⟩ := exd_at I.hok ed
  have hw := within_of rel
  have KX := I.kIn
  obtain ⟨cd, hc, hd'⟩ := PySem.W.any_some T.hd
  obtain ⟨hp, g, d, t, os⟩ := s
  obtain ⟨oD, _, _, hoD, _, _⟩ := hns.count hw
  have at_ : PySem.W.InstAt hp a { cls := .ref C, dict := some dx, data := .fields #[.ref t1, .none, .none, .none, .bool false, .none] } C (some oD) := ⟨ho, rfl, rfl, hoD⟩
  refine PySem.W.set_plain KX at_ T.sa (PySem.W.osa_openX (r := none) b.SF KX at_ T.ov (NoAttr.taker hno) fun b0 => ?_)
  refine wpAny_bind (wpAny_pure (wpAny_bind (wpAny_bind (wpAny_loadPart ho (wpAny_bind ((PySem.W.looks_clsIn KX hc).at ?_))))))
  rw [hd']
  refine wpAny_pure (a := some dx) (PySem.OEX.store_in_old hns hw (by rw [List.length_map]; exact Nat.le_trans hl (by decide)) fun h' tk' hn hs => ?_)
  refine h _ (I.write (t' := tk') (x := dx) (e := dx) (o := exd dx ((f, y) :: fs)) (by rw [ed]; trivial) (.inl rfl) (fun c o hb ho => (hs.2 c hb).trans ho) ?_ (exd_ok hn (relO_put ry rel)))
  obtain ⟨o, _, _, e', _⟩ := hn
  exact ⟨o, e'⟩
/-- .., the first one -/
theorem put_new (b : BaseE B newId initId tl) (T : Oex X.K C B newId tl) (I : Inv X pins σ H s) (e : H a = some (exo a C none)) (hno : PySem.W.findIn X.K (.ref C) f = some none) (ry : RelV y u)
    (h : ∀ dx s', H dx = none → dx ≠ a → Inv X pins σ (upd (upd H dx (exd dx [(f, y)])) a (exo a C (some dx))) s' → Q () s') : wpAny (model X.prog X.w) A (setAttr (.ref a) f u) Q E s := by
  obtain ⟨t1, ho⟩ := exo_at I.hok e
  have KX := I.kIn
  obtain ⟨cd, hc, hd'⟩ := PySem.W.any_some T.hd
  obtain ⟨hp, g, d, t, os⟩ := s
  have at_ : PySem.W.InstAt hp a { cls := .ref C, dict := none, data := .fields #[.ref t1, .none, .none, .none, .bool false, .none] } C none := ⟨ho, rfl, rfl, trivial⟩
  refine PySem.W.set_plain KX at_ T.sa (PySem.W.osa_openX (r := none) b.SF KX at_ T.ov (NoAttr.taker hno) fun b0 => ?_)
  refine wpAny_bind (wpAny_pure (wpAny_bind (PySem.W.instanceDict_exc (s := ⟨hp, g, d, t + 1, os⟩) ho (PySem.W.looks_clsIn KX hc) hd' ?_)))
  have hdn : H hp.objs.size = none := I.hok.fresh (Nat.le_refl _)
  have nda : hp.objs.size ≠ a := (Nat.ne_of_lt (Heap.lt_size ho)).symm
  have e0 : Heap.Ns1 (hp.push (PySem.W.dictOf [] 0)) hp.objs.size (fun _ => none) := Heap.Ns1.of_empty ⟨_, #[], _, Heap.get?_push_at rfl rfl, rfl, fun e he => absurd he (by simp), fun _ => rfl⟩
  have I1 : Inv X pins σ (upd H hp.objs.size (exd hp.objs.size [])) ⟨hp.push (PySem.W.dictOf [] 0), g, d, t + 1, os⟩ :=
    I.laid (t' := t + 1) (fun c o ho => Heap.get?_push_of_some _ ho) (Nat.le_refl _) (exd_ok e0 fun g => trivial)
  have ha1 : (hp.push (PySem.W.dictOf [] 0)).get? a = some { cls := .ref C, dict := none, data := .fields #[.ref t1, .none, .none, .none, .bool false, .none] } := Heap.get?_push_of_some _ ho
  have ha2 : ((hp.push (PySem.W.dictOf [] 0)).update a fun o => { o with dict := some hp.objs.size }).get? a = some { cls := .ref C, dict := some hp.objs.size, data := .fields #[.ref t1, .none, .none, .none, .bool false, .none] } := Heap.get?_update_self _ ha1 rfl
  have I2 := I1.write (t' := t + 1) (x := a) (e := a) (o := exo a C (some hp.objs.size)) (h' := (hp.push (PySem.W.dictOf [] 0)).update a fun o => { o with dict := some hp.objs.size })
    (by rw [upd_ne nda.symm, e]; trivial) (.inl rfl) (fun c o hb ho => (Heap.get?_update_ne _ _ _ _ hb).trans ho) ⟨_, ha2⟩ (exo_ok ha2)
  have ed2 : upd (upd H hp.objs.size (exd hp.objs.size [])) a (exo a C (some hp.objs.size)) hp.objs.size = some (exd hp.objs.size []) := by rw [upd_ne nda, upd_same]
  obtain ⟨mA, hns, rel⟩ := exd_at I2.hok ed2
  show wpAny _ _ (Builtin.ObjectAttr.storeInDict hp.objs.size (.str f t) f u) _ _ _
  refine PySem.OEX.store_in_old hns (within_of rel) (by decide) fun h' tk' hn hs => ?_
  have I3 := I2.write (t' := tk') (x := hp.objs.size) (e := hp.objs.size) (o := exd hp.objs.size [(f, y)]) (h' := h') (by rw [ed2]; trivial) (.inl rfl) (fun c o hb ho => (hs.2 c hb).trans ho)
    (by obtain ⟨o, _, _, e', _⟩ := hn; exact ⟨o, e'⟩) (exd_ok hn (relO_put ry rel))
  refine h hp.objs.size _ hdn nda ?_
  rw [upd_swap nda.symm, upd_twice] at I3
  exact I3
end
/-- self.f = e -/
def tPut (K : PySem.W.Frag) (B newId : String) (tl : List Value) (f : Str) (to te : TE) : TS := fun D σ H => te σ H fun y H1 => to σ H1 fun x H2 => ∃ a C : Addr, x = .ref a ∧ Oex K C B newId tl ∧ PySem.W.findIn K (.ref C) f = some none ∧
  ((H2 a = some (exo a C none) ∧ ∀ dx, H2 dx = none → dx ≠ a → D.nx σ (upd (upd H2 dx (exd dx [(f, y)])) a (exo a C (some dx)))) ∨
    ∃ (dx : Addr) (fs : List (Str × V)), H2 a = some (exo a C (some dx)) ∧ H2 dx = some (exd dx fs) ∧ fs.length ≤ 900 ∧ D.nx σ (upd H2 dx (exd dx ((f, y) :: fs))))
section
variable {B newId initId : String} {tl : List Value} {X : Cx} {body : List Stmt} {f0 c cc D : Addr} {me : Str} {pins : List (Addr × Obj)} {s : Shared} {σ : L2.St} {H : Hp}
theorem ps_put {o e : Expr} {to te : TE} {f : Str} {p' pos : Pos} (b : BaseE B newId initId tl) (ho : PE X o to) (he : PE X e te) (hs : swapsWith e (some (.Attribute o f p')) pos.line X.env = pure false := by rfl) :
    PS X (.Assign [.Attribute o f p'] e pos) (tPut X.K B newId tl f to te) := by
  refine ⟨fun pins s σ H D I h => plainObj_wpAny_Assign_Attribute (thn (he.run pins s σ H _ I h) ?_) hs⟩
  rintro v s1 ⟨y, H1, I1, r1, q1⟩
  refine thn (ho.run pins s1 σ H1 _ I1 q1) ?_
  rintro u s2 ⟨x, H2, I2, r2, a, C, rfl, T, hno, q⟩
  cases r2
  rcases q with ⟨ea, q⟩ | ⟨dx, fs, ea, ed, hl, q⟩
  · exact put_new b T I2 ea hno r1 fun dx s' n ne J => ⟨σ, _, J, q dx n ne⟩
  · exact put_old b T I2 ea ed hl hno r1 fun s' J => ⟨σ, _, J, q⟩
/-- super().__init__ of the built-in base, bound -/
theorem sup_meth {pl : Sem Bool} {x C so : Addr} {Q : Value × List Value → Shared → Prop} (b : BaseE B newId initId tl) (T : Oex X.K C B newId tl) (I : Inv X pins σ H s) (hso : s.heap.get? so = some (PySem.W.ks_superObj D x C))
    (hx : H x = some (exo x C none)) (third : PySem.W.nsIn X.K cStatics "thirdparty.any" = some none)
    (hm : PySem.W.ks_superIn X.K C D "__init__" = some (some (.builtin initId))) (hne : (Value.builtin initId == .builtin "super.__init__") = false ∨ True)
    (h : ∀ q s', q = s.heap.objs.size → s'.heap.get? q = some (PySem.W.kxs_mw initId x) → Inv X pins σ H s' → Q (.ref q, []) s') :
    wpAny (model X.prog X.w) X.A (getMethod (.ref so) "__init__" pl) Q X.xe s := by
  have KX := I.kIn
  obtain ⟨t1, ho⟩ := exo_at I.hok hx
  have hI : PySem.W.Looks (model X.prog X.w) s.heap (isInstance (.ref x) (.type B)) true :=
    (PySem.W.InstAt.type (ox := { cls := .ref C, dict := none, data := .fields #[.ref t1, .none, .none, .none, .bool false, .none] }) (od := none) ⟨ho, rfl, rfl, trivial⟩).andThen (PySem.W.looks_subIn KX T.sB)
  obtain ⟨cd, hc, _⟩ := PySem.W.any_some T.hd
  obtain ⟨hh, g, d, tk, os⟩ := s
  unfold PySem.W.ks_superIn at hm
  rw [hc] at hm
  have hxC : x ≠ C := by
    rintro rfl
    unfold PySem.W.clsIn at hc
    split at hc
    · rename_i c d cd' sl hoc
      have e := KX _ _ hoc
      rw [ho] at e
      cases e
    · cases hc
  refine PySem.W.kxs_getMethod b.KF hso (PySem.W.looks_opaque KX third) (l₀ := cd.mro) ?_ rfl KX hm hI hxC (by decide) ?_
  · exact fun A Q E s k q => wpAny_bind ((PySem.W.looks_clsIn KX hc) A _ E s k (wpAny_pure q))
  · exact h _ _ rfl (Heap.get?_push_at rfl rfl) (I.kept (t' := tk + 1) fun b o e => Heap.get?_push_of_some _ e)
theorem sup_call {u a C : Addr} {us : List Value} {Q : Value → Shared → Prop} (b : BaseE B newId initId tl) (T : Oex X.K C B newId tl) (I : Inv X pins σ H s) (hu : s.heap.get? u = some (PySem.W.kxs_mw initId a)) (e : H a = some (exo a C none)) (hl : us.length ≤ sizeLine)
    (h : ∀ s', Inv X pins σ H s' → Q .none s') : wpAny (model X.prog X.w) X.A (call (.ref u) us) Q X.xe s := by
  obtain ⟨nm, N, q, bs, bm, hdct, sn, sub, ab, col, dd, k0, k1, k2, k3, k5, hCs, hbm⟩ := PySem.W.excInit_of I.kIn T.ini
  obtain ⟨t1, ho⟩ := exo_at I.hok e
  obtain ⟨hh, g, d, tk, os⟩ := s
  refine wpAny_call (codeAny_of_tree ?_)
  show wpAny _ X.A.in1 (callAny (.ref u) ⟨us, []⟩) _ _ _
  simp only [callAny]
  refine wpAny_bind (wpAny_load hu ?_)
  simp only [PySem.W.kxs_mw, show (Value.type "method-wrapper" == Value.type "method" || Value.type "method-wrapper" == Value.type "builtin_function_or_method" || Value.type "method-wrapper" == Value.type "method-wrapper") = true by decide, if_true]
  refine PySem.W.KFB.if_so (by decide) ?_
  refine wpAny_bind (PySem.W.check_bound_init b.F.toExcCallFacts hCs ho rfl ?_)
  refine wpAny_bind (wpAny_pure (wpAny_pure ?_))
  refine ⟨plainId_quiet b.F.init.plain _, codeAny_builtin b.F.initEntry ?_⟩
  refine PySem.W.exc_init_tree (cls := .ref C) (t0 := t1) (dv := none) (c2 := .none) (c3 := .none) (b4 := .bool false) ho hl fun h' k e' t' => ?_
  have J := I.write (t' := tk) (x := a) (e := a) (o := exo a C none) (by rw [e]; trivial) (.inl rfl) k ⟨_, e'⟩ (exo_ok e')
  have eu : upd H a (exo a C none) = H := by
    funext z
    by_cases hz : z = a
    · rw [hz, upd_same, e]
    · rw [upd_ne hz]
  exact h _ (eu ▸ J)
/-- super().__init__(e, ..), then the rest -/
theorem sup_exc {x C : Addr} {e : Expr} {es : List Expr} {t : TA} {rest : List Stmt} {u : TS} {D' : Ends} {p0 p1 p2 p3 p4 : Pos}
    (b : BaseE B newId initId tl) (a : AtS X body f0 c cc D me) (T : SupT X.prog X.K X.mg D) (TC : Oex X.K C B newId tl)
    (hN : X.N[0]? = some me) (hm : PySem.W.ks_superIn X.K C D "__init__" = some (some (.builtin initId)))
    (hsub : PySem.W.mroIn X.K C (.ref D) = some true) (ha : PA X (e :: es) t) (hrest : PSs X rest u)
    (I : Inv X pins σ H s) (hσ : σ[0]? = some (some (.ref x))) (hx : H x = some (exo x C none))
    (hq : t σ H fun vs H1 => vs.length ≤ 1000 ∧ H1 x = some (exo x C none) ∧ u D' σ H1)
    (hi : interactive X.env = false) (hs : swapsWith (.Call (.Attribute (.Call (.Name "super" p0) [] [] p1) "__init__" p2) (e :: es) [] p3) none p4.line X.env = pure false)
    (he : eval (.Call (.Attribute (.Call (.Name "super" p0) [] [] p1) "__init__" p2) (e :: es) [] p3) X.env = (do
      let ov ← attributeBase (.Call (.Name "super" p0) [] [] p1) "__init__" X.env (eval (.Call (.Name "super" p0) [] [] p1) X.env)
      standAt p2.atName
      let (f, first) ← holding [ov] (getMethod ov "__init__" (pure false))
      callWith p3 f first (backTo p3 (starEach (e :: es) X.env)) []))
    (hst : starEach (e :: es) X.env = (false, eval e X.env) :: starEach es X.env) (hpl : (backTo p3 (starEach es X.env)).any (·.1) = false) :
    PySem.wpAt (model X.prog X.w) X.A (.func body X.env) (execs (.Expr (.Call (.Attribute (.Call (.Name "super" p0) [] [] p1) "__init__" p2) (e :: es) [] p3) p4 :: rest) X.env) (SP X pins D') X.xe s := by
  obtain ⟨ox, ho, hc, hnc⟩ := exo_obj I hx
  refine ks_wpAt_execs_cons (ks_wpAt_Expr_any (ks_wpAt_MethodCall (pl := pure false) (super_base a T I hN hσ ho hc hnc hsub (by decide) fun so h' eso hso kp I1 => ?_) he) hi hs)
  refine sup_meth (x := x) (C := C) (D := D) b TC I1 hso hx T.third hm (.inr trivial) fun q s2 eq hq2 I2 => ?_
  have hqn : H q = none := by rw [eq]; exact I1.hok.fresh (Nat.le_refl _)
  have hq0 : X.s_0.heap.objs.size ≤ q := by rw [eq]; exact I1.sz
  have hqL : q ≠ X.env.locals := by rw [eq]; exact (Nat.ne_of_lt I1.lt).symm
  have hqf : q ∉ X.fs := by rw [eq]; exact I1.nofs (Nat.le_refl _)
  have J : Inv X (pins ++ [(q, PySem.W.kxs_mw initId x)]) σ H s2 := I2.pins_of fun p hp => by
    rcases List.mem_append.mp hp with hp | hp
    · exact I2.pin p (List.mem_append_right _ hp)
    · obtain rfl := List.mem_singleton.mp hp
      exact ⟨hq2, hqn, hqL, hqf, fun v hv => by cases hv⟩
  refine PySem.W.kxs_callWith1 (h₀ := X.base) (L := X.env.locals) (news := [(q, PySem.W.kxs_mw initId x)]) (i := initId) (x := x) ?_ (List.mem_singleton.mpr rfl) ?_ hst hpl
  · intro p hp
    obtain rfl := List.mem_singleton.mp hp
    exact ⟨hq2, hqL, Heap.get?_none_of_le (Nat.le_trans I.ok.bsz hq0)⟩
  refine thn (ha.run p3 _ s2 σ H _ J hq) fun us s3 ⟨vs, H3, I3, r, hl, hx3, q3⟩ => ?_
  have hq3 : s3.heap.get? q = some (PySem.W.kxs_mw initId x) := (I3.pin _ (List.mem_append_right _ (List.mem_append_right _ (List.mem_singleton.mpr rfl)))).1
  have I4 : Inv X pins σ H3 s3 := I3.pins_of fun p hp => I3.pin p (List.mem_append_right _ (List.mem_append_left _ hp))
  refine ⟨hq3, ?_⟩
  exact sup_call b TC I4 hq3 hx3 (by rw [← r.length]; exact Nat.le_trans hl (by decide)) fun s' I5 => wpAt_of_wpAny (hrest.run pins s' σ H3 D' I5 q3)
end
end Exg
namespace Exg
open PySem PySem.Spec PyProof.Rows L2 Sup Grd
theorem guards_make {A : Around} (h : A.guards = some []) (C : Addr) (us : List Value) (kw : List (Str × Value)) : (A.under (.builtin "type.__call__" ⟨.ref C :: us, kw⟩)).guards = some [] := by
  simp [Around.under, pushGuards, Code.guards, Code.isGuard, guardIds, h]
end Exg
/-! C(name = e): an own exception, made by keywords. -/
namespace Exg
open PySem PySem.Spec PyProof.Rows L2 Sup Grd
end Exg
namespace Exg
open PySem PySem.Spec PyProof.Rows L2 Sup Grd
/-! ### what is kept: its fields, its classes -/
/-- an exception at a, of the class at C, with these fields -/
def ExAt (H : Hp) (a C : Addr) (fs : List (Str × V)) : Prop := ∃ dx, H a = some (exo a C (some dx)) ∧ H dx = some (exd dx fs)
/-- an exception at a, its dict made or not -/
def ExIs (H : Hp) (a C : Addr) : Prop := H a = some (exo a C none) ∨ ∃ fs, ExAt H a C fs
theorem ExIs.inst {X : Cx} {pins : List (Addr × Obj)} {s : Shared} {σ : L2.St} {H : Hp} {a C : Addr} (I : Inv X pins σ H s) (h : ExIs H a C) : ∃ ox od, PySem.W.InstAt s.heap a ox C od := by
  rcases h with e | ⟨fs, dx, e, ed⟩
  · obtain ⟨t1, ho⟩ := exo_at I.hok e
    exact ⟨_, none, ho, rfl, rfl, trivial⟩
  · obtain ⟨t1, ho⟩ := exo_at I.hok e
    obtain ⟨mA, hns, _⟩ := exd_at I.hok ed
    obtain ⟨od, _, _, hd, _⟩ := hns
    exact ⟨_, some od, ho, rfl, rfl, hd⟩
end Exg
/-! repr of data with an empty dict in it, where nothing is being shown. -/
namespace Shw
open PySem PySem.Spec PyProof.Rows L2
mutual
/-- data; its lists are none of the interpreter's own -/
inductive Dq (K : PySem.W.Frag) (H : Hp) : V → PyData → Prop
  | non : Dq K H .non .none
  | bl (b : Bool) : Dq K H (.bl b) (.bool b)
  | int (i : Int) : Dq K H (.int i) (.int i)
  | str (x : Str) : Dq K H (.str x) (.str x)
  | lst {a : Addr} {xs : List V} {ds : List PyData} (n : sysModules ≠ a) (h : SqL K H a xs) (r : DqAll K H xs ds) : Dq K H (.ref a) (.list ds)
  | tup {a : Addr} {xs : List V} {ds : List PyData} (h : SqT K H a xs) (r : DqAll K H xs ds) : Dq K H (.ref a) (.tuple ds)
  | dic {a : Addr} (h : Rd H a (.dK [])) : Dq K H (.ref a) (.dict [])
inductive DqAll (K : PySem.W.Frag) (H : Hp) : List V → List PyData → Prop
  | nil : DqAll K H [] []
  | cons {v : V} {vs : List V} {d : PyData} {ds : List PyData} (h : Dq K H v d) (r : DqAll K H vs ds) : DqAll K H (v :: vs) (d :: ds)
end
theorem DqAll.append {K : PySem.W.Frag} {H : Hp} {xs ys : List V} {ds es : List PyData} (h : DqAll K H xs ds) (g : DqAll K H ys es) : DqAll K H (xs ++ ys) (ds ++ es) := by
  induction ds generalizing xs with
  | nil => cases h; exact g
  | cons d ds ih => cases h with | cons a b => exact .cons a (ih b)
theorem rd_same {H H' : Hp} {a : Addr} {u : HO} (s : ∀ b o, H b = some o → H' b = some o) (h : Rd H a u) : Rd H' a u := h.imp (s _ _) fun ⟨o, e⟩ => ⟨o, s _ _ e⟩
mutual
theorem Dq.same {K : PySem.W.Frag} {H H' : Hp} (s : ∀ b o, H b = some o → H' b = some o) : ∀ (d : PyData) (v : V), Dq K H v d → Dq K H' v d
  | .none, _, h => by cases h; exact .non
  | .bool _, _, h => by cases h; exact .bl _
  | .int _, _, h => by cases h; exact .int _
  | .str _, _, h => by cases h; exact .str _
  | .list ds, _, h => by
    cases h with
    | lst n q r => exact .lst n (q.imp (rd_same s) id) (Dq.sameAll s ds _ r)
  | .tuple ds, _, h => by
    cases h with
    | tup q r => exact .tup (q.imp (rd_same s) id) (Dq.sameAll s ds _ r)
  | .dict _, _, h => by
    cases h with
    | dic q => exact .dic (rd_same s q)
theorem Dq.sameAll {K : PySem.W.Frag} {H H' : Hp} (s : ∀ b o, H b = some o → H' b = some o) : ∀ (ds : List PyData) (vs : List V), DqAll K H vs ds → DqAll K H' vs ds
  | [], _, h => by cases h; exact .nil
  | d :: ds, _, h => by
    cases h with
    | cons a b => exact .cons (Dq.same s d _ a) (Dq.sameAll s ds _ b)
end
section
variable {X : Cx} {pins : List (Addr × Obj)} {σ : L2.St} {H : Hp} {s : Shared}
mutual
theorem Dq.reads (I : Inv X pins σ H s) : ∀ (d : PyData) (v : V) (u : Value), Dq X.K H v d → RelV v u → ∃ as, Reads s.heap u d as ∧ sysModules ∉ as
  | .none, _, _, h, r => by
    cases h; cases r
    exact ⟨[], .none, List.not_mem_nil⟩
  | .bool b, _, _, h, r => by
    cases h; cases r
    exact ⟨[], .bool b, List.not_mem_nil⟩
  | .int i, _, _, h, r => by
    cases h
    obtain ⟨t, rfl⟩ := r
    exact ⟨[], .int i t, List.not_mem_nil⟩
  | .str x, _, _, h, r => by
    cases h
    obtain ⟨t, rfl⟩ := r
    exact ⟨[], .str x t, List.not_mem_nil⟩
  | .list ds, _, _, h, r => by
    cases h with
    | lst n hs ha =>
      cases r
      obtain ⟨its, rv, ⟨o, k, ho, hc, _, hd⟩, _⟩ := I.list hs
      obtain ⟨as, hr, hn⟩ := Dq.readsAll I ds _ its ha rv
      exact ⟨_, .list ho hc hd hr, fun z => (List.mem_cons.mp z).elim n hn⟩
  | .tuple ds, _, _, h, r => by
    cases h with
    | tup hs ha =>
      cases r
      obtain ⟨its, rv, ⟨o, ho, hc, k, hd⟩, _⟩ := I.tuple hs
      obtain ⟨as, hr, hn⟩ := Dq.readsAll I ds _ its ha rv
      exact ⟨_, .tuple ho hc hd hr, hn⟩
  | .dict _, _, _, h, r => by
    cases h with
    | dic hs =>
      cases r
      obtain ⟨_, hsm, vs, kv, o, es, ep, ho, hx, hd, hk, hp, _⟩ := dk_rd I.hok hs
      cases kv
      have e0 : es.toList = [] := by
        generalize es.toList = l at hp
        cases hp
        rfl
      refine ⟨_, .dict (as := []) (bs := []) ho hx.1 hd (by rw [e0]; exact .nil) (by rw [e0]; exact .nil), ?_⟩
      intro z
      rw [List.append_nil] at z
      rw [List.mem_singleton.mp z] at hsm
      exact absurd hsm (by simp)
theorem Dq.readsAll (I : Inv X pins σ H s) : ∀ (ds : List PyData) (vs : List V) (us : List Value), DqAll X.K H vs ds → Vals vs us → ∃ as, ReadsAll s.heap us ds as ∧ sysModules ∉ as
  | [], _, _, h, r => by
    cases h; cases r
    exact ⟨[], .nil, List.not_mem_nil⟩
  | d :: ds, _, _, h, r => by
    cases h with
    | cons h1 h2 =>
      cases r with
      | cons r1 r2 =>
        obtain ⟨as, q1, n1⟩ := Dq.reads I d _ _ h1 r1
        obtain ⟨bs, q2, n2⟩ := Dq.readsAll I ds _ _ h2 r2
        exact ⟨_, .cons q1 q2, fun z => (List.mem_append.mp z).elim n1 n2⟩
end
end
section
variable {X : Cx}
/-- what may be shown -/
structure Fit (d : PyData) : Prop where
  sh : PyData.showable d = true
  dp : d.depth ≤ 60
  sz : d.shown.length ≤ sizeLine
def rShow (K : PySem.W.Frag) : List V → Hp → VK → Prop := fun xs H Q => ∃ x d, xs = [x] ∧ Dq K H x d ∧ Fit d ∧ Q (.str d.shown) H
theorem call_show (hg : X.A.guards = some []) (hu : X.A.units + 64 < cLine) : CallR X (.builtin "repr") (rShow X.K) := by
  intro pins s σ H xs us Q I r h
  obtain ⟨x, d, rfl, hd, ft, q⟩ := h
  obtain ⟨u, rfl, ru⟩ := vals1 r
  obtain ⟨as, rd, na⟩ := Dq.reads I d x u hd ru
  cases hd with
  | non => cases ru; exact PySem.P.repr_of_none ⟨.str _, H, I.tok _, ⟨_, rfl⟩, q⟩
  | bl b => cases ru; exact PySem.P.repr_of_bool ⟨.str _, H, I.tok _, ⟨_, rfl⟩, q⟩
  | int i => obtain ⟨t, rfl⟩ := ru; exact PySem.P.repr_of_int (of_decide_eq_true ft.sh) ⟨.str _, H, I.tok _, ⟨_, rfl⟩, q⟩
  | str y => obtain ⟨t, rfl⟩ := ru; exact PySem.P.repr_of_str ⟨.str _, H, I.tok _, ⟨_, rfl⟩, q⟩ ft.sz
  | lst n q1 q2 => cases ru; exact PySem.repr_of_reads' rd ft.sh (fun _ => na) hg (by have := ft.dp; omega) (fun _ _ e => e) (fun h' u tk hk => ⟨.str _, H, I.kept (t' := tk) hk, ⟨_, rfl⟩, q⟩) ft.sz
  | tup q1 q2 => cases ru; exact PySem.repr_of_reads' rd ft.sh (fun _ => na) hg (by have := ft.dp; omega) (fun _ _ e => e) (fun h' u tk hk => ⟨.str _, H, I.kept (t' := tk) hk, ⟨_, rfl⟩, q⟩) ft.sz
  | dic q1 => cases ru; exact PySem.repr_of_reads' rd ft.sh (fun _ => na) hg (by have := ft.dp; omega) (fun _ _ e => e) (fun h' u tk hk => ⟨.str _, H, I.kept (t' := tk) hk, ⟨_, rfl⟩, q⟩) ft.sz
/-- {x!r} -/
def tShowR (K : PySem.W.Frag) (te : TE) : TE := fun σ H Q => te σ H fun x H1 => ∃ d, Dq K H1 x d ∧ Fit d ∧ Q (.str d.shown) H1
theorem pe_showR {e : Expr} {te : TE} {pos : Pos} (hg : X.A.guards = some []) (hu : X.A.units + 64 < cLine) (he : PE X e te) : PE X (.FormattedValue e 114 none pos) (tShowR X.K te) := by
  refine ⟨fun pins s σ H Q I h => wpAny_FormattedValue_repr (thn (he.run pins s σ H _ I h) ?_)⟩
  rintro v s1 ⟨x, H1, I1, r1, d, hd, ft, q⟩
  obtain ⟨as, rd, na⟩ := Dq.reads I1 d x v hd r1
  have fin : ∀ (h' : Heap) (u : Tok) (tk : Nat), (∀ b o, s1.heap.get? b = some o → h'.get? b = some o) → wpAny (model X.prog X.w) X.A (formatField (.str d.shown u) Str.empty) (EP X pins σ Q) X.xe { s1 with heap := h', toks := tk } :=
    fun h' u tk hk => wpAny_formatField_str ⟨.str _, H1, I1.kept (t' := tk) hk, ⟨_, rfl⟩, q⟩ ⟨.str _, H1, (I1.kept (t' := tk) hk).tok _, ⟨_, rfl⟩, q⟩ ft.sz
  cases hd with
  | non => cases r1; exact pyReprObj_none (fin _ _ _ fun _ _ e => e)
  | bl b => cases r1; exact pyReprObj_bool (fin _ _ _ fun _ _ e => e)
  | int i => obtain ⟨t, rfl⟩ := r1; exact pyReprObj_int (of_decide_eq_true ft.sh) (fin _ _ _ fun _ _ e => e)
  | str y => obtain ⟨t, rfl⟩ := r1; exact pyReprObj_str (fin _ _ _ fun _ _ e => e) ft.sz
  | lst n q1 q2 => cases r1; exact pyReprObj_of_reads rd ft.sh (fun _ => na) hg (by have := ft.dp; omega) (fun _ _ e => e) (fun h' u tk hk => fin h' u tk hk) ft.sz
  | tup q1 q2 => cases r1; exact pyReprObj_of_reads rd ft.sh (fun _ => na) hg (by have := ft.dp; omega) (fun _ _ e => e) (fun h' u tk hk => fin h' u tk hk) ft.sz
  | dic q1 => cases r1; exact pyReprObj_of_reads rd ft.sh (fun _ => na) hg (by have := ft.dp; omega) (fun _ _ e => e) (fun h' u tk hk => fin h' u tk hk) ft.sz
/-- new lists -/
theorem big {pins : List (Addr × Obj)} {σ : L2.St} {H : Hp} {s : Shared} (I : Inv X pins σ H s) : sysModules ≠ s.heap.objs.size := Nat.ne_of_lt (StX.env0_big I.env0)
def tLstN (t : TA) : TE := fun σ H Q => t σ H fun xs H1 => xs.length ≤ sizeLine ∧ ∀ p, H1 p = none → sysModules ≠ p → Q (.ref p) (upd H1 p (.lst xs))
theorem pe_lstN {es : List Expr} {t : TA} {pos : Pos} (h : PA X es t) : PE X (.List es pos) (tLstN t) := by
  refine ⟨fun pins s σ H Q I hq => wpAny_List_spliced (thn (h.run pos pins s σ H _ I hq) ?_)⟩
  rintro us s1 ⟨xs, H1, I1, r, z, q⟩
  refine ⟨r.length ▸ z, .ref s1.heap.objs.size, _, I1.lnew (t' := s1.toks) r z, rfl, q _ I1.fresh (big I1)⟩
def rCatN : R2 := fun x y H Q => ∃ l b xs zs, x = .ref l ∧ y = .ref b ∧ H l = some (.lst xs) ∧ H b = some (.lst zs) ∧ xs.length + zs.length ≤ sizeLine ∧ ∀ p, H p = none → sysModules ≠ p → Q (.ref p) (upd H p (.lst (xs ++ zs)))
theorem op_catN : OpR X (binaryOp .Add) rCatN := by
  intro pins s σ H x y v u Q I rx ry h
  obtain ⟨l, b, xs, zs, rfl, rfl, hH, hB, hz, q⟩ := h
  cases rx; cases ry
  obtain ⟨_, its, n, r, hl, e⟩ := I.lstM hH
  obtain ⟨_, its2, n2, r2, hl2, e2⟩ := I.lstM hB
  refine PySem.P.add_list e e2 ?_ (by rw [List.size_toArray, List.size_toArray, ← hl, ← hl2]; exact hz)
  rw [show its.toArray ++ its2.toArray = (its ++ its2).toArray from by simp]
  exact ⟨.ref _, _, I.lnew (t' := s.toks) (r.append r2) (by rw [List.length_append]; exact hz), rfl, q _ I.fresh (big I)⟩
end
end Shw
namespace Exg
open PySem PySem.Spec PyProof.Rows L2 Sup Grd Shw
open NdefX (NF NScope ncx envF startF CellsAt inv_startN nscope_by)
section
variable {P : Program} {w : World} {K : PySem.W.Frag} {mg : Str → Option Value} {base : Heap} {CX : CXT} {x qual : Str} {st : Stmt} {f c cc D : Addr} {fd : FuncData} {N ps : List Str} {k : Nat} {sp : Sp}
theorem fn_superG (F : FunS P K x qual st f fd c cc D) (S : NScope N ps ["__class__"] (defScope st)) (len : ∀ vs H Q E, sp vs H Q E → vs.length = ps.length)
    (hbody : ∀ (A : Around) (outer : List Env) (s : Shared) (H : Hp) (vs : List V) (Q : VK) (E : XK), A.guards = some [] → Room k (A.deeper (envF (nf x qual st c cc) f s.heap.objs.size)) → sp vs H Q E → ∀ s1,
      Inv (ncx CX P w K mg base N (nf x qual st c cc) f A outer s H E) [] (startF N vs [some (.ref D)]) H s1 →
      PySem.wpAt (model P w) (A.deeper (envF (nf x qual st c cc) f s.heap.objs.size)) (.func (defBody st) (envF (nf x qual st c cc) f s.heap.objs.size)) (execs (defBody st) (envF (nf x qual st c cc) f s.heap.objs.size))
        (SP (ncx CX P w K mg base N (nf x qual st c cc) f A outer s H E) [] { nx := fun _ H' => Q .non H', rt := Q }) (ncx CX P w K mg base N (nf x qual st c cc) f A outer s H E).xe s1) :
    FnG P w K mg base CX (k + 1) f fd ps sp := by
  obtain ⟨oc, od, kV, doc, pm, an, ct, osl, rfl, lk⟩ := F.ex
  obtain ⟨cl, cld, csl, lc⟩ := F.cell
  refine ⟨len, fun A outer s H args us vs Q E hgu hr e0 hb r hsp => ?_⟩
  have hl := len _ _ _ _ hsp
  have KX : K.In s.heap := e0.mod.kin.keeps fun b o e => (e0.bs b o e).1
  have lim : s.heap.NoLimit := e0.mod.nolimit.keeps fun b o e => (e0.bs b o e).1
  have hcc : s.heap.get? cc = some ⟨cl, cld, .cell (some (.ref D)), csl⟩ := KX _ _ lc
  have C : CellsAt (nf x qual st c cc).cl ["__class__"] [some (V.ref D)] s.heap H := by
    refine ⟨rfl, fun y b e => ?_, fun a b q h1 h2 => ?_, fun i y hy => ?_⟩
    · have e : (if y == "__class__" then some cc else none) = some b := by
        have q : List.lookup y [(("__class__" : Str), cc)] = some b := e
        rw [List.lookup_cons] at q
        cases z : y == ("__class__" : Str) with
        | true => rw [z] at q; rw [if_pos rfl]; exact q
        | false => rw [z] at q; cases q
      split at e
      · cases e
        exact ⟨(e0.bs _ _ (e0.mod.kin _ _ lc)).2, _, _, hcc, rfl⟩
      · cases e
    · have key : ∀ {y : Str} {b : Addr}, List.lookup y [(("__class__" : Str), cc)] = some b → y = "__class__" := fun {y b} q => by
        rw [List.lookup_cons] at q
        cases z : y == ("__class__" : Str) with
        | true => exact eq_of_beq z
        | false => rw [z] at q; cases q
      exact (key h1).trans (key h2).symm
    · match i, hy with
      | 0, hy =>
        have e : (("__class__" : Str)) = y := Option.some.inj hy
        subst e
        refine ⟨cc, by show List.lookup _ [(("__class__" : Str), cc)] = some cc; rw [List.lookup_cons, beq_self_eq_true], fun v hv => ?_⟩
        have e : V.ref D = v := Option.some.inj (Option.some.inj hv)
        subst e
        exact ⟨_, rfl, _, hcc, rfl⟩
  refine ks_codeAny_call_defAt (fd := PySem.W.fnX x qual (defArgs st) (defBody st) (defScope st) [("__class__", cc)] .none kV doc pm an (.ref c) ct) (body := defBody st) (binds := ps.zip us) hr.depth (KX _ _ lk) rfl lim (PySem.W.codeRec_of KX F.cd) rfl hb
    S.nocell (fun ⟨n, _⟩ hy => S.par n (List.of_mem_zip hy).1) (fun h₁ hns kp => ?_) S.co S.gen S.kind
  have I : Inv (ncx CX P w K mg base N (nf x qual st c cc) f A outer s H E) [] (startF N vs [some (.ref D)]) H { s with heap := h₁, toks := s.toks + (ps.zip us).length } := inv_startN S hr.hd e0 hl r C hns kp
  refine ks_wpAt_mono (hbody A outer s H vs Q E hgu (hr.deeper _) hsp _ I) (fun fl s' hs => ?_) fun e s' hs => hs
  have fin : ∀ {σ' : L2.St} {H' : Hp} {v : V} {u : Value}, Inv (ncx CX P w K mg base N (nf x qual st c cc) f A outer s H E) [] σ' H' s' → L2.RelV v u → Q v H' → CE outer P w H s Q u s' :=
    fun {σ' H' v u} J rv q => ⟨v, H', J.os, J.bare, J.base, J.hok, rv, q⟩
  cases fl with
  | ret u =>
    obtain ⟨v, σ', H', J, rv, q⟩ := hs
    exact fin J rv q
  | next =>
    obtain ⟨σ', H', J, q⟩ := hs
    exact fin (v := V.non) (u := Value.none) J rfl q
  | brk =>
    obtain ⟨_, _, _, q⟩ := hs
    exact False.elim q
  | cont =>
    obtain ⟨_, _, _, q⟩ := hs
    exact False.elim q
end
/-- what is kept, small enough to be told in a message -/
structure Smalls (d : PyData) : Prop where
  fit : Fit d
  sz : d.shown.length ≤ 1000
def spOne (K : PySem.W.Frag) (C : Addr) (x : Str) : Sp := fun vs H Q _ => ∃ (a : Addr) (v : V) (d : PyData), vs = [.ref a, v] ∧ Dq K H v d ∧ Smalls d ∧ H a = some (exo a C none) ∧
  ∀ (dx : Addr), H dx = none → dx ≠ a → Q .non (upd (upd H dx (exd dx [(x, v)])) a (exo a C (some dx)))
/-- a class's facts that its __init__ asks -/
structure ErrT (P : Program) (K : PySem.W.Frag) (mg : Str → Option Value) (B newId initId : String) (tl : List Value) (C : Addr) : Prop where
  sup : SupT P K mg C
  oex : Oex K C B newId tl
  hm : PySem.W.ks_superIn K C C "__init__" = some (some (.builtin initId))
  hs : PySem.W.mroIn K C (.ref C) = some true
section
variable {P : Program} {w : World} {K : PySem.W.Frag} {mg : Str → Option Value} {base : Heap} {q x y pre pre2 : Str} {st : Stmt} {f c cc C : Addr} {fd : FuncData} {B newId initId : String} {tl : List Value} {p0 p1 p2 p3 p4 p5 p6 p7 p8 p9 p10 p11 p12 p13 p14 p15 p16 p17 p18 p19 : Pos} {j j2 : Nat}
theorem len0 (a : Str) : (Str.empty ++ a).length = a.length := by rw [strLen_append]; exact Nat.zero_add _
theorem ok_one (b : BaseE B newId initId tl) (F : FunS P K "__init__" q st f fd c cc C) (T : ErrT P K mg B newId initId tl C) (S : NScope ["self", x, "__class__"] ["self", x] ["__class__"] (defScope st))
    (hb : defBody st = [.Expr (.Call (.Attribute (.Call (.Name "super" p0) [] [] p1) "__init__" p2) [.JoinedStr [.Constant (.str pre) j p5, .FormattedValue (.Name x p6) 114 none p7] p8] [] p3) p4, .Assign [.Attribute (.Name "self" p9) x p10] (.Name x p11) p12])
    (hp : pre.length ≤ 100) (hsu : (defScope st).names.lookup ("super" : Str) = some .globalImplicit) (hcl : (defScope st).names.lookup ("__class__" : Str) = some .free) (hme : (defScope st).names.lookup ("self" : Str) = some .local) (hx : (defScope st).names.lookup x = some .local)
    (hd : (x == ("__debug__" : Str)) = false) (hcd : (x == ("__classdict__" : Str)) = false) (har : ∃ ar, ((defArgs st).posonlyargs ++ (defArgs st).args).head? = some ar ∧ ar.arg = "self") (hno : PySem.W.findIn K (.ref C) x = some none) (hk : (defScope st).kind = .function)
    (hin : ∀ env : Env, env.scope = defScope st → interactive env = false) (hev : ∀ env : Env, eval (.Call (.Attribute (.Call (.Name "super" p0) [] [] p1) "__init__" p2) [.JoinedStr [.Constant (.str pre) j p5, .FormattedValue (.Name x p6) 114 none p7] p8] [] p3) env = (do
      let ov ← attributeBase (.Call (.Name "super" p0) [] [] p1) "__init__" env (eval (.Call (.Name "super" p0) [] [] p1) env)
      standAt p2.atName
      let (f, first) ← holding [ov] (getMethod ov "__init__" (pure false))
      callWith p3 f first (backTo p3 (starEach [.JoinedStr [.Constant (.str pre) j p5, .FormattedValue (.Name x p6) 114 none p7] p8] env)) [])) :
    FnG P w K mg base CX0 1 f fd ["self", x] (spOne K C x) := by
  refine fn_superG F S (fun vs H Q E h => ?_) (fun A outer s H vs Q E hgu hr h s1 I => ?_)
  · obtain ⟨a, v, d, rfl, _⟩ := h
    rfl
  · obtain ⟨a, v, d, rfl, hv, sm, ha, k⟩ := h
    have hvx : Vis (ncx CX0 P w K mg base ["self", x, "__class__"] (nf "__init__" q st c cc) f A outer s H E).env.scope x := Or.inl hx
    have hvs : Vis (ncx CX0 P w K mg base ["self", x, "__class__"] (nf "__init__" q st c cc) f A outer s H E).env.scope "self" := Or.inl hme
    rw [hb]
    refine sup_exc (me := "self") (x := a) (C := C) b (atS_of F hk hsu hcl hme har) T.sup T.oex rfl T.hm T.hs
      (pa_cons (pe_joined (.cons pe_str (.cons (pe_showR hgu hr.units (pv 1 (hv := hvx) (hd := hd) (hcd := hcd))) .nil))) pa_nil) (pss_one (ps_put b (pv 0 (hv := hvs)) (pv 1 (hv := hvx) (hd := hd) (hcd := hcd)))) I rfl ha ?_ (hin _ rfl) rfl (hev _) rfl rfl
    refine ⟨_, rfl, (by rw [len0]; exact Nat.le_trans hp (by decide)), _, rfl, d, hv, sm.fit, _, rfl, ?_, (by show 1 ≤ 1000; decide), ha, _, rfl, _, rfl, a, C, rfl, T.oex, hno, .inl ⟨ha, k⟩⟩
    rw [strLen_append, len0]
    exact Nat.le_trans (Nat.add_le_add hp sm.sz) (by decide)
end
end Exg
/-! raise C(e): an own error over any built-in base, whose __init__ shows what it is given -/
namespace Exg
open PySem PySem.Spec PyProof.Rows L2 Sup Grd Shw
def tMkR (C : Addr) (sp : Sp) (ta : TA) : L2.St → Hp → XK → Prop := fun σ H Q => ta σ H fun vs H1 => vs.length ≤ 1000 ∧ ∀ a, H1 a = none → sp (.ref a :: vs) (upd H1 a (exo a C none)) (fun v H2 => v = .non ∧ ∃ (d : Addr) (fs : List (Str × V)), H2 a = some (exo a C (some d)) ∧ H2 d = some (exd d fs) ∧ H1 d = none ∧ Q (.ref C) (some d) (upd (del H2 a) d (.xd fs))) E0
section
variable {B newId initId : String} {tl : List Value} {X : Cx} {C fI : Addr} {k : Nat} {fd : FuncData} {ps : List Str} {sp : Sp} {x : Str} {e : Expr} {es : List Expr} {ta : TA} {p pos : Pos}
theorem pmk_e (b : BaseE B newId initId tl) (T : Oex X.K C B newId tl) (iC : PySem.W.findIn X.K (.ref C) "__init__" = some (some (.ref fI))) (tI : PySem.W.typeIn X.K (.ref fI) = some (.type "function"))
    (F : FnG X.prog X.w X.K X.mg X.base CX0 k fI fd ps sp) (hG : X.A.guards = some []) (hr : Room (k + 1) X.A) (hb : Binds X.K fd ps []) (hg : Gl X x) (hm : X.mg x = some (.ref C)) (ha : PA X (e :: es) ta)
    (hdb : (x == ("__debug__" : Str)) = false := by decide) (hs : starEach (e :: es) X.env = (false, eval e X.env) :: starEach es X.env := by rfl) (hp : (backTo pos (starEach es X.env)).any (·.1) = false := by rfl) :
    PMk X (.Call (.Name x p) (e :: es) [] pos) (tMkR C sp ta) := by
  intro pins s σ H Q I h
  obtain ⟨nm, N, q, bs, bm, hdct, sn, sub, ab, col, dd, k0, k1, k2, k3, k5, hC, hbm⟩ := PySem.W.excInit_of I.kIn T.ini
  refine wpAny_Call_Name_kw (ld_glob I hg hm (PySem.W.callWith_K (h₀ := X.base) I.ok.mod.kin T.kC (thn (ha.run pos pins s σ H _ I h) fun us s1 ⟨vs, H1, I1, r, hl, q1⟩ => ⟨I1.kIn, ?_⟩) hs hp) hdb)
  obtain ⟨nm, N, q, bs, bm, hdct, sn, sub, ab, col, dd, k0, k1, k2, k3, k5, hC, hbm⟩ := PySem.W.excInit_of I1.kIn T.ini
  show wpAny _ _ (call (.ref C) us) _ _ _
  obtain ⟨hp, g, dr, tk, os⟩ := s1
  have hsz : hp.objs.size ≤ hp.objs.size + 1 := Nat.le_succ _
  have hn : H1 (hp.objs.size + 1) = none := I1.hok.fresh hsz
  have hq := q1 _ hn
  have kk : ∀ b o, hp.get? b = some o → ((hp.push (PySem.W.kdv_tup us)).push (PySem.HandSPX.excO C hp.objs.size)).get? b = some o := fun c o z => Heap.get?_push_of_some _ (Heap.get?_push_of_some _ z)
  have hget : ((hp.push (PySem.W.kdv_tup us)).push (PySem.HandSPX.excO C hp.objs.size)).get? (hp.objs.size + 1) = some (PySem.HandSPX.excO C hp.objs.size) := by heap_get
  have I2 : Inv X pins σ (upd H1 (hp.objs.size + 1) (exo (hp.objs.size + 1) C none)) ⟨(hp.push (PySem.W.kdv_tup us)).push (PySem.HandSPX.excO C hp.objs.size), g, dr, tk, os⟩ := I1.laid (t' := tk) kk hsz (exo_ok hget)
  have r2 : Vals (V.ref (hp.objs.size + 1) :: vs) (Value.ref (hp.objs.size + 1) :: us) := .cons rfl r
  have hlen : (Value.ref (hp.objs.size + 1) :: us ++ []).length = ps.length := by
    rw [List.append_nil, ← r2.length]
    exact F.len _ _ _ _ hq
  have hB := hb ⟨(hp.push (PySem.W.kdv_tup us)).push (PySem.HandSPX.excO C hp.objs.size), g, dr, tk, os⟩ (Value.ref (hp.objs.size + 1) :: us) I2.kIn hlen
  rw [List.append_nil] at hB
  refine wpAny_call (PySem.HandSPX.call_own b.F hbm hC (PySem.W.looks_findIn I1.kIn iC) (fun self => PySem.W.bind_fn I1.kIn self tI) (by rw [← r.length]; exact Nat.le_trans hl (by decide))
    (codeAny_mono (F.run _ X.stack _ _ ⟨Value.ref (hp.objs.size + 1) :: us, []⟩ _ _ _ E0 (guards_make hG C us []) (hr.make C us []) (I2.env0.make C us []) hB r2 hq) fun res s' z => ?_))
  match res, z with
  | .error e, z => exact z.elim
  | .ok (.ret u), z =>
    obtain ⟨v, H2, os2, bare2, un2, hok2, rv, ev, d, fs, ea, ed, hd1, q2⟩ := z
    subst ev
    obtain ⟨h2, g2, d2, t2, os'⟩ := s'
    exact ⟨rv, mk_end (raises_own T.exC T.tyC) I1 hsz kk un2 hok2 os2 bare2 ea ed hd1 q2⟩
end
/-- an error with one field that shows it, raised -/
theorem raise_one {K : PySem.W.Frag} {C : Addr} {x : Str} {v : V} {d : PyData} {σ : L2.St} {H H1 : Hp} {te : TE} {Q : XK} (hte : ∀ Q' : VK, Q' v H1 → te σ H1 Q') (hv : Dq K H1 v d) (hs : Smalls d) (s1 : Same H H1)
    (hd : ∀ a, H1 a = none → Dq K (upd H1 a (exo a C none)) v d) (k : ∀ e H', H e = none → H' e = some (.xd [(x, v)]) → Same H H' → Q (.ref C) (some e) H') : tMkR C (spOne K C x) (tCons te tNil) σ H1 Q := by
  refine hte _ ⟨by show 1 ≤ 1000; decide, fun a ha => ⟨a, v, d, rfl, hd a ha, hs, upd_same, fun dx hdx hne => ⟨rfl, dx, [(x, v)], upd_same, ?_, ?_, ?_⟩⟩⟩
  · rw [upd_ne hne, upd_same]
  · rw [upd_ne hne] at hdx
    exact hdx
  · rw [upd_ne hne] at hdx
    refine k dx _ (s1.free hdx) upd_same fun b o e => ?_
    have e1 := s1 _ _ e
    have nbd : b ≠ dx := ne_of_none e1 hdx
    have nba : b ≠ a := ne_of_none e1 ha
    rw [upd_ne nbd, del_ne nba, upd_ne nba, upd_ne nbd, upd_ne nba]
    exact e1
end Exg
namespace Sj
open PySem L2 Sup StK Own Grd Exg Shw
open NdefX (NF NScope ncx envF startF nscope_by)
open C8 (pss_cut tCut)
/-! Frame.rails, members, [] (k03, k05, ..) -/
theorem fun_gX {P : Program} {w : World} {K : PySem.W.Frag} {mg : Str → Option Value} {base : Heap} {k : Nat} {f : Addr} {fd : FuncData} {ps N : List Str} {sp : Sp} {x qual : Str} {st : Stmt} (F : Fun K x qual st f fd) (S : FnScope N ps (defScope st)) (len : ∀ vs H Q E, sp vs H Q E → vs.length = ps.length)
    (hbody : ∀ (cdv : Value) (A : Around) (outer : List Env) (s : Shared) (H : Hp) (vs : List V) (Q : VK) (E : XK), A.guards = some [] → Room k (A.deeper (PyProof.Rows.envOfC qual (defScope st) s.heap.objs.size f cdv)) → sp vs H Q E →
      ∃ t, PSs (cxOf (L2.CX P w) P w K mg base N qual (defScope st) f cdv A outer s H E) (defBody st) t ∧ t { nx := fun _ H' => Q .non H', rt := Q } (start N vs) H) : FnG P w K mg base (L2.CX P w) (k + 1) f fd ps sp := by
  obtain ⟨oc, od, kV, doc, pm, an, cdv, ct, osl, rfl, lk, hcd⟩ := F.ex
  refine ⟨len, fun A outer s H args us vs Q E hg hr e0 hb r hsp => ?_⟩
  refine LamX.run_ofS (CX := L2.CX P w) lk hcd S hr e0 hb r (len _ _ _ _ hsp) fun hr1 => ?_
  obtain ⟨t, ht, hq⟩ := hbody cdv A outer s H vs Q E hg hr1 hsp
  exact ⟨t, ht, hq⟩
end Sj
namespace Sj
open PySem L2 Sup StK Own Grd Exg Shw
open NdefX (NF NScope ncx envF startF nscope_by)
open C8 (pss_cut tCut)
/-! Frame.members, [], == (k03, k05, ..) -/
theorem FrIs.ins {ks : Kinds} {CF : Addr} {H : Hp} {a : Addr} {d : FrD} (h : FrIs ks CF H a d) : ∃ dx fs, H a = some (.ins CF dx fs) := by
  obtain ⟨dx, D, ea, _⟩ := h.at_
  exact ⟨dx, _, ea⟩
/-- what is no name of a leg -/
def NotLeg (K : PySem.W.Frag) (H : Hp) (x : V) (d : FrD) : Prop := (∃ z : Str, x = .str z ∧ z ∉ names d.ys) ∨ ∃ t : String, TyX K H x (.type t) ∧ kitB t "str" = some false
def spFIs (K : PySem.W.Frag) (ks : Kinds) (CF : Addr) : Sp := fun vs H Q _ => ∃ a d x, vs = [.ref a, x] ∧ FrIs ks CF H a d ∧ ((∃ z : Str, x = .str z ∧ z ∈ names d.ys ∧ Q (.bl true) H) ∨ (NotLeg K H x d ∧ Q (.bl false) H))
/-- what raise NoLeg(x) asks -/
structure NlT (P : Program) (w : World) (K : PySem.W.Frag) (mg : Str → Option Value) (base : Heap) (CN fN : Addr) : Prop where
  oex : Oex K CN "LookupError" "LookupError.__new__" tlL
  iC : PySem.W.findIn K (.ref CN) "__init__" = some (some (.ref fN))
  tI : PySem.W.typeIn K (.ref fN) = some (.type "function")
  init : ∃ fd, FnG P w K mg base CX0 1 fN fd ["self", "name"] (spOne K CN "name") ∧ Binds K fd ["self", "name"] []
  mN : mg "NoLeg" = some (.ref CN)
theorem spFIs_of {K : PySem.W.Frag} {ks : Kinds} {CF : Addr} {vs : List V} {H : Hp} {Q : VK} {E : XK} (h : spFIs K ks CF vs H Q E) : spFIn K CF vs H Q E := by
  obtain ⟨a, d, x, rfl, hF, h⟩ := h
  refine ⟨a, d.ys, _, _, _, x, rfl, hF.at_, ?_⟩
  rcases h with ⟨z, rfl, hz, k⟩ | ⟨hn, k⟩
  · refine .inl ⟨z, rfl, ?_⟩
    rw [decide_eq_true hz]
    exact k
  · rcases hn with ⟨z, rfl, hz⟩ | ⟨t, ty, e⟩
    · refine .inl ⟨z, rfl, ?_⟩
      rw [decide_eq_false hz]
      exact k
    · exact .inr ⟨t, ty, e, k⟩
end Sj
namespace Sj
open PySem L2 Sup
open NdefX (NF NScope ncx envF startF nscope_by)
open C8 (pss_cut tCut)
abbrev sTags : Stmt := top 28
def poolS : List Str := ["a", "frame", "b", "rest", "self", "c", "zzzzzzzz", "word", "d", "e", "reads", "leg", "x", "grounds", "q"]
def spTags : Sp := fun vs H Q _ => ∃ (p l : Addr) (cs : List Int) (n m : Nat), vs = [.ref p, .int m] ∧ Pen H p l cs n ∧ m ≤ 15 ∧ n < 100000 ∧
  ∀ (H' : Hp) (q : Addr) (xs rest : List Str), H q = none → H' q = some (.lst (xs.map V.str)) → xs.length = m → (xs ++ rest).Perm poolS → Pen H' p l cs (n + m) → But H H' p → Q (.ref q) H'
section
variable {P : Program} {w : World} {K : PySem.W.Frag} {mg : Str → Option Value} {base : Heap}
theorem scTags : FnScope ["_law_pen_here", "_law_many", "_law_pool", "_law_turn"] ["_law_pen_here", "_law_many"] (defScope sTags) := ⟨rfl, rfl, rfl, by decide +kernel, rfl, by decide +kernel, by decide +kernel⟩
theorem map_erase {α β : Type} (f : α → β) : ∀ (xs : List α) (k : Nat), (xs.map f).eraseIdx k = (xs.eraseIdx k).map f
  | [], _ => by simp
  | x :: xs, 0 => rfl
  | x :: xs, k + 1 => by
    show f x :: (xs.map f).eraseIdx k = f x :: (xs.eraseIdx k).map f
    rw [map_erase f xs k]
theorem perm_erase {α : Type} : ∀ (xs : List α) (k : Nat) (h : k < xs.length), ([xs[k]] ++ xs.eraseIdx k).Perm xs
  | x :: xs, 0, _ => List.Perm.refl _
  | x :: xs, k + 1, h => by
    have hk : k < xs.length := Nat.lt_of_succ_lt_succ h
    have q := perm_erase xs k hk
    exact (List.Perm.swap x xs[k] (xs.eraseIdx k)).trans (List.Perm.cons x q)
theorem Pen.same {H H' : Hp} {p l : Addr} {cs : List Int} {n : Nat} (h : Pen H p l cs n) (s : Same H H') : Pen H' p l cs n := by
  obtain ⟨i, g, h1, h2, h3⟩ := h
  exact ⟨i, g, s _ _ h1, s _ _ h2, h3⟩
/-- the reading of _law_pool.pop(_law_draw(_law_pen_here, len(_law_pool))) -/
def rLenQ (K : PySem.W.Frag) : List V → Hp → VK → Prop := fun xs H Q => ∃ p ys, xs = [.ref p] ∧ (SqL K H p ys ∨ SqT K H p ys) ∧ Q (.int ys.length) H
def rPopQ : V → List V → Hp → VK → Prop := fun x ys H Q => ∃ l xs i k y, x = .ref l ∧ ys = [.int i] ∧ H l = some (.lst xs) ∧ -(2 ^ 63) ≤ i ∧ i < 2 ^ 63 ∧ seqIndex? i xs.length = some k ∧ xs[k]? = some y ∧ Q y (upd H l (.lst (xs.eraseIdx k)))
def tePop (K : PySem.W.Frag) : TE := tBM K "list" rPopQ (tVar 2) (tCons (tCall spDraw [] E0 (tCons (tVar 0) (tCons (tCB (rLenQ K) (tCons (tVar 2) tNil)) tNil))) tNil)
theorem ok_tags {f fD : Addr} {fd fdD : FuncData} (F : Fun K "_law_tags" "_law_tags" sTags f fd) (B : Bi mg) (mR : mg "range" = none) (FD : Fun K "_law_draw" "_law_draw" sDraw fD fdD) (bD : Binds K fdD ["_law_pen_here", "_law_many"] []) (mD : mg "_law_draw" = some (.ref fD)) :
    FnOk P w K mg base CX0 2 f fd ["_law_pen_here", "_law_many"] spTags := by
  have GD : FnOk P w K mg base CX0 1 fD fdD ["_law_pen_here", "_law_many"] spDraw := ok_draw FD B
  refine F.ok scTags (fun vs H Q E h => ?_) (fun cdv A outer s H vs Q E hr h => ?_)
  · obtain ⟨p, l, cs, n, m, rfl, _⟩ := h
    rfl
  · obtain ⟨p, l, cs, n, m, rfl, hP, hm, hn, k⟩ := h
    refine ⟨_, pss_cons (ps_set (i := 2) scTags.nd rfl (Or.inr rfl) (pe_lst (pa_cons pe_str (pa_cons pe_str (pa_cons pe_str (pa_cons pe_str (pa_cons pe_str (pa_cons pe_str (pa_cons pe_str (pa_cons pe_str (pa_cons pe_str (pa_cons pe_str (pa_cons pe_str (pa_cons pe_str (pa_cons pe_str (pa_cons pe_str (pa_cons pe_str pa_nil)))))))))))))))))
      (pss_one (ps_ret (pe_lc (te := tePop K) (own := [("_law_turn", 3)]) (g := gName 3) (tt := tYes) rfl scTags.nd (pi_range1 rfl mR (pa_cons (pv 1) pa_nil))
        (blkOk_by (N := ["_law_pen_here", "_law_many", "_law_pool", "_law_turn"]) (sc := defScope sTags) (by decide +kernel)) (fun _ _ _ _ _ => pg_name (i := 3) scTags.nd rfl (Or.inl rfl)) (fun _ _ _ _ _ => pts_nil)
        (fun s0 H0 C0 cl0 fp0 => by
          refine pe_bm PySem.F.plainAttrs_list PySem.F.slot_list_pop PySem.F.type_list_pop mt_popAt ?o ?a
          case o => exact pv 2
          case a =>
            refine pa_cons ?b pa_nil
            refine pe_call GD hr ?g mD FD.kp bD .nil pass0 ?c
            case g => rfl
            case c => exact pa_cons (pv 0) (pa_cons (pe_callB call_len_seq (by rfl) B.len PySem.boot_len (pa_cons (pv 2) pa_nil)) pa_nil))))), ?_⟩
    refine ⟨(by show 15 ≤ sizeLine; decide), fun q3 h3 => ?_⟩
    have hHq3 : H q3 = none := h3
    have s3 : Same H (upd H q3 (.lst (poolS.map V.str))) := fun b o e => by
      rw [upd_ne (ne_of_none e hHq3)]
      exact e
    have key : ∀ D, upd H q3 (.lst (poolS.map V.str)) D = none → upd H q3 (.lst (poolS.map V.str)) D = none := fun _ z => z
    obtain ⟨i0', g0', hp0, hl0, hz0, hi0, hi1⟩ := id hP
    refine ⟨_, rfl, m, rfl, by omega, by omega, fun D hD0 => have hD := key D hD0; lc_range (n := m) (fun i H' => ∃ xs rest : List Str, xs.length = i ∧ (xs ++ rest).Perm poolS ∧ H' q3 = some (.lst (rest.map V.str)) ∧ H' D = some (.lst (xs.map V.str)) ∧ Pen H' p l cs (n + i) ∧ But H H' p) ?_ ?_ ?_⟩
    · have n3D : q3 ≠ D := ne_of_none upd_same hD
      have s4 : Same H (upd (upd H q3 (.lst (poolS.map V.str))) D (.lst [])) := fun b o e => by
        rw [upd_ne (ne_of_none (s3 _ _ e) hD)]
        exact s3 _ _ e
      exact ⟨[], poolS, rfl, List.Perm.refl _, Eq.trans (upd_ne n3D) upd_same, upd_same, hP.same s4, fun b o _ e => s4 _ _ e⟩
    · rintro i H' hi ⟨xs, rest, hx, hperm, hq, hD', hP', hB⟩
      have hlen : xs.length + rest.length = 15 := by
        have q := hperm.length_eq
        rw [List.length_append] at q
        exact q
      have n3p : q3 ≠ p := fun e => by rw [e, hp0] at hHq3; cases hHq3
      have nDp : D ≠ p := fun e => by rw [e, s3 _ _ hp0] at hD; cases hD
      have nD3 : D ≠ q3 := fun e => by rw [e, upd_same] at hD; cases hD
      refine ⟨rfl, ?_⟩
      unfold tYes
      dsimp only
      rw [if_pos rfl]
      refine ⟨_, rfl, .inl ⟨rfl, _, SqL.of hq⟩, _, rfl, _, rfl, q3, _, rfl, .inl (SqL.of hq), p, l, cs, n + i, _, rfl, hP', ?_, ?_, by omega, fun d iz g H2 d0 d1 i0 i1 hp2 b2 => ?_⟩
      · rw [List.length_map]; omega
      · rw [List.length_map]; omega
      · rw [List.length_map] at d1
        have hq2 : H2 q3 = some (.lst (rest.map V.str)) := b2 _ _ n3p hq
        have hD2 : H2 D = some (.lst (xs.map V.str)) := b2 _ _ nDp hD'
        have hk : d.toNat < rest.length := by omega
        refine ⟨q3, rest.map V.str, d, d.toNat, .str rest[d.toNat], rfl, rfl, hq2, by omega, by omega, seqIndex_of d0 (by rw [List.length_map]; omega), by simp [hk], xs.map V.str, ?_, ?_, ?_⟩
        · exact Eq.trans (upd_ne nD3) hD2
        · rw [List.length_map]; exact Nat.lt_of_le_of_lt (show xs.length ≤ 16 by omega) (by decide)
        · refine ⟨xs ++ [rest[d.toNat]], rest.eraseIdx d.toNat, by rw [List.length_append, hx]; rfl, ?_, ?_, ?_, ?_, ?_⟩
          · refine List.Perm.trans ?_ hperm
            rw [List.append_assoc]
            exact List.Perm.append_left _ (perm_erase rest _ hk)
          · rw [upd_ne nD3.symm, upd_same]
            congr 2
            exact (map_erase V.str rest d.toNat)
          · rw [upd_same, List.map_append]
            rfl
          · have hl' : ∃ i g, H' p = some (penO l i g) ∧ H' l = some (.lst (cs.map V.int)) := by
              obtain ⟨a, b, c, d, _⟩ := hP'
              exact ⟨a, b, c, d⟩
            obtain ⟨ia, ga, hpa, hla⟩ := hl'
            have n3l : q3 ≠ l := fun e => by rw [e, hl0] at hHq3; cases hHq3
            have nDl : D ≠ l := fun e => by rw [e, s3 _ _ hl0] at hD; cases hD
            have npl : l ≠ p := fun e => by
              subst e
              rw [hp0] at hl0
              have z := List.map_eq_cons_iff.mp (HO.lst.inj (Option.some.inj hl0)).symm
              obtain ⟨_, _, _, w1, _⟩ := z
              cases w1
            refine ⟨iz, g, ?_, ?_, hz0, i0, by omega⟩
            · rw [upd_ne nDp.symm, upd_ne n3p.symm]; exact hp2
            · rw [upd_ne nDl.symm, upd_ne n3l.symm]; exact b2 _ _ npl hla
          · intro b o hb e
            have e1 := hB b o hb e
            have nb3 : b ≠ q3 := ne_of_none e hHq3
            have nbD : b ≠ D := fun z => by rw [z] at e; rw [s3 _ _ e] at hD; cases hD
            rw [upd_ne nbD, upd_ne nb3]
            exact b2 _ _ hb e1
    · rintro H' ⟨xs, rest, hx, hperm, hq, hD', hP', hB⟩
      have hHD : H D = none := by
        cases e : H D with
        | none => rfl
        | some o => rw [s3 _ _ e] at hD; cases hD
      exact k H' D xs rest hHD hD' hx hperm hP' hB
end
end Sj
/-! texts in order: of one multitude there is one order -/
namespace OrdS
open PySem PySem.Spec PyProof.Rows
theorem lt_anti : ∀ a b : List Nat, ltCps a b = false → ltCps b a = false → a = b
  | [], [], _, _ => rfl
  | [], _ :: _, h, _ => by cases h
  | _ :: _, [], _, h => by cases h
  | x :: a, y :: b, h, g => by
    have h1 : (decide (x < y) || (x == y && ltCps a b)) = false := h
    have g1 : (decide (y < x) || (y == x && ltCps b a)) = false := g
    rw [Bool.or_eq_false_iff, decide_eq_false_iff_not] at h1 g1
    have e : x = y := by omega
    subst e
    rw [beq_self_eq_true, Bool.true_and] at h1 g1
    rw [lt_anti a b h1.2 g1.2]
theorem le_trans : ∀ a b c : List Nat, ltCps b a = false → ltCps c b = false → ltCps c a = false
  | [], _, [], _, _ => rfl
  | [], [], _ :: _, _, _ => rfl
  | [], _ :: _, _ :: _, _, _ => rfl
  | _ :: _, [], _, h, _ => by cases h
  | _ :: _, _ :: _, [], _, h => by cases h
  | x :: a, y :: b, z :: c, h, g => by
    have h1 : (decide (y < x) || (y == x && ltCps b a)) = false := h
    have g1 : (decide (z < y) || (z == y && ltCps c b)) = false := g
    show (decide (z < x) || (z == x && ltCps c a)) = false
    rw [Bool.or_eq_false_iff, decide_eq_false_iff_not] at h1 g1 ⊢
    refine ⟨by omega, ?_⟩
    by_cases e : z = x
    · have e2 : y = x := by omega
      subst e2
      subst e
      rw [beq_self_eq_true, Bool.true_and] at h1 g1 ⊢
      exact le_trans a b c h1.2 g1.2
    · rw [beq_eq_false_iff_ne.mpr e, Bool.false_and]
def Le (a b : Str) : Prop := ltCps b.cps.toList a.cps.toList = false
theorem Le.anti {a b : Str} (h : Le a b) (g : Le b a) : a = b := by
  have e := lt_anti _ _ g h
  cases a
  cases b
  congr 1
  exact Array.ext' e
theorem Le.trans {a b c : Str} (h : Le a b) (g : Le b c) : Le a c := le_trans _ _ _ h g
theorem rising_pw : ∀ (l : List Str) (p : Str), risingS p l = true → (p :: l).Pairwise Le
  | [], p, _ => List.pairwise_singleton _ _
  | x :: r, p, h => by
    have h1 : (!ltCps x.cps.toList p.cps.toList && risingS x r) = true := h
    rw [Bool.and_eq_true, Bool.not_eq_true'] at h1
    have ih := rising_pw r x h1.2
    refine List.pairwise_cons.mpr ⟨fun y hy => ?_, ih⟩
    rcases List.mem_cons.mp hy with rfl | hy
    · exact h1.1
    · exact Le.trans h1.1 ((List.pairwise_cons.mp ih).1 y hy)
theorem sorted_pw : ∀ {l : List Str}, sortedS l = true → l.Pairwise Le
  | [], _ => .nil
  | x :: r, h => rising_pw r x h
theorem pw_uniq : ∀ {ys zs : List Str}, ys.Perm zs → ys.Pairwise Le → zs.Pairwise Le → ys = zs
  | [], zs, hp, _, _ => (List.Perm.eq_nil hp.symm).symm
  | y :: ys, [], hp, _, _ => by cases List.Perm.eq_nil hp
  | y :: ys, z :: zs, hp, hy, hz => by
    have hy' := List.pairwise_cons.mp hy
    have hz' := List.pairwise_cons.mp hz
    have m1 : y ∈ z :: zs := hp.mem_iff.mp List.mem_cons_self
    have m2 : z ∈ y :: ys := hp.mem_iff.mpr List.mem_cons_self
    have e : y = z := by
      rcases List.mem_cons.mp m1 with e | m1
      · exact e
      · rcases List.mem_cons.mp m2 with e | m2
        · exact e.symm
        · exact (hy'.1 z m2).anti (hz'.1 y m1)
    subst e
    rw [pw_uniq hp.cons_inv hy'.2 hz'.2]
theorem uniq {ys zs : List Str} (hp : ys.Perm zs) (hy : sortedS ys = true) (hz : sortedS zs = true) : ys = zs := pw_uniq hp (sorted_pw hy) (sorted_pw hz)
end OrdS
namespace Sj
open PySem L2 Sup StK Own
open NdefX (NF NScope ncx envF startF nscope_by)
open C8 (pss_cut tCut)
/-! what the laws of frames share: small things, _law_bare (k03, k05, ..) -/
/-- a class of legs, made by place -/
structure MkL (P : Program) (w : World) (K : PySem.W.Frag) (mg : Str → Option Value) (base : Heap) (CI C : Addr) (nm : Str) : Prop where
  ex : ∃ (f : Addr) (fd : FuncData), Mk K C f ∧ FnOk P w K mg base (L2.CX P w) 4 f fd ["self", "name"] (spLegI K CI C) ∧ Binds K fd ["self", "name"] []
  mg : mg nm = some (.ref C)
theorem passNo {P : Program} {w : World} {X : Cx} (h1 : X.prog = P) (h2 : X.w = w) : Passes (L2.CX P w) X E0 := by
  rintro pins σ H s e s' I ⟨a, B, H', cls, d, _, _, _, _, _, _, _, z⟩
  exact z.elim
abbrev tMk (K : PySem.W.Frag) (CI C : Addr) (te : TE) : TE := tMake C (spLegI K CI C) [] E0 (tCons te tNil)
/-- a leg is made -/
theorem mk_rd {K : PySem.W.Frag} {CI C : Addr} {z : Str} {te : TE} {σ : L2.St} {H : Hp} {Q : VK} (hte : ∀ Q' : VK, Q' (.str z) H → te σ H Q') (hn : isName z = true) (hz : z.length ≤ 1000) (k : ∀ a H', H a = none → LegAt H' a C z → Same H H' → Q (.ref a) H') : tMk K CI C te σ H Q := by
  refine hte _ fun x dx hx hdx hne => ⟨x, dx, .str z, rfl, upd_same, .inl ⟨z, rfl, hz, fun _ H' hp hb => ⟨rfl, k x H' hx ⟨dx, hp⟩ fun b o e => ?_⟩, fun h => absurd hn (by rw [h]; exact Bool.false_ne_true)⟩⟩
  refine hb b o (ne_of_none e hx) ?_
  rw [upd_ne (ne_of_none e hx), upd_ne (ne_of_none e hdx)]
  exact e
theorem Pen.at' {H : Hp} {p l : Addr} {cs : List Int} {n : Nat} (h : Pen H p l cs n) : ∃ xs, H p = some (.lst xs) := by
  obtain ⟨i, g, h1, _⟩ := h
  exact ⟨_, h1⟩
theorem Pen.mono {H : Hp} {p l : Addr} {cs : List Int} {n m : Nat} (h : Pen H p l cs n) (hm : n ≤ m) : Pen H p l cs m := by
  obtain ⟨i, g, h1, h2, h3, h4, h5⟩ := h
  exact ⟨i, g, h1, h2, h3, h4, by omega⟩
theorem But.same {H H1 H2 : Hp} {p : Addr} (a : But H H1 p) (s : Same H1 H2) : But H H2 p := fun b o hb e => s _ _ (a b o hb e)
theorem But.of {H H1 : Hp} {p : Addr} (s : Same H H1) : But H H1 p := fun b o _ e => s _ _ e
/-- what was laid behind the entry is not the pen -/
theorem nep {H0 : Hp} {p l q : Addr} {cs : List Int} {n : Nat} (hP : Pen H0 p l cs n) (h : H0 q = none) : q ≠ p := fun e => by
  obtain ⟨xs, z⟩ := hP.at'
  rw [e, z] at h
  cases h
theorem But.free {H H' : Hp} {p q : Addr} (b : But H H' p) (hp : q ≠ p) (h : H' q = none) : H q = none := by
  cases z : H q with
  | none => rfl
  | some o =>
    rw [b _ _ hp z] at h
    cases h
/-- the pen is a list: what is none of these stays -/
theorem But.keep {H H' : Hp} {p l q : Addr} {cs : List Int} {n : Nat} {o : HO} (b : But H H' p) (hP : Pen H p l cs n) (e : H q = some o) (no : ∀ ys, o ≠ .lst ys) : H' q = some o := by
  obtain ⟨xs, hp⟩ := hP.at'
  exact b _ _ (ne_of e hp (no xs)) e
structure DwT (P : Program) (w : World) (K : PySem.W.Frag) (mg : Str → Option Value) (base : Heap) : Prop where
  bi : Bi mg
  sorted : mg "sorted" = none
  draw : ∃ f fd, mg "_law_draw" = some (.ref f) ∧ PySem.W.keepIn K (.ref f) = true ∧ Binds K fd ["_law_pen_here", "_law_many"] [] ∧ FnOk P w K mg base CX0 1 f fd ["_law_pen_here", "_law_many"] spDraw
  tags : ∃ f fd, mg "_law_tags" = some (.ref f) ∧ PySem.W.keepIn K (.ref f) = true ∧ Binds K fd ["_law_pen_here", "_law_many"] [] ∧ FnOk P w K mg base CX0 2 f fd ["_law_pen_here", "_law_many"] spTags
/-- a plain frame as data -/
structure BareD where
  t : Int
  ds : List Str
  ls : List Str
  g : Bool
  r : Bool
structure BareD.ok (d : BareD) : Prop where
  t1 : 1 ≤ d.t
  t3 : d.t ≤ 3
  nd : (d.ds ++ d.ls).Nodup
  po : ∀ z ∈ d.ds ++ d.ls, z ∈ poolS
  sd : d.ds.Pairwise OrdS.Le
  sl : d.ls.Pairwise OrdS.Le
  le : d.ds.length + d.ls.length ≤ 16
def rowsB (t : Int) (dl ll rl : Addr) : List (Key × V) := [(Sum.inr "top", .int t), (Sum.inr "drivers", .ref dl), (Sum.inr "listeners", .ref ll), (Sum.inr "rails", .ref rl)]
def rows3 (t : Int) (dl ll : Addr) : List (Key × V) := [(Sum.inr "top", .int t), (Sum.inr "drivers", .ref dl), (Sum.inr "listeners", .ref ll)]
/-- it stands at b, apart from p -/
structure BareAt (H : Hp) (b : Addr) (d : BareD) (p : Addr) : Prop where
  ex : ∃ dl ll rl, H b = some (.dK (rowsB d.t dl ll rl)) ∧ H dl = some (.lst (strv d.ds)) ∧ H ll = some (.lst (strv d.ls)) ∧ H rl = some (.lst (strv (railsZ d.g d.r))) ∧ dl ≠ p ∧ ll ≠ p ∧ rl ≠ p
theorem BareAt.same {H H' : Hp} {b p : Addr} {d : BareD} (h : BareAt H b d p) (s : Same H H') : BareAt H' b d p := by
  obtain ⟨dl, ll, rl, h1, h2, h3, h4, h5⟩ := h.ex
  exact ⟨dl, ll, rl, s _ _ h1, s _ _ h2, s _ _ h3, s _ _ h4, h5⟩
theorem BareAt.but {H H' : Hp} {b p l : Addr} {cs : List Int} {n : Nat} {d : BareD} (h : BareAt H b d p) (hP : Pen H p l cs n) (s : But H H' p) : BareAt H' b d p := by
  obtain ⟨dl, ll, rl, h1, h2, h3, h4, h5, h6, h7⟩ := h.ex
  exact ⟨dl, ll, rl, s.keep hP h1 (fun ys z => by cases z), s _ _ h5 h2, s _ _ h6 h3, s _ _ h7 h4, h5, h6, h7⟩
theorem pool_ok : ∀ z ∈ poolS, isName z = true ∧ z.length ≤ 8 := by
  have h : (poolS.all fun z => isName z && decide (z.length ≤ 8)) = true := by decide +kernel
  intro z hz
  have e := List.all_eq_true.mp h z hz
  rw [Bool.and_eq_true, decide_eq_true_eq] at e
  exact e
theorem pool_nd : poolS.Nodup := by decide +kernel
abbrev sBare : Stmt := top 29
abbrev nBa : List Str := ["_law_pen_here", "_law_most", "_law_tags_here", "_law_bare_here", "_law_tag", "_law_part_so"]
theorem scBa : FnScope nBa ["_law_pen_here", "_law_most"] (defScope sBare) := ⟨rfl, rfl, rfl, by decide +kernel, rfl, by decide +kernel, by decide +kernel⟩
def spBare : Sp := fun vs H Q _ => ∃ (p l : Addr) (cs : List Int) (n m : Nat), vs = [.ref p, .int m] ∧ Pen H p l cs n ∧ m ≤ 15 ∧ n < 90000 ∧ ∀ b d H', d.ok → d.ds.length + d.ls.length ≤ m → H b = none → BareAt H' b d p → Pen H' p l cs (n + 40) → But H H' p → Q (.ref b) H'
/-- where the loop stands -/
structure BaInv (H0 H : Hp) (p l : Addr) (cs : List Int) (n : Nat) (b dl ll sl : Addr) (t : Int) (xs : List Str) (i : Nat) : Prop where
  pen : Pen H p l cs (n + i)
  hb : H b = some (.dK (rows3 t dl ll))
  sl_ : H sl = some (.lst (strv xs))
  ex : ∃ ds ls, H dl = some (.lst (strv ds)) ∧ H ll = some (.lst (strv ls)) ∧ ds.Sublist (xs.take i) ∧ ls.Sublist (xs.take i) ∧ (ds ++ ls).Perm (xs.take i)
  bt : But H0 H p
theorem sub_snoc {α : Type} {ds xs : List α} {i : Nat} (h : ds.Sublist (xs.take i)) (hi : i < xs.length) : (ds ++ [xs[i]]).Sublist (xs.take (i + 1)) := by
  rw [List.take_add_one, List.getElem?_eq_getElem hi]
  exact h.append (List.Sublist.refl _)
theorem sub_keep {α : Type} {ds xs : List α} {i : Nat} (h : ds.Sublist (xs.take i)) (hi : i < xs.length) : ds.Sublist (xs.take (i + 1)) := by
  rw [List.take_add_one]
  exact h.trans (List.sublist_append_left _ _)
end Sj
namespace Sj
open PySem L2 Sup StK Own
open NdefX (NF NScope ncx envF startF nscope_by)
open C8 (pss_cut tCut)
/-! _law_bare -/
theorem rows3_merge (t : Int) (dl ll : Addr) : mergeK [] (rows3 t dl ll) = rows3 t dl ll := by
  unfold rows3 mergeK putK
  simp +decide
theorem rows3_drv (t : Int) (dl ll x : Addr) : putK (rows3 t dl ll) (Sum.inr "drivers" : Key) (.ref x) = rows3 t x ll := by
  unfold rows3 putK
  simp +decide
theorem rows3_lis (t : Int) (dl ll x : Addr) : putK (rows3 t dl ll) (Sum.inr "listeners" : Key) (.ref x) = rows3 t dl x := by
  unfold rows3 putK
  simp +decide
theorem rows3_put (t : Int) (dl ll rl : Addr) : putK (rows3 t dl ll) (Sum.inr "rails" : Key) (.ref rl) = rowsB t dl ll rl := by
  unfold rows3 rowsB putK
  simp +decide
section
variable {P : Program} {w : World} {K : PySem.W.Frag} {mg : Str → Option Value} {base : Heap}
theorem ok_bare {f : Addr} {fd : FuncData} (F : Fun K "_law_bare" "_law_bare" sBare f fd) (T : DwT P w K mg base) : FnOk P w K mg base CX0 3 f fd ["_law_pen_here", "_law_most"] spBare := by
  obtain ⟨fd_, fdd, md, kd, bd, Gd⟩ := T.draw
  obtain ⟨ft, fdt, mt, kt, bt, Gt⟩ := T.tags
  refine F.ok scBa (fun vs H Q E h => ?_) (fun cdv A outer s H vs Q E hr h => ?_)
  · obtain ⟨p, l, cs, n, m, rfl, _⟩ := h
    rfl
  · obtain ⟨p, l, cs, n, m, rfl, hP, hm, hn, k⟩ := h
    have hr1 := hr.mono (show 1 ≤ 2 by decide)
    refine ⟨_, pss_cons (ps_set (i := 2) scBa.nd rfl (Or.inl rfl) (pe_call Gt hr rfl mt kt bt .nil pass0 (pa_cons (pv 0) (pa_cons (pe_call Gd hr1 rfl md kd bd .nil pass0 (pa_cons (pv 0) (pa_cons (pe_op op_add (pv 1) pe_int) pa_nil))) pa_nil))))
      (pss_cons (ps_set (i := 3) scBa.nd rfl (Or.inl rfl) (pe_disp (pps_cons pe_str (pe_op op_add pe_int (pe_call Gd hr1 rfl md kd bd .nil pass0 (pa_cons (pv 0) (pa_cons pe_int pa_nil)))) (pps_cons pe_str (pe_lst pa_nil) (pps_cons pe_str (pe_lst pa_nil) pps_nil))) (by rfl) (by rfl) (fun z => by cases z) (by decide)))
      (pss_cons (ps_for PassesOwn.never rfl (pi_list (pv 2)) (pg_name (i := 4) scBa.nd rfl (Or.inl rfl))
        (pss_one (ps_expr (pe_bm PySem.F.plainAttrs_list PySem.F.slot_list_append PySem.F.type_list_append mt_append (pe_dget (hu_of hr) (pv 3) (pe_ix ix_list (pe_lst (pa_cons pe_str (pa_cons pe_str (pa_cons pe_str (pa_cons pe_str pa_nil))))) (pe_call Gd hr1 rfl md kd bd .nil pass0 (pa_cons (pv 0) (pa_cons pe_int pa_nil))) (fun _ _ => rfl)) (fun _ _ => rfl)) (pa_cons (pv 4) pa_nil)))))
      (pss_cons (ps_for PassesOwn.never rfl (pi_tup (pe_tup (pa_cons pe_str (pa_cons pe_str pa_nil)))) (pg_name (i := 5) scBa.nd rfl (Or.inl rfl))
        (pss_one (ps_dput (hu_of hr) (pv 3) (pv 5) (pe_callB cr_sortedS (by rfl) T.sorted (by decide +kernel) (pa_cons (pe_dget (hu_of hr) (pv 3) (pv 5) (fun _ _ => rfl)) pa_nil)) rfl)))
      (pss_cons (ps_dput (hu_of hr) (pv 3) pe_str (pe_ix ix_list (pe_lst (pa_cons (pe_lst pa_nil) (pa_cons (pe_lst pa_nil) (pa_cons (pe_lst (pa_cons pe_str pa_nil)) (pa_cons (pe_lst (pa_cons pe_str pa_nil)) (pa_cons (pe_lst (pa_cons pe_str (pa_cons pe_str pa_nil))) pa_nil)))))) (pe_call Gd hr1 rfl md kd bd .nil pass0 (pa_cons (pv 0) (pa_cons pe_int pa_nil))) (fun _ _ => rfl)) rfl)
      (pss_one (ps_ret (pv 3))))))), ?_⟩
    -- the names
    refine ⟨_, rfl, _, rfl, _, rfl, (m : Int), 1, rfl, rfl, p, l, cs, n, (m : Int) + 1, rfl, hP, by omega, by omega, by omega, fun d1 i1 g1 H1 d0 dm i0 in1 hp1 b1 => ?_⟩
    have P1 : Pen H1 p l cs (n + 1) := hP.next i0 in1 hp1 b1
    obtain ⟨q, rfl⟩ : ∃ q : Nat, d1 = (q : Int) := ⟨d1.toNat, by omega⟩
    refine ⟨p, l, cs, n + 1, q, rfl, P1, by omega, by omega, fun H2 tl zs rest htl htl2 hlen hperm P2 b2 => ?_⟩
    have b02 := b1.trans b2
    have tlp : tl ≠ p := nep P1 htl
    have hpool : ∀ z ∈ zs, z ∈ poolS := fun z hz => hperm.mem_iff.mp (List.mem_append_left _ hz)
    have hndz : zs.Nodup := by
      have := hperm.nodup_iff.mpr pool_nd
      rw [List.nodup_append] at this
      exact this.1
    have tl0 : H tl = none := b1.free tlp htl
    -- the dict
    refine fun b hb => ?_
    have b0 : H b = none := b02.free (nep P2 hb) hb
    have P2b : Pen (upd H2 b (.dK [])) p l cs (n + 1 + q) := P2.same (same_at hb)
    refine ⟨_, rfl, p, l, cs, n + 1 + q, 3, rfl, P2b, by omega, by omega, by omega, fun d3 i3 g3 H3 d30 d33 i30 in3 hp3 b3 => ?_⟩
    have P3 : Pen H3 p l cs (n + 2 + q) := (P2b.next i30 in3 hp3 b3).mono (by omega)
    have hb3 : H3 b = some (.dK []) := b3.keep P2b upd_same (fun ys z => by cases z)
    have htl3 : H3 tl = some (.lst (strv zs)) := b3 _ _ tlp (same_at hb _ _ htl2)
    have b03 : But H H3 p := (b02.same (same_at hb)).trans b3
    refine ⟨1, d3, rfl, rfl, by show 0 ≤ sizeLine; decide, fun dl hdl => ⟨by show 0 ≤ sizeLine; decide, fun ll hll => ?_⟩⟩
    obtain ⟨H5, e5⟩ : ∃ H5, H5 = upd (upd H3 dl (.lst [])) ll (.lst []) := ⟨_, rfl⟩
    rw [← e5]
    have s35 : Same H3 H5 := by rw [e5]; exact (same_at hdl).trans (same_at hll)
    have hll0 : H3 ll = none := (same_at (o := .lst []) hdl).free hll
    have nld : ll ≠ dl := fun z => by rw [z, upd_same] at hll; cases hll
    have hdl5 : H5 dl = some (.lst (strv [])) := by rw [e5, upd_ne (Ne.symm nld), upd_same]; rfl
    have hll5 : H5 ll = some (.lst (strv [])) := by rw [e5, upd_same]; rfl
    have dlp : dl ≠ p := nep P3 hdl
    have llp : ll ≠ p := nep P3 hll0
    have dl0 : H dl = none := b03.free dlp hdl
    have ll0 : H ll = none := b03.free llp hll0
    have nbd : b ≠ dl := ne_of_none hb3 hdl
    have nbl : b ≠ ll := ne_of_none hb3 hll0
    refine ⟨s35 _ _ hb3, rows3 (1 + d3) dl ll, rfl, by show 3 ≤ 15; decide, ?_⟩
    rw [rows3_merge]
    obtain ⟨H6, e6⟩ : ∃ H6, H6 = upd H5 b (.dK (rows3 (1 + d3) dl ll)) := ⟨_, rfl⟩
    rw [← e6]
    have hb6 : H6 b = some (.dK (rows3 (1 + d3) dl ll)) := by rw [e6, upd_same]
    have ne6 : ∀ {c : Addr} {o : HO}, H5 c = some o → c ≠ b → H6 c = some o := fun e n => by rw [e6, upd_ne n]; exact e
    have P6 : Pen H6 p l cs (n + 2 + q) := by
      obtain ⟨i, g, h1, h2, h3⟩ := P3
      exact ⟨i, g, ne6 (s35 _ _ h1) (ne_of h1 hb3 (by intro z; cases z)), ne6 (s35 _ _ h2) (ne_of h2 hb3 (by intro z; cases z)), h3⟩
    have b06 : But H H6 p := fun c o hc e => ne6 (s35 _ _ (b03 c o hc e)) (ne_of_none e b0)
    have htl6 : H6 tl = some (.lst (strv zs)) := ne6 (s35 _ _ htl3) (ne_of htl3 hb3 (by intro z; cases z))
    have hdl6 := ne6 hdl5 (Ne.symm nbd)
    have hll6 := ne6 hll5 (Ne.symm nbl)
    have nsd : tl ≠ dl := ne_of_none htl3 hdl
    have nsl : tl ≠ ll := ne_of_none htl3 hll0
    have hxl2 : (strv zs).length = zs.length := List.length_map _
    have zq : zs.length = q := hlen
    refine ⟨_, rfl, tl, rfl, ⟨_, SqL.of htl6⟩, for_list (xs := strv zs) (fun i σ H' => (∃ o4, σ = ([some (.ref p), some (.int m), some (.ref tl), some (.ref b), o4, none] : List (Option V))) ∧ BaInv H H' p l cs (n + 2 + q) b dl ll tl (1 + d3) zs i) ⟨⟨_, rfl⟩, ⟨P6, hb6, htl6, ⟨[], [], hdl6, hll6, List.nil_sublist _, List.nil_sublist _, .nil⟩, b06⟩⟩ (fun i σ H' _ h => SqL.of h.2.sl_) ?_ ?_⟩
    · rintro i x σ H8 hx ⟨⟨o4, rfl⟩, ⟨P8, hb8, hsl8, ⟨ds, ls, hds, hls, sds, sls, hper⟩, b08⟩⟩
      have hi' : i < zs.length := by rw [← hxl2]; exact (List.getElem?_eq_some_iff.mp hx).1
      have ex : (strv zs)[i]? = some (.str zs[i]) := by show (zs.map V.str)[i]? = _; rw [List.getElem?_map, List.getElem?_eq_getElem hi']; rfl
      rw [ex] at hx
      obtain rfl := Option.some.inj hx
      refine ⟨_, rfl, by show 4 ≤ sizeLine; decide, fun w4 hw4 => ?_⟩
      have s89 := same_at (o := .lst [V.str "drivers", .str "drivers", .str "drivers", .str "listeners"]) hw4
      have P9 := P8.same s89
      have w4p : w4 ≠ p := nep P8 hw4
      refine ⟨_, rfl, p, l, cs, _, 4, rfl, P9, by omega, by omega, by omega, fun d4 i4 g4 H10 d40 d41 i40 in4 hp10 b10 => ?_⟩
      have P10 := P9.next i40 in4 hp10 b10
      have hw10 := b10 _ _ w4p (upd_same (H := H8) (a := w4) (o := .lst [V.str "drivers", .str "drivers", .str "drivers", .str "listeners"]))
      have b810 : But H8 H10 p := (But.of s89).trans b10
      have hdsl : ds.length ≤ zs.length := Nat.le_trans sds.length_le (by rw [List.length_take]; omega)
      have hlsl : ls.length ≤ zs.length := Nat.le_trans sls.length_le (by rw [List.length_take]; omega)
      have hb10 := b810.keep P8 hb8 (fun ys z => by cases z)
      have hsl10 := b810 _ _ tlp hsl8
      have hds10 := b810 _ _ dlp hds
      have hls10 := b810 _ _ llp hls
      have z15 : zs.length ≤ 15 := by omega
      obtain ⟨y, hy, hyy⟩ : ∃ y, atI [V.str "drivers", .str "drivers", .str "drivers", .str "listeners"] d4 = some y ∧ (y = .str "drivers" ∨ y = .str "listeners") := by
        rcases (show d4 = ((0 : Nat) : Int) ∨ d4 = ((1 : Nat) : Int) ∨ d4 = ((2 : Nat) : Int) ∨ d4 = ((3 : Nat) : Int) by omega) with e | e | e | e
        · exact ⟨_, by rw [e]; exact atI_nat (j := 0) rfl, .inl rfl⟩
        · exact ⟨_, by rw [e]; exact atI_nat (j := 1) rfl, .inl rfl⟩
        · exact ⟨_, by rw [e]; exact atI_nat (j := 2) rfl, .inl rfl⟩
        · exact ⟨_, by rw [e]; exact atI_nat (j := 3) rfl, .inr rfl⟩
      have hpt : zs.take (i + 1) = zs.take i ++ [zs[i]] := by rw [List.take_add_one, List.getElem?_eq_getElem hi']; rfl
      rcases hyy with rfl | rfl
      · refine ⟨w4, _, d4, _, rfl, rfl, SqL.of hw10, hy, b, _, rfl, DGet.k (k := Sum.inr "drivers") hb10, ?_⟩
        refine ⟨.inl ⟨rfl, _, SqL.of hds10⟩, _, rfl, dl, _, _, rfl, rfl, hds10, ?_, ⟨⟨_, rfl⟩, ?_⟩⟩
        · show (List.map _ ds).length < _
          rw [List.length_map]
          exact Nat.lt_of_le_of_lt (show ds.length ≤ 16 by omega) (by decide)
        · refine ⟨?_, by rw [upd_ne nbd]; exact hb10, by rw [upd_ne nsd]; exact hsl10, ⟨ds ++ [zs[i]], ls, ?_, by rw [upd_ne nld]; exact hls10, sub_snoc sds hi', sub_keep sls hi', ?_⟩, fun c o hc e => ?_⟩
          · obtain ⟨i', g', h1, h2, h3⟩ := P10
            refine ⟨i', g', by rw [upd_ne (Ne.symm dlp)]; exact h1, ?_, h3.1, h3.2.1, by omega⟩
            rw [upd_ne (fun z => ?_)]
            · exact h2
            · obtain ⟨i0', g0', q1, q2, _⟩ := hP
              rw [z, dl0] at q2
              cases q2
          · rw [upd_same]
            show _ = some (HO.lst (List.map V.str _))
            rw [List.map_append]
            rfl
          · rw [hpt, List.append_assoc]
            refine List.Perm.trans ?_ (hper.append_right [zs[i]])
            rw [List.append_assoc]
            exact List.Perm.append_left ds List.perm_append_comm
          · rw [upd_ne (ne_of_none e dl0)]
            exact (b08.trans b810) c o hc e
      · refine ⟨w4, _, d4, _, rfl, rfl, SqL.of hw10, hy, b, _, rfl, DGet.k (k := Sum.inr "listeners") hb10, ?_⟩
        refine ⟨.inl ⟨rfl, _, SqL.of hls10⟩, _, rfl, ll, _, _, rfl, rfl, hls10, ?_, ⟨⟨_, rfl⟩, ?_⟩⟩
        · show (List.map _ ls).length < _
          rw [List.length_map]
          exact Nat.lt_of_le_of_lt (show ls.length ≤ 16 by omega) (by decide)
        · refine ⟨?_, by rw [upd_ne nbl]; exact hb10, by rw [upd_ne nsl]; exact hsl10, ⟨ds, ls ++ [zs[i]], by rw [upd_ne (Ne.symm nld)]; exact hds10, ?_, sub_keep sds hi', sub_snoc sls hi', ?_⟩, fun c o hc e => ?_⟩
          · obtain ⟨i', g', h1, h2, h3⟩ := P10
            refine ⟨i', g', by rw [upd_ne (Ne.symm llp)]; exact h1, ?_, h3.1, h3.2.1, by omega⟩
            rw [upd_ne (fun z => ?_)]
            · exact h2
            · obtain ⟨i0', g0', q1, q2, _⟩ := hP
              rw [z, ll0] at q2
              cases q2
          · rw [upd_same]
            show _ = some (HO.lst (List.map V.str _))
            rw [List.map_append]
            rfl
          · rw [hpt, ← List.append_assoc]
            exact hper.append_right [zs[i]]
          · rw [upd_ne (ne_of_none e ll0)]
            exact (b08.trans b810) c o hc e
    · rintro σ H8 ⟨⟨o4, rfl⟩, ⟨P8, hb8, hsl8, ⟨ds, ls, hds, hls, sds, sls, hper⟩, b08⟩⟩
      rw [hxl2, List.take_length] at sds sls hper
      have lsum : ds.length + ls.length = zs.length := by
        have := hper.length_eq
        rw [List.length_append] at this
        exact this
      -- each sorted
      refine ⟨by show 2 ≤ sizeLine; decide, fun t ht => ?_⟩
      have s89 := same_at (o := .tup [V.str "drivers", .str "listeners"]) ht
      have ht9 : upd H8 t (.tup [V.str "drivers", .str "listeners"]) t = some (.tup [V.str "drivers", .str "listeners"]) := upd_same
      refine ⟨t, rfl, ⟨_, SqT.of ht9⟩, ?_⟩
      refine for_it (walk_tup (K := K) (a := t) (xs := [V.str "drivers", .str "listeners"])) (fun j σ H' => (∃ o5, σ = ([some (.ref p), some (.int m), some (.ref tl), some (.ref b), o4, o5] : List (Option V))) ∧ Pen H' p l cs (n + 2 + q + (strv zs).length) ∧ But H H' p ∧ H' t = some (.tup [V.str "drivers", .str "listeners"]) ∧
          ∃ dl' ll' ds' ls', H' b = some (.dK (rows3 (1 + d3) dl' ll')) ∧ H' dl' = some (.lst (strv ds')) ∧ H' ll' = some (.lst (strv ls')) ∧ dl' ≠ p ∧ ll' ≠ p ∧ ds'.Perm ds ∧ ls'.Perm ls ∧ (1 ≤ j → PyProof.Rows.sortedS ds' = true) ∧ (2 ≤ j → PyProof.Rows.sortedS ls' = true))
        ⟨⟨_, rfl⟩, P8.same s89, b08.same s89, ht9, dl, ll, ds, ls, s89 _ _ hb8, s89 _ _ hds, s89 _ _ hls, dlp, llp, .refl _, .refl _, fun h => absurd h (by decide), fun h => absurd h (by decide)⟩ (fun j σ H' _ h => .inl (.inl h.2.2.2.1)) ?_ ?_
      · rintro j x σ Hz Ha hj ⟨⟨o5, rfl⟩, Pa, ba, hta, dl', ll', ds', ls', hba, hda, hla, ndp, nlp, pd, pl, so1, so2⟩ ⟨rfl, hx1⟩
        have hj2 : j < 2 := hj
        have one : ∀ {ad : Addr} {zs' xs' : List Str} {sl : Addr}, H b = none → Ha b = some (.dK (rows3 (1 + d3) dl' ll')) → Ha sl = none → ∀ (R : List (Key × V)), Pen (upd (upd Ha sl (.lst (strv xs'))) b (.dK R)) p l cs (n + 2 + q + (strv zs).length) ∧ But H (upd (upd Ha sl (.lst (strv xs'))) b (.dK R)) p ∧ upd (upd Ha sl (.lst (strv xs'))) b (.dK R) t = some (.tup [V.str "drivers", .str "listeners"]) ∧ upd (upd Ha sl (.lst (strv xs'))) b (.dK R) sl = some (.lst (strv xs')) ∧ sl ≠ p := fun {ad zs' xs' sl} hb0 hba' hsl R => by
          have s1 := same_at (o := .lst (strv xs')) hsl
          have nbs : sl ≠ b := fun e => by rw [e, hba'] at hsl; cases hsl
          have hb1 := s1 _ _ hba'
          have P1 := Pa.same s1
          refine ⟨?_, fun c o hc e => ?_, ?_, ?_, nep Pa hsl⟩
          · obtain ⟨i', g', q1, q2, q3⟩ := P1
            exact ⟨i', g', by rw [upd_ne (ne_of q1 hb1 (by intro z; cases z))]; exact q1, by rw [upd_ne (ne_of q2 hb1 (by intro z; cases z))]; exact q2, q3⟩
          · rw [upd_ne (ne_of_none e hb0)]
            exact s1 _ _ (ba c o hc e)
          · rw [upd_ne (ne_of (s1 _ _ hta) hb1 (by intro z; cases z))]
            exact s1 _ _ hta
          · rw [upd_ne nbs]
            exact upd_same
        match j, hj2, hx1, so1, so2 with
        | 0, _, hx1, so1, so2 =>
          obtain rfl := Option.some.inj hx1
          refine ⟨_, rfl, _, rfl, b, _, rfl, DGet.k (k := Sum.inr "drivers") hba, dl', ds', rfl, SqL.of hda, by rw [pd.length_eq]; omega, fun xs sl hxs hso hsl => ?_⟩
          have s1 := same_at (o := .lst (xs.map V.str)) hsl
          refine ⟨_, rfl, _, rfl, b, _, rfl, DPut.k (k := Sum.inr "drivers") (s1 _ _ hba) (by show 3 < sizeLine; decide), ?_⟩
          rw [rows3_drv]
          obtain ⟨z1, z2, z3, z4, z5⟩ := one (ad := 0) (zs' := []) (xs' := xs) b0 hba hsl (rows3 (1 + d3) sl ll')
          refine ⟨⟨_, rfl⟩, z1, z2, z3, sl, ll', xs, ls', upd_same, z4, ?_, z5, nlp, hxs.trans pd, pl, fun _ => hso, fun h => absurd h (by decide)⟩
          rw [upd_ne (ne_of (s1 _ _ hla) (s1 _ _ hba) (by intro z; cases z))]
          exact s1 _ _ hla
        | 1, _, hx1, so1, so2 =>
          obtain rfl := Option.some.inj hx1
          refine ⟨_, rfl, _, rfl, b, _, rfl, DGet.k (k := Sum.inr "listeners") hba, ll', ls', rfl, SqL.of hla, by rw [pl.length_eq]; omega, fun xs sl hxs hso hsl => ?_⟩
          have s1 := same_at (o := .lst (xs.map V.str)) hsl
          refine ⟨_, rfl, _, rfl, b, _, rfl, DPut.k (k := Sum.inr "listeners") (s1 _ _ hba) (by show 3 < sizeLine; decide), ?_⟩
          rw [rows3_lis]
          obtain ⟨z1, z2, z3, z4, z5⟩ := one (ad := 0) (zs' := []) (xs' := xs) b0 hba hsl (rows3 (1 + d3) dl' sl)
          refine ⟨⟨_, rfl⟩, z1, z2, z3, dl', sl, ds', xs, upd_same, ?_, z4, ndp, z5, pd, hxs.trans pl, fun _ => so1 (by decide), fun _ => hso⟩
          rw [upd_ne (ne_of (s1 _ _ hda) (s1 _ _ hba) (by intro z; cases z))]
          exact s1 _ _ hda
      rintro σ Ha ⟨⟨o5, rfl⟩, Pa, ba, hta, dl', ll', ds', ls', hba, hda, hla, ndp, nlp, pd, pl, so1, so2⟩
      -- rails
      refine ⟨by show 0 ≤ sizeLine; decide, fun r0 h0 => ⟨by show 0 ≤ sizeLine; decide, fun r1 h1 => ⟨by show 1 ≤ sizeLine; decide, fun r2 h2 => ⟨by show 1 ≤ sizeLine; decide, fun r3 h3 => ⟨by show 2 ≤ sizeLine; decide, fun r4 h4 => ⟨by show 5 ≤ sizeLine; decide, fun L hL => ?_⟩⟩⟩⟩⟩⟩
      have t0 := same_at (o := .lst []) h0
      have t1 := same_at (o := .lst []) h1
      have t2 := same_at (o := .lst [.str "ground"]) h2
      have t3 := same_at (o := .lst [.str "power"]) h3
      have t4 := same_at (o := .lst [.str "ground", .str "power"]) h4
      have tL := same_at (o := .lst [.ref r0, .ref r1, .ref r2, .ref r3, .ref r4]) hL
      have t34 := t4.trans tL
      have t24 := t3.trans t34
      have t14 := t2.trans t24
      have t04 := t1.trans t14
      have t05 := t0.trans t04
      have n0 : r0 ≠ p := nep Pa h0
      have n1 : r1 ≠ p := nep (Pa.same t0) h1
      have n2 : r2 ≠ p := nep ((Pa.same t0).same t1) h2
      have n3 : r3 ≠ p := nep (((Pa.same t0).same t1).same t2) h3
      have n4 : r4 ≠ p := nep ((((Pa.same t0).same t1).same t2).same t3) h4
      have nL : L ≠ p := nep (((((Pa.same t0).same t1).same t2).same t3).same t4) hL
      have e0 := t04 _ _ (upd_same (H := Ha) (a := r0) (o := .lst []))
      have e1 := t14 _ _ (upd_same (a := r1) (o := .lst []))
      have e2 := t24 _ _ (upd_same (a := r2) (o := .lst [.str "ground"]))
      have e3 := t34 _ _ (upd_same (a := r3) (o := .lst [.str "power"]))
      have e4 := tL _ _ (upd_same (a := r4) (o := .lst [.str "ground", .str "power"]))
      obtain ⟨Hb, eHb⟩ : ∃ Hb, Hb = upd (upd (upd (upd (upd (upd Ha r0 (.lst [])) r1 (.lst [])) r2 (.lst [.str "ground"])) r3 (.lst [.str "power"])) r4 (.lst [.str "ground", .str "power"])) L (.lst [V.ref r0, .ref r1, .ref r2, .ref r3, .ref r4]) := ⟨_, rfl⟩
      have eL : Hb L = some (.lst [.ref r0, .ref r1, .ref r2, .ref r3, .ref r4]) := by rw [eHb, upd_same]
      rw [← eHb] at t05 e0 e1 e2 e3 e4 ⊢
      have Pb := Pa.same t05
      refine ⟨_, rfl, p, l, cs, _, 5, rfl, Pb, by omega, by omega, by rw [hxl2]; omega, fun d5 i5 g5 H10 d50 d51 i50 in5 hp10 b10 => ?_⟩
      have P10 := Pb.next i50 in5 hp10 b10
      obtain ⟨y, g, r, rl, hy, rfl, hrl, hrp⟩ : ∃ y g r rl, atI [V.ref r0, .ref r1, .ref r2, .ref r3, .ref r4] d5 = some y ∧ y = .ref rl ∧ H10 rl = some (.lst (strv (railsZ g r))) ∧ rl ≠ p := by
        rcases (show d5 = ((0 : Nat) : Int) ∨ d5 = ((1 : Nat) : Int) ∨ d5 = ((2 : Nat) : Int) ∨ d5 = ((3 : Nat) : Int) ∨ d5 = ((4 : Nat) : Int) by omega) with e | e | e | e | e
        · exact ⟨_, false, false, r0, by rw [e]; exact atI_nat (j := 0) rfl, rfl, b10 _ _ n0 e0, n0⟩
        · exact ⟨_, false, false, r1, by rw [e]; exact atI_nat (j := 1) rfl, rfl, b10 _ _ n1 e1, n1⟩
        · exact ⟨_, true, false, r2, by rw [e]; exact atI_nat (j := 2) rfl, rfl, b10 _ _ n2 e2, n2⟩
        · exact ⟨_, false, true, r3, by rw [e]; exact atI_nat (j := 3) rfl, rfl, b10 _ _ n3 e3, n3⟩
        · exact ⟨_, true, true, r4, by rw [e]; exact atI_nat (j := 4) rfl, rfl, b10 _ _ n4 e4, n4⟩
      have ba10 : But Ha H10 p := (But.of t05).trans b10
      have hb10 := ba10.keep Pa hba (fun ys z => by cases z)
      have hd10 := ba10 _ _ ndp hda
      have hl10 := ba10 _ _ nlp hla
      refine ⟨L, _, d5, _, rfl, rfl, SqL.of (b10 _ _ nL eL), hy, _, rfl, b, _, rfl, DPut.k (k := Sum.inr "rails") hb10 (by show 3 < sizeLine; decide), _, rfl, ?_⟩
      rw [rows3_put]
      have nrb : rl ≠ b := ne_of hrl hb10 (by intro z; cases z)
      have ndb : dl' ≠ b := ne_of hd10 hb10 (by intro z; cases z)
      have nlb : ll' ≠ b := ne_of hl10 hb10 (by intro z; cases z)
      have pmz : (ds' ++ ls').Perm zs := (List.Perm.append pd pl).trans hper
      refine k b ⟨1 + d3, ds', ls', g, r⟩ _ ⟨by show (1 : Int) ≤ 1 + d3; omega, by show (1 : Int) + d3 ≤ 3; omega, pmz.nodup_iff.mpr hndz, fun z hz => hpool z (pmz.mem_iff.mp hz), OrdS.sorted_pw (so1 (by decide)), OrdS.sorted_pw (so2 (by decide)), ?_⟩ ?_ b0 ⟨dl', ll', rl, upd_same, by rw [upd_ne ndb]; exact hd10, by rw [upd_ne nlb]; exact hl10, by rw [upd_ne nrb]; exact hrl, ndp, nlp, hrp⟩ ?_ fun c o hc e => ?_
      · show ds'.length + ls'.length ≤ 16
        rw [pd.length_eq, pl.length_eq]
        omega
      · show ds'.length + ls'.length ≤ m
        rw [pd.length_eq, pl.length_eq]
        omega
      · obtain ⟨i', g', q1, q2, q3⟩ := P10
        rw [hxl2, zq] at q3
        exact ⟨i', g', by rw [upd_ne (ne_of q1 hb10 (by intro z; cases z))]; exact q1, by rw [upd_ne (ne_of q2 hb10 (by intro z; cases z))]; exact q2, q3.1, q3.2.1, by omega⟩
      · rw [upd_ne (ne_of_none e b0)]
        exact (ba.trans ba10) c o hc e
end
end Sj
namespace Sj
open PySem L2 Sup StK Own
open NdefX (NF NScope ncx envF startF nscope_by)
open C8 (pss_cut tCut)
/-! _law_frame (k03, k05, ..) -/
section
variable {P : Program} {w : World} {K : PySem.W.Frag} {mg : Str → Option Value} {base : Heap} {f : Addr} {fd : FuncData} {ks : Kinds} {CI CF : Addr}
abbrev psO : List Str := ["cls", "legs", "top", "ground", "power"]
theorem of_kwB (F : FunD K "of" "Frame.of" (defArgs sOf) (defBody sOf) (defScope sOf) [] kwsF f fd) (G : FnOk P w K mg base (L2.CX P w) 6 f fd psO (spOf K ks CI CF)) :
    FnK P w K mg base (L2.CX P w) 6 f ksB (fun vs zs H Q E => vs.length = 2 ∧ spOf K ks CI CF (vs ++ zs) H Q E) := by
  obtain ⟨mv, hb⟩ := F.kbinds0 (ps := psO) 2 ksB [] (fun us mv ws => us ++ ws) (by decide) (fun q h => nomatch h) (fun r1 _ r3 => r1.append r3)
    (fun D doc pm an cdv ct us mv ws h1 h2 h3 => match us, mv, ws, h1, h2, h3 with
      | [a, b], [], [x, y, z], _, _, _ => rfl)
  exact fnK_of G hb
end
theorem topIn {K : PySem.W.Frag} {H : Hp} {i : Int} (h1 : 1 ≤ i) (h3 : i ≤ 3) : TopIs K H (.int i) true := .inl ⟨i, rfl, by rw [decide_eq_true h1, decide_eq_true h3]; rfl⟩
theorem railIn {K : PySem.W.Frag} {H : Hp} {b : Bool} : RailIs K H (.bl b) true := ⟨"bool", .base (.bl b), by decide +kernel⟩
/-- the legs ys are the drivers ds and the listeners ls -/
def KindsOf (ks : Kinds) (ys : List LegR) (ds ls : List Str) : Prop := ∃ rs1 rs2 : List LegR, ys.Perm (rs1 ++ rs2) ∧ names rs1 = ds ∧ names rs2 = ls ∧ (∀ r ∈ rs1, r.C = ks.drv) ∧ ∀ r ∈ rs2, r.C = ks.lis
abbrev sFrm : Stmt := top 30
abbrev nFm : List Str := ["_law_bare_here", "_law_some", "_law_rails_so", "_law_tag"]
theorem scFm : FnScope nFm ["_law_bare_here"] (defScope sFrm) := ⟨rfl, rfl, rfl, by decide +kernel, rfl, by decide +kernel, by decide +kernel⟩
def spFrm (ks : Kinds) (CF : Addr) : Sp := fun vs H Q _ => ∃ (b : Addr) (d : BareD) (p : Addr), vs = [.ref b] ∧ BareAt H b d p ∧ d.ok ∧ ∀ a ys H', FrIs ks CF H' a ⟨ys, d.t, d.g, d.r⟩ → KindsOf ks ys d.ds d.ls → H a = none → Same H H' → Q (.ref a) H'
structure FkT (P : Program) (w : World) (K : PySem.W.Frag) (mg : Str → Option Value) (base : Heap) (ks : Kinds) (CI CF : Addr) : Prop where
  d : MkL P w K mg base CI ks.drv "Driver"
  i : MkL P w K mg base CI ks.lis "Listener"
  mF : mg "Frame" = some (.ref CF)
  of : ∃ mc q gO, ClX.CRead K CF mc ∧ ClX.CMet K CF mc "of" q gO ∧ FnK P w K mg base (L2.CX P w) 6 gO ksB (fun vs zs H Q E => vs.length = 2 ∧ spOf K ks CI CF (vs ++ zs) H Q E)
def teMk (K : PySem.W.Frag) (CI C : Addr) : TE := tMk K CI C (tVar 3)
theorem names_append (xs ys : List LegR) : names (xs ++ ys) = names xs ++ names ys := List.map_append
theorem refs_append (xs ys : List LegR) : refs (xs ++ ys) = refs xs ++ refs ys := List.map_append
/-- [C(tag) for tag in zs] -/
theorem mk_walk {K : PySem.W.Frag} {CI C q D : Addr} {zs : List Str} {H : Hp} {σ : L2.St} {Qd : Hp → Prop} (hσ : σ.length = 4) (hq : H q = some (.lst (strv zs))) (hD : H D = none) (hz : ∀ z ∈ zs, z ∈ poolS) (hl : zs.length ≤ 16)
    (hd : ∀ H' rs, Same H H' → H' D = some (.lst (refs rs)) → names rs = zs → (∀ r ∈ rs, r.C = C ∧ LegAt H' r.a C r.z) → Qd H') :
    ∃ W : Nat → Nat → Hp → Prop, (∃ m, W 0 m (upd H D (.lst []))) ∧ ∀ i m H, W i m H →
      ((Itl K q).stop i H ∧ Qd H) ∨ ((Itl K q).go i H ∧ ∃ Nx : Hp → Prop, (∀ H', Nx H' → ∃ m', m' < m ∧ W (i + 1) m' H') ∧ ∀ x H', (Itl K q).yld i H x H' → gName 3 x (wipe σ [3]) H' fun σ2 H2 => wipe σ2 [3] = wipe σ [3] ∧ tYes σ2 H2 fun b H3 =>
        if b = true then teMk K CI C σ2 H3 fun y H4 => ∃ acc, H4 D = some (.lst acc) ∧ acc.length < sizeLine ∧ Nx (upd H4 D (.lst (acc ++ [y]))) else Nx H3) := by
  match σ, hσ with
  | [u0, u1, u2, u3], _ =>
  have hlm : (strv zs).length = zs.length := List.length_map _
  refine lc_it (walk_list (K := K) (a := q) (xs := strv zs)) (fun i H' => Same H H' ∧ ∃ rs, H' D = some (.lst (refs rs)) ∧ names rs = zs.take i ∧ ∀ r ∈ rs, r.C = C ∧ LegAt H' r.a C r.z) ⟨same_at hD, [], upd_same, rfl, fun r hr => by cases hr⟩ (fun i H' _ p => SqL.of (p.1 _ _ hq)) ?_ ?_
  · rintro i x H1 H2 hi ⟨s1, rs, d1, hn, hr⟩ ⟨rfl, hx⟩
    rw [hlm] at hi
    have ex : (strv zs)[i]? = some (.str zs[i]) := by show (zs.map V.str)[i]? = _; rw [List.getElem?_map, List.getElem?_eq_getElem hi]; rfl
    rw [ex] at hx
    obtain rfl := Option.some.inj hx
    refine ⟨rfl, ?_⟩
    unfold tYes
    dsimp only
    rw [if_pos rfl]
    obtain ⟨o1, o2⟩ := pool_ok _ (hz _ (List.getElem_mem hi))
    unfold teMk
    refine mk_rd (fun Q'' q => ⟨_, rfl, q⟩) o1 (by omega) fun a H3 ha la s3 => ?_
    have d3 := s3 _ _ d1
    have nDa : D ≠ a := fun z => by
      obtain ⟨dx, e⟩ := la
      rw [← z, d3] at e
      cases e
    have keepD : ∀ {c C' : Addr} {z : Str} {o : HO}, LegAt H3 c C' z → LegAt (upd H3 D o) c C' z := fun ⟨dx, e⟩ => ⟨dx, by rw [upd_ne (ne_of e d3 (by intro z; cases z))]; exact e⟩
    refine ⟨_, d3, ?_, fun c o hc => ?_, rs ++ [⟨a, C, zs[i]⟩], ?_, ?_, fun r hr' => ?_⟩
    · have e1 : rs.length = (zs.take i).length := by rw [← hn]; unfold names; rw [List.length_map]
      show (List.map _ rs).length < _
      rw [List.length_map, e1, List.length_take]
      exact Nat.lt_of_le_of_lt (Nat.min_le_right _ _) (Nat.lt_of_le_of_lt hl (by decide))
    · rw [upd_ne (ne_of_none hc hD)]
      exact s3 _ _ (s1 _ _ hc)
    · rw [upd_same, refs_append]
      rfl
    · rw [names_append, hn, List.take_add_one, List.getElem?_eq_getElem hi]
      rfl
    · rcases List.mem_append.mp hr' with hr' | hr'
      · exact ⟨(hr r hr').1, keepD ((hr r hr').2.same s3)⟩
      · obtain rfl := List.mem_singleton.mp hr'
        exact ⟨rfl, keepD la⟩
  · rintro H1 ⟨s1, rs, d1, hn, hr⟩
    rw [hlm, List.take_length] at hn
    exact hd H1 rs s1 d1 hn hr
theorem inV_rails (g r : Bool) : inV (.str "ground") (strv (railsZ g r)) = g ∧ inV (.str "power") (strv (railsZ g r)) = r := by
  cases g <;> cases r <;> decide +kernel
theorem flat_strv : ∀ zs : List Str, (strv zs).all flatV = true
  | [] => rfl
  | z :: zs => by
    show (flatV (.str z) && (strv zs).all flatV) = true
    rw [flat_strv zs]
    rfl
section
variable {P : Program} {w : World} {K : PySem.W.Frag} {mg : Str → Option Value} {base : Heap}
theorem ok_frm {f CI CF : Addr} {fd : FuncData} {ks : Kinds} (F : Fun K "_law_frame" "_law_frame" sFrm f fd) (T : FkT P w K mg base ks CI CF) : FnOk P w K mg base CX0 7 f fd ["_law_bare_here"] (spFrm ks CF) := by
  obtain ⟨⟨fD, fdD, MD, GD, bD⟩, mD⟩ := T.d
  obtain ⟨⟨fI, fdI, MI, GI, bI⟩, mI⟩ := T.i
  obtain ⟨mc, qO, gO, cr, cm, GB⟩ := T.of
  refine F.ok scFm (fun vs H Q E h => ?_) (fun cdv A outer s H vs Q E hr h => ?_)
  · obtain ⟨b, d, p, rfl, _⟩ := h
    rfl
  · obtain ⟨b, d, p, rfl, hB, ok, k⟩ := h
    obtain ⟨dl, ll, rl, hb, hdl, hll, hrl, _⟩ := hB.ex
    have hr5 := hr.mono (show 5 ≤ 6 by decide)
    refine ⟨_, pss_cons (ps_set (i := 1) scFm.nd rfl (Or.inl rfl) (pe_op op_cat
        (pe_lc (te := teMk K CI ks.drv) (own := [("_law_tag", 3)]) (g := gName 3) (tt := tYes) rfl scFm.nd (pi_list (pe_dget (hu_of hr) (pv 0) pe_str (fun _ _ => rfl))) (blkOk_by (N := nFm) (sc := defScope sFrm) (by decide +kernel))
          (fun _ _ _ _ _ => pg_name (i := 3) scFm.nd rfl (Or.inl rfl)) (fun _ _ _ _ _ => pts_nil) (fun _ _ _ _ _ => pe_make MD GD hr5 rfl mD bD .nil (passNo rfl rfl) (pa_cons (pv 3) pa_nil)))
        (pe_lc (te := teMk K CI ks.lis) (own := [("_law_tag", 3)]) (g := gName 3) (tt := tYes) rfl scFm.nd (pi_list (pe_dget (hu_of hr) (pv 0) pe_str (fun _ _ => rfl))) (blkOk_by (N := nFm) (sc := defScope sFrm) (by decide +kernel))
          (fun _ _ _ _ _ => pg_name (i := 3) scFm.nd rfl (Or.inl rfl)) (fun _ _ _ _ _ => pts_nil) (fun _ _ _ _ _ => pe_make MI GI hr5 rfl mI bI .nil (passNo rfl rfl) (pa_cons (pv 3) pa_nil)))))
      (pss_one (ps_ret (pe_cmethK (pe_glob rfl T.mF (v := .ref CF) rfl) cr cm GB hr (passNo rfl rfl) (pa_cons (pv 1) pa_nil) (pk_cons (pe_dget (hu_of hr) (pv 0) pe_str (fun _ _ => rfl)) (pk_cons (pe_cmpR op_in_seq pe_str (pe_dget (hu_of hr) (pv 0) pe_str (fun _ _ => rfl)) (by rfl)) (pk_cons (pe_cmpR op_in_seq pe_str (pe_dget (hu_of hr) (pv 0) pe_str (fun _ _ => rfl)) (by rfl)) pk_nil)))))), ?_⟩
    have lds : d.ds.length ≤ 16 := by have := ok.le; omega
    have lls : d.ls.length ≤ 16 := by have := ok.le; omega
    refine ⟨_, rfl, b, _, rfl, DGet.k (k := Sum.inr "drivers") hb, dl, rfl, ⟨_, SqL.of hdl⟩, fun D1 hD1 => ?_⟩
    refine mk_walk rfl hdl hD1 (fun z hz => ok.po z (List.mem_append_left _ hz)) lds fun H1 rs1 s1 d1 n1 r1 => ?_
    refine ⟨_, rfl, b, _, rfl, DGet.k (k := Sum.inr "listeners") (s1 _ _ hb), ll, rfl, ⟨_, SqL.of (s1 _ _ hll)⟩, fun D2 hD2 => ?_⟩
    refine mk_walk rfl (s1 _ _ hll) hD2 (fun z hz => ok.po z (List.mem_append_right _ hz)) lls fun H2 rs2 s2 d2 n2 r2 => ?_
    have e1 : rs1.length = d.ds.length := by rw [← n1]; unfold names; rw [List.length_map]
    have e2 : rs2.length = d.ls.length := by rw [← n2]; unfold names; rw [List.length_map]
    have c1 : (refs rs1).length = rs1.length := List.length_map _
    have c2 : (refs rs2).length = rs2.length := List.length_map _
    refine ⟨D1, D2, refs rs1, refs rs2, rfl, rfl, s2 _ _ d1, d2, Nat.le_trans (show _ ≤ 32 by omega) (by decide), fun L hL => ?_⟩
    obtain ⟨H3, e3⟩ : ∃ H3, H3 = upd H2 L (.lst (refs rs1 ++ refs rs2)) := ⟨_, rfl⟩
    have s3 : Same H2 H3 := by rw [e3]; exact same_at hL
    have hL3 : H3 L = some (.lst (refs (rs1 ++ rs2))) := by rw [e3, upd_same, refs_append]
    rw [← e3]
    have s03 := (s1.trans s2).trans s3
    have hb3 := s03 _ _ hb
    have hrl3 := s03 _ _ hrl
    refine ⟨rfl, _, rfl, _, rfl, b, _, rfl, DGet.k (k := Sum.inr "top") hb3, _, rfl, b, _, rfl, DGet.k (k := Sum.inr "rails") hb3, rl, _, rfl, .inl (SqL.of hrl3), rfl, flat_strv _, _, rfl, b, _, rfl, DGet.k (k := Sum.inr "rails") hb3, rl, _, rfl, .inl (SqL.of hrl3), rfl, flat_strv _, rfl, rfl, ?_⟩
    rw [if_neg Bool.false_ne_true, if_neg Bool.false_ne_true, (inV_rails d.g d.r).1, (inV_rails d.g d.r).2]
    have hrs : ∀ r ∈ rs1 ++ rs2, r.ok ks H3 := fun r hr' => by
      rcases List.mem_append.mp hr' with h | h
      · exact ⟨.inl (r1 r h).1, by rw [(r1 r h).1]; exact (((r1 r h).2.same s2).same s3)⟩
      · exact ⟨.inr (r2 r h).1, by rw [(r2 r h).1]; exact ((r2 r h).2.same s3)⟩
    have hnm : names (rs1 ++ rs2) = d.ds ++ d.ls := by rw [names_append, n1, n2]
    have hdue : due (names (rs1 ++ rs2)) true (true && true) = .non := by
      unfold due
      rw [hnm, List.length_append, if_neg (by have := ok.le; omega), if_pos ok.nd]
      rfl
    refine ⟨_, _, _, _, true, true, true, rfl, topIn ok.t1 ok.t3, railIn, railIn, .inr ⟨L, _, rfl, .inl hL3, ?_, .inr ⟨rs1 ++ rs2, rfl, hrs, fun z hz => ?_, fun _ a H4 ys ha ho hf s4 => ?_⟩⟩⟩
    · rw [refs_append, List.length_append]
      omega
    · rw [hdue] at hz
      cases hz
    · have hpn : (names ys).Perm (d.ds ++ d.ls) := by rw [← hnm]; exact ho.1.map _
      refine k a ys H4 ⟨hf, fun r hr' => (hrs r (ho.1.mem_iff.mp hr')).same s4, hpn.nodup_iff.mpr ok.nd, ?_, ho.2⟩ ⟨rs1, rs2, ho.1, n1, n2, fun r h => (r1 r h).1, fun r h => (r2 r h).1⟩ (s03.free ha) (s03.trans s4)
      rw [ho.1.length_eq, List.length_append]
      omega
end
end Sj
namespace Sj
open PySem L2 Sup StK Own Shw Exg
open NdefX (NF NScope ncx envF startF nscope_by)
open C8 (pss_cut tCut)
/-! _law_legs, _law_odd (k03, k05, ..) -/
/-- what is no name of anything -/
def oddF : List V := [.non, .int 0, .bl true, .str "", .str "A", .str "nobody", .str "nothing", .int (10 ^ 30), .str "a b"]
inductive OddX (H : Hp) (p : Addr) : V → Prop
  | flat {x : V} : x ∈ oddF → OddX H p x
  | tup {t : Addr} : H t = some (.tup [.str "a"]) → OddX H p (.ref t)
  | lst {l : Addr} : H l = some (.lst [.str "a"]) → l ≠ p → sysModules ≠ l → OddX H p (.ref l)
  | dic {q : Addr} : H q = some (.dK []) → OddX H p (.ref q)
theorem OddX.same {H H' : Hp} {p : Addr} {x : V} (h : OddX H p x) (s : Same H H') : OddX H' p x := by
  cases h with
  | flat h => exact .flat h
  | tup h => exact .tup (s _ _ h)
  | lst h n m => exact .lst (s _ _ h) n m
  | dic h => exact .dic (s _ _ h)
theorem OddX.but {H H' : Hp} {p l : Addr} {cs : List Int} {n : Nat} {x : V} (h : OddX H p x) (hP : Pen H p l cs n) (s : But H H' p) : OddX H' p x := by
  cases h with
  | flat h => exact .flat h
  | tup h => exact .tup (s.keep hP h fun ys z => by cases z)
  | lst h n m => exact .lst (s _ _ n h) n m
  | dic h => exact .dic (s.keep hP h fun ys z => by cases z)
theorem smalls_of {d : PyData} (h : (PyData.showable d && decide (d.depth ≤ 60) && decide (d.shown.length ≤ 1000)) = true) : Smalls d := by
  rw [Bool.and_eq_true, Bool.and_eq_true, decide_eq_true_eq, decide_eq_true_eq] at h
  exact ⟨⟨h.1.1, h.1.2, Nat.le_trans h.2 (by decide)⟩, h.2⟩
theorem OddX.data {K : PySem.W.Frag} {H : Hp} {p : Addr} {x : V} (h : OddX H p x) : ∃ d, Dq K H x d ∧ Smalls d := by
  cases h with
  | flat h =>
    unfold oddF at h
    simp only [List.mem_cons, List.not_mem_nil, or_false] at h
    rcases h with rfl | rfl | rfl | rfl | rfl | rfl | rfl | rfl | rfl
    · exact ⟨_, .non, smalls_of (by decide +kernel)⟩
    · exact ⟨_, .int _, smalls_of (by decide +kernel)⟩
    · exact ⟨_, .bl _, smalls_of (by decide +kernel)⟩
    · exact ⟨_, .str _, smalls_of (by decide +kernel)⟩
    · exact ⟨_, .str _, smalls_of (by decide +kernel)⟩
    · exact ⟨_, .str _, smalls_of (by decide +kernel)⟩
    · exact ⟨_, .str _, smalls_of (by decide +kernel)⟩
    · exact ⟨_, .int _, smalls_of (by decide +kernel)⟩
    · exact ⟨_, .str _, smalls_of (by decide +kernel)⟩
  | tup h => exact ⟨_, .tup (SqT.of h) (.cons (.str _) .nil), smalls_of (by decide +kernel)⟩
  | lst h n m => exact ⟨_, .lst m (SqL.of h) (.cons (.str _) .nil), smalls_of (by decide +kernel)⟩
  | dic h => exact ⟨_, .dic (.inl h), smalls_of (by decide +kernel)⟩
end Sj
namespace Sj
open PySem L2 Sup StK Own Shw Exg
open NdefX (NF NScope ncx envF startF nscope_by)
open C8 (pss_cut tCut)
/-! xs != [] of a list of anything; what a frame tells of a plain one -/
def rNeNil : R2 := fun x y H Q => ∃ a b xs, x = .ref a ∧ y = .ref b ∧ H a = some (.lst xs) ∧ H b = some (.lst []) ∧ Q (.bl (!xs.isEmpty)) H
theorem op_neNil {X : Cx} (hu : X.A.units + 64 < cLine) : OpR X (compareOp .NotEq) rNeNil := by
  intro pins s σ H x y v u Q I rx ry h
  obtain ⟨a, b, xs, rfl, rfl, ha, hb, q⟩ := h
  cases xs with
  | nil => exact op_neD hu pins s σ H _ _ v u Q I rx ry ⟨.list [], .list [], .lst (SqL.of ha) .nil, .lst (SqL.of hb) .nil, rfl, rfl, q⟩
  | cons y ys =>
    obtain rfl : v = Value.ref a := rx
    obtain rfl : u = Value.ref b := ry
    obtain ⟨its, r1, p1, _⟩ := I.list (SqL.of ha)
    obtain ⟨it2, r2, p2, _⟩ := I.list (SqL.of hb)
    have e1 : its.toArray.size ≠ it2.toArray.size := by
      rw [List.size_toArray, List.size_toArray, ← r1.length, ← r2.length]
      exact Nat.succ_ne_zero _
    exact SeqAt.RcNeAt.lists_lengths p1.isList p2.isList (by simpa using e1) (Nat.lt_of_le_of_lt (Nat.le_add_right _ _) hu) _ _ _ _ ⟨.bl true, H, I, rfl, q⟩
/-- the frame is the one that is told -/
structure Told (ks : Kinds) (ys : List LegR) (d : BareD) : Prop where
  nm : ∀ zs : List Str, zs.Perm (d.ds ++ d.ls) → PyProof.Rows.sortedS zs = true → zs = names ys
  dr : kindZ ks true ys = d.ds
  li : kindZ ks false ys = d.ls
  pm : (names ys).Perm (d.ds ++ d.ls)
theorem told_of {ks : Kinds} {ys : List LegR} {d : BareD} (ok : d.ok) (hne : ks.drv ≠ ks.lis) (so : PyProof.Rows.sortedS (names ys) = true) (h : KindsOf ks ys d.ds d.ls) : Told ks ys d := by
  obtain ⟨rs1, rs2, hp, e1, e2, c1, c2⟩ := h
  have pm : (names ys).Perm (d.ds ++ d.ls) := by
    have : (names ys).Perm (names (rs1 ++ rs2)) := hp.map _
    rwa [names_append, e1, e2] at this
  have pwn := OrdS.sorted_pw so
  have fil : ∀ b, (kindZ ks b ys).Perm (if b then d.ds else d.ls) ∧ (kindZ ks b ys).Pairwise OrdS.Le := fun b => by
    refine ⟨?_, pwn.sublist (List.Sublist.map _ List.filter_sublist)⟩
    have q : (kindZ ks b ys).Perm (names ((rs1 ++ rs2).filter fun r => decide (r.C = ks.drv) == b)) := (hp.filter _).map _
    rw [List.filter_append, names_append] at q
    have f1 : rs1.filter (fun r => decide (r.C = ks.drv) == b) = if b then rs1 else [] := by
      cases b with
      | true => exact List.filter_eq_self.mpr fun r hr => by rw [decide_eq_true (c1 r hr)]; rfl
      | false => exact List.filter_eq_nil_iff.mpr fun r hr => by rw [decide_eq_true (c1 r hr)]; simp
    have f2 : rs2.filter (fun r => decide (r.C = ks.drv) == b) = if b then [] else rs2 := by
      have hn : ∀ r ∈ rs2, decide (r.C = ks.drv) = false := fun r hr => decide_eq_false fun z => hne (by rw [← z, c2 r hr])
      cases b with
      | true => exact List.filter_eq_nil_iff.mpr fun r hr => by rw [hn r hr]; simp
      | false => exact List.filter_eq_self.mpr fun r hr => by rw [hn r hr]; rfl
    rw [f1, f2] at q
    cases b with
    | true => rw [if_pos rfl, if_pos rfl, e1, show names [] = [] from rfl, List.append_nil] at q; exact q
    | false => rw [if_neg Bool.false_ne_true, if_neg Bool.false_ne_true, e2, show names [] = [] from rfl, List.nil_append] at q; exact q
  exact ⟨fun zs hz hs => OrdS.uniq (hz.trans pm.symm) hs so, OrdS.pw_uniq (fil true).1 (fil true).2 ok.sd, OrdS.pw_uniq (fil false).1 (fil false).2 ok.sl, pm⟩
/-! a list that is not empty -/
end Sj
/-! def f(a, .., **d), called with keywords; c(e, .., k = v), c a name that holds a class -/
namespace StK
open PySem PySem.Spec PyProof.Rows L2
open StX
end StK
/-! own methods by a promise that asks nothing of what is being shown -/
namespace Own
open PySem PySem.Spec PyProof.Rows L2 Sup Grd
structure MetN (P : Program) (w : World) (K : PySem.W.Frag) (mg : Str → Option Value) (base : Heap) (CX : CXT) (n : Nat) (C : Addr) (name : Str) (ps : List Str) (sp : Sp) : Prop where
  ex : ∃ (f : Addr) (fd : FuncData), PySem.W.findIn K (.ref C) name = some (some (.ref f)) ∧ PySem.W.isFn K (.ref f) = true ∧ PySem.W.fnIn K f = true ∧ FnOk P w K mg base CX n f fd ps sp ∧ Binds K fd ps []
section
variable {X : Cx} {CX : CXT} {pins : List (Addr × Obj)} {σ : L2.St} {H : Hp} {s : Shared} {k : Nat} {C f : Addr} {fd : FuncData} {ps : List Str} {sp : Sp} {E : XK}
theorem run_atN {A : Around} {Q : VK} {us : List Value} {vs : List V} {E' : Value → Shared → Prop} (F : FnOk X.prog X.w X.K X.mg X.base CX k f fd ps sp) (hr : Room k A) (hb : Binds X.K fd ps []) (e0 : Env0 X.prog X.w X.K X.mg X.base A X.stack s H)
    (hx : ∀ e s', CX X.stack H s E e s' → E' e s') (I : Inv X pins σ H s) (r : Vals vs us) (h : sp vs H Q E) : wpAny (model X.prog X.w) A (call (.ref f) us) (EP X pins σ Q) E' s := by
  have hl : (us ++ []).length = ps.length := by rw [List.append_nil, ← r.length]; exact F.len _ _ _ _ h
  have hB := hb s us I.kIn hl
  rw [List.append_nil] at hB
  refine wpAny_call (codeAny_mono (F.run A X.stack s H ⟨us, []⟩ us vs Q E hr e0 hB r h) fun res s' hq => ?_)
  match res, hq with
  | .error e, hq => exact hx e s' hq
  | .ok (.ret u), hq => exact I.after hq
theorem op_inN (M : MetN X.prog X.w X.K X.mg X.base CX0 k C "__contains__" ps sp) (hr : Room k X.A) : OpR X (compareOp .In) (rInO C false sp) := by
  obtain ⟨f, fd, h1, h2, _, F, hb⟩ := M
  intro pins s σ H x y v u Q I rx ry h
  obtain ⟨a, dx, fs, rfl, ha, h⟩ := h
  obtain rfl : u = Value.ref a := ry
  obtain ⟨mA, O, _⟩ := ins_get I.hok ha
  obtain ⟨od, J, _⟩ := O.look
  obtain ⟨m, Fr⟩ := I.fr
  refine PySem.W.in_K Fr I.mod.kin J h1 h2 (wpAny_mono (run_atN (vs := [.ref a, x]) F hr hb I.env0 (E' := X.xe) (fun e s' z => False.elim z) I (.cons rfl (.cons rx .nil)) h) (fun v s1 ⟨z, H1, I1, rv, b, ez, q⟩ => ?_) fun _ _ z => z)
  subst ez
  obtain rfl : v = Value.bool b := rv
  exact wpAny_truthy_bool ⟨.bl b, H1, I1, rfl, q⟩
theorem op_notInN (M : MetN X.prog X.w X.K X.mg X.base CX0 k C "__contains__" ps sp) (hr : Room k X.A) : OpR X (compareOp .NotIn) (rInO C true sp) := by
  obtain ⟨f, fd, h1, h2, _, F, hb⟩ := M
  intro pins s σ H x y v u Q I rx ry h
  obtain ⟨a, dx, fs, rfl, ha, h⟩ := h
  obtain rfl : u = Value.ref a := ry
  obtain ⟨mA, O, _⟩ := ins_get I.hok ha
  obtain ⟨od, J, _⟩ := O.look
  obtain ⟨m, Fr⟩ := I.fr
  refine PySem.W.notIn_K Fr I.mod.kin J h1 h2 (wpAny_mono (run_atN (vs := [.ref a, x]) F hr hb I.env0 (E' := X.xe) (fun e s' z => False.elim z) I (.cons rfl (.cons rx .nil)) h) (fun v s1 ⟨z, H1, I1, rv, b, ez, q⟩ => ?_) fun _ _ z => z)
  subst ez
  obtain rfl : v = Value.bool b := rv
  exact wpAny_truthy_bool ⟨.bl (!b), H1, I1, rfl, q⟩
end
end Own
/-! x not in (texts), x a text, or flat, or a list, a tuple, a dict -/
namespace Own
open PySem PySem.Spec PyProof.Rows L2 Sup
end Own
/-! x in a tuple of texts, x any value -/
namespace Own
open PySem PySem.Spec PyProof.Rows L2 Sup
end Own
/-! set(t) of a tuple of texts, and sorted of such a set -/
namespace SetS
open PySem PySem.Spec PyProof.Rows L2
abbrev KS (P : Program) (w : World) := PySem.strKind P w
/-- the text that an entry holds -/
def txt (e : Int × Value) : Str := match e.2 with | .str x _ => x | _ => Str.empty
def Ent (w : World) (e : Int × Value) : Prop := ∃ x tk, e.2 = Value.str x tk ∧ e.1 = hashStr w x
/-- one more text -/
def addT (ks : List Str) (x : Str) : List Str := if x ∈ ks then ks else ks ++ [x]
/-- at a stands a set of just these texts, and it can be walked -/
def At (w : World) (h : Heap) (a : Addr) (ks : List Str) : Prop :=
  ∃ o es ep t, h.get? a = some o ∧ o.ExactSet ∧ o.data = .set es ep t ∧ ((∀ e ∈ es.toList, Ent w e) ∧ (es.toList.map txt).Perm ks) ∧ es.size < scanBound ∧ t.fits es.size = true ∧ Ris t.place.toList ∧ (w.params.followText "set-order" = true ∨ t.led = true)
section
variable {P : Program} {w : World} {h h' : Heap} {a : Addr} {ks : List Str}
theorem At.at (R : At w h a ks) (k : ∀ o, h.get? a = some o → h'.get? a = some o) : At w h' a ks := by
  obtain ⟨o, es, ep, t, ho, r⟩ := R
  exact ⟨o, es, ep, t, k o ho, r⟩
theorem ent_is {e : Int × Value} (g : Ent w e) (k : Str) : (KS P w).is k e.2 = true ↔ txt e = k := by
  obtain ⟨x, tk, h1, _⟩ := g
  unfold txt
  rw [h1]
  show ((x == k) = true) ↔ x = k
  exact beq_iff_eq
theorem ent_elems {l : List (Int × Value)} (g : ∀ e ∈ l, Ent w e) : ElemsOf (KS P w) l := fun e he => by
  obtain ⟨x, tk, h1, h2⟩ := g e he
  exact ⟨⟨x, (ent_is (g e he) x).mpr (by unfold txt; rw [h1]), h2⟩, by rw [h1] <;> rfl⟩
end
section
variable {P : Program} {w : World} {A : Around} {E : Value → Shared → Prop} {s : Shared} {a : Addr} {ks : List Str}
/-- the end of add: what is stored -/
theorem add_tail {g : Bool → Sem Unit} (hg : ∀ (b : Bool) (s₁ : Shared) (Q' : Unit → Shared → Prop), Q' () s₁ → wpAny (model P w) A (g b) Q' E s₁)
    {o : Obj} {es : Array (Int × Value)} {ep : Nat} {t : SetTable} (ho : s.heap.get? a = some o) (hex : o.ExactSet) (hd : o.data = .set es ep t)
    {es1 : Array (Int × Value)} {t2 : SetTable} (g1 : (∀ e ∈ es1.toList, Ent w e) ∧ (es1.toList.map txt).Perm ks) (hb1 : es1.size < scanBound) (hf2 : t2.fits es1.size = true) (hr : Ris t2.place.toList) (hl : w.params.followText "set-order" = true ∨ t2.led = true) {wasDummy : Bool} {R : Option Bool → Shared → Prop}
    (hR : ∀ h', Heap.SameBut a s.heap h' → At w h' a ks → R (some true) { s with heap := h' }) :
    wpAny (model P w) A (do
        storeSet a es1 t2
        if (!wasDummy && t2.tooFull) = true then do
            g (relayAll t2 es1 (SetTable.grown es1.size)).2.2
            storeSet a (relayAll t2 es1 (SetTable.grown es1.size)).1 (relayAll t2 es1 (SetTable.grown es1.size)).2.1
            pure (some true)
          else pure (some true)) R E s := by
  have b1 := Heap.SameBut.update s.heap a (Obj.putSet es1 t2)
  have o1 := store_at (es' := es1) (t' := t2) ho hd
  refine wpAny_bind (wpAny_storeSet_of ho hd ?_ (fits_of_scanBound hb1))
  split
  · have r1 := relayAll_perm t2 es1 (SetTable.grown es1.size)
    have r2 := relayAll_fits t2 es1 (SetTable.grown es1.size)
    have r3 := relayAll_ris t2 es1 (SetTable.grown es1.size)
    have r4 := relayAll_led t2 es1 (SetTable.grown es1.size)
    generalize relayAll t2 es1 (SetTable.grown es1.size) = Z at r1 r2 r3 r4 ⊢
    obtain ⟨es2, t3, gave⟩ := Z
    dsimp only at r1 r2 r3 r4 ⊢
    have hb2 : es2.size < scanBound := by rw [← Array.length_toList, r1.length_eq, Array.length_toList]; exact hb1
    refine wpAny_bind (hg _ _ _ (wpAny_bind (wpAny_storeSet_of o1 rfl (wpAny_pure (hR _ (b1.trans (Heap.SameBut.update _ a _)) ?_)) (fits_of_scanBound hb2))))
    exact ⟨_, es2, _, t3, store_at (es' := es2) (t' := t3) o1 rfl, hex, rfl, ⟨fun e he => g1.1 e (r1.mem_iff.mp he), (r1.map txt).trans g1.2⟩, hb2, r2, r3, hl.imp id fun z => by rw [r4]; exact z⟩
  · exact wpAny_pure (hR _ b1 ⟨_, es1, _, t2, o1, hex, rfl, g1, hb1, hf2, hr, hl⟩)
theorem add_text {x : Str} {tk : Tok} {Q : Bool → Shared → Prop} (R : At w s.heap a ks) (room : ks.length + 1 < scanBound) (hQ : ∀ b h', Heap.SameBut a s.heap h' → At w h' a (addT ks x) → Q b { s with heap := h' }) :
    wpAny (model P w) A (setAddHashed a (.str x tk) ((KS P w).hash x)) Q E s := by
  obtain ⟨o, es, ep, t, ho, hex, hd, ⟨g, pk⟩, hb, hf, hr, hl⟩ := R
  have hsc : (Value.str x tk).scannable = true := rfl
  have hkey : (KS P w).is x (.str x tk) = true := beq_self_eq_true x
  have hel : ElemsOf (KS P w) es.toList := ent_elems g
  have hmem : x ∈ ks ↔ ∃ e ∈ es.toList, txt e = x := by rw [← pk.mem_iff, List.mem_map]
  have hn : es.size = ks.length := by rw [← pk.length_eq, List.length_map, Array.length_toList]
  unfold setAddHashed setAddHashedIn
  refine wpAny_holding (wpAny_bind (wpAny_setState_of ho hd hf ?_))
  dsimp only
  rw [byScan_of hsc hb hel]
  simp only [↓reduceIte]
  unfold setAddByScan
  refine wpAny_bind (wpAny_bind (wpAny_rule (wpAny_bind (wpAny_setScan_of hkey ho hd hf hel ?_))))
  cases hfi : List.findIdx? (fun e => (KS P w).is x e.2) es.toList with
  | some j =>
    dsimp only
    obtain ⟨hj, pj, _⟩ := List.findIdx?_eq_some_iff_getElem.mp hfi
    have hin : x ∈ ks := hmem.mpr ⟨es.toList[j], List.getElem_mem hj, (ent_is (g _ (List.getElem_mem hj)) x).mp pj⟩
    refine wpAny_pure (wpAny_pure (hQ _ s.heap (Heap.SameBut.refl a s.heap) ?_))
    unfold addT
    rw [if_pos hin]
    exact ⟨o, es, ep, t, ho, hex, hd, ⟨g, pk⟩, hb, hf, hr, hl⟩
  | none =>
    dsimp only
    have hout : x ∉ ks := fun m => by
      obtain ⟨e, he, q⟩ := hmem.mp m
      have c := List.findIdx?_eq_none_iff.mp hfi e he
      rw [(ent_is (g e he) x).mpr q] at c
      cases c
    have r1 := layNew_perm t es ((KS P w).hash x) (.str x tk)
    have r2 := layNew_fits t es ((KS P w).hash x) (.str x tk)
    have r3 := layNew_ris t es ((KS P w).hash x) (.str x tk) hr
    have r4 := layNew_led t es ((KS P w).hash x) (.str x tk)
    generalize layNew t es ((KS P w).hash x) (.str x tk) = Z at r1 r2 r3 r4 ⊢
    obtain ⟨es1, t1, wasDummy, gave⟩ := Z
    dsimp only at r1 r2 r3 r4 ⊢
    rw [Array.toList_push] at r1
    have g1 : (∀ e ∈ es1.toList, Ent w e) ∧ (es1.toList.map txt).Perm (addT ks x) := by
      refine ⟨fun e he => ?_, ?_⟩
      · rcases List.mem_append.mp (r1.mem_iff.mp he) with z | z
        · exact g e z
        · rw [List.mem_singleton.mp z]
          exact ⟨x, tk, rfl, rfl⟩
      · unfold addT
        rw [if_neg hout]
        refine (r1.map txt).trans ?_
        rw [List.map_append]
        exact pk.append_right _
    have hb1 : es1.size < scanBound := by
      rw [← Array.length_toList, r1.length_eq, List.length_append, Array.length_toList, hn]
      exact room
    have hled : w.params.followText "set-order" = true ∨ t1.led = true := hl.imp id fun z => by rw [r4]; exact z
    refine wpAny_bind ?_
    refine (show ∀ (b : Bool) {s₁ : Shared} {Q' : Unit → Shared → Prop}, Q' () s₁ → wpAny (model P w) A (match b with | true => rule "set.scan.the-table-gave-way" | false => pure ()) Q' E s₁ from
      fun b s₁ Q' q => by cases b <;> first | exact wpAny_pure q | exact wpAny_rule q) _ ?_
    split
    · refine wpAny_bind ?_
      rw [hashByValue_scannable 8 hsc]
      refine wpAny_pure ?_
      refine add_tail ?_ ho hex hd g1 hb1 ?_ ?_ ?_ ?_
      · intro b s₁ Q' q
        cases b <;> first | exact wpAny_pure q | exact wpAny_rule q
      · first | (split <;> first | exact r2 | exact SetTable.fits_plain_off r2) | exact r2
      · first | (split <;> exact r3) | exact r3
      · first | (split <;> exact hled) | exact hled
      · intro h' sb r
        dsimp only
        exact wpAny_pure (hQ _ h' sb r)
    · refine wpAny_bind (wpAny_pure ?_)
      simp only [↓reduceIte]
      refine add_tail ?_ ho hex hd g1 hb1 r2 r3 hled ?_
      · intro b s₁ Q' q
        cases b <;> first | exact wpAny_pure q | exact wpAny_rule q
      · intro h' sb r
        dsimp only
        exact wpAny_pure (hQ _ h' sb r)
end
/-- all of them -/
def setL (xs : List Str) : List Str := xs.foldl addT []
theorem addT_len (ks : List Str) (x : Str) : (addT ks x).length ≤ ks.length + 1 := by
  unfold addT
  split
  · omega
  · rw [List.length_append]
    exact Nat.le_refl _
theorem fold_len : ∀ (xs : List Str) (ks : List Str), (xs.foldl addT ks).length ≤ ks.length + xs.length
  | [], ks => Nat.le_refl _
  | x :: xs, ks => by
    have := fold_len xs (addT ks x)
    have := addT_len ks x
    show (xs.foldl addT (addT ks x)).length ≤ ks.length + (xs.length + 1)
    omega
theorem setL_len (xs : List Str) : (setL xs).length ≤ xs.length := Nat.le_trans (fold_len xs []) (by simp)
theorem at_new {w : World} {h : Heap} {a : Addr} (ho : h.get? a = some { cls := .type "set", dict := none, data := .set #[] 0 (.fresh 0 0 (!w.params.followText "set-order")) }) : At w h a [] :=
  ⟨_, #[], 0, _, ho, ⟨rfl, rfl, rfl⟩, rfl, ⟨(fun e he => by simp at he), .refl _⟩, (by decide), (by rfl), List.Pairwise.nil, by
    show _ ∨ (!w.params.followText "set-order") = true
    cases w.params.followText "set-order"
    · exact .inr rfl
    · exact .inl rfl⟩
section
variable {P : Program} {w : World} {A : Around} {E : Value → Shared → Prop} {s : Shared}
theorem fill_texts {I : Addr} {fp wr : List Addr} {G : Array GenState → Array GenState → Prop} {n : Nat} {Pv : Nat → Value → Prop} {St : Nat → Shared → Prop} {R : Result → Shared → Prop}
    (W : WalksS P w A.in1 I fp wr G n Pv St) (S : Addr) (hSf : S ∉ fp) (xs : List Str) (hn : n = xs.length) (hb : xs.length + 1 < scanBound) (hval : ∀ i v, Pv i v → ∃ x t, xs[i]? = some x ∧ v = .str x t) :
    ∀ (k i : Nat) (s : Shared), n - i = k → i ≤ n → St i s → At w s.heap S (setL (xs.take i)) →
      (∀ s', Moved (S :: wr) G s s' → At w s'.heap S (setL xs) → R (.ok (.ret .none)) s') →
      codeAny (model P w) A (.builtin "set.update.loop" ⟨[.ref S, .ref I], []⟩) R s := by
  have out : S ∉ wr := fun h => hSf (W.sub _ h)
  have up : ∀ b ∈ wr, b ∈ S :: wr := fun b hb => List.mem_cons_of_mem _ hb
  intro k
  induction k with
  | zero =>
    intro i s hk' hi hst hS hR
    obtain rfl : i = n := by omega
    rw [List.take_of_length_le (by omega)] at hS
    refine codeAny_builtin F.entry_set_update_loop ?_
    rw [Around.under_plainId F.plain_set_update_loop _]
    refine wpAny_bind (W.done s _ _ hst fun s' hm => ?_)
    exact wpAny_pure (hR s' (hm.mono up) (hS.at fun o e => hm.heap S o out e))
  | succ k ih =>
    intro i s hk' hi hst hS hR
    have lt : i < n := by omega
    refine codeAny_builtin F.entry_set_update_loop ?_
    rw [Around.under_plainId F.plain_set_update_loop _]
    refine wpAny_bind (W.item i s _ _ lt hst fun v s' hP hst' hm => ?_)
    obtain ⟨x, t, hx, rfl⟩ := hval i v hP
    have hS' : At w s'.heap S (setL (xs.take i)) := hS.at fun o e => hm.heap S o out e
    refine wpAny_bind (wpAny_holding ?_)
    unfold setAdd
    refine wpAny_holding (wpAny_bind ((KS P w).pyHash (k := x) (beq_self_eq_true x) ?_))
    have room : (setL (xs.take i)).length + 1 < scanBound := by
      have := setL_len (xs.take i)
      rw [List.length_take] at this
      omega
    refine add_text (s := { s' with toks := s'.toks + 1 }) hS' room fun b h' hsb hS2 => ?_
    have e : addT (setL (xs.take i)) x = setL (xs.take (i + 1)) := by
      unfold setL
      rw [List.take_add_one, hx, List.foldl_append]
      rfl
    rw [e] at hS2
    refine wpAny_pure ⟨plainId_quiet F.plain_set_update_loop _, ih (i + 1) _ (by omega) lt (W.frame _ s' _ _ hst' (Nat.le_succ _) fun b hb o e => ?_) hS2 fun s'' hm'' hS'' => ?_⟩
    · rw [hsb.2 b (fun h : b = S => hSf (by rw [← h]; exact hb))]
      exact e
    · refine hR s'' (Moved.trans W.gtrans ((hm.mono up).then_heap (Nat.le_succ _) fun b o hb e => ?_) hm'') hS''
      rw [hsb.2 b (fun h : b = S => hb (by rw [h]; exact List.mem_cons_self))]
      exact e
end
/-- such a set, as what stands at an address -/
def SetX (w : World) (a : Addr) (ks : List Str) : HO := .ext fun h => At w h a ks
end SetS
/-! set(xs) of a list of texts, and how many there are -/
namespace SetS
open PySem PySem.Spec PyProof.Rows L2
section
variable {P : Program} {w : World} {A : Around} {E : Value → Shared → Prop} {s : Shared}
set_option maxHeartbeats 3200000 in
/-- set(xs) -/
theorem set_of_list {l : Addr} {items : Array Value} {xs : List Str} {Q : Value → Shared → Prop} (hh : A.handled = none) (hl : s.heap.IsList l items) (hit : PyProof.Rows.StrsAre items.toList xs) (hb : xs.length + 1 < scanBound)
    (h : ∀ (h' : Heap) (tk : Nat), At w h' s.heap.objs.size (setL xs) → (∀ b o, s.heap.get? b = some o → h'.get? b = some o) → Q (.ref s.heap.objs.size) { s with heap := h', toks := tk }) :
    wpAny (model P w) A (call (.type "set") [.ref l]) Q E s := by
  have hisz : items.size = xs.length := by rw [← PyProof.Rows.StrsAre.len_eq hit, Array.length_toList]
  obtain ⟨c, tl, hmro⟩ := F.called_set.mro
  have hmade := F.called_set.made
  have hsub := F.called_set.sub
  refine wpAny_call (codeAny_of_tree ?_)
  show wpAny _ _ (callAny (.type "set") _) _ _ _
  refine wpAny_pure ⟨Code.quiet_builtin _ (by decide +kernel), codeAny_builtin F.entry_type_call ?_⟩
  rw [Around.under_plain (weight_type_call_type "set" [.ref l] []) rfl]
  have h1 := F.called_set.notType
  have h2 := F.called_set.canCreate
  have hct := F.typeCall_set_1 (.ref l)
  repeat (any_goals (first | assumption | wp_step))
  obtain ⟨N, eN⟩ : ∃ N : Heap, N = s.heap.push { cls := .type "set", dict := none, data := .set #[] 0 (.fresh 0 0 (!w.params.followText "set-order")) } := ⟨_, rfl⟩
  refine codeAny_mono (code_set_led1 (.ref l) (E := E) (Q₁ := fun obj s₁ => obj = .ref s.heap.objs.size ∧ s₁ = { s with heap := N }) ⟨rfl, by rw [eN]⟩) fun r s₁ hr => ?_
  cases r with
  | error e => exact hr
  | ok fl =>
    cases fl with
    | ret obj =>
      obtain ⟨rfl, rfl⟩ := hr
      have hS : N.get? s.heap.objs.size = some { cls := .type "set", dict := none, data := .set #[] 0 (.fresh 0 0 (!w.params.followText "set-order")) } := by rw [eN]; exact Heap.get?_push_size _ rfl
      have hsz : N.objs.size = s.heap.objs.size + 1 := by rw [eN]; exact Heap.size_push ..
      have hold : ∀ b o, s.heap.get? b = some o → N.get? b = some o := fun b o e => by rw [eN]; exact Heap.get?_push_of_some _ e
      have hT : Shared.TypeIs { s with heap := N } (.ref s.heap.objs.size) "set" := ⟨_, hS, rfl⟩
      have hli := F.called_set.init.lookup
      have hbi := F.called_set.init.bind (.ref s.heap.objs.size)
      repeat (any_goals (first | assumption | wp_step))
      refine codeAny_mono (codeAny_call_builtin (R := wants (fun r s₂ => r = .none ∧ ∃ h' tk, s₂ = { s with heap := h', toks := tk } ∧ At w h' s.heap.objs.size (setL xs) ∧ (∀ b o, s.heap.get? b = some o → h'.get? b = some o)) E) F.called_set.init.plain F.entry_set_init (check_set_init_1 hT ?_)) fun r₂ s₂ hr₂ => ?_
      · obtain ⟨ol, hol, hcl, nl, hdl⟩ := id hl
        obtain ⟨ocls, odict, odata, oslots⟩ := ol
        simp only at hcl hdl
        subst hcl; subst hdl
        have hol' := hold l _ hol
        have hsls := F.sub_list_set
        have hslf := F.sub_list_frozenset
        have hne : (Value.type "list" == Value.type "dict") = false := by decide
        have hl1 : N.IsList l items := ⟨_, hol', rfl, nl, rfl⟩
        unfold Builtin.«set.__init__» noKeywords Builtin.Frozenset.updateFrom
        generalize hPI : pyIter = PI
        wp_walk
        subst hPI
        refine wpAny_pyIter_list hl1 ?_
        refine wpAny_bind (wpAny_runValue ?_)
        have hlS : l < s.heap.objs.size := Heap.lt_size hol
        have hneI : l ≠ N.objs.size := by rw [hsz]; exact Nat.ne_of_lt (Nat.lt_succ_of_lt hlS)
        have hSf : s.heap.objs.size ∉ [N.objs.size, l] := by
          simp only [List.mem_cons, List.mem_singleton, List.not_mem_nil, or_false, not_or]
          exact ⟨by rw [hsz]; exact Nat.ne_of_lt (Nat.lt_succ_self _), Nat.ne_of_gt hlS⟩
        have hval : ∀ (i : Nat) (v : Value), items[i]? = some v → ∃ x t, xs[i]? = some x ∧ v = .str x t := fun i v hv => by
          have hi : i < xs.length := by rw [← hisz]; exact (Array.getElem?_eq_some_iff.mp hv).1
          obtain ⟨t, e⟩ := SS.strs_at hit i v (by rw [Array.getElem?_toList]; exact hv)
          refine ⟨xs[i], t, List.getElem?_eq_getElem hi, ?_⟩
          rw [e, List.getD_eq_getElem?_getD, List.getElem?_eq_getElem hi] <;> rfl
        refine fill_texts ((Walks.list (by simp [hh]) _ l hneI items).toS) s.heap.objs.size hSf xs hisz hb hval (items.size - 0) 0 _ (by omega) (Nat.zero_le _)
          ⟨⟨_, Heap.get?_push_size _ rfl, rfl, rfl⟩, (hl1.push _)⟩ ?hS0 ?hR
        case hS0 => exact at_new (Heap.get?_push_of_some _ hS)
        case hR =>
          intro s' hm hS'
          obtain ⟨h', g2, d', tk', os'⟩ := s'
          have eg : g2 = s.gens := hm.gens
          have ed : d' = s.drawn := hm.drawn
          have eo : os' = s.os := hm.os
          subst eg; subst ed; subst eo
          refine wpAny_pure ?_
          show wpAny _ _ (ret Value.none) _ _ _
          refine wpAny_pure ⟨rfl, h', tk', rfl, hS', fun b o e => ?_⟩
          have hb0 : b < s.heap.objs.size := Heap.lt_size e
          refine hm.heap b o ?_ (Heap.get?_push_of_some _ (hold b o e))
          simp only [List.mem_cons, List.mem_singleton, List.not_mem_nil, or_false, not_or]
          exact ⟨Nat.ne_of_lt hb0, by rw [hsz]; exact Nat.ne_of_lt (Nat.lt_succ_of_lt hb0)⟩
      · cases r₂ with
        | error e => exact hr₂
        | ok fl₂ =>
          cases fl₂ with
          | ret r =>
            obtain ⟨rfl, h', tk, rfl, hS', hk'⟩ := hr₂
            repeat (any_goals (first | assumption | wp_step))
            exact h _ _ hS' hk'
          | _ => exact hr₂.elim
    | _ => exact hr.elim
end
section
variable {X : Cx}
def rSetL (K : PySem.W.Frag) (w : World) : List V → Hp → VK → Prop := fun xs H Q => ∃ (t : Addr) (zs : List Str), xs = [.ref t] ∧ SqL K H t (zs.map V.str) ∧ zs.length < 1000 ∧ ∀ p, H p = none → Q (.ref p) (upd H p (SetX w p (setL zs)))
theorem call_setL (hc : X.calm = true) : CallR X (.type "set") (rSetL X.K X.w) := by
  intro pins s σ H xs us Q I r h
  obtain ⟨t, zs, rfl, ht, hl, q⟩ := h
  obtain ⟨its, rv, pl, hz⟩ := I.list ht
  rw [Vals.ref1 r]
  refine set_of_list (I.ok.hd hc) pl.isList rv.strs (by unfold scanBound; omega) fun h' tk hA hk => ?_
  exact ⟨.ref _, upd H s.heap.objs.size (SetX X.w s.heap.objs.size (setL zs)), I.laid (t' := tk) hk (Nat.le_refl _) ⟨hA, hA.elim fun o h => h.elim fun _ h => h.elim fun _ h => h.elim fun _ h => ⟨o, h.1⟩, fun h1 h2 p k => At.at p k⟩, rfl, q _ (I.hok.fresh (Nat.le_refl _))⟩
theorem setL_same {zs : List Str} (h : zs.Nodup) : setL zs = zs := by
  have go : ∀ (xs ks : List Str), (ks ++ xs).Nodup → xs.foldl addT ks = ks ++ xs := by
    intro xs
    induction xs with
    | nil => intro ks _; rw [List.append_nil]; rfl
    | cons x xs ih =>
      intro ks h
      have hx : x ∉ ks := fun m => (List.nodup_append.mp h).2.2 x m x List.mem_cons_self rfl
      show xs.foldl addT (addT ks x) = _
      rw [show addT ks x = ks ++ [x] from if_neg hx, ih _ (by rw [List.append_assoc]; exact h), List.append_assoc]
      rfl
  exact (go zs [] h).trans rfl
/-- len(set) -/
def rLenX (w : World) : List V → Hp → VK → Prop := fun xs H Q => ∃ (a : Addr) (ks : List Str), xs = [.ref a] ∧ H a = some (SetX w a ks) ∧ Q (.int (ks.length : Nat)) H
theorem At.setOf {P : Program} {w : World} {h : Heap} {a : Addr} {ks : List Str} (R : At w h a ks) : h.SetOf (KS P w) a (fun k => decide (k ∈ ks)) ks.length := by
  obtain ⟨o, es, ep, t, ho, hx, hd, ⟨g, pk⟩, hb, hf, _⟩ := R
  refine ⟨o, es, ep, t, ho, hx, hd, ent_elems g, fun k => ?_, hb, hf, by rw [← pk.length_eq, List.length_map, Array.length_toList]⟩
  rw [decide_eq_true_eq, ← pk.mem_iff, List.mem_map]
  exact ⟨fun ⟨e, he, q⟩ => ⟨e, he, (ent_is (g e he) k).mpr q⟩, fun ⟨e, he, q⟩ => ⟨e, he, (ent_is (g e he) k).mp q⟩⟩
theorem call_lenX : CallR X (.builtin "len") (rLenX X.w) := by
  intro pins s σ H xs us Q I r h
  obtain ⟨p, ks, rfl, hp, q⟩ := h
  obtain ⟨u, rfl, rx⟩ := vals1 r
  cases rx
  obtain ⟨o, es, ep, t, ho, hex, hd, _, _, hb, hf, hn⟩ := At.setOf (P := X.prog) (I.hok p _ hp).1
  exact call_len_set ho hex hd hf (Int.lt_trans (Int.ofNat_lt.mpr hb) (by decide)) ⟨.int ks.length, H, I.tok _, ⟨_, by rw [hn]⟩, q⟩
end
end SetS
/-! try: .. / except x as e: c = e, and what c holds behind it -/
namespace KepE
open PySem PySem.Spec PyProof.Rows L2
/-- a caught exception at a: its class, its dict -/
def Kept (a : Addr) (cls : Value) (d : Option Addr) : HO := .ext fun h => ∃ (oe : Obj) (vs : Array Value), h.get? a = some oe ∧ Zc cls d oe ∧ oe.data = .fields vs
section
variable {X : Cx} {pins : List (Addr × Obj)} {s : Shared} {σ : L2.St} {H : Hp} {a : Addr}
/-- an object that was made since the entry is followed from now on -/
theorem track {o : HO} (I : Inv X pins σ H s) (h0 : X.s_0.heap.get? a = none) (hn : H a = none) (nL : a ≠ X.env.locals) (nC : ∀ x c, X.env.cells.lookup x = some c → c ≠ a) (nP : ∀ p ∈ X.pn ++ pins, p.1 ≠ a) (new : ObjOk X.prog X.w (upd H a o) s.heap a o) : Inv X pins σ (upd H a o) s := by
  have ne : ∀ {b : Addr} {u : HO}, H b = some u → b ≠ a := fun e => ne_of_none e hn
  refine ⟨I.ok, I.os, I.bare, ⟨I.base.keep, I.base.slot, fun b u q n hx => ?_, I.base.there, fun b xs q => ?_, fun b u v q => ?_, fun b ps q => ?_⟩, I.loc, I.cell, ?_, fun x c e => ?_, fun p hp => ?_, I.hok.laidN (fun _ _ e => e) hn new, I.len⟩
  · rw [upd_ne (fun z => by rw [z, h0] at q; cases q)]
    exact I.base.free b u q n hx
  · have e := I.base.tups b xs q
    rw [upd_ne (ne e)]
    exact e
  · have e := I.base.frzs b u v q
    rw [upd_ne (ne e)]
    exact e
  · obtain ⟨more, e⟩ := I.base.tbls b ps q
    exact ⟨more, by rw [upd_ne (ne e)]; exact e⟩
  · rw [upd_ne (Ne.symm nL)]
    exact I.free
  · rw [upd_ne (nC x c e)]
    exact I.freeC x c e
  · obtain ⟨p1, p2, p3⟩ := I.pin p hp
    exact ⟨p1, by rw [upd_ne (nP p hp)]; exact p2, p3⟩
end
/-- what the clause 'except x as e: c = e' wishes of the body's exception: e in the slot i, c in the slot j -/
def wKeep (K : PySem.W.Frag) (c : Value) (i j : Nat) (D : Ends) : WX := fun cls d σ H => PySem.W.exmOne K cls c = some true ∧ ∀ a, H a = none → D.nx (((σ.set i (some (.ref a))).set j (some (.ref a))).set i none) (upd H a (Kept a cls d))
section
variable {X : Cx} {x n m : Str} {c : Value} {i j : Nat} {body : List Stmt} {np p1 p2 p3 pos pos' : Pos} {tb : WX → TS}
/-- the suite: c = e, then the name e goes; the exception is followed -/
theorem suite_keep {pins : List (Addr × Obj)} {s5 : Shared} {σ : L2.St} {H : Hp} {a : Addr} {oe : Obj} {vs : Array Value} {cls : Value} {d : Option Addr} {D : Ends} {E : Value → Shared → Prop} (ok : X.Ok) (hN : X.N.Nodup) (hi : X.N[i]? = some n) (hln : X.env.kindOf n = some .local) (hj : X.N[j]? = some m) (hlm : X.env.scope.names.lookup m = some .local)
    (hdn : (n == ("__debug__" : Str)) = false) (hcn : (n == ("__classdict__" : Str)) = false) (h0 : X.s_0.heap.get? a = none) (hP : ∀ p ∈ X.pn ++ pins, p.1 ≠ a) (hz : Zc cls d oe) (hd : oe.data = .fields vs) (hs : swapsWith (.Name n p2) (some (.Name m p1)) p3.line X.env = pure false) (hlt : i < σ.length)
    (S : Inv (X.suite a ((a, oe) :: (X.pn ++ pins))) [] (σ.set i (some (.ref a))) H s5) (q : D.nx (((σ.set i (some (.ref a))).set j (some (.ref a))).set i none) (upd H a (Kept a cls d))) :
    wpAny (model X.prog X.w) (X.A.mark (some (.ref a))) (execs [.Assign [.Name m p1] (.Name n p2) p3] X.env) (fun f s6 => wpAny (model X.prog X.w) X.A (do bindName X.env n .none; unbindBehindTheSuite X.env n pos') (fun _ s7 => SP X pins D f s7) X.xe s6) E s5 := by
  have st : PSs (X.suite a ((a, oe) :: (X.pn ++ pins))) [.Assign [.Name m p1] (.Name n p2) p3] (tAsg (tVar i) (gName j)) := pss_one (ps_set (X := X.suite a ((a, oe) :: (X.pn ++ pins))) hN hj (.inl hlm) (pe_var hi (.inl hln) hdn hcn) hs (.inr hlm))
  refine wpAny_mono (st.run [] s5 _ H { nx := fun σ' H' => σ' = (σ.set i (some (.ref a))).set j (some (.ref a)) ∧ H' = H, rt := fun _ _ => False, bk := fun _ _ => False, ct := fun _ _ => False } S ⟨.ref a, by rw [List.getElem?_set_self hlt], rfl, rfl⟩) (fun f s6 r => ?_) (fun _ _ z => False.elim z)
  match f, r with
  | .next, r =>
    obtain ⟨σ6, H6, S6, rfl, rfl⟩ := r
    obtain ⟨e6, na, nL, _, _⟩ := S6.pin (a, oe) (List.mem_append_left _ List.mem_cons_self)
    have nC : ∀ y c, X.env.cells.lookup y = some c → c ≠ a := fun y c e z => by
      obtain ⟨v, o, ho, hv⟩ := S6.cell y c e
      rw [z, e6] at ho
      obtain rfl := Option.some.inj ho
      rw [hd] at hv
      cases hv
    exact gone_ok (track (o := Kept a cls d) (S6.unsuite ok) h0 na nL nC hP ⟨⟨oe, vs, e6, hz, hd⟩, ⟨oe, e6⟩, fun _ _ ⟨o, v, q, r⟩ k => ⟨o, v, k o q, r⟩⟩) hN hi hln fun s7 J7 => ⟨_, _, J7, q⟩
  | .ret u, r =>
    obtain ⟨_, _, _, _, _, z⟩ := r
    exact z.elim
  | .brk, r =>
    obtain ⟨_, _, _, z⟩ := r
    exact z.elim
  | .cont, r =>
    obtain ⟨_, _, _, z⟩ := r
    exact z.elim
/-- try: body / except x as n: m = n -/
theorem ps_try_keep (hs : X.stack = X.env :: X.outer) (hf : X.env.frame = some X.env.locals) (hex : X.ex = []) (hN : X.N.Nodup) (hi : X.N[i]? = some n) (hln : X.env.kindOf n = some .local) (hj : X.N[j]? = some m) (hlm : X.env.scope.names.lookup m = some .local) (hc : Names X x c)
    (hb : ∀ (W : WX) (pn : List (Addr × Obj)) (xe : Value → Shared → Prop), Takes (X.tr pn xe) W → PassesOwn (model X.prog X.w) X.A X.env xe → PSs (X.tr pn xe) body (tb W))
    (hdn : (n == ("__debug__" : Str)) = false := by decide) (hcn : (n == ("__classdict__" : Str)) = false := by decide) (hsw : swapsWith (.Name n p2) (some (.Name m p1)) p3.line X.env = pure false := by rfl) :
    PS X (.Try body [.ExceptHandler (some (.Name x np)) (some n) [.Assign [.Name m p1] (.Name n p2) p3] pos'] [] [] pos) (fun D σ H => tb (wKeep X.K c i j D) D σ H) := by
  refine ⟨fun pins s σ H D I h => wpAny_Try_except ?_⟩
  have ok := I.ok
  have hfr : X.A.frames = some (X.env :: X.outer) := by rw [ok.frames, hs]
  refine wpAny_mono ((hb (wKeep X.K c i j D) (X.pn ++ pins) (fun e s₁ => wpAny (model X.prog X.w) X.A (noteFrame e X.env) (fun _ s₂ => wpAny (model X.prog X.w) X.A (setFlight e none) (fun _ s₃ =>
    wpAny (model X.prog X.w) X.A (handleBy e X.env [.ExceptHandler (some (.Name x np)) (some n) [.Assign [.Name m p1] (.Name n p2) p3] pos']) (SP X pins D) X.xe s₃) X.xe s₂) X.xe s₁) (fun u s' xx => ?_) PassesOwn.looking).run [] s σ H D (I.toTry _) h) (fun f s1 hsp => ?_) fun _ _ z => z
  · obtain ⟨a, B, sI, _, σ', H', cls, d, rfl, J', nb, up, sky, na, os, ag, hm, hq⟩ := xx
    have J : Inv X pins σ' H' sI := J'.ofTry ok
    rw [show (X.tr (X.pn ++ pins) _).stack = X.env :: X.outer from hs] at sky
    refine Sky.land Zc.steady hfr hf sky fun h3 fl3 up3 => ?_
    have back : ∀ {h : Heap}, HandSPX.FlyingZ B (X.env :: X.outer) a (Zc cls d) h → sI.heap.UpToSlots h → ∃ oe vs, h.get? a = some oe ∧ Zc cls d oe ∧ oe.data = .fields vs ∧ a ∉ frs (X.env :: X.outer) ∧ Inv X pins σ' H' { s' with heap := h } := fun {h} fl u => by
      obtain ⟨oe, vs, he, hz, hd⟩ := fl.there
      refine ⟨oe, vs, he, hz, hd, fun hm => ?_, J.landed nb fl.1 u os ag⟩
      obtain ⟨_, o', e', hnf⟩ := fl.2.2.1.mem hm
      rw [he] at e'
      cases e'
      exact hnf _ hd
    obtain ⟨oe3, vs3, he3, hz3, hd3, nfr, J3⟩ := back fl3 (up.trans up3)
    have nI : sI.heap.get? a = none := by
      cases e : sI.heap.get? a with
      | none => rfl
      | some o =>
        have z := nb a o e (by rw [hs]; exact nfr)
        rw [fl3.2.1] at z
        cases z
    have n0 : X.s_0.heap.get? a = none := by
      cases e : X.s_0.heap.get? a with
      | none => rfl
      | some o =>
        obtain ⟨o', z⟩ := J.base.there a o e (by rw [hex]; exact List.not_mem_nil)
        rw [nI] at z
        cases z
    have nL : a ≠ X.env.locals := fun z => nfr (List.mem_filterMap.mpr ⟨X.env, List.mem_cons_self, by rw [hf, z]⟩)
    have nF : a ∉ X.fs := fun hm => by
      obtain ⟨e, he, q⟩ := List.mem_filterMap.mp hm
      exact nfr (List.mem_filterMap.mpr ⟨e, List.mem_cons_of_mem _ he, q⟩)
    have nP : ∀ p ∈ X.pn ++ pins, p.1 ≠ a := fun p hp z => by
      have e := (J.pin p hp).1
      rw [z, nI] at e
      cases e
    have hlt : i < σ'.length := by
      rw [J.len]
      exact (List.getElem?_eq_some_iff.mp hi).1
    refine wpAny_handleBy_cons (codeAny_handlers_test ?_) (fun q => nomatch q)
    have S3 := J3.suite he3 hd3 na nL nF
    have LT : PySem.W.Looks (model X.prog X.w) h3 (typeOf (.ref a)) cls := fun A Q E s k q => wpAny_typeOf_ref (k _ _ he3) (by rw [hz3.1]; exact q)
    have hit := PySem.W.exm_one (M := model X.prog X.w) J3.kIn LT hm
    have named : ∀ {Q : Value → Shared → Prop} {E : Value → Shared → Prop}, Q c { s' with heap := h3 } → wpAny (model X.prog X.w) (X.A.mark (some (.ref a))) (eval (.Name x np) X.env) Q E { s' with heap := h3 } := fun {Q E} q => by
      obtain ⟨hg, hdbg, hm | ⟨hm, hv, hnn⟩⟩ := hc
      · exact ld_glob (X := X.suite a ((a, oe3) :: (X.pn ++ pins))) S3 hg hm q hdbg
      · exact ld_blt (X := X.suite a ((a, oe3) :: (X.pn ++ pins))) S3 hg hm hv q hnn hdbg
    refine named (hit.here (codeAny_handlers_suite_as (HandSPX.lands_againZ fl3 fun h4 fl4 up4 => ?_)))
    obtain ⟨oe4, vs4, he4, hz4, hd4, _, J4⟩ := back fl4 ((up.trans up3).trans up4)
    refine store_ok (X := X.suite a ((a, oe4) :: (X.pn ++ pins))) (v := .ref a) (J4.suite he4 hd4 na nL nF) hN hi (.inl hln) rfl (fun s5 S5 => ?_) (.inr hln)
    exact suite_keep ok hN hi hln hj hlm hdn hcn n0 nP hz4 hd4 hsw hlt S5 (hq a na)
  · cases f with
    | next =>
      obtain ⟨σ', H', J', q⟩ := hsp
      exact wpAny_execs_nil ⟨σ', H', J'.ofTry ok, q⟩
    | brk =>
      obtain ⟨σ', H', J', q⟩ := hsp
      exact ⟨σ', H', J'.ofTry ok, q⟩
    | cont =>
      obtain ⟨σ', H', J', q⟩ := hsp
      exact ⟨σ', H', J'.ofTry ok, q⟩
    | ret u =>
      obtain ⟨v, σ', H', J', r, q⟩ := hsp
      exact ⟨v, σ', H', J'.ofTry ok, r, q⟩
end
/-! ### what is kept -/
/-- the facts for an own error's fields and classes -/
structure KeT (K : PySem.W.Frag) (C : Addr) : Prop where
  cl : (PySem.W.clsIn K C).isSome = true
  ga : PySem.W.findIn K (.ref C) "__getattribute__" = some (some (.builtin "BaseException.__getattribute__"))
  gg : PySem.W.findIn K (.ref C) "__getattr__" = some none
  exC : PySem.W.subIn K (.ref C) (.type "BaseException") = some true
  hdC : PySem.W.hasDictIn K C = true
  ca : PySem.W.findIn K (.ref C) "__class__" = some (some (.builtin "object.__class__"))
  cn : PySem.W.specialIn K (.builtin "object.__class__") "__get__" = some (some (.builtin "getset_descriptor.__get__"))
  ct : PySem.W.takesIn K (.builtin "object.__class__") = some true
  ob : PySem.W.mroIn K C (.type "object") = some true
/-- an error of the class at C with the fields fs is kept at a -/
def KeAt (H : Hp) (a C : Addr) (fs : List (Str × V)) : Prop := ∃ dd, H a = some (Kept a (.ref C) (some dd)) ∧ H dd = some (.xd fs)
theorem KeAt.inst {X : Cx} {pins : List (Addr × Obj)} {s : Shared} {σ : L2.St} {H : Hp} {a C : Addr} {fs : List (Str × V)} (I : Inv X pins σ H s) (h : KeAt H a C fs) : ∃ (ox od : Obj) (mA : Str → Option Value), PySem.W.InstAt s.heap a ox C (some od) ∧ (∀ f, PySem.W.lookIn f od = some (mA f)) ∧ ∀ f, RelO (fs.lookup f) (mA f) := by
  obtain ⟨dd, e1, e2⟩ := h
  obtain ⟨⟨oe, vs, ha, hz, hd⟩, _⟩ := I.hok a _ e1
  obtain ⟨mA, hns, hr⟩ := (show ObjOk X.prog X.w H s.heap dd (.xd fs) from I.hok dd _ e2)
  obtain ⟨od, ho, hl⟩ := lookIn_ns hns
  exact ⟨oe, od, mA, ⟨ha, hz.1, by unfold PySem.W.notCls; rw [hd] <;> rfl, by rw [hz.2]; exact ho⟩, hl, hr⟩
def tFldK (K : PySem.W.Frag) (n : Str) (te : TE) : TE := fun σ H Q => te σ H fun x H1 => ∃ a C fs v, x = .ref a ∧ KeAt H1 a C fs ∧ KeT K C ∧ PySem.W.findIn K (.ref C) n = some none ∧ fs.lookup n = some v ∧ Q v H1
theorem pe_fldK {X : Cx} {e : Expr} {te : TE} {pos : Pos} {n : Str} (he : PE X e te) (hb : attributeBase e n X.env (eval e X.env) = eval e X.env := by rfl) : PE X (.Attribute e n pos) (tFldK X.K n te) := by
  refine ⟨fun pins s σ H Q I h => attr_of hb (thn (he.run pins s σ H _ I h) ?_)⟩
  rintro u s1 ⟨x, H1, I1, rx, a, C, fs, v, rfl, hk, T, hno, l, q⟩
  cases rx
  obtain ⟨ox, od, mA, J, hl, hr⟩ := hk.inst I1
  obtain ⟨u, hu, ru⟩ := RelO.some_of (v := v) (o := mA n) (by rw [← l]; exact hr n)
  exact HandSPX.exc_get I1.kIn J T.ga T.gg T.exC (PySem.W.findObj_own T.hdC hno rfl (by rw [hl, hu])) (handed_of ru) ⟨v, H1, I1.tok _, ru, q⟩
/-- isinstance(e, c), e a kept error -/
def rIsKe (K : PySem.W.Frag) : List V → Hp → VK → Prop := fun xs H Q => ∃ (a C : Addr) (fs : List (Str × V)) (c : V) (u : Value) (b : Bool), xs = [.ref a, c] ∧ ClsV c u ∧ KeAt H a C fs ∧ KeT K C ∧ PySem.W.kitOne K (.ref C) u = some b ∧ Q (.bl b) H
theorem call_isKe {X : Cx} : CallR X (.builtin "isinstance") (rIsKe X.K) := by
  intro pins s σ H xs us Q I r h
  obtain ⟨a, C, fs, c, u, b, rfl, k, hx, T, e, q⟩ := h
  obtain ⟨u1, u2, rfl, r1, r2⟩ := vals2 r
  cases r1
  obtain rfl := k.eq r2
  obtain ⟨ox, od, _, J, _⟩ := hx.inst I
  exact PySem.W.kia_one (PySem.W.kitx_exc T.cl T.ga T.gg T.exC T.ca T.cn T.ct T.ob) I.kIn J e (fun z => nomatch z) fun tk => ⟨.bl b, H, I.kept (t' := tk) fun _ _ z => z, ⟨rfl, q⟩⟩
end KepE
namespace Sj
open PySem PySem.Spec PyProof.Rows L2 Sup
/-! k09: over a list or a tuple; [.. for x in xs for y in x] -/
section
variable {X : Cx} {tg : Expr}
def iSeq (K : PySem.W.Frag) (tl : TE) : TI := fun σ H R => tl σ H fun x H1 => ∃ a, x = .ref a ∧ (((∃ xs, SqL K H1 a xs) ∧ R (Itl K a) H1) ∨ ((∃ xs, SqT K H1 a xs) ∧ R (Itt K a) H1))
theorem pi_seq {l : Expr} {tl : TE} (hl : PE X l tl) : PI X tg l (iSeq X.K tl) := by
  refine ⟨fun pins s σ H R I h => thn (hl.run pins s σ H _ I h) fun v s1 ⟨x, H1, I1, r1, a, e, q⟩ => ?_⟩
  subst e
  cases r1
  have new : ∀ {c : Addr}, c ∈ [s1.heap.objs.size] → FpOk X pins H1 c ∧ True := fun {c} hc => ⟨by rw [List.mem_singleton.mp hc]; exact I1.fpOk (Nat.le_refl _) (I1.hok.fresh (Nat.le_refl _)), trivial⟩
  rcases q with ⟨⟨xs, hq⟩, q⟩ | ⟨⟨xs, hq⟩, q⟩
  · obtain ⟨its, rv, p, hz⟩ := I1.list hq
    exact wpAny_pyIter_list p.isList ⟨s1.heap.objs.size, [s1.heap.objs.size], _, _, H1, rfl, I1.kept (t' := s1.toks) fun b o e => Heap.get?_push_of_some _ e, turn_list a _, ⟨_, Heap.get?_push_size _ rfl, rfl, rfl⟩, fun b hb => (new hb).1, q⟩
  · obtain ⟨its, rv, p, hz⟩ := I1.tuple hq
    exact wpAny_pyIter_tuple (show s1.heap.IsTuple a its.toArray from p) ⟨s1.heap.objs.size, [s1.heap.objs.size], _, _, H1, rfl, I1.kept (t' := s1.toks) fun b o e => Heap.get?_push_of_some _ e, turn_tuple a _, ⟨_, Heap.get?_push_size _ rfl, rfl, rfl⟩, fun b hb => (new hb).1, q⟩
end
/-- the inner loop -/
def InLoop (J1 : It) (g1 : TG) (tt1 : TT) (te : TE) (vs1 : List Nat) (D : Addr) (σ2 : L2.St) (H4 : Hp) (Nx : Hp → Prop) : Prop := ∃ W1 : Nat → Nat → Hp → Prop, (∃ m, W1 0 m H4) ∧ ∀ j k H, W1 j k H →
  (J1.stop j H ∧ Nx H) ∨ (J1.go j H ∧ ∃ Nx1 : Hp → Prop, (∀ H', Nx1 H' → ∃ k', k' < k ∧ W1 (j + 1) k' H') ∧ ∀ x H', J1.yld j H x H' → g1 x (wipe σ2 vs1) H' fun σ3 H5 => wipe σ3 vs1 = wipe σ2 vs1 ∧ tt1 σ3 H5 fun b H6 =>
    if b = true then te σ3 H6 fun y H7 => ∃ acc, H7 D = some (.lst acc) ∧ acc.length < sizeLine ∧ Nx1 (upd H7 D (.lst (acc ++ [y]))) else Nx1 H6)
theorem in_it {J1 : It} {n : Nat} {G : Hp → Prop} {Y : Nat → Hp → V → Hp → Prop} (wk : Walk J1 n G Y) {g1 : TG} {tt1 : TT} {te : TE} {vs1 : List Nat} {D : Addr} {σ2 : L2.St} {H4 : Hp} {Nx : Hp → Prop} (Pv : Nat → Hp → Prop) (h0 : Pv 0 H4) (hG : ∀ i H, i ≤ n → Pv i H → G H)
    (hs : ∀ j x H H', j < n → Pv j H → Y j H x H' → g1 x (wipe σ2 vs1) H' fun σ3 H5 => wipe σ3 vs1 = wipe σ2 vs1 ∧ tt1 σ3 H5 fun b H6 => if b = true then te σ3 H6 fun y H7 => ∃ acc, H7 D = some (.lst acc) ∧ acc.length < sizeLine ∧ Pv (j + 1) (upd H7 D (.lst (acc ++ [y]))) else Pv (j + 1) H6)
    (hd : ∀ H, Pv n H → Nx H) : InLoop J1 g1 tt1 te vs1 D σ2 H4 Nx := by
  refine ⟨fun j k H => k + j = n ∧ Pv j H, ⟨n, rfl, h0⟩, fun j k H ⟨e, q⟩ => ?_⟩
  match k, e with
  | 0, e =>
    obtain rfl : j = n := by omega
    exact .inl ⟨wk.stops H (hG _ _ (Nat.le_refl _) q), hd H q⟩
  | k + 1, e => exact .inr ⟨wk.goes j H (by omega) (hG _ _ (by omega) q), Pv (j + 1), fun H' p' => ⟨k, Nat.lt_succ_self k, by omega, p'⟩, fun x H' y => hs j x H H' (by omega) q (wk.yields j H x H' (by omega) (hG _ _ (by omega) q) y)⟩
theorem lc2_it {J : It} {n : Nat} {G : Hp → Prop} {Y : Nat → Hp → V → Hp → Prop} (wk : Walk J n G Y) {g g1 : TG} {tt tt1 : TT} {wi1 : TI} {te : TE} {vs vs1 : List Nat} {σ : L2.St} {H1 : Hp} {D : Addr} {Qd : Hp → Prop} (Pv : Nat → Hp → Prop) (h0 : Pv 0 (upd H1 D (.lst []))) (hG : ∀ i H, i ≤ n → Pv i H → G H)
    (hs : ∀ i x H H', i < n → Pv i H → Y i H x H' → g x (wipe σ vs) H' fun σ2 H2 => wipe σ2 vs = wipe σ vs ∧ tt σ2 H2 fun b H3 => if b = true then wi1 σ2 H3 fun J1 H4 => InLoop J1 g1 tt1 te vs1 D σ2 H4 (Pv (i + 1)) else Pv (i + 1) H3) (hd : ∀ H, Pv n H → Qd H) :
    ∃ W : Nat → Nat → Hp → Prop, (∃ m, W 0 m (upd H1 D (.lst []))) ∧ ∀ i m H, W i m H →
      (J.stop i H ∧ Qd H) ∨ (J.go i H ∧ ∃ Nx : Hp → Prop, (∀ H', Nx H' → ∃ m', m' < m ∧ W (i + 1) m' H') ∧ ∀ x H', J.yld i H x H' → g x (wipe σ vs) H' fun σ2 H2 => wipe σ2 vs = wipe σ vs ∧ tt σ2 H2 fun b H3 =>
        if b = true then wi1 σ2 H3 fun J1 H4 => InLoop J1 g1 tt1 te vs1 D σ2 H4 Nx else Nx H3) := by
  refine ⟨fun i m H => m + i = n ∧ Pv i H, ⟨n, rfl, h0⟩, fun i m H ⟨e, q⟩ => ?_⟩
  match m, e with
  | 0, e =>
    obtain rfl : i = n := by omega
    exact .inl ⟨wk.stops H (hG _ _ (Nat.le_refl _) q), hd H q⟩
  | m + 1, e => exact .inr ⟨wk.goes i H (by omega) (hG _ _ (by omega) q), Pv (i + 1), fun H' p' => ⟨m, Nat.lt_succ_self m, by omega, p'⟩, fun x H' y => hs i x H H' (by omega) q (wk.yields i H x H' (by omega) (hG _ _ (by omega) q) y)⟩
end Sj
namespace Sj
open PySem L2 Sup StK Own Shw Exg Grd KepE
open NdefX (NF NScope ncx envF startF nscope_by)
open C8 (pss_cut tCut)
/-! what k65 shares with k09's text B9b -/
theorem inV_strs : ∀ (zs : List Str) (z : Str), inV (.str z) (strv zs) = decide (z ∈ zs)
  | [], z => by simp [inV, strv]
  | y :: zs, z => by
    have ih := inV_strs zs z
    show (eqV (V.str y) (V.str z) || inV (.str z) (strv zs)) = _
    rw [ih]
    by_cases e : z = y
    · subst e
      simp [eqV]
    · have e' : y ≠ z := fun q => e q.symm
      simp [eqV, e, e']
def allN (Bl : List (Addr × List Str)) : List Str := Bl.flatMap (·.2)
/-- rows of texts, each a list or a tuple, empty or not -/
def RowAt (H : Hp) (Bl : List (Addr × List Str)) : Prop := ∀ x ∈ Bl, H x.1 = some (.lst (strv x.2)) ∨ H x.1 = some (.tup (strv x.2))
theorem RowAt.same {H H' : Hp} {Bl : List (Addr × List Str)} (h : RowAt H Bl) (s : Same H H') : RowAt H' Bl := fun x hx => (h x hx).imp (s _ _) (s _ _)
def refsB (Bl : List (Addr × List Str)) : List V := Bl.map fun y => V.ref y.1
theorem refsB_len (Bl : List (Addr × List Str)) : (refsB Bl).length = Bl.length := List.length_map _
end Sj
namespace Own
open PySem PySem.Spec PyProof.Rows L2 Sup Grd
section
variable {X : Cx} {CX : CXT} {pins : List (Addr × Obj)} {σ : L2.St} {H : Hp} {s : Shared} {k : Nat} {C f : Addr} {fd : FuncData} {ps : List Str} {sp : Sp} {E : XK}
theorem call_lenN (M : MetN X.prog X.w X.K X.mg X.base CX0 k C "__len__" ps sp) (hr : Room (k + 1) X.A) : CallR X (.builtin "len") (rLenO C sp) := by
  obtain ⟨f, fd, h1, h2, _, F, hb⟩ := M
  intro pins s σ H xs us Q I r h
  obtain ⟨a, dx, fs, rfl, ha, h⟩ := h
  obtain ⟨u, rfl, rx⟩ := vals1 r
  obtain rfl : u = Value.ref a := rx
  obtain ⟨mA, O, _⟩ := ins_get I.hok ha
  obtain ⟨od, J, _⟩ := O.look
  obtain ⟨m, Fr⟩ := I.fr
  refine PySem.W.len_K Fr I.mod.kin J h1 h2 (wpAny_mono (run_atN (vs := [.ref a]) F hr.in1 hb I.env0.in1 (E' := X.xe) (fun e s' z => False.elim z) I (.cons rfl .nil) h) (fun v s1 ⟨z, H1, I1, rv, n, ez, hn, q⟩ => ?_) fun _ _ z => z)
  subst ez
  obtain ⟨t, rfl⟩ := rv
  exact ⟨⟨by omega, by omega⟩, .int n, H1, I1.tok _, ⟨_, rfl⟩, q⟩
end
end Own
namespace Sj
open PySem L2 Sup StK Own Shw Exg Grd KepE
open NdefX (NF NScope ncx envF startF nscope_by)
open C8 (pss_cut tCut)
/-! k66: rows of any values, as data -/
def isSeq : PyData → Option (List PyData)
  | .list ds => some ds
  | .tuple ds => some ds
  | _ => none
def itemsD (d : PyData) : List PyData := (isSeq d).getD []
def inL (legs : List Str) : PyData → Bool
  | .str z => decide (z ∈ legs)
  | _ => false
def nmD : PyData → Str
  | .str z => z
  | _ => ""
def wholeD (rs : List PyData) : List PyData := rs.flatMap itemsD
/-- the first reason why rows are no parts -/
def due66 (legs : List Str) (rs : List PyData) : V :=
  if (decide (1 ≤ rs.length) && decide (rs.length ≤ 8)) = false then .str "parts"
  else if (rs.all fun r => (isSeq r).isSome) = false then .str "parts"
  else if (wholeD rs).all (inL legs) = false then .str "name"
  else if ((wholeD rs).map nmD).Nodup then (if (wholeD rs).length < legs.length then .str "legs" else .non)
  else .str "twice"
/-- of any value: what it is as rows -/
def dueV (legs : List Str) : Option (List PyData) → V
  | some rs => due66 legs rs
  | none => .str "parts"
/-- a row of any values that stands -/
def SqA (K : PySem.W.Frag) (H : Hp) (a : Addr) (xs : List V) : Prop := SqL K H a xs ∨ SqT K H a xs
theorem SqA.same {K : PySem.W.Frag} {H H' : Hp} {a : Addr} {xs : List V} (h : SqA K H a xs) (s : Same H H') : SqA K H' a xs := h.imp (fun q => SqL.ext q s) (fun q => SqT.ext q s)
def isStrD : PyData → Bool
  | .str _ => true
  | _ => false
def isLstD : PyData → Bool
  | .list _ => true
  | _ => false
def isTupD : PyData → Bool
  | .tuple _ => true
  | _ => false
theorem dq_ty {K : PySem.W.Frag} {H : Hp} {x : V} {d : PyData} (h : Dq K H x d) : ∃ t : String, TyX K H x (.type t) ∧ kitB t "str" = some (isStrD d) ∧ kitB t "list" = some (isLstD d) ∧ kitB t "tuple" = some (isTupD d) := by
  have go : ∀ (t : String) (b1 b2 b3 : Bool), kitB t "str" = some b1 → kitB t "list" = some b2 → kitB t "tuple" = some b3 → isStrD d = b1 → isLstD d = b2 → isTupD d = b3 → TyX K H x (.type t) → ∃ t : String, TyX K H x (.type t) ∧ kitB t "str" = some (isStrD d) ∧ kitB t "list" = some (isLstD d) ∧ kitB t "tuple" = some (isTupD d) := fun t b1 b2 b3 k1 k2 k3 e1 e2 e3 ty => ⟨t, ty, by rw [e1]; exact k1, by rw [e2]; exact k2, by rw [e3]; exact k3⟩
  cases h with
  | non => exact go "NoneType" false false false (by decide +kernel) (by decide +kernel) (by decide +kernel) rfl rfl rfl (.base .non)
  | bl b => exact go "bool" false false false (by decide +kernel) (by decide +kernel) (by decide +kernel) rfl rfl rfl (.base (.bl b))
  | int i => exact go "int" false false false (by decide +kernel) (by decide +kernel) (by decide +kernel) rfl rfl rfl (.base (.int i))
  | str x => exact go "str" true false false (by decide +kernel) (by decide +kernel) (by decide +kernel) rfl rfl rfl (.base (.str x))
  | lst n q r =>
    refine go "list" false true false (by decide +kernel) (by decide +kernel) (by decide +kernel) rfl rfl rfl ?_
    rcases q with (q | ⟨o, q⟩) | ⟨o, _, _, q, c, _⟩
    · exact .base (.lst q)
    · exact .base (.frz q)
    · exact .kList q c
  | tup q r =>
    refine go "tuple" false false true (by decide +kernel) (by decide +kernel) (by decide +kernel) rfl rfl rfl ?_
    rcases q with (q | ⟨o, q⟩) | ⟨o, _, _, q, c, _⟩
    · exact .base (.tup q)
    · exact .fTuple q
    · exact .kTuple q c
  | dic q =>
    refine go "dict" false false false (by decide +kernel) (by decide +kernel) (by decide +kernel) rfl rfl rfl ?_
    rcases q with q | ⟨o, q⟩
    · exact .base (.dK q)
    · exact .fDict q
theorem kit_two {K : PySem.W.Frag} {t : String} {b c : Bool} (h1 : kitB t "list" = some b) (h2 : kitB t "tuple" = some c) : PySem.W.kitAny K (.type t) [.type "list", .type "tuple"] = some (b || c) :=
  kitAny_cons (kit_ty h1) (fun e => by rw [e, Bool.false_or]; exact kitAny_cons (kit_ty h2) (fun e => by rw [e]; exact kitAny_nil) (fun e => e)) (fun e => by rw [e, Bool.true_or])
theorem isSeq_two (d : PyData) : (isSeq d).isSome = (isLstD d || isTupD d) := by cases d <;> rfl
/-- what a list or a tuple among data holds -/
theorem dq_seq {K : PySem.W.Frag} {H : Hp} {x : V} {d : PyData} {es : List PyData} (h : Dq K H x d) (e : isSeq d = some es) : ∃ a ys, x = .ref a ∧ SqA K H a ys ∧ DqAll K H ys es := by
  cases h with
  | lst n q r =>
    obtain rfl := Option.some.inj e
    exact ⟨_, _, rfl, .inl q, r⟩
  | tup q r =>
    obtain rfl := Option.some.inj e
    exact ⟨_, _, rfl, .inr q, r⟩
  | _ => cases e
theorem dqa_len {K : PySem.W.Frag} {H : Hp} : ∀ {xs : List V} {ds : List PyData}, DqAll K H xs ds → xs.length = ds.length
  | _, _, .nil => rfl
  | _, _, .cons _ t => congrArg (· + 1) (dqa_len t)
theorem dqa_at {K : PySem.W.Frag} {H : Hp} : ∀ {xs : List V} {ds : List PyData} {i : Nat} {x : V}, DqAll K H xs ds → xs[i]? = some x → ∃ d, ds[i]? = some d ∧ Dq K H x d
  | _, _, 0, _, .cons h t, e => by
    obtain rfl := Option.some.inj e
    exact ⟨_, rfl, h⟩
  | _, _, i + 1, _, .cons h t, e => dqa_at (i := i) t e
/-- rows laid flat -/
theorem rows_flat {K : PySem.W.Frag} {H : Hp} : ∀ {xs : List V} {rs : List PyData}, DqAll K H xs rs → (rs.all fun r => (isSeq r).isSome) = true → ∃ Bl : List (Addr × List V), xs = Bl.map (fun y => V.ref y.1) ∧ (∀ y ∈ Bl, SqA K H y.1 y.2) ∧ DqAll K H (Bl.flatMap (·.2)) (wholeD rs) ∧ ∀ y ∈ Bl, y.2.length ≤ (wholeD rs).length
  | _, _, .nil, _ => ⟨[], rfl, (fun _ h => (by cases h)), .nil, (fun _ h => (by cases h))⟩
  | x :: xs, r :: rs, .cons h t, e => by
    rw [List.all_cons, Bool.and_eq_true] at e
    obtain ⟨es, he⟩ := Option.isSome_iff_exists.mp e.1
    obtain ⟨a, ys, rfl, hq, hy⟩ := dq_seq h he
    obtain ⟨Bl, e1, e2, e3, e4⟩ := rows_flat t e.2
    have ew : wholeD (r :: rs) = es ++ wholeD rs := by
      show itemsD r ++ wholeD rs = _
      unfold itemsD
      rw [he]
      rfl
    have hyl := dqa_len hy
    refine ⟨(a, ys) :: Bl, by rw [e1]; rfl, fun y hy' => ?_, ?_, fun y hy' => ?_⟩
    · rcases List.mem_cons.mp hy' with rfl | hy'
      · exact hq
      · exact e2 y hy'
    · rw [ew]
      exact DqAll.append hy e3
    · rw [ew, List.length_append]
      rcases List.mem_cons.mp hy' with rfl | hy'
      · show ys.length ≤ _
        omega
      · have := e4 y hy'
        omega
/-- a name among the legs, or none -/
theorem inL_rd {K : PySem.W.Frag} {H : Hp} {x : V} {d : PyData} {fd : FrD} (h : Dq K H x d) : (inL (names fd.ys) d = true ∧ ∃ z, x = .str z ∧ z ∈ names fd.ys) ∨ (inL (names fd.ys) d = false ∧ NotLeg K H x fd) := by
  obtain ⟨t, ty, k1, _⟩ := dq_ty h
  cases h with
  | str z =>
    by_cases hz : z ∈ names fd.ys
    · exact .inl ⟨decide_eq_true hz, z, rfl, hz⟩
    · exact .inr ⟨decide_eq_false hz, .inl ⟨z, rfl, hz⟩⟩
  | _ => exact .inr ⟨rfl, .inr ⟨t, ty, k1⟩⟩
/-- all of them names -/
theorem all_strs {K : PySem.W.Frag} {H : Hp} {legs : List Str} : ∀ {xs : List V} {ws : List PyData}, DqAll K H xs ws → ws.all (inL legs) = true → xs = strv (ws.map nmD) ∧ ∀ z ∈ ws.map nmD, z ∈ legs
  | _, _, .nil, _ => ⟨rfl, (fun _ h => (by cases h))⟩
  | x :: xs, w :: ws, .cons h t, e => by
    rw [List.all_cons, Bool.and_eq_true] at e
    obtain ⟨e1, e2⟩ := all_strs t e.2
    cases h with
    | str z =>
      refine ⟨by rw [e1]; rfl, fun y hy => ?_⟩
      rcases List.mem_cons.mp hy with rfl | hy
      · exact of_decide_eq_true e.1
      · exact e2 y hy
    | _ => cases e.1
/-- each of a comprehension's items is a truth value -/
theorem lc_bl {J : It} {n : Nat} {G : Hp → Prop} {Y : Nat → Hp → V → Hp → Prop} (wk : Walk J n G Y) {g : TG} {te : TE} {vs : List Nat} {σ : L2.St} {H1 : Hp} {D : Addr} {Qd : Hp → Prop} (bs : List Bool) (hbs : bs.length = n) (hD : H1 D = none) (hn : n ≤ 2000) (hG : ∀ H', Same H1 H' → G H')
    (hs : ∀ i x H H' b (Q : VK), bs[i]? = some b → Same H1 H → Y i H x H' → (∀ H'', Same H' H'' → Q (.bl b) H'') → Same H H' ∧ g x (wipe σ vs) H' fun σ2 H2 => wipe σ2 vs = wipe σ vs ∧ te σ2 H2 Q) (hd : ∀ H, Same H1 H → H D = some (.lst (bs.map V.bl)) → Qd H)
    (hgm : ∀ x H' (R R' : L2.St → Hp → Prop), (∀ σ2 H2, R σ2 H2 → R' σ2 H2) → g x (wipe σ vs) H' R → g x (wipe σ vs) H' R') :
    ∃ W : Nat → Nat → Hp → Prop, (∃ m, W 0 m (upd H1 D (.lst []))) ∧ ∀ i m H, W i m H →
      (J.stop i H ∧ Qd H) ∨ (J.go i H ∧ ∃ Nx : Hp → Prop, (∀ H', Nx H' → ∃ m', m' < m ∧ W (i + 1) m' H') ∧ ∀ x H', J.yld i H x H' → g x (wipe σ vs) H' fun σ2 H2 => wipe σ2 vs = wipe σ vs ∧ tYes σ2 H2 fun b H3 =>
        if b = true then te σ2 H3 fun y H4 => ∃ acc, H4 D = some (.lst acc) ∧ acc.length < sizeLine ∧ Nx (upd H4 D (.lst (acc ++ [y]))) else Nx H3) := by
  subst hbs
  refine lc_it wk (fun i H' => Same H1 H' ∧ H' D = some (.lst ((bs.take i).map V.bl))) ⟨same_at hD, upd_same⟩ (fun i H' _ p => hG H' p.1) ?_ fun H p => hd H p.1 (by have := p.2; rwa [List.take_length] at this)
  rintro i x Ho Ha hi ⟨sa, da⟩ y
  have eb : bs[i]? = some bs[i] := List.getElem?_eq_getElem hi
  refine hgm x Ha _ _ (fun σ2 H2 h => ⟨h.1, ?_⟩) (hs i x Ho Ha bs[i] (fun y H4 => ∃ acc, H4 D = some (.lst acc) ∧ acc.length < sizeLine ∧ (Same H1 (upd H4 D (.lst (acc ++ [y]))) ∧ (upd H4 D (.lst (acc ++ [y]))) D = some (.lst ((bs.take (i + 1)).map V.bl)))) eb sa y fun H2 s2 => ?_).2
  · unfold tYes
    dsimp only
    rw [if_pos rfl]
    exact h.2
  · have sy := (hs i x Ho Ha bs[i] (fun _ _ => True) eb sa y fun _ _ => trivial).1
    refine ⟨_, s2 _ _ (sy _ _ da), ?_, fun c o e => ?_, ?_⟩
    · rw [List.length_map, List.length_take]
      exact Nat.lt_of_lt_of_le (show _ < 2001 by omega) (by decide)
    · rw [upd_ne (ne_of_none e hD)]
      exact s2 _ _ (sy _ _ (sa _ _ e))
    · rw [upd_same, List.take_add_one, eb, Option.toList_some, List.map_append]
      rfl
theorem gName_mn {v : Nat} {x : V} {σ : L2.St} {H' : Hp} (R R' : L2.St → Hp → Prop) (h : ∀ σ2 H2, R σ2 H2 → R' σ2 H2) (q : gName v x σ H' R) : gName v x σ H' R' := h _ _ q
/-- [x for row in rows for x in row] -/
theorem flatV_it {K : PySem.W.Frag} {t D : Addr} {Bl : List (Addr × List V)} {H1 : Hp} {σ : L2.St} {v u : Nat} {vs : List Nat} {Qd : Hp → Prop} (ht : SqT K H1 t (Bl.map fun y => V.ref y.1)) (hD : H1 D = none) (hB : ∀ y ∈ Bl, SqA K H1 y.1 y.2) (hl : (Bl.flatMap (·.2)).length ≤ 2000)
    (hw1 : ∀ x, wipe ((wipe σ vs).set v (some x)) vs = wipe σ vs) (hv1 : ∀ x, ((wipe σ vs).set v (some x))[v]? = some (some x)) (hw2 : ∀ x y, wipe ((wipe ((wipe σ vs).set v (some x)) [u]).set u (some y)) [u] = wipe ((wipe σ vs).set v (some x)) [u]) (hv2 : ∀ x y, ((wipe ((wipe σ vs).set v (some x)) [u]).set u (some y))[u]? = some (some y))
    (k : ∀ H', Same H1 H' → H' D = some (.lst (Bl.flatMap (·.2))) → Qd H') :
    ∃ W : Nat → Nat → Hp → Prop, (∃ m, W 0 m (upd H1 D (.lst []))) ∧ ∀ i m H, W i m H →
      ((Itt K t).stop i H ∧ Qd H) ∨ ((Itt K t).go i H ∧ ∃ Nx : Hp → Prop, (∀ H', Nx H' → ∃ m', m' < m ∧ W (i + 1) m' H') ∧ ∀ x H', (Itt K t).yld i H x H' → gName v x (wipe σ vs) H' fun σ2 H2 => wipe σ2 vs = wipe σ vs ∧ tYes σ2 H2 fun b H3 =>
        if b = true then iSeq K (tVar v) σ2 H3 fun J1 H4 => InLoop J1 (gName u) tYes (tVar u) [u] D σ2 H4 Nx else Nx H3) := by
  have hBl : (Bl.map fun y => V.ref y.1).length = Bl.length := List.length_map _
  have sn : ∀ {i : Nat} {y : Addr × List V}, Bl[i]? = some y → (Bl.take (i + 1)).flatMap (·.2) = (Bl.take i).flatMap (·.2) ++ y.2 := fun {i y} h => by
    rw [List.take_add_one, h, Option.toList_some, List.flatMap_append]
    simp
  refine lc2_it (walk_tup (K := K) (a := t) (xs := Bl.map fun y => V.ref y.1)) (fun i H' => Same H1 H' ∧ H' D = some (.lst ((Bl.take i).flatMap (·.2)))) ⟨same_at hD, upd_same⟩ (fun i H' _ p => SqT.ext ht p.1) ?_ ?_
  · rintro i x Ho Ha hi ⟨sa, da⟩ ⟨rfl, hx⟩
    rw [List.getElem?_map] at hx
    cases ey : Bl[i]? with
    | none => rw [ey] at hx; cases hx
    | some y =>
    rw [ey] at hx
    obtain rfl := Option.some.inj hx
    have hy := List.mem_of_getElem? ey
    refine ⟨hw1 _, ?_⟩
    unfold tYes
    dsimp only
    rw [if_pos rfl]
    have hle : ((Bl.take i).flatMap (·.2)).length + y.2.length ≤ 2000 := by
      rw [← List.length_append, ← sn ey]
      refine Nat.le_trans ?_ hl
      have e : Bl.flatMap (·.2) = (Bl.take (i + 1)).flatMap (·.2) ++ (Bl.drop (i + 1)).flatMap (·.2) := by rw [← List.flatMap_append, List.take_append_drop]
      rw [e, List.length_append]
      omega
    have turn : ∀ (j : Nat) (x : V) (Hc Hd : Hp), j < y.2.length → (Same H1 Hc ∧ Hc D = some (.lst ((Bl.take i).flatMap (·.2) ++ y.2.take j))) → (Hd = Hc ∧ y.2[j]? = some x) →
        gName u x (wipe ((wipe σ vs).set v (some (.ref y.1))) [u]) Hd fun σ3 H5 => wipe σ3 [u] = wipe ((wipe σ vs).set v (some (.ref y.1))) [u] ∧ tYes σ3 H5 fun b H6 =>
          if b = true then tVar u σ3 H6 fun z H7 => ∃ acc, H7 D = some (.lst acc) ∧ acc.length < sizeLine ∧ (Same H1 (upd H7 D (.lst (acc ++ [z]))) ∧ upd H7 D (.lst (acc ++ [z])) D = some (.lst ((Bl.take i).flatMap (·.2) ++ y.2.take (j + 1)))) else (Same H1 H6 ∧ H6 D = some (.lst ((Bl.take i).flatMap (·.2) ++ y.2.take (j + 1)))) := by
      rintro j x Hc Hd hj ⟨sc, dc⟩ ⟨rfl, hxj⟩
      refine ⟨hw2 _ _, ?_⟩
      unfold tYes
      dsimp only
      rw [if_pos rfl]
      refine ⟨_, hv2 _ _, _, dc, ?_, fun c o e => ?_, ?_⟩
      · rw [List.length_append, List.length_take]
        exact Nat.lt_of_le_of_lt (show _ ≤ 2000 by omega) (by decide)
      · rw [upd_ne (ne_of_none e hD)]
        exact sc _ _ e
      · rw [upd_same, List.take_add_one, hxj, Option.toList_some, ← List.append_assoc]
    have d0 : Ha D = some (.lst ((Bl.take i).flatMap (·.2) ++ y.2.take 0)) := by
      rw [List.take_zero, List.append_nil]
      exact da
    have fin : ∀ Hc, (Same H1 Hc ∧ Hc D = some (.lst ((Bl.take i).flatMap (·.2) ++ y.2.take y.2.length))) → (Same H1 Hc ∧ Hc D = some (.lst ((Bl.take (i + 1)).flatMap (·.2)))) := fun Hc h => ⟨h.1, by
      have := h.2
      rw [List.take_length, ← sn ey] at this
      exact this⟩
    rcases hB y hy with q | q
    · exact ⟨_, hv1 _, y.1, rfl, .inl ⟨⟨_, SqL.ext q sa⟩, in_it (walk_list (K := K) (a := y.1) (xs := y.2)) (fun j H' => Same H1 H' ∧ H' D = some (.lst ((Bl.take i).flatMap (·.2) ++ y.2.take j))) ⟨sa, d0⟩ (fun j H' _ p => SqL.ext q p.1) turn fin⟩⟩
    · exact ⟨_, hv1 _, y.1, rfl, .inr ⟨⟨_, SqT.ext q sa⟩, in_it (walk_tup (K := K) (a := y.1) (xs := y.2)) (fun j H' => Same H1 H' ∧ H' D = some (.lst ((Bl.take i).flatMap (·.2) ++ y.2.take j))) ⟨sa, d0⟩ (fun j H' _ p => SqT.ext q p.1) turn fin⟩⟩
  · rintro H2 ⟨s2, d2⟩
    rw [hBl, List.take_length] at d2
    exact k _ s2 d2
end Sj
namespace Sj
open PySem L2 Sup StK Own Shw Exg Grd KepE
open NdefX (NF NScope ncx envF startF nscope_by)
open C8 (pss_cut tCut)
/-! k66: wrong_parts -/
theorem fold_full : ∀ (xs ks : List Str), ks.Nodup → ks.length + xs.length ≤ (xs.foldl SetS.addT ks).length → (ks ++ xs).Nodup
  | [], ks, h, _ => by rw [List.append_nil]; exact h
  | x :: xs, ks, h, hl => by
    have hl' : ks.length + (xs.length + 1) ≤ (xs.foldl SetS.addT (SetS.addT ks x)).length := hl
    by_cases hx : x ∈ ks
    · have e : SetS.addT ks x = ks := if_pos hx
      rw [e] at hl'
      have := SetS.fold_len xs ks
      omega
    · have e : SetS.addT ks x = ks ++ [x] := if_neg hx
      rw [e] at hl'
      have n : (ks ++ [x]).Nodup := by
        rw [List.nodup_append]
        exact ⟨h, by simp, fun a ha b hb q => hx (by rw [← List.mem_singleton.mp hb, ← q]; exact ha)⟩
      have := fold_full xs (ks ++ [x]) n (by rw [List.length_append, List.length_singleton]; omega)
      rw [List.append_assoc] at this
      exact this
theorem nd_set (zs : List Str) : ((SetS.setL zs).length < zs.length) ↔ ¬ zs.Nodup := by
  constructor
  · intro h n
    rw [SetS.setL_same n] at h
    omega
  · intro h
    rcases Nat.lt_or_ge (SetS.setL zs).length zs.length with q | q
    · exact q
    · refine absurd (fold_full zs [] List.nodup_nil ?_) h
      rw [List.length_nil, Nat.zero_add]
      exact q
abbrev sWp : Stmt := top 23
abbrev nWp : List Str := ["frame", "parts", "names", "part", "name"]
theorem scWp : FnScope nWp ["frame", "parts"] (defScope sWp) := ⟨rfl, rfl, rfl, by decide +kernel, rfl, by decide +kernel, by decide +kernel⟩
def teP1 (K : PySem.W.Frag) : TE := tCB (rIsiT K) (tCons (tVar 3) (tCons (tTup (tCons (tC (.ty "list")) (tCons (tC (.ty "tuple")) tNil))) tNil))
def teP3 (K : PySem.W.Frag) (ks : Kinds) (CF : Addr) : TE := tOp (rInO CF false (spFIs K ks CF)) (tVar 4) (tVar 0)
structure WpT (P : Program) (w : World) (K : PySem.W.Frag) (mg : Str → Option Value) (base : Heap) (ks : Kinds) (CF CC : Addr) : Prop where
  in_ : MetN P w K mg base CX0 1 CF "__contains__" ["self", "x"] (spFIs K ks CF)
  len_ : MetN P w K mg base CX0 1 CF "__len__" ["self"] (spFLen CF)
  mC : mg "Chain" = some (.ref CC)
  most : ∃ mc u, ClX.CRead K CC mc ∧ ClX.CVal K CC mc "MOST" (.int 8) u
  isi : mg "isinstance" = none
  all : mg "all" = none
  len : mg "len" = none
  set : mg "set" = none
  list : mg "list" = none
  tuple : mg "tuple" = none
def spWp (K : PySem.W.Frag) (ks : Kinds) (CF : Addr) : Sp := fun vs H Q _ => ∃ (f t : Addr) (d : FrD) (xs : List V) (rs : List PyData), vs = [.ref f, .ref t] ∧ FrIs ks CF H f d ∧ SqT K H t xs ∧ DqAll K H xs rs ∧ rs.length ≤ 100 ∧ (wholeD rs).length ≤ 900 ∧ ∀ H', Same H H' → Q (due66 (names d.ys) rs) H'
/-- isinstance(x, (list, tuple)) of data -/
theorem isSeq_rd {K : PySem.W.Frag} {σ : L2.St} {v : Nat} {H : Hp} {x : V} {d : PyData} {Q : VK} (hv : σ[v]? = some (some x)) (h : Dq K H x d) (k : ∀ H', Same H H' → Q (.bl (isSeq d).isSome) H') : tCB (rIsiT K) (tCons (tVar v) (tCons (tTup (tCons (tC (.ty "list")) (tCons (tC (.ty "tuple")) tNil))) tNil)) σ H Q := by
  obtain ⟨t, ty, k1, k2, k3⟩ := dq_ty h
  refine ⟨_, hv, by show 2 ≤ sizeLine; decide, fun p hp => ?_⟩
  have sp := same_at (o := .tup [V.ty "list", .ty "tuple"]) hp
  refine ⟨x, p, [.ty "list", .ty "tuple"], .type t, [.type "list", .type "tuple"], _, rfl, upd_same, .cons (.ty _) (.cons (.ty _) .nil), tyx_same ty sp, kit_two k2 k3, ?_⟩
  rw [← isSeq_two]
  exact k _ sp
section
variable {P : Program} {w : World} {K : PySem.W.Frag} {mg : Str → Option Value} {base : Heap}
theorem ok_wp {f CF CC : Addr} {fd : FuncData} {ks : Kinds} (F : Fun K "wrong_parts" "wrong_parts" sWp f fd) (T : WpT P w K mg base ks CF CC) : FnOk P w K mg base CX0 3 f fd ["frame", "parts"] (spWp K ks CF) := by
  obtain ⟨mc, u, cr, cv⟩ := T.most
  refine F.ok scWp (fun vs H Q E h => ?_) (fun cdv A outer s H vs Q E hr h => ?_)
  · obtain ⟨f, t, d, xs, rs, rfl, _⟩ := h
    rfl
  · obtain ⟨f, t, d, xs, rs, rfl, hF, ht, hx, hrl, hwl, k⟩ := h
    have hr1 := hr.mono (show 1 ≤ 2 by decide)
    refine ⟨_, pss_cons (ps_if (PW.pt (pw_or (pt_not (pt_chain op_le op_le pe_int (pe_callB call_len_seq (by rfl) T.len PySem.boot_len (pa_cons (pv 1) pa_nil)) (ClX.pe_cval (pe_glob rfl T.mC (v := .ref CC) rfl))))
        (pw_or1 (pt_not (pt_val (pe_callB (cr_all rfl) (by rfl) T.all (by decide +kernel) (pa_cons (pe_lc (te := teP1 K) (tt := tYes) (own := [("part", 3)]) (g := gName 3) rfl scWp.nd (pi_tup (pv 1)) (blkOk_by (N := nWp) (sc := defScope sWp) (by decide +kernel))
          (fun _ _ _ _ _ => pg_name (i := 3) scWp.nd rfl (Or.inl rfl)) (fun _ _ _ _ _ => pts_nil) (fun _ _ _ _ _ => pe_callB call_isiT (by rfl) T.isi (by decide +kernel) (pa_cons (pv 3) (pa_cons (pe_tup (pa_cons (pe_bltn (by rfl) T.list (by decide +kernel) (v := .ty "list") rfl) (pa_cons (pe_bltn (by rfl) T.tuple (by decide +kernel) (v := .ty "tuple") rfl) pa_nil))) pa_nil)))) pa_nil))))))) (pss_one (ps_ret pe_str)) pss_nil)
      (pss_cons (ps_setLc2 (i := 2) (wi1 := iSeq K (tVar 3)) (te := tVar 4) (tt := tYes) (tt1 := tYes) (own := [("part", 3), ("name", 4)]) (vs1 := [4]) (g := gName 3) (g1 := gName 4) rfl scWp.nd rfl rfl (sw_true rfl rfl rfl (by decide +kernel)) (pi_tup (pv 1)) (blkOk_by (N := nWp) (sc := defScope sWp) (by decide +kernel)) (by decide)
          (fun _ _ _ _ _ => pg_name (i := 3) scWp.nd rfl (Or.inl rfl)) (fun _ _ _ _ _ => pts_nil) (fun _ _ _ _ _ => pi_seq (pv 3)) (fun _ _ _ _ _ => pg_name (i := 4) scWp.nd rfl (Or.inl rfl)) (fun _ _ _ _ _ => pts_nil) (fun _ _ _ _ _ => pv 4))
      (pss_cons (ps_if (pt_not (pt_val (pe_callB (cr_all rfl) (by rfl) T.all (by decide +kernel) (pa_cons (pe_lc (te := teP3 K ks CF) (tt := tYes) (own := [("name", 4)]) (g := gName 4) rfl scWp.nd (pi_list (pv 2)) (blkOk_by (N := nWp) (sc := defScope sWp) (by decide +kernel))
          (fun _ _ _ _ _ => pg_name (i := 4) scWp.nd rfl (Or.inl rfl)) (fun _ _ _ _ _ => pts_nil) (fun _ _ _ _ _ => pe_cmpR (op_inN T.in_ hr1) (pv 4) (pv 0) (by rfl))) pa_nil)))) (pss_one (ps_ret pe_str)) pss_nil)
      (pss_cons (ps_if (pt_cmpR op_lt (pe_callB (SetS.call_lenX) (by rfl) T.len PySem.boot_len (pa_cons (pe_callTy (T := "set") (SetS.call_setL rfl) (by rfl) T.set (by decide +kernel) (pa_cons (pv 2) pa_nil)) pa_nil)) (pe_callB call_len_seq (by rfl) T.len PySem.boot_len (pa_cons (pv 2) pa_nil)) (nomark _)) (pss_one (ps_ret pe_str)) pss_nil)
      (pss_cons (ps_if (pt_cmpR op_lt (pe_callB call_len_seq (by rfl) T.len PySem.boot_len (pa_cons (pv 2) pa_nil)) (pe_callB (call_lenN T.len_ hr) (by rfl) T.len PySem.boot_len (pa_cons (pv 0) pa_nil)) (nomark _)) (pss_one (ps_ret pe_str)) pss_nil)
      (pss_one (ps_ret pe_non)))))), ?_⟩
    have hxl := dqa_len hx
    have keq : ∀ v, due66 (names d.ys) rs = v → ∀ H', Same H H' → Q v H' := fun v e H' s => by rw [← e]; exact k H' s
    clear k
    -- 1 <= len(parts) <= 8
    have fst : (∀ c : Bool, (decide (1 ≤ rs.length) && decide (rs.length ≤ 8)) = c → (if c = true then True else True)) := fun c _ => by cases c <;> trivial
    by_cases hb : (decide (1 ≤ rs.length) && decide (rs.length ≤ 8)) = true
    case neg =>
      have hb' : (decide (1 ≤ rs.length) && decide (rs.length ≤ 8)) = false := by simpa using hb
      have out : Q (.str "parts") H := keq _ (by unfold due66; rw [if_pos hb']) H (Same.refl H)
      refine ⟨_, rfl, t, _, rfl, .inr ht, _, _, rfl, rfl, decide (1 ≤ rs.length), ?_, ?_⟩
      · show V.bl (decide ((1 : Int) ≤ (xs.length : Int))) = _
        rw [decide_eq_decide.mpr (show (1 : Int) ≤ (xs.length : Int) ↔ 1 ≤ rs.length by omega)]
      by_cases h1 : 1 ≤ rs.length
      · rw [decide_eq_true h1]
        refine iteT ⟨CC, mc, _, u, rfl, cr, cv, _, _, rfl, rfl, false, ?_, iteT (iteT out)⟩
        show V.bl (decide ((xs.length : Int) ≤ 8)) = _
        rw [decide_eq_false (by
          rw [decide_eq_true h1, Bool.true_and, decide_eq_false_iff_not] at hb'
          omega)]
      · rw [decide_eq_false h1]
        exact iteF ⟨false, rfl, iteT (iteT out)⟩
    rw [Bool.and_eq_true, decide_eq_true_eq, decide_eq_true_eq] at hb
    obtain ⟨h1, h8⟩ := hb
    refine ⟨_, rfl, t, _, rfl, .inr ht, _, _, rfl, rfl, true, ?_, iteT ⟨CC, mc, _, u, rfl, cr, cv, _, _, rfl, rfl, true, ?_, iteF ?_⟩⟩
    · show V.bl (decide ((1 : Int) ≤ (xs.length : Int))) = _
      rw [decide_eq_true (by omega)]
    · show V.bl (decide ((xs.length : Int) ≤ 8)) = _
      rw [decide_eq_true (by omega)]
    have due1 : due66 (names d.ys) rs = if (rs.all fun r => (isSeq r).isSome) = false then .str "parts" else if (wholeD rs).all (inL (names d.ys)) = false then .str "name" else if ((wholeD rs).map nmD).Nodup then (if (wholeD rs).length < (names d.ys).length then .str "legs" else .non) else .str "twice" := by
      unfold due66
      rw [if_neg (by rw [decide_eq_true h1, decide_eq_true h8]; decide)]
    rw [due1] at keq
    refine ⟨_, rfl, t, rfl, ⟨_, ht⟩, fun D hD => ?_⟩
    refine lc_bl (walk_tup (K := K) (a := t) (xs := xs)) (rs.map fun r => (isSeq r).isSome) (by rw [List.length_map, hxl]) hD (by omega) (fun H' s => SqT.ext ht s) ?_ ?_ (fun _ _ R R' h q => gName_mn R R' h q)
    · rintro i x Ho Ha b Q' eb sa ⟨rfl, hxi⟩ kq
      obtain ⟨r, er, hr'⟩ := dqa_at hx hxi
      rw [List.getElem?_map, er] at eb
      obtain rfl := Option.some.inj eb
      exact ⟨Same.refl _, rfl, isSeq_rd (v := 3) rfl (Dq.same sa _ _ hr') kq⟩
    intro H1 s1 d1
    refine ⟨D, _, rfl, SqL.of d1, ?_⟩
    have eall : (rs.map fun r => (isSeq r).isSome).all id = rs.all fun r => (isSeq r).isSome := by rw [List.all_map]; rfl
    rw [eall]
    cases hall : rs.all fun r => (isSeq r).isSome with
    | false => exact ⟨_, rfl, iteT (keq _ (by rw [if_pos hall]) _ s1)⟩
    | true =>
    rw [if_neg (by rw [hall]; decide)] at keq
    refine ⟨_, rfl, iteF ?_⟩
    -- all names
    obtain ⟨Bl, rfl, hB, hW, _⟩ := rows_flat (Dq.sameAll s1 _ _ hx) hall
    have ht1 := SqT.ext ht s1
    have hwl2 := dqa_len hW
    refine ⟨_, rfl, t, rfl, ⟨_, ht1⟩, fun D2 hD2 => flatV_it ht1 hD2 hB (by omega) (fun x => rfl) (fun x => rfl) (fun x y => rfl) (fun x y => rfl) fun H2 s2 d2 => ?_⟩
    have hF2 := hF.same (s1.trans s2)
    have hW2 := Dq.sameAll s2 _ _ hW
    obtain ⟨ns, ens⟩ : ∃ ns, ns = Bl.flatMap (·.2) := ⟨_, rfl⟩
    rw [← ens] at hwl2 d2 hW2
    obtain ⟨dx, fs, ea⟩ := hF2.ins
    refine ⟨_, rfl, D2, rfl, ⟨_, SqL.of d2⟩, fun D3 hD3 => ?_⟩
    refine lc_bl (walk_list (K := K) (a := D2) (xs := ns)) ((wholeD rs).map (inL (names d.ys))) (by rw [List.length_map, hwl2]) hD3 (by omega) (fun H' s => SqL.ext (SqL.of d2) s) ?_ ?_ (fun _ _ R R' h q => gName_mn R R' h q)
    · rintro i x Ho Ha b Q' eb sa ⟨rfl, hxi⟩ kq
      obtain ⟨r, er, hr'⟩ := dqa_at hW2 hxi
      rw [List.getElem?_map, er] at eb
      obtain rfl := Option.some.inj eb
      refine ⟨Same.refl _, rfl, _, rfl, _, rfl, f, dx, fs, rfl, sa _ _ ea, f, d, x, rfl, hF2.same sa, ?_⟩
      rcases inL_rd (fd := d) (Dq.same sa _ _ hr') with ⟨e, z, rfl, hz⟩ | ⟨e, no⟩
      · exact .inl ⟨z, rfl, hz, true, rfl, by rw [e] at kq; exact kq _ (Same.refl _)⟩
      · exact .inr ⟨no, false, rfl, by rw [e] at kq; exact kq _ (Same.refl _)⟩
    intro H3 s3 d3
    refine ⟨D3, _, rfl, SqL.of d3, ?_⟩
    have eall2 : ((wholeD rs).map (inL (names d.ys))).all id = (wholeD rs).all (inL (names d.ys)) := by rw [List.all_map]; rfl
    rw [eall2]
    have s03 := s1.trans (s2.trans s3)
    cases hall2 : (wholeD rs).all (inL (names d.ys)) with
    | false => exact ⟨_, rfl, iteT (keq _ (by rw [if_pos hall2]) _ s03)⟩
    | true =>
    rw [if_neg (by rw [hall2]; decide)] at keq
    refine ⟨_, rfl, iteF ?_⟩
    -- no name twice
    obtain ⟨e1, _⟩ := all_strs hW2 hall2
    obtain ⟨zs, ezs⟩ : ∃ zs, zs = (wholeD rs).map nmD := ⟨_, rfl⟩
    have hzl : zs.length = (wholeD rs).length := by rw [ezs, List.length_map]
    rw [← ezs] at e1 keq
    subst e1
    have nl : (strv zs).length = zs.length := List.length_map _
    have d2b := s3 _ _ d2
    refine ⟨_, rfl, D2, zs, rfl, SqL.of d2b, by omega, fun p hp' => ?_⟩
    have sp := same_at (o := SetS.SetX w p (SetS.setL zs)) hp'
    refine ⟨p, SetS.setL zs, rfl, upd_same, _, rfl, D2, strv zs, rfl, .inl (SqL.of (sp _ _ d2b)), _, _, rfl, rfl, _, rfl, ?_⟩
    rw [nl]
    have s04 := s03.trans sp
    by_cases hnd : zs.Nodup
    · rw [if_pos hnd] at keq
      rw [decide_eq_false (show ¬ ((SetS.setL zs).length : Int) < (zs.length : Int) by rw [SetS.setL_same hnd]; exact Int.lt_irrefl _)]
      refine iteF ?_
      have hF4 := hF2.same (s3.trans sp)
      refine ⟨_, rfl, D2, strv zs, rfl, .inl (SqL.of (sp _ _ d2b)), _, rfl, f, dx, fs, rfl, (s3.trans sp) _ _ ea, f, d.ys, _, _, _, rfl, hF4.at_, d.ys.length, rfl, Nat.lt_of_le_of_lt hF.le (by decide), _, _, rfl, rfl, _, rfl, ?_⟩
      rw [nl]
      have en : (names d.ys).length = d.ys.length := List.length_map _
      by_cases hle : zs.length < d.ys.length
      · rw [decide_eq_true (show (zs.length : Int) < (d.ys.length : Int) by omega)]
        exact iteT (keq _ (by rw [if_pos (by omega)]) _ s04)
      · rw [decide_eq_false (show ¬ (zs.length : Int) < (d.ys.length : Int) by omega)]
        exact iteF (keq _ (by rw [if_neg (by omega)]) _ s04)
    · rw [if_neg hnd] at keq
      rw [decide_eq_true (show ((SetS.setL zs).length : Int) < (zs.length : Int) by have := (nd_set zs).mpr hnd; omega)]
      exact iteT (keq _ rfl _ s04)
end
end Sj
/-! C(e, .., *xs), C a class of the module or what a name holds -/
namespace MakeS
open PySem PySem.Spec PyProof.Rows L2 StX
section
variable {X : Cx} {CX : CXT} {k : Nat} {f C : Addr} {sp : Sp} {E : XK} {x : PySem.Str} {e : Expr} {es : List Expr} {tf : TE} {t : TA} {p pos : Pos}
def tMakeSV (C : Addr) (sp : Sp) (E : XK) (tf : TE) (t : TA) : TE := fun σ H Q => tf σ H fun c H0 => c = .ref C ∧ tMakeR C sp E t σ H0 Q
theorem pe_makeSV (M : Mk X.K C f) (F : FnR X.prog X.w X.K X.mg X.base CX k f sp) (hr : Room (k + 1) X.A) (hx : Passes CX X E) (hf : PE X (.Name x p) tf) (ha : PA X (e :: es) t)
    (he : starEach (e :: es) X.env = (false, eval e X.env) :: starEach es X.env := by rfl) (hst : (backTo pos (starEach es X.env)).any (·.1) = true := by rfl) : PE X (.Call (.Name x p) (e :: es) [] pos) (tMakeSV C sp E tf t) := by
  refine ⟨fun pins s σ H Q I h => ?_⟩
  refine wpAny_Call_Name_kw (thn (hf.run pins s σ H _ I h) fun u s1 ⟨c, H1, I1, rc, ec, q1⟩ => ?_)
  subst ec
  obtain rfl : u = Value.ref C := rc
  refine PySem.W.callWith_S2 (h₀ := X.base) I.ok.mod.kin M.kp (thn (ha.run pos pins s1 σ H1 _ I1 q1) fun us s2 ⟨vs, H2, I2, r, q⟩ => ⟨I2.kIn, ?_⟩) he hst
  exact run_makeR M F hr hx I2 r q
end
end MakeS
namespace Sj
open PySem L2 Sup StK Own Shw Exg Grd KepE
open NdefX (NF NScope ncx envF startF nscope_by)
open C8 (pss_cut tCut)
/-! k66: chains made or refused -/
theorem due66_is (legs : List Str) (rs : List PyData) : due66 legs rs = .non ∨ ∃ z, due66 legs rs = .str z ∧ (reprText z).length ≤ 1000 := by
  unfold due66
  split
  · exact .inr ⟨_, rfl, by decide +kernel⟩
  split
  · exact .inr ⟨_, rfl, by decide +kernel⟩
  split
  · exact .inr ⟨_, rfl, by decide +kernel⟩
  split
  · split
    · exact .inr ⟨_, rfl, by decide +kernel⟩
    · exact .inl rfl
  · exact .inr ⟨_, rfl, by decide +kernel⟩
theorem due66_seq {legs : List Str} {rs : List PyData} (h : due66 legs rs = .non) : (rs.all fun r => (isSeq r).isSome) = true ∧ rs.length ≤ 8 := by
  unfold due66 at h
  split at h
  · cases h
  rename_i h1
  split at h
  · cases h
  rename_i h2
  refine ⟨(Bool.not_eq_false _).mp h2, ?_⟩
  have : (decide (1 ≤ rs.length) && decide (rs.length ≤ 8)) = true := by simpa using h1
  rw [Bool.and_eq_true, decide_eq_true_eq, decide_eq_true_eq] at this
  exact this.2
def chF (f B : Addr) : List (Str × V) := putF "parts" (.ref B) (putF "frame" (.ref f) [])
theorem chF_frame (f B : Addr) : (chF f B).lookup ("frame" : Str) = some (V.ref f) := by
  unfold chF
  rw [lookup_putF, if_neg (by decide +kernel), lookup_putF, if_pos rfl]
/-- a chain of the frame at f stands -/
def ChO (H : Hp) (o CC f : Addr) : Prop := ∃ dx B, H o = some (.ins CC dx (chF f B))
abbrev sChI : Stmt := inClass (top 22) 1
abbrev sChO : Stmt := inClass (top 22) 2
abbrev sChP : Stmt := inClass (top 22) 4
abbrev nCh : List Str := ["self", "frame", "parts", "reason", "part"]
theorem scChI : FnScope nCh ["self", "frame", "parts"] (defScope sChI) := ⟨rfl, rfl, rfl, by decide +kernel, rfl, by decide +kernel, by decide +kernel⟩
theorem scChO : FnScope ["cls", "frame", "parts"] ["cls", "frame", "parts"] (defScope sChO) := ⟨rfl, rfl, rfl, by decide +kernel, rfl, by decide +kernel, by decide +kernel⟩
theorem scChP : FnScope ["self", "name", "number", "part"] ["self", "name"] (defScope sChP) := ⟨rfl, rfl, rfl, by decide +kernel, rfl, by decide +kernel, by decide +kernel⟩
structure ChT (P : Program) (w : World) (K : PySem.W.Frag) (mg : Str → Option Value) (base : Heap) (ks : Kinds) (CF CI fI CC : Addr) : Prop where
  wrong : ∃ f fd, mg "wrong_parts" = some (.ref f) ∧ PySem.W.keepIn K (.ref f) = true ∧ Binds K fd ["frame", "parts"] [] ∧ FnOk P w K mg base CX0 3 f fd ["frame", "parts"] (spWp K ks CF)
  mI : mg "InvalidChain" = some (.ref CI)
  ex : ExT P K mg CI "reason"
  iC : PySem.W.findIn K (.ref CI) "__init__" = some (some (.ref fI))
  tI : PySem.W.typeIn K (.ref fI) = some (.type "function")
  inv : ∃ fdI, Binds K fdI ["self", "reason"] [] ∧ FnOk P w K mg base CX0 1 fI fdI ["self", "reason"] (spInv K CI)
  tuple : mg "tuple" = none
  list : mg "list" = none
  isi : mg "isinstance" = none
  cl : Cls K CC
  nF : NoAttr K CC "frame"
  nP : NoAttr K CC "parts"
def tRow (K : PySem.W.Frag) (v : Nat) : TE := tCB (fun xs H Q => ∃ p ys, xs = [V.ref p] ∧ ((SqL K H p ys ∧ ∀ l, H l = none → Q (.ref l) (upd H l (.tup ys))) ∨ (SqT K H p ys ∧ Q (.ref p) H))) (tCons (tVar v) tNil)
/-- rows that are few -/
def Few (rs : List PyData) : Prop := rs.length ≤ 100 ∧ (wholeD rs).length ≤ 900
def spChI (K : PySem.W.Frag) (ks : Kinds) (CF CI CC : Addr) : Sp := fun vs H Q E => ∃ (o dx f t : Addr) (d : FrD) (xs : List V) (rs : List PyData), vs = [.ref o, .ref f, .ref t] ∧ H o = some (.ins CC dx []) ∧ FrIs ks CF H f d ∧ H t = some (.tup xs) ∧ DqAll K H xs rs ∧ Few rs ∧
  (∀ z, due66 (names d.ys) rs = .str z → ∀ dd H', errH H H' dd "reason" (.str z) → E (.ref CI) (some dd) H') ∧ (due66 (names d.ys) rs = .non → ∀ H', ChO H' o CC f → But H H' o → Q .non H')
section
variable {P : Program} {w : World} {K : PySem.W.Frag} {mg : Str → Option Value} {base : Heap}
theorem body_chI {CI fI CF CC f : Addr} {ks : Kinds} (T : ChT P w K mg base ks CF CI fI CC) (cdv : Value) (A : Around) (outer : List Env) (s : Shared) (H : Hp) (vs : List V) (Q : VK) (E : XK)
    (hr : Room 3 (A.deeper (PyProof.Rows.envOfC "Chain.__init__" (defScope sChI) s.heap.objs.size f cdv))) (h : spChI K ks CF CI CC vs H Q E) :
    ∃ t, PSs (cxOf (L2.CX P w) P w K mg base nCh "Chain.__init__" (defScope sChI) f cdv A outer s H E) (defBody sChI) t ∧ t { nx := fun _ H' => Q .non H', rt := Q } (start nCh vs) H := by
  obtain ⟨fW, fdW, mW, kW, bW, GW⟩ := T.wrong
  obtain ⟨fdI, bI, GI⟩ := T.inv
  have hr1 := hr.mono (show 2 ≤ 3 by decide)
  refine ⟨_, pss_cons (ps_set (i := 3) scChI.nd rfl (Or.inl rfl) (pe_call GW hr rfl mW kW bW .nil pass0 (pa_cons (pv 1) (pa_cons (pv 2) pa_nil))))
      (pss_cons (ps_if (pt_cmpR op_notN (pv 3) pe_non (nomark _)) (pss_one (ps_raise rfl (takes_of rfl rfl rfl rfl) (pmk_oex T.ex.oex T.iC T.tI GI hr1 bI .nil pass0 rfl T.mI (pa_cons (pv 3) pa_nil)))) pss_nil)
      (pss_cons (ps_fld (pv 0) (pv 1) rfl)
      (pss_one (ps_fld (pv 0) (pe_callTy (T := "tuple") call_tuple_of (by rfl) T.tuple (by decide +kernel) (pa_cons
          (pe_lc (te := tRow K 4) (tt := tYes) (own := [("part", 4)]) (g := gName 4) rfl scChI.nd (pi_tup (pv 2)) (blkOk_by (N := nCh) (sc := defScope sChI) (by decide +kernel)) (fun _ _ _ _ _ => pg_name (i := 4) scChI.nd rfl (Or.inl rfl)) (fun _ _ _ _ _ => pts_nil)
            (fun _ _ _ _ _ => pe_callTy (T := "tuple") call_tuple_of (by rfl) T.tuple (by decide +kernel) (pa_cons (pv 4) pa_nil))) pa_nil)) rfl)))), ?_⟩
  obtain ⟨o, dx, f, t, d, xs, rs, rfl, ho, hF, ht, hx, few, k1, k2⟩ := h
  refine ⟨_, rfl, _, rfl, f, t, d, xs, rs, rfl, hF, SqT.of ht, hx, few.1, few.2, fun H1 s1 => ?_⟩
  rcases due66_is (names d.ys) rs with e | ⟨z, e, hz⟩
  case inr =>
    rw [e]
    refine ⟨_, rfl, rfl, _, rfl, iteT ?_⟩
    exact raise_inv (fun Q' q => ⟨_, rfl, q⟩) hz s1 (k1 z e)
  rw [e]
  obtain ⟨hall, h8⟩ := due66_seq e
  refine ⟨_, rfl, rfl, _, rfl, iteF ?_⟩
  refine ⟨_, rfl, _, rfl, o, CC, dx, [], rfl, s1 _ _ ho, T.cl, T.nF, by show 0 < 1000; decide, ?_⟩
  obtain ⟨H2, e2⟩ : ∃ H2, H2 = upd H1 o (.ins CC dx (putF "frame" (.ref f) [])) := ⟨_, rfl⟩
  rw [← e2]
  have b2 : But H H2 o := fun b u hb e => by rw [e2, upd_ne hb]; exact s1 _ _ e
  have o2 : H2 o = some (.ins CC dx (putF "frame" (.ref f) [])) := by rw [e2, upd_same]
  have nto : t ≠ o := fun e => by rw [e, ho] at ht; cases ht
  have ht2 : H2 t = some (.tup xs) := b2 _ _ nto ht
  obtain ⟨Bl, rfl, hB, _, _⟩ := rows_flat hx hall
  have hBl : (Bl.map fun y => V.ref y.1).length = Bl.length := List.length_map _
  have hBr : Bl.length ≤ 8 := by have := dqa_len hx; omega
  have rd : ∀ {a : Addr} {u : HO}, (∀ C d fs, u ≠ .ins C d fs) → (∀ q C d fs, u ≠ .frz q (.ins C d fs)) → Rd H a u → Rd H2 a u := fun {a u} n1 n2 q => by
    rcases q with q | ⟨oo, q⟩
    · exact .inl (b2 _ _ (fun e => by rw [e, ho] at q; exact n1 _ _ _ (Option.some.inj q).symm) q)
    · exact .inr ⟨oo, b2 _ _ (fun e => by rw [e, ho] at q; cases q) q⟩
  have hB2 : ∀ y ∈ Bl, SqA K H2 y.1 y.2 := fun y hy => (hB y hy).imp (fun q => q.imp (rd (fun _ _ _ z => by cases z) (fun _ _ _ _ z => by cases z)) id) (fun q => q.imp (rd (fun _ _ _ z => by cases z) (fun _ _ _ _ z => by cases z)) id)
  refine ⟨_, rfl, t, rfl, ⟨_, SqT.of ht2⟩, fun D1 hD1 => ?_⟩
  refine lc_it (walk_tup (K := K) (a := t) (xs := Bl.map fun y => V.ref y.1)) (fun i H' => Same H2 H' ∧ ∃ L : List V, L.length = i ∧ H' D1 = some (.lst L)) ⟨same_at hD1, [], rfl, upd_same⟩ (fun i H' _ p => SqT.of (p.1 _ _ ht2)) ?_ ?_
  · rintro i x Ho Ha hi ⟨sa, L, hL, da⟩ ⟨rfl, hxi⟩
    rw [hBl] at hi
    rw [List.getElem?_map, List.getElem?_eq_getElem hi] at hxi
    obtain rfl := Option.some.inj hxi
    refine ⟨rfl, ?_⟩
    unfold tYes
    dsimp only
    rw [if_pos rfl]
    have hq := (hB2 _ (List.getElem_mem hi)).same sa
    have go : ∀ (a : Addr) (H4 : Hp), Same Ha H4 → ∃ acc, H4 D1 = some (.lst acc) ∧ acc.length < sizeLine ∧ (Same H2 (upd H4 D1 (.lst (acc ++ [.ref a]))) ∧ ∃ L : List V, L.length = i + 1 ∧ upd H4 D1 (.lst (acc ++ [.ref a])) D1 = some (.lst L)) := fun a H4 s4 =>
      ⟨L, s4 _ _ da, by rw [hL]; exact Nat.lt_of_lt_of_le (show i < 8 by omega) (by decide), fun c u q => by rw [upd_ne (ne_of_none q hD1)]; exact s4 _ _ (sa _ _ q), _, by rw [List.length_append, hL]; rfl, upd_same⟩
    refine ⟨_, rfl, Bl[i].1, Bl[i].2, rfl, ?_⟩
    rcases hq with q | q
    · exact .inl ⟨q, fun l hl' => go l _ (same_at hl')⟩
    · exact .inr ⟨q, go _ _ (Same.refl _)⟩
  rintro H3 ⟨s3, L, hL, d3⟩
  refine ⟨D1, _, rfl, .inl ⟨SqL.of d3, fun B hBn => ?_⟩⟩
  have s4 := same_at (o := .tup L) hBn
  have o4 := s4 _ _ (s3 _ _ o2)
  refine ⟨_, rfl, o, CC, dx, _, rfl, o4, T.cl, T.nP, by show 1 < 1000; decide, ?_⟩
  refine k2 e _ ⟨dx, B, upd_same⟩ fun b u hb q => ?_
  rw [upd_ne hb]
  exact s4 _ _ (s3 _ _ (b2 _ _ hb q))
def spChS (K : PySem.W.Frag) (ks : Kinds) (CF CI CC : Addr) : Sp := fun vs H Q E => ∃ ws rest, vs = ws ++ rest ∧ ws.length = (["self", "frame"] : List Str).length ∧ rest.length ≤ sizeLine ∧ ∀ p, H p = none → spChI K ks CF CI CC (ws ++ [.ref p]) (upd H p (.tup rest)) Q E
theorem fnr_chI {CI fI CF CC f : Addr} {fd : FuncData} {ks : Kinds} (F : FunD K "__init__" "Chain.__init__" (defArgs sChI) (defBody sChI) (defScope sChI) [] [] f fd) (T : ChT P w K mg base ks CF CI fI CC) :
    FnR P w K mg base (L2.CX P w) 4 f (spChS K ks CF CI CC) := by
  obtain ⟨oc, od, dV, kV, doc, pm, an, cdv, ct, osl, rfl, lk, hcd, hD, hK⟩ := F.ex
  rcases hD with ⟨_, rfl⟩ | ⟨e, _⟩
  case inr => exact absurd rfl e
  refine StX.fn_star (pv := "parts") (ps := ["self", "frame"]) lk hcd scChI StX.cxUp (fun us rest h => ?_) fun A outer s H vs Q E hr h => body_chI T cdv A outer s H vs Q E hr h
  exact StX.bind_star2 (B := fun l => bindArgs _ ⟨l, []⟩) (fun a b => rfl) (fun a b r rs => rfl) us rest h
/-- Chain(frame, *rows) -/
theorem mk_ch {CI CF CC f x dx : Addr} {ks : Kinds} {d : FrD} {xs : List V} {rs : List PyData} {H : Hp} {Q : VK} {E : XK} (hF : FrIs ks CF H f d) (hx' : DqAll K H xs rs) (few : Few rs) (hx : H x = none) (hdx : H dx = none) (hne : dx ≠ x)
    (k1 : ∀ z, due66 (names d.ys) rs = .str z → ∀ dd H', errH H H' dd "reason" (.str z) → E (.ref CI) (some dd) H') (k2 : due66 (names d.ys) rs = .non → ∀ H', ChO H' x CC f → Same H H' → Q .non H') : spChS K ks CF CI CC (V.ref x :: .ref f :: xs) (upd (upd H dx (.own x)) x (.ins CC dx [])) Q E := by
  have s1 : Same H (upd (upd H dx (.own x)) x (.ins CC dx [])) := fun b o e => by
    rw [upd_ne (ne_of_none e hx), upd_ne (ne_of_none e hdx)]
    exact e
  refine ⟨[.ref x, .ref f], xs, rfl, rfl, ?_, fun t ht => ?_⟩
  · rw [dqa_len hx']
    exact Nat.le_trans few.1 (by decide)
  have hxt : x ≠ t := ne_of_none upd_same ht
  have s2 := s1.trans (same_at (o := .tup xs) ht)
  refine ⟨x, dx, f, t, d, xs, rs, rfl, by rw [upd_ne hxt, upd_same], hF.same s2, upd_same, Dq.sameAll s2 _ _ hx', few, fun z e dd H' er => k1 z e dd H' (er.of s2), fun e H' hC hb => k2 e H' hC fun b o q => ?_⟩
  exact hb b o (ne_of_none q hx) (s2 _ _ q)
/-- a value as rows -/
inductive RowV (K : PySem.W.Frag) (H : Hp) : V → Option (List PyData) → Prop
  | seq {a : Addr} {xs : List V} {rs : List PyData} : SqA K H a xs → DqAll K H xs rs → Few rs → RowV K H (.ref a) (some rs)
  | odd {x : V} {t : String} : TyX K H x (.type t) → kitB t "list" = some false → kitB t "tuple" = some false → RowV K H x none
theorem RowV.same {H H' : Hp} {x : V} {o : Option (List PyData)} (h : RowV K H x o) (s : Same H H') : RowV K H' x o := by
  cases h with
  | seq q d f => exact .seq (q.same s) (Dq.sameAll s _ _ d) f
  | odd ty a b => exact .odd (tyx_same ty s) a b
theorem rowV_rd {σ : L2.St} {v : Nat} {H : Hp} {x : V} {o : Option (List PyData)} {Q : VK} (hv : σ[v]? = some (some x)) (h : RowV K H x o) (k : ∀ H', Same H H' → Q (.bl o.isSome) H') : tCB (rIsiT K) (tCons (tVar v) (tCons (tTup (tCons (tC (.ty "list")) (tCons (tC (.ty "tuple")) tNil))) tNil)) σ H Q := by
  refine ⟨_, hv, by show 2 ≤ sizeLine; decide, fun p hp => ?_⟩
  have sp := same_at (o := .tup [V.ty "list", .ty "tuple"]) hp
  have hty : ∃ t b c, TyX K H x (.type t) ∧ kitB t "list" = some b ∧ kitB t "tuple" = some c ∧ (b || c) = o.isSome := by
    cases h with
    | odd ty a b => exact ⟨_, _, _, ty, a, b, rfl⟩
    | seq q d f =>
      rcases q with q | q
      · refine ⟨"list", true, false, ?_, by decide +kernel, by decide +kernel, rfl⟩
        rcases q with (q | ⟨o, q⟩) | ⟨o, _, _, q, c, _⟩
        · exact .base (.lst q)
        · exact .base (.frz q)
        · exact .kList q c
      · refine ⟨"tuple", false, true, ?_, by decide +kernel, by decide +kernel, rfl⟩
        rcases q with (q | ⟨o, q⟩) | ⟨o, _, _, q, c, _⟩
        · exact .base (.tup q)
        · exact .fTuple q
        · exact .kTuple q c
  obtain ⟨t, b, c, ty, k1, k2, e⟩ := hty
  refine ⟨x, p, [.ty "list", .ty "tuple"], .type t, [.type "list", .type "tuple"], _, rfl, upd_same, .cons (.ty _) (.cons (.ty _) .nil), tyx_same ty sp, kit_two k1 k2, ?_⟩
  rw [e]
  exact k _ sp
def spChO (K : PySem.W.Frag) (ks : Kinds) (CF CI CC : Addr) : Sp := fun vs H Q E => ∃ (f : Addr) (y : V) (d : FrD) (o : Option (List PyData)), vs = [.ref CC, .ref f, y] ∧ FrIs ks CF H f d ∧ RowV K H y o ∧
  (∀ z, dueV (names d.ys) o = .str z → ∀ dd H', errH H H' dd "reason" (.str z) → E (.ref CI) (some dd) H') ∧ (dueV (names d.ys) o = .non → ∀ x H', H x = none → ChO H' x CC f → Same H H' → Q (.ref x) H')
theorem ok_cho {CI fI CF CC fC f : Addr} {fd : FuncData} {ks : Kinds} (F : FunD K "of" "Chain.of" (defArgs sChO) (defBody sChO) (defScope sChO) [] [] f fd) (T : ChT P w K mg base ks CF CI fI CC) (M : Mk K CC fC)
    (GF : FnR P w K mg base (L2.CX P w) 4 fC (spChS K ks CF CI CC)) : FnOk P w K mg base (L2.CX P w) 6 f fd ["cls", "frame", "parts"] (spChO K ks CF CI CC) := by
  obtain ⟨fdI, bI, GI⟩ := T.inv
  refine F.ok scChO (fun vs H Q E h => ?_) (fun cdv A outer s H vs Q E hr h => ?_)
  · obtain ⟨fr, y, d, o, rfl, _⟩ := h
    rfl
  · obtain ⟨fr, y, d, o, rfl, hF, hy, k1, k2⟩ := h
    refine ⟨_, pss_cons (ps_if (pt_not (pt_val (pe_callB call_isiT (by rfl) T.isi (by decide +kernel) (pa_cons (pv 2) (pa_cons (pe_tup (pa_cons (pe_bltn (by rfl) T.list (by decide +kernel) (v := .ty "list") rfl) (pa_cons (pe_bltn (by rfl) T.tuple (by decide +kernel) (v := .ty "tuple") rfl) pa_nil))) pa_nil)))))
        (pss_one (ps_raise rfl (takes_of rfl rfl rfl rfl) (pmk_oex T.ex.oex T.iC T.tI GI (hr.mono (by decide)) bI .nil pass0 rfl T.mI (pa_cons pe_str pa_nil)))) pss_nil)
      (pss_one (ps_ret (MakeS.pe_makeSV M GF hr (passes_call (takes_of rfl rfl rfl rfl) fun _ _ _ _ h => h) (pv 0) (pa_cons (pv 1) (StX.pa_star (pv 2) pa_nil))))), ?_⟩
    refine rowV_rd (v := 2) rfl hy fun H1 s1 => ?_
    cases hy with
    | odd ty a b =>
      refine ⟨_, rfl, iteT ?_⟩
      exact raise_inv (fun Q' q => q) (by decide +kernel) s1 (k1 _ rfl)
    | seq q dd few =>
      rename_i ya yxs yrs
      refine ⟨_, rfl, iteF ?_⟩
      refine ⟨_, rfl, rfl, _, rfl, _, rfl, ya, yxs, rfl, ?_, ?_⟩
      · rcases q with q | q
        · exact .inr (SqL.ext q s1)
        · exact .inl (SqT.ext q s1)
      · intro x dx hx hdx hne
        rw [List.append_nil]
        exact mk_ch (hF.same s1) (Dq.sameAll s1 _ _ dd) few hx hdx hne (fun z e d' H' er => k1 z e d' H' (er.of s1)) fun e H' hC hs => ⟨rfl, k2 e x H' (s1.free hx) hC (s1.trans hs)⟩
/-- part_of of what is no leg -/
def spPo (K : PySem.W.Frag) (ks : Kinds) (CF CC CN : Addr) : Sp := fun vs H Q E => ∃ (o f : Addr) (d : FrD) (x : V), vs = [.ref o, x] ∧ ChO H o CC f ∧ FrIs ks CF H f d ∧ NotLeg K H x d ∧ ∃ pd, Dq K H x pd ∧ Smalls pd ∧ ∀ e H', H e = none → H' e = some (.xd [("name", x)]) → Same H H' → E (.ref CN) (some e) H'
theorem ok_chp {f CF CC CN fN : Addr} {fd : FuncData} {ks : Kinds} (F : Fun K "part_of" "Chain.part_of" sChP f fd) (cl : Cls K CC) (nF : NoAttr K CC "frame") (TI : MetN P w K mg base CX0 1 CF "__contains__" ["self", "x"] (spFIs K ks CF)) (T : NlT P w K mg base CN fN) : FnG P w K mg base (L2.CX P w) 3 f fd ["self", "name"] (spPo K ks CF CC CN) := by
  obtain ⟨fdN, GN, bN⟩ := T.init
  refine fun_gX F scChP (fun vs H Q E h => ?_) (fun cdv A outer s H vs Q E hg hr h => ?_)
  · obtain ⟨o, f, d, x, rfl, _⟩ := h
    rfl
  · obtain ⟨o, f, d, x, rfl, ⟨dx, B, h1⟩, hF, hn, pd, hpd, sm, k⟩ := h
    obtain ⟨dy, fs, ef⟩ := hF.ins
    refine ⟨_, pss_cons (ps_if (pt_cmpR (op_notInN TI (hr.mono (by decide))) (pv 1) (pe_fld (pv 0) rfl) (by rfl)) (pss_one (ps_raise rfl (takes_of rfl rfl rfl rfl) (pmk_e bL T.oex T.iC T.tI GN hg hr bN rfl T.mN (pa_cons (pv 1) pa_nil)))) pss_nil) pss_never, ?_⟩
    refine ⟨_, rfl, _, rfl, o, CC, dx, _, _, rfl, h1, cl, nF, chF_frame _ _, f, dy, fs, rfl, ef, f, d, x, rfl, hF, .inr ⟨hn, false, rfl, _, rfl, ?_⟩⟩
    refine iteT ?_
    exact raise_one (fun Q' q => ⟨_, rfl, q⟩) hpd sm (Same.refl H) (fun b hb => Dq.same (same_at hb) _ _ hpd) k
end
end Sj
namespace Sj
open PySem L2 Sup StK Own Shw Exg Grd KepE
open NdefX (NF NScope ncx envF startF nscope_by)
open C8 (pss_cut tCut)
/-! k66: _law_parts -/
abbrev sPar : Stmt := top 31
abbrev nPar : List Str := ["_law_pen_here", "_law_bare_here", "_law_left", "_law_found", "_law_k"]
theorem scPar : FnScope nPar ["_law_pen_here", "_law_bare_here"] (defScope sPar) := ⟨rfl, rfl, rfl, by decide +kernel, rfl, by decide +kernel, by decide +kernel⟩
theorem allN_set : ∀ {G : List (Addr × List Str)} {d : Nat} {r : Addr × List Str} (z : Str), G[d]? = some r → (allN (G.set d (r.1, r.2 ++ [z]))).Perm (allN G ++ [z])
  | [], _, _, _, h => by cases h
  | x :: G, 0, r, z, h => by
    obtain rfl := Option.some.inj h
    show ((x.2 ++ [z]) ++ allN G).Perm ((x.2 ++ allN G) ++ [z])
    rw [List.append_assoc, List.append_assoc]
    exact List.Perm.append_left _ List.perm_append_comm
  | x :: G, d + 1, r, z, h => by
    show (x.2 ++ allN (G.set d (r.1, r.2 ++ [z]))).Perm ((x.2 ++ allN G) ++ [z])
    rw [List.append_assoc]
    exact List.Perm.append_left _ (allN_set z h)
theorem fst_set : ∀ {G : List (Addr × List Str)} {d : Nat} {r : Addr × List Str} (w : List Str), G[d]? = some r → (G.set d (r.1, w)).map (·.1) = G.map (·.1)
  | [], _, _, _, h => by cases h
  | x :: G, 0, r, w, h => by
    obtain rfl := Option.some.inj h
    rfl
  | x :: G, d + 1, r, w, h => by
    show x.1 :: (G.set d (r.1, w)).map (·.1) = x.1 :: G.map (·.1)
    exact congrArg (x.1 :: ·) (fst_set w h)
theorem refs_set {G : List (Addr × List Str)} {d : Nat} {r : Addr × List Str} (w : List Str) (h : G[d]? = some r) : refsB (G.set d (r.1, w)) = refsB G := by
  have e : ∀ G : List (Addr × List Str), refsB G = (G.map (·.1)).map V.ref := fun G => by unfold refsB; rw [List.map_map]; rfl
  rw [e, e, fst_set w h]
theorem mem_set {G : List (Addr × List Str)} {d : Nat} {r : Addr × List Str} {w : List Str} (nd : (G.map (·.1)).Nodup) (h : G[d]? = some r) {x : Addr × List Str} (hx : x ∈ G.set d (r.1, w)) : x = (r.1, w) ∨ (x ∈ G ∧ x.1 ≠ r.1) := by
  obtain ⟨j, hj⟩ := List.mem_iff_getElem?.mp hx
  rw [List.getElem?_set] at hj
  by_cases e : d = j
  · rw [if_pos e] at hj
    split at hj
    · exact .inl (Option.some.inj hj).symm
    · cases hj
  · rw [if_neg e] at hj
    refine .inr ⟨List.mem_of_getElem? hj, fun q => e ?_⟩
    have h1 : (G.map (·.1))[d]? = some r.1 := by rw [List.getElem?_map, h]; rfl
    have h2 : (G.map (·.1))[j]? = some r.1 := by rw [List.getElem?_map, hj, ← q]; rfl
    exact (List.getElem?_inj (List.getElem?_eq_some_iff.mp h1).1 nd).mp (h1.trans h2.symm)
/-- rows of texts that are new since H, in a list -/
structure RowsN (H H' : Hp) (q : Addr) (G : List (Addr × List Str)) : Prop where
  at_ : H' q = some (.lst (refsB G))
  row : ∀ x ∈ G, H' x.1 = some (.lst (strv x.2)) ∧ H x.1 = none ∧ x.1 ≠ q
  nd : (G.map (·.1)).Nodup
  new : H q = none
  nm : ∀ x ∈ G, sysModules ≠ x.1
theorem RowsN.same {H H' H2 : Hp} {q : Addr} {G : List (Addr × List Str)} (h : RowsN H H' q G) (s : Same H' H2) : RowsN H H2 q G := ⟨s _ _ h.at_, fun x hx => ⟨s _ _ (h.row x hx).1, (h.row x hx).2⟩, h.nd, h.new, h.nm⟩
theorem RowsN.but {H H' H2 : Hp} {q p l : Addr} {cs : List Int} {n : Nat} {G : List (Addr × List Str)} (h : RowsN H H' q G) (hP : Pen H p l cs n) (s : But H' H2 p) : RowsN H H2 q G := ⟨s _ _ (nep hP h.new) h.at_, fun x hx => ⟨s _ _ (nep hP (h.row x hx).2.1) (h.row x hx).1, (h.row x hx).2⟩, h.nd, h.new, h.nm⟩
def spPar : Sp := fun vs H Q _ => ∃ (p l : Addr) (cs : List Int) (n : Nat) (b : Addr) (d : BareD), vs = [.ref p, .ref b] ∧ Pen H p l cs n ∧ BareAt H b d p ∧ d.ok ∧ n < 80000 ∧
  ∀ q G H', RowsN H H' q G → 1 ≤ G.length → G.length ≤ 8 → (allN G).Perm (d.ds ++ d.ls) → Pen H' p l cs (n + 40) → But H H' p → Q (.ref q) H'
def muL (a : Addr) (H : Hp) : Nat := match H a with
  | some (.lst xs) => xs.length
  | _ => 0
theorem muL_of {a : Addr} {H : Hp} {xs : List V} (h : H a = some (.lst xs)) : muL a H = xs.length := by
  unfold muL
  rw [h]
section
variable {P : Program} {w : World} {K : PySem.W.Frag} {mg : Str → Option Value} {base : Heap}
theorem ok_par {f : Addr} {fd : FuncData} (F : Fun K "_law_parts" "_law_parts" sPar f fd) (T : DwT P w K mg base) (mR : mg "range" = none) : FnOk P w K mg base CX0 2 f fd ["_law_pen_here", "_law_bare_here"] spPar := by
  obtain ⟨fD, fdD, mD, kD, bD, GD⟩ := T.draw
  refine F.ok scPar (fun vs H Q E h => ?_) (fun cdv A outer s H vs Q E hr h => ?_)
  · obtain ⟨p, l, cs, n, b, d, rfl, _⟩ := h
    rfl
  · obtain ⟨p, l, cs, n, b, d, rfl, hP, hB, ok, hn, k⟩ := h
    have hu := hu_of hr
    refine ⟨_, pss_cons (ps_par (i := 2) (j := 3) (by rfl) scPar.nd rfl rfl (by decide) rfl rfl (pa_cons (pe_callB cr_sortedS (by rfl) T.sorted (by decide +kernel) (pa_cons (pe_op op_cat (pe_dget hu (pv 1) pe_str (fun _ _ => rfl)) (pe_dget hu (pv 1) pe_str (fun _ _ => rfl))) pa_nil)) (pa_cons
        (pe_lc (te := tLstN tNil) (tt := tYes) (own := [("_law_k", 4)]) (g := gName 4) rfl scPar.nd (pi_range1 rfl mR (pa_cons (pe_op op_add pe_int (pe_call GD hr rfl mD kD bD .nil pass0 (pa_cons (pv 0) (pa_cons pe_int pa_nil)))) pa_nil))
        (blkOk_by (N := nPar) (sc := defScope sPar) (by decide +kernel)) (fun _ _ _ _ _ => pg_name (i := 4) scPar.nd rfl (Or.inl rfl)) (fun _ _ _ _ _ => pts_nil) (fun _ _ _ _ _ => pe_lstN pa_nil)) pa_nil)) (by rfl))
      (pss_cons (ps_while PassesOwn.never (pt_cmpR (op_neNil hr.units) (pv 2) (pe_lst pa_nil) (nomark _))
        (pss_one (ps_expr (pe_bm PySem.F.plainAttrs_list PySem.F.slot_list_append PySem.F.type_list_append mt_append (pe_ix ix_list (pv 3) (pe_call GD hr rfl mD kD bD .nil pass0 (pa_cons (pv 0) (pa_cons (pe_callB call_len_seq (by rfl) T.bi.len PySem.boot_len (pa_cons (pv 3) pa_nil)) pa_nil))) (fun _ _ => rfl))
          (pa_cons (pe_bm PySem.F.plainAttrs_list PySem.F.slot_list_pop PySem.F.type_list_pop mt_popAt (pv 2) (pa_cons (pe_call GD hr rfl mD kD bD .nil pass0 (pa_cons (pv 0) (pa_cons (pe_callB call_len_seq (by rfl) T.bi.len PySem.boot_len (pa_cons (pv 2) pa_nil)) pa_nil))) pa_nil)) pa_nil)))))
      (pss_one (ps_ret (pv 3)))), ?_⟩
    obtain ⟨dl, ll, rl, hb, hdl, hll, hrl, hdp, hlp, hrp⟩ := hB.ex
    have c1 : (strv d.ds).length = d.ds.length := List.length_map _
    have c2 : (strv d.ls).length = d.ls.length := List.length_map _
    have hle := ok.le
    refine ⟨_, rfl, b, _, rfl, DGet.k (k := Sum.inr "drivers") hb, _, rfl, b, _, rfl, DGet.k (k := Sum.inr "listeners") hb, dl, ll, _, _, rfl, rfl, hdl, hll, Nat.le_trans (show _ ≤ 16 by rw [c1, c2]; omega) (by decide), fun p2 hp2 => ?_⟩
    have s2 := same_at (o := .lst (strv d.ds ++ strv d.ls)) hp2
    refine ⟨p2, d.ds ++ d.ls, rfl, SqL.of ?_, by rw [List.length_append]; omega, fun zs tl hzp hso htl => ?_⟩
    · rw [upd_same]
      show _ = some (HO.lst (List.map _ _))
      rw [List.map_append]
      rfl
    have s3 := s2.trans (same_at (o := .lst (zs.map V.str)) htl)
    have htlH : H tl = none := s2.free htl
    obtain ⟨H3, e3⟩ : ∃ H3, H3 = upd (upd H p2 (.lst (strv d.ds ++ strv d.ls))) tl (.lst (zs.map V.str)) := ⟨_, rfl⟩
    have htl3 : H3 tl = some (.lst (strv zs)) := by rw [e3, upd_same]; rfl
    rw [← e3] at s3 ⊢
    have hz16 : zs.length ≤ 16 := by rw [hzp.length_eq, List.length_append]; exact hle
    have P3 := hP.same s3
    refine ⟨_, rfl, p, l, cs, n, 8, rfl, P3, by decide, by decide, by omega, fun d8 i8 g8 H4 d80 d88 i80 in8 hp4 b34 => ?_⟩
    have P4 := P3.next i80 in8 hp4 b34
    have tlp : tl ≠ p := nep hP htlH
    have htl4 := b34 _ _ tlp htl3
    have b04 : But H H4 p := (But.of s3).trans b34
    refine ⟨_, _, rfl, rfl, _, rfl, by omega, by omega, fun q hq => ?_⟩
    have hqH : H q = none := by
      cases e : H q with
      | none => rfl
      | some o =>
        by_cases qp : q = p
        · obtain ⟨i', g', w1, _⟩ := P4
          rw [← qp, hq] at w1
          cases w1
        · rw [b04 _ _ qp e] at hq
          cases hq
    have hqp : q ≠ p := nep hP hqH
    have en : ((1 : Int) + d8).toNat = d8.toNat + 1 := by omega
    rw [en]
    have free4 : ∀ {r : Addr} {H' : Hp}, But H H' p → r ≠ p → H' r = none → H r = none := fun {r H'} bb rp hr0 => by
      cases e : H r with
      | none => rfl
      | some o => rw [bb _ _ rp e] at hr0; cases hr0
    refine lc_range (n := d8.toNat + 1) (fun i H' => ∃ G : List (Addr × List Str), G.length = i ∧ allN G = [] ∧ H' q = some (.lst (refsB G)) ∧ (∀ x ∈ G, (H' x.1 = some (.lst (strv x.2)) ∧ H x.1 = none ∧ x.1 ≠ q) ∧ x.1 ≠ tl ∧ sysModules ≠ x.1) ∧ (G.map (·.1)).Nodup ∧ Pen H' p l cs (n + 1) ∧ But H H' p ∧ H' tl = some (.lst (strv zs))) ?_ ?_ ?_
    · have s5 := same_at (o := .lst []) hq
      exact ⟨[], rfl, rfl, upd_same, (fun x hx => (by cases hx)), List.nodup_nil, P4.same s5, b04.same s5, s5 _ _ htl4⟩
    · rintro i H5 hi ⟨G, hGl, hGe, hq5, hrow, hnd, P5, b05, htl5⟩
      refine ⟨rfl, ?_⟩
      unfold tYes
      dsimp only
      rw [if_pos rfl]
      refine ⟨by show 0 ≤ sizeLine; decide, fun r hr0 hnr => ?_⟩
      have s6 := same_at (o := .lst []) hr0
      have rq : r ≠ q := fun e => by rw [e, hq5] at hr0; cases hr0
      have rp : r ≠ p := nep P5 hr0
      have rtl : r ≠ tl := fun e => by rw [e, htl5] at hr0; cases hr0
      have tlq : tl ≠ q := fun e => by rw [e, hq] at htl4; cases htl4
      have off : ∀ {c : Addr} {o : HO}, c ≠ q → upd H5 r (.lst []) c = some o → upd (upd H5 r (.lst [])) q (.lst (refsB G ++ [.ref r])) c = some o := fun {c o} h e => by rw [upd_ne h]; exact e
      refine ⟨refsB G, s6 _ _ hq5, ?_, G ++ [(r, [])], by rw [List.length_append, hGl]; rfl, ?_, ?_, fun x hx => ?_, ?_, ?_, ?_, ?_⟩
      · rw [refsB_len, hGl]
        exact Nat.lt_of_lt_of_le (show i < 9 by omega) (by decide)
      · unfold allN at hGe ⊢
        rw [List.flatMap_append, hGe]
        rfl
      · rw [upd_same]
        unfold refsB
        rw [List.map_append]
        rfl
      · rcases List.mem_append.mp hx with hx | hx
        · obtain ⟨⟨h1, h2, h3⟩, h4⟩ := hrow x hx
          exact ⟨⟨off h3 (s6 _ _ h1), h2, h3⟩, h4⟩
        · obtain rfl := List.mem_singleton.mp hx
          exact ⟨⟨off rq upd_same, free4 b05 rp hr0, rq⟩, rtl, hnr⟩
      · rw [List.map_append, List.nodup_append]
        refine ⟨hnd, by simp, fun a ha b hb e => ?_⟩
        obtain ⟨x, hx, rfl⟩ := List.mem_map.mp ha
        have : b = r := by simpa using hb
        rw [this] at e
        have := (hrow x hx).1.1
        rw [e, hr0] at this
        cases this
      · obtain ⟨i', g', w1, w2, w3⟩ := P5.same s6
        have lq : l ≠ q := fun z => by
          obtain ⟨_, _, _, v2, _⟩ := hP
          rw [z, hqH] at v2
          cases v2
        exact ⟨i', g', by rw [upd_ne (Ne.symm hqp)]; exact w1, by rw [upd_ne lq]; exact w2, w3⟩
      · intro c o hc e
        have cq : c ≠ q := fun z => by rw [z, hqH] at e; cases e
        exact off cq (s6 _ _ (b05 _ _ hc e))
      · exact off tlq (s6 _ _ htl5)
    rintro H5 ⟨G, hGl, hGe, hq5, hrow, hnd, P5, b05, htl5⟩
    have tlq : tl ≠ q := fun e => by rw [e, hq] at htl4; cases htl4
    have lH : ∃ o, H l = some o := by
      obtain ⟨_, _, _, v2, _⟩ := hP
      exact ⟨_, v2⟩
    refine ⟨_, _, rfl, ?_⟩
    refine while_by (fun σ H' => (∃ o4, σ = ([some (.ref p), some (.ref b), some (.ref tl), some (.ref q), o4] : List (Option V))) ∧ ∃ (G : List (Addr × List Str)) (rest : List Str), G.length = d8.toNat + 1 ∧ rest.length ≤ zs.length ∧ (allN G ++ rest).Perm zs ∧ RowsN H H' q G ∧ (∀ x ∈ G, x.1 ≠ tl) ∧ Pen H' p l cs (n + 1 + 2 * (zs.length - rest.length)) ∧ But H H' p ∧ H' tl = some (.lst (strv rest)))
      (fun σ H' => muL tl H') ⟨⟨_, rfl⟩, G, zs, hGl, Nat.le_refl _, by rw [hGe]; exact .refl _, ⟨hq5, fun x hx => (hrow x hx).1, hnd, hqH, fun x hx => (hrow x hx).2.2⟩, fun x hx => (hrow x hx).2.1, P5.mono (by omega), b05, htl5⟩ ?_ ?_
    · rintro σ H6 ⟨⟨o4, rfl⟩, G, rest, hGl, hrl, hper, hR, htx, P6, b06, htl6⟩
      refine ⟨_, rfl, by show 0 ≤ sizeLine; decide, fun e he => ?_⟩
      have s7 := same_at (o := .lst []) he
      refine ⟨tl, e, strv rest, rfl, rfl, s7 _ _ htl6, upd_same, _, rfl, ?_⟩
      have R7 := hR.same s7
      have P7 := P6.same s7
      have b07 := b06.same s7
      have htl7 := s7 _ _ htl6
      obtain ⟨H7, e7⟩ : ∃ H7, H7 = upd H6 e (.lst []) := ⟨_, rfl⟩
      rw [← e7] at R7 P7 b07 htl7 ⊢
      by_cases hre : rest = []
      · subst hre
        refine iteF ⟨_, rfl, k q G H7 R7 (by omega) (by omega) ?_ (P7.mono (by simp only [List.length_nil]; omega)) b07⟩
        rw [List.append_nil] at hper
        exact hper.trans hzp
      · have hpos : 0 < rest.length := List.length_pos_iff.mpr hre
        have crl : (strv rest).length = rest.length := List.length_map _
        have hmu : muL tl H6 = rest.length := by rw [muL_of htl6, crl]
        have hie : (!(strv rest).isEmpty) = true := by
          cases rest with
          | nil => exact absurd rfl hre
          | cons _ _ => rfl
        rw [hie]
        refine iteT ?_
        -- the row
        refine ⟨_, rfl, _, rfl, _, rfl, q, _, rfl, .inl (SqL.of R7.at_), p, l, cs, _, _, rfl, P7, by rw [refsB_len, hGl]; omega, by rw [refsB_len, hGl]; omega, by omega, fun da ia ga H8 da0 da1 ia0 in8 hp8 b78 => ?_⟩
        rw [refsB_len] at da1
        have P8 := P7.next ia0 in8 hp8 b78
        have R8 := R7.but hP b78
        have htl8 := b78 _ _ tlp htl7
        have b08 := b07.trans b78
        have hda : da.toNat < G.length := by omega
        have eda : da = ((da.toNat : Nat) : Int) := by omega
        have eG : G[da.toNat]? = some G[da.toNat] := List.getElem?_eq_getElem hda
        obtain ⟨r, er8⟩ : ∃ r, r = G[da.toNat] := ⟨_, rfl⟩
        rw [← er8] at eG
        have hrm : r ∈ G := List.mem_of_getElem? eG
        have egr : (refsB G)[da.toNat]? = some (.ref r.1) := by unfold refsB; rw [List.getElem?_map, eG]; rfl
        obtain ⟨r1, r2, r3⟩ := R8.row r hrm
        have rtl := htx r hrm
        refine ⟨q, _, da, _, rfl, rfl, SqL.of R8.at_, by rw [eda]; exact atI_nat egr, ?_⟩
        refine ⟨.inl ⟨rfl, _, SqL.of r1⟩, ?_⟩
        -- what is popped
        refine ⟨_, rfl, .inl ⟨rfl, _, SqL.of htl8⟩, _, rfl, _, rfl, tl, _, rfl, .inl (SqL.of htl8), p, l, cs, _, _, rfl, P8, by rw [crl]; omega, by rw [crl]; omega, by omega, fun dd id gd H9 dd0 dd1 id0 in9 hp9 b89 => ?_⟩
        rw [crl] at dd1
        have P9 := P8.next id0 in9 hp9 b89
        have R9 := R8.but hP b89
        have htl9 := b89 _ _ tlp htl8
        have b09 := b08.trans b89
        have hdd : dd.toNat < rest.length := by omega
        have ex : (strv rest)[dd.toNat]? = some (.str rest[dd.toNat]) := by show (rest.map V.str)[_]? = _; rw [List.getElem?_map, List.getElem?_eq_getElem hdd]; rfl
        obtain ⟨z, ez⟩ : ∃ z, z = rest[dd.toNat] := ⟨_, rfl⟩
        rw [← ez] at ex
        obtain ⟨q1, q2, q3⟩ := R9.row r hrm
        refine ⟨tl, strv rest, dd, dd.toNat, .str z, rfl, rfl, htl9, by omega, by omega, seqIndex_of dd0 (by rw [crl]; omega), ex, r.1, _, _, rfl, rfl, by rw [upd_ne rtl]; exact q1, ?_, ?_⟩
        · show (List.map _ r.2).length < _
          rw [List.length_map]
          have h1 : r.2.length ≤ (allN G).length := by
            obtain ⟨A, B, eAB⟩ := List.append_of_mem hrm
            unfold allN
            rw [eAB, List.flatMap_append, List.flatMap_cons, List.length_append, List.length_append]
            omega
          have h2 := hper.length_eq
          rw [List.length_append] at h2
          exact Nat.lt_of_le_of_lt (show _ ≤ 16 by omega) (by decide)
        have hlen' : (rest.eraseIdx dd.toNat).length = rest.length - 1 := by rw [List.length_eraseIdx, if_pos hdd]
        obtain ⟨HA, eA⟩ : ∃ HA, HA = upd (upd H9 tl (.lst ((strv rest).eraseIdx dd.toNat))) r.1 (.lst (strv r.2 ++ [.str z])) := ⟨_, rfl⟩
        have e1 : (strv rest).eraseIdx dd.toNat = strv (rest.eraseIdx dd.toNat) := map_erase V.str rest dd.toNat
        have hA : ∀ c, c ≠ tl → c ≠ r.1 → HA c = H9 c := fun c h1 h2 => by rw [eA, upd_ne h2, upd_ne h1]
        have hAr : HA r.1 = some (.lst (strv (r.2 ++ [z]))) := by
          rw [eA, upd_same]
          unfold strv
          rw [List.map_append]
          rfl
        have hAt : HA tl = some (.lst (strv (rest.eraseIdx dd.toNat))) := by rw [eA, upd_ne (Ne.symm rtl), upd_same, e1]
        rw [← eA]
        have rp : r.1 ≠ p := nep hP q2
        have lnew : ∀ {c : Addr}, H c = none → l ≠ c := fun {c} hc e => by
          obtain ⟨o, eo⟩ := lH
          rw [e, hc] at eo
          cases eo
        refine ⟨⟨⟨_, rfl⟩, G.set da.toNat (r.1, r.2 ++ [z]), rest.eraseIdx dd.toNat, by rw [List.length_set]; exact hGl, by omega, ?_, ⟨?_, fun x hx => ?_, by rw [fst_set _ eG]; exact R9.nd, hqH, fun x hx => by
          rcases mem_set R9.nd eG hx with rfl | ⟨hx, hxr⟩
          · exact R9.nm r hrm
          · exact R9.nm x hx⟩, fun x hx => ?_, ?_, fun c o hc e => ?_, hAt⟩, ?_⟩
        · refine ((allN_set z eG).append_right _).trans ?_
          rw [List.append_assoc]
          refine List.Perm.trans ?_ hper
          refine List.Perm.append_left _ ?_
          rw [ez]
          exact perm_erase rest dd.toNat hdd
        · rw [refs_set _ eG, hA q (Ne.symm tlq) (Ne.symm q3)]
          exact R9.at_
        · rcases mem_set R9.nd eG hx with rfl | ⟨hx, hxr⟩
          · exact ⟨hAr, q2, q3⟩
          · obtain ⟨x1, x2, x3⟩ := R9.row x hx
            exact ⟨by rw [hA x.1 (htx x hx) hxr]; exact x1, x2, x3⟩
        · rcases mem_set R9.nd eG hx with rfl | ⟨hx, hxr⟩
          · exact rtl
          · exact htx x hx
        · obtain ⟨i', g', w1, w2, w3, w4, w5⟩ := P9
          exact ⟨i', g', by rw [hA p (Ne.symm tlp) (Ne.symm rp)]; exact w1, by rw [hA l (lnew htlH) (lnew q2)]; exact w2, w3, w4, by omega⟩
        · rw [hA c (ne_of_none e htlH) (ne_of_none e q2)]
          exact b09 _ _ hc e
        · show muL tl HA < muL tl H6
          rw [hmu, muL_of hAt]
          have : (strv (rest.eraseIdx dd.toNat)).length = (rest.eraseIdx dd.toNat).length := List.length_map _
          omega
    · rintro σ H' R R' m ⟨x, hx, hs, ff⟩
      refine ⟨x, hx, hs, fun c hc => ?_⟩
      obtain ⟨a, b, xs, h1, h2, h3, h4, kk, e, qq⟩ := ff c hc
      exact ⟨a, b, xs, h1, h2, h3, h4, kk, e, m _ _ qq⟩
end
end Sj
/-! repr of data without dicts, where nothing is being shown. -/
namespace ShN
open PySem PySem.Spec PyProof.Rows L2
structure FitN (d : PyData) : Prop where
  sh : PyData.showable d = true
  dp : d.depth ≤ 60
  sz : d.shown.length ≤ sizeLine
  nd : d.hasDict = false
def rShN (K : PySem.W.Frag) : List V → Hp → VK → Prop := fun xs H Q => ∃ x d, xs = [x] ∧ Dp K H x d ∧ FitN d ∧ Q (.str d.shown) H
theorem call_shN {X : Cx} (hg : X.A.guards = some []) (hu : X.A.units + 64 < cLine) : CallR X (.builtin "repr") (rShN X.K) := by
  intro pins s σ H xs us Q I r h
  obtain ⟨x, d, rfl, hd, ft, q⟩ := h
  obtain ⟨u, rfl, ru⟩ : ∃ u, us = [u] ∧ RelV x u := by
    cases r with
    | cons a r =>
      cases r
      exact ⟨_, rfl, a⟩
  obtain ⟨as, rd⟩ := Dp.reads I d x u hd ru
  cases hd with
  | non => cases ru; exact PySem.P.repr_of_none ⟨.str _, H, I.tok _, ⟨_, rfl⟩, q⟩
  | bl b => cases ru; exact PySem.P.repr_of_bool ⟨.str _, H, I.tok _, ⟨_, rfl⟩, q⟩
  | int i => obtain ⟨t, rfl⟩ := ru; exact PySem.P.repr_of_int (of_decide_eq_true ft.sh) ⟨.str _, H, I.tok _, ⟨_, rfl⟩, q⟩
  | str y => obtain ⟨t, rfl⟩ := ru; exact PySem.P.repr_of_str ⟨.str _, H, I.tok _, ⟨_, rfl⟩, q⟩ ft.sz
  | lst q1 q2 => cases ru; exact PySem.repr_of_reads' rd ft.sh (PyData.noDict_hsm ft.nd) hg (by have := ft.dp; omega) (fun _ _ e => e) (fun h' u tk hk => ⟨.str _, H, I.kept (t' := tk) hk, ⟨_, rfl⟩, q⟩) ft.sz
  | tup q1 q2 => cases ru; exact PySem.repr_of_reads' rd ft.sh (PyData.noDict_hsm ft.nd) hg (by have := ft.dp; omega) (fun _ _ e => e) (fun h' u tk hk => ⟨.str _, H, I.kept (t' := tk) hk, ⟨_, rfl⟩, q⟩) ft.sz
end ShN
namespace Sj
open PySem L2 Sup
/-! data that can be shown, by its parts -/
structure Sm (k n : Nat) (d : PyData) : Prop where
  sh : PyData.showable d = true
  ls : PyData.leavesShort 9 d = true
  nd : d.hasDict = false
  dp : d.depth ≤ k
  bk : d.bulk ≤ n
theorem Sm.mono {k n k' n' : Nat} {d : PyData} (h : Sm k n d) (hk : k ≤ k') (hn : n ≤ n') : Sm k' n' d := ⟨h.sh, h.ls, h.nd, Nat.le_trans h.dp hk, Nat.le_trans h.bk hn⟩
structure SmA (k n : Nat) (ds : List PyData) : Prop where
  sh : PyData.showableAll ds = true
  ls : PyData.leavesShortAll 9 ds = true
  nd : PyData.hasDictAll ds = false
  dp : PyData.depthAll ds ≤ k
  bk : PyData.bulkAll ds ≤ n
theorem SmA.nil {k : Nat} : SmA k 0 [] := ⟨rfl, rfl, rfl, Nat.zero_le _, Nat.le_refl _⟩
theorem SmA.cons {k n m : Nat} {d : PyData} {ds : List PyData} (h : Sm k n d) (t : SmA k m ds) : SmA k (n + 1 + m) (d :: ds) :=
  ⟨Bool.and_eq_true_iff.mpr ⟨h.sh, t.sh⟩, Bool.and_eq_true_iff.mpr ⟨h.ls, t.ls⟩, Bool.or_eq_false_iff.mpr ⟨h.nd, t.nd⟩, Nat.max_le.mpr ⟨h.dp, t.dp⟩, by
    show d.bulk + 1 + PyData.bulkAll ds ≤ _
    have := h.bk
    have := t.bk
    omega⟩
theorem SmA.all {k n : Nat} : ∀ {ds : List PyData}, (∀ d ∈ ds, Sm k n d) → SmA k (ds.length * (n + 1)) ds
  | [], _ => ⟨rfl, rfl, rfl, Nat.zero_le _, Nat.zero_le _⟩
  | d :: ds, h => by
    have t := SmA.cons (h d List.mem_cons_self) (SmA.all (k := k) (n := n) (ds := ds) fun x hx => h x (List.mem_cons_of_mem _ hx))
    refine ⟨t.sh, t.ls, t.nd, t.dp, Nat.le_trans t.bk ?_⟩
    rw [List.length_cons, Nat.succ_mul]
    omega
theorem Sm.tup {k n : Nat} {ds : List PyData} (h : SmA k n ds) : Sm (k + 1) n (.tuple ds) := ⟨h.sh, h.ls, h.nd, Nat.succ_le_succ h.dp, h.bk⟩
theorem Sm.lst {k n : Nat} {ds : List PyData} (h : SmA k n ds) : Sm (k + 1) n (.list ds) := ⟨h.sh, h.ls, h.nd, Nat.succ_le_succ h.dp, h.bk⟩
theorem Sm.fit {k n : Nat} {d : PyData} (h : Sm k n d) (hk : k ≤ 60) (hn : n ≤ 1000000) : ShN.FitN d := by
  refine ⟨h.sh, Nat.le_trans h.dp hk, ?_, h.nd⟩
  have b := PyData.shown_le_bulk 9 (by decide) d h.ls
  have := h.bk
  rw [sizeLine_eq]
  omega
theorem Sm.bool {k n : Nat} (b : Bool) : Sm k n (.bool b) := ⟨rfl, rfl, rfl, Nat.zero_le _, Nat.zero_le _⟩
theorem Sm.top {k n : Nat} {t : Int} (h1 : 1 ≤ t) (h3 : t ≤ 3) : Sm k n (.int t) := by
  obtain rfl | rfl | rfl : t = 1 ∨ t = 2 ∨ t = 3 := by omega
  all_goals exact ⟨by decide +kernel, by decide +kernel, by decide +kernel, Nat.zero_le _, Nat.zero_le _⟩
/-- a short name -/
def shortZ (z : Str) : Bool := PyData.showable (.str z) && PyData.leavesShort 9 (.str z) && decide (PyData.bulk (.str z) ≤ 8)
theorem Sm.str {k : Nat} {z : Str} (h : shortZ z = true) : Sm k 8 (.str z) := by
  unfold shortZ at h
  rw [Bool.and_eq_true, Bool.and_eq_true, decide_eq_true_eq] at h
  exact ⟨h.1.1, h.1.2, rfl, Nat.zero_le _, h.2⟩
/-- a tuple of short names -/
theorem Sm.names {zs : List Str} (h : ∀ z ∈ zs, shortZ z = true) (hl : zs.length ≤ 50) : Sm 1 450 (.tuple (zs.map PyData.str)) := by
  have a := SmA.all (k := 0) (n := 8) (ds := zs.map PyData.str) fun d hd => by
    obtain ⟨z, hz, rfl⟩ := List.mem_map.mp hd
    exact Sm.str (h z hz)
  rw [List.length_map] at a
  exact (Sm.tup a).mono (Nat.le_refl _) (by omega)
end Sj
namespace Sj
open PySem L2 Sup StK Own Shw Exg Grd KepE
open NdefX (NF NScope ncx envF startF nscope_by)
open C8 (pss_cut tCut)
/-! k66: _law_bent -/
/-- all but the pen -/
def off (p : Addr) (H : Hp) : Hp := fun a => if a = p then none else H a
theorem off_up {p : Addr} {H H' : Hp} (s : Same H H') : Same (off p H) (off p H') := fun a o e => by
  unfold off at e ⊢
  split at e
  · cases e
  · rename_i n
    rw [if_neg n]
    exact s _ _ e
theorem off_but {p : Addr} {H H' : Hp} (b : But H H' p) : Same (off p H) (off p H') := fun a o e => by
  unfold off at e ⊢
  split at e
  · cases e
  · rename_i n
    rw [if_neg n]
    exact b _ _ n e
theorem off_in {p : Addr} {H : Hp} : Same (off p H) H := fun a o e => by
  unfold off at e
  split at e
  · cases e
  · exact e
theorem off_at {p a : Addr} {H : Hp} {o : HO} (n : a ≠ p) (h : H a = some o) : off p H a = some o := by
  unfold off
  rw [if_neg n]
  exact h
theorem cut_hiV (xs : List V) (k : Nat) : cutV xs none (some (k : Int)) = xs.take k := by
  unfold cutV
  rw [HT.sIx_none, HT.sIx_nat, Nat.sub_zero, List.drop_zero]
  rcases Nat.le_total k xs.length with h | h
  · rw [Nat.min_eq_left h]
  · rw [Nat.min_eq_right h, List.take_length, List.take_of_length_le h]
theorem cut_loV (xs : List V) (k : Nat) : cutV xs (some (k : Int)) none = xs.drop k := by
  unfold cutV
  rw [HT.sIx_none, HT.sIx_nat]
  rcases Nat.le_total k xs.length with h | h
  · rw [Nat.min_eq_left h, List.take_of_length_le (by rw [List.length_drop]; omega)]
  · rw [Nat.min_eq_right h, List.drop_length, List.drop_of_length_le h, List.take_nil]
theorem cut_one (xs : List V) (k : Nat) : cutV xs (some (k : Int)) (some ((k + 1 : Nat) : Int)) = (xs.drop k).take 1 := by
  unfold cutV
  rw [HT.sIx_nat, HT.sIx_nat]
  rcases Nat.lt_or_ge k xs.length with h | h
  · rw [Nat.min_eq_left (by omega), Nat.min_eq_left (by omega), Nat.add_sub_cancel_left]
  · rw [Nat.min_eq_right h, Nat.min_eq_right (by omega), Nat.sub_self, List.drop_of_length_le h]
    rfl
theorem dqa_take {K : PySem.W.Frag} {H : Hp} : ∀ (k : Nat) {xs : List V} {ds : List PyData}, DqAll K H xs ds → DqAll K H (xs.take k) (ds.take k)
  | 0, _, _, _ => .nil
  | k + 1, _, _, .nil => .nil
  | k + 1, _, _, .cons h t => .cons h (dqa_take k t)
theorem dqa_drop {K : PySem.W.Frag} {H : Hp} : ∀ (k : Nat) {xs : List V} {ds : List PyData}, DqAll K H xs ds → DqAll K H (xs.drop k) (ds.drop k)
  | 0, _, _, h => h
  | k + 1, _, _, .nil => .nil
  | k + 1, _, _, .cons h t => dqa_drop k t
/-- a small thing -/
def lf (d : PyData) : Bool := PyData.showable d && PyData.leavesShort 9 d && decide (d.depth ≤ 2) && decide (d.bulk ≤ 20)
def RowOk (M : Nat) (r : PyData) : Prop := (∃ es, r = .list es ∧ es.length ≤ M ∧ ∀ e ∈ es, lf e = true) ∨ (lf r = true ∧ isSeq r = none)
structure SzR (N M : Nat) (rs : List PyData) : Prop where
  len : rs.length ≤ N
  row : ∀ r ∈ rs, RowOk M r
theorem RowOk.mono {M M' : Nat} {r : PyData} (h : RowOk M r) (l : M ≤ M') : RowOk M' r := h.imp (fun ⟨es, e, h1, h2⟩ => ⟨es, e, Nat.le_trans h1 l, h2⟩) id
theorem SzR.few {N M : Nat} {rs : List PyData} (h : SzR N M rs) (hN : N ≤ 40) (hM : M ≤ 20) : Few rs := by
  refine ⟨by have := h.len; omega, ?_⟩
  have go : ∀ rs : List PyData, (∀ r ∈ rs, RowOk M r) → (wholeD rs).length ≤ rs.length * 20 := by
    intro rs
    induction rs with
    | nil => exact fun _ => Nat.le_refl _
    | cons r rs ih =>
      intro hr
      have h1 := ih fun x hx => hr x (List.mem_cons_of_mem _ hx)
      have h2 : (itemsD r).length ≤ 20 := by
        rcases hr r List.mem_cons_self with ⟨es, rfl, he, _⟩ | ⟨_, he⟩
        · show es.length ≤ 20
          omega
        · unfold itemsD
          rw [he]
          exact Nat.zero_le _
      show (itemsD r ++ wholeD rs).length ≤ (rs.length + 1) * 20
      rw [List.length_append]
      omega
  have := go rs h.row
  have := h.len
  omega
/-- what stands at an address among rows is a list, or an empty dict -/
def LsA (H : Hp) (xs : List V) : Prop := ∀ y, V.ref y ∈ xs → (∃ zs, H y = some (.lst zs)) ∨ ∃ ds, H y = some (.dK ds)
theorem LsA.same {H H' : Hp} {xs : List V} (h : LsA H xs) (s : Same H H') : LsA H' xs := fun y hy => (h y hy).imp (fun ⟨_, e⟩ => ⟨_, s _ _ e⟩) (fun ⟨_, e⟩ => ⟨_, s _ _ e⟩)
theorem LsA.nil {H : Hp} : LsA H [] := fun _ h => by cases h
theorem LsA.app {H : Hp} {xs ys : List V} (h : LsA H xs) (h' : LsA H ys) : LsA H (xs ++ ys) := fun y hy => (List.mem_append.mp hy).elim (h y) (h' y)
theorem LsA.take {H : Hp} {xs : List V} (k : Nat) (h : LsA H xs) : LsA H (xs.take k) := fun y hy => h y (List.mem_of_mem_take hy)
theorem LsA.drop {H : Hp} {xs : List V} (k : Nat) (h : LsA H xs) : LsA H (xs.drop k) := fun y hy => h y (List.mem_of_mem_drop hy)
theorem LsA.one {H : Hp} {y : Addr} {zs : List V} (h : H y = some (.lst zs)) : LsA H [V.ref y] := fun z hz => by
  have e := List.mem_singleton.mp hz
  injection e with e
  subst e
  exact .inl ⟨_, h⟩
section
variable {X : Cx}
/-- a list and a list, the first as it is read -/
def rCatA : R2 := fun x y H Q => ∃ l b xs zs, x = .ref l ∧ y = .ref b ∧ SqL X.K H l xs ∧ ((∃ us, H l = some (.lst us)) ∨ ∃ ds, H l = some (.dK ds)) ∧ H b = some (.lst zs) ∧ xs.length + zs.length ≤ sizeLine ∧ ∀ p, H p = none → sysModules ≠ p → Q (.ref p) (upd H p (.lst (xs ++ zs)))
theorem op_catA : OpR X (binaryOp .Add) (rCatA (X := X)) := by
  intro pins s σ H x y v u Q I rx ry h
  obtain ⟨l, b, xs, zs, rfl, rfl, hL, hH, hB, hz, q⟩ := h
  cases rx; cases ry
  obtain ⟨_, its2, n2, r2, hl2, e2⟩ := I.lstM hB
  obtain ⟨its, r, ⟨o, n, g, hc, hd, hdt⟩, hz1⟩ := I.list hL
  have e : PySem.IsL s.heap l its.toArray n := by
    rcases hH with ⟨us, hH⟩ | ⟨ds, hH⟩
    · obtain ⟨_, jts, m, r', _, e'⟩ := I.lstM hH
      rw [e'] at g
      obtain rfl := Option.some.inj g
      dsimp only at hdt
      injection hdt with h1 h2
      rw [h1, h2] at e'
      exact e'
    · exfalso
      obtain ⟨_, _, vs, _, hD⟩ := I.hok l _ hH
      obtain ⟨o', es, ep, g', hx, hd', _⟩ := hD
      rw [g'] at g
      obtain rfl := Option.some.inj g
      rw [hd'] at hdt
      cases hdt
  refine PySem.P.add_list e e2 ?_ (by rw [List.size_toArray, List.size_toArray, ← r.length, ← hl2]; exact hz)
  rw [show its.toArray ++ its2.toArray = (its ++ its2).toArray from by simp]
  exact ⟨.ref _, _, I.lnew (t' := s.toks) (r.append r2) (by rw [List.length_append]; exact hz), rfl, q _ I.fresh (big I)⟩
end
/-- rows in a list that is not the pen's -/
def RowsAt (K : PySem.W.Frag) (H : Hp) (p a : Addr) (rs : List PyData) : Prop := ∃ xs, H a = some (.lst xs) ∧ a ≠ p ∧ DqAll K (off p H) xs rs ∧ LsA (off p H) xs ∧ (sysModules ≠ a ∨ ∀ r ∈ rs, r.hasDict = false)
theorem RowsAt.but {K : PySem.W.Frag} {H H' : Hp} {p a : Addr} {rs : List PyData} (h : RowsAt K H p a rs) (b : But H H' p) : RowsAt K H' p a rs := by
  obtain ⟨xs, h1, h2, h3, h4, h5⟩ := h
  exact ⟨xs, b _ _ h2 h1, h2, Dq.sameAll (off_but b) _ _ h3, h4.same (off_but b), h5⟩
theorem RowsAt.same {K : PySem.W.Frag} {H H' : Hp} {p a : Addr} {rs : List PyData} (h : RowsAt K H p a rs) (s : Same H H') : RowsAt K H' p a rs := h.but (.of s)
abbrev sBen : Stmt := top 32
abbrev nBen : List Str := ["_law_pen_here", "_law_rows", "_law_way", "_law_at", "_law_odd", "_law_row", "_law_other", "_law_spot"]
theorem scBen : FnScope nBen ["_law_pen_here", "_law_rows"] (defScope sBen) := ⟨rfl, rfl, rfl, by decide +kernel, rfl, by decide +kernel, by decide +kernel⟩
def spBen (K : PySem.W.Frag) : Sp := fun vs H Q _ => ∃ (p l : Addr) (cs : List Int) (n : Nat) (a : Addr) (N M : Nat) (rs : List PyData), vs = [.ref p, .ref a] ∧ Pen H p l cs n ∧ RowsAt K H p a rs ∧ SzR N M rs ∧ N ≤ 30 ∧ M ≤ 19 ∧ n < 80000 ∧
  ∀ a' rs' H', RowsAt K H' p a' rs' → SzR (N + 9) (M + 1) rs' → Pen H' p l cs (n + 6) → But H H' p → Q (.ref a') H'
structure BeT (P : Program) (w : World) (K : PySem.W.Frag) (mg : Str → Option Value) (base : Heap) : Prop where
  bi : Bi mg
  draw : ∃ f fd, mg "_law_draw" = some (.ref f) ∧ PySem.W.keepIn K (.ref f) = true ∧ Binds K fd ["_law_pen_here", "_law_many"] [] ∧ FnOk P w K mg base CX0 1 f fd ["_law_pen_here", "_law_many"] spDraw
  pick : ∃ f fd, mg "_law_pick" = some (.ref f) ∧ PySem.W.keepIn K (.ref f) = true ∧ Binds K fd ["_law_pen_here", "_law_some"] [] ∧ FnOk P w K mg base CX0 2 f fd ["_law_pen_here", "_law_some"] spPick
  isi : mg "isinstance" = none
  list : mg "list" = none
/-- z + xs[j:], z a list: what is behind it -/
theorem tail_rd {K : PySem.W.Frag} {σ : L2.St} {H : Hp} {z a : Addr} {ys xs : List V} {j v : Nat} {tl : TE} {Q : VK} (hv : σ[v]? = some (some (.ref a))) (hz : H z = some (.lst ys)) (ha : H a = some (.lst xs)) (hl : ys.length + xs.length ≤ 2000)
    (rtl : ∀ H' (Q' : VK), Q' (.int (j : Nat)) H' → tl σ H' Q') (k : ∀ q H', Same H H' → H q = none → sysModules ≠ q → H' q = some (.lst (ys ++ xs.drop j)) → Q (.ref q) H') :
    tSl (rSlL K) (tVar v) (tPart tl) tNoPart σ H fun w H4 => rCatN (.ref z) w H4 Q := by
  refine ⟨_, hv, rtl _ _ ⟨_, rfl, a, xs, rfl, SqL.of ha, fun q3 hq3 => ?_⟩⟩
  have s1 := same_at (o := .lst (cutV xs (some ((j : Nat) : Int)) none)) hq3
  refine ⟨z, q3, ys, _, rfl, rfl, s1 _ _ hz, upd_same, ?_, fun q4 hq4 hn => ?_⟩
  · have := cutV_length xs (some ((j : Nat) : Int)) none
    exact Nat.le_trans (show _ ≤ 2000 by omega) (by decide)
  · refine k q4 _ (s1.trans (same_at hq4)) (s1.free hq4) hn ?_
    rw [upd_same, cut_loV]
/-- the odd things -/
def oddV (l1 t1 d1 : Addr) : List V := [.non, .int 5, .bl true, .str "nobody", .str "ground", .ref l1, .ref t1, .ref d1, .str "A", .str "", .str "power"]
theorem odd_data {K : PySem.W.Frag} {H : Hp} {p l1 t1 d1 : Addr} {x : V} (hx : x ∈ oddV l1 t1 d1) (h1 : H l1 = some (.lst [.str "a"])) (n1 : l1 ≠ p) (m1 : sysModules ≠ l1) (h2 : H t1 = some (.tup [])) (n2 : t1 ≠ p) (h3 : H d1 = some (.dK [])) (n3 : d1 ≠ p) : ∃ od, Dq K (off p H) x od ∧ lf od = true := by
  unfold oddV at hx
  simp only [List.mem_cons, List.not_mem_nil, or_false] at hx
  rcases hx with rfl | rfl | rfl | rfl | rfl | rfl | rfl | rfl | rfl | rfl | rfl
  · exact ⟨_, .non, by decide +kernel⟩
  · exact ⟨_, .int _, by decide +kernel⟩
  · exact ⟨_, .bl _, by decide +kernel⟩
  · exact ⟨_, .str _, by decide +kernel⟩
  · exact ⟨_, .str _, by decide +kernel⟩
  · exact ⟨_, .lst m1 (SqL.of (off_at n1 h1)) (.cons (.str _) .nil), by decide +kernel⟩
  · exact ⟨_, .tup (SqT.of (off_at n2 h2)) .nil, by decide +kernel⟩
  · exact ⟨_, .dic (.inl (off_at n3 h3)), by decide +kernel⟩
  · exact ⟨_, .str _, by decide +kernel⟩
  · exact ⟨_, .str _, by decide +kernel⟩
  · exact ⟨_, .str _, by decide +kernel⟩
/-- the rows that are none -/
def rowV_ (d1 : Addr) : List V := [.non, .str "ab", .ref d1, .int 7, .str "", .bl true]
theorem row_data {K : PySem.W.Frag} {H : Hp} {p d1 : Addr} {x : V} (hx : x ∈ rowV_ d1) (h3 : H d1 = some (.dK [])) (n3 : d1 ≠ p) : ∃ od, (Dq K (off p H) x od ∧ LsA (off p H) [x]) ∧ lf od = true ∧ isSeq od = none := by
  have nr : ∀ {x : V}, (∀ y, x ≠ .ref y) → LsA (off p H) [x] := fun h y hy => absurd (List.mem_singleton.mp hy).symm (h y)
  unfold rowV_ at hx
  simp only [List.mem_cons, List.not_mem_nil, or_false] at hx
  rcases hx with rfl | rfl | rfl | rfl | rfl | rfl
  · exact ⟨_, ⟨.non, nr (fun _ h => by cases h)⟩, by decide +kernel, rfl⟩
  · exact ⟨_, ⟨.str _, nr (fun _ h => by cases h)⟩, by decide +kernel, rfl⟩
  · exact ⟨_, ⟨.dic (.inl (off_at n3 h3)), fun z hz => by
      have e := List.mem_singleton.mp hz
      injection e with e
      subst e
      exact .inr ⟨_, off_at n3 h3⟩⟩, by decide +kernel, rfl⟩
  · exact ⟨_, ⟨.int _, nr (fun _ h => by cases h)⟩, by decide +kernel, rfl⟩
  · exact ⟨_, ⟨.str _, nr (fun _ h => by cases h)⟩, by decide +kernel, rfl⟩
  · exact ⟨_, ⟨.bl _, nr (fun _ h => by cases h)⟩, by decide +kernel, rfl⟩
theorem ix_of {xs : List V} {d : Int} (h0 : 0 ≤ d) (h1 : d < xs.length) : ∃ x, x ∈ xs ∧ atI xs d = some x := by
  obtain ⟨k, rfl⟩ : ∃ k : Nat, d = (k : Int) := ⟨d.toNat, by omega⟩
  have hk : k < xs.length := by omega
  exact ⟨xs[k], List.getElem_mem hk, atI_nat (List.getElem?_eq_getElem hk)⟩
theorem SzR.cut {N M N' M' k j : Nat} {rs mid : List PyData} (h : SzR N M rs) (hm : ∀ r ∈ mid, RowOk M' r) (hMM : M ≤ M') (hl : (rs.take k).length + mid.length + (rs.drop j).length ≤ N') : SzR N' M' (rs.take k ++ mid ++ rs.drop j) := by
  refine ⟨by rw [List.length_append, List.length_append]; exact hl, fun r hr => ?_⟩
  rcases List.mem_append.mp hr with hr | hr
  · rcases List.mem_append.mp hr with hr | hr
    · exact (h.row r (List.mem_of_mem_take hr)).mono hMM
    · exact hm r hr
  · exact (h.row r (List.mem_of_mem_drop hr)).mono hMM
section
variable {P : Program} {w : World} {K : PySem.W.Frag} {mg : Str → Option Value} {base : Heap}
theorem ok_ben {f : Addr} {fd : FuncData} (F : Fun K "_law_bent" "_law_bent" sBen f fd) (T : BeT P w K mg base) : FnOk P w K mg base CX0 3 f fd ["_law_pen_here", "_law_rows"] (spBen K) := by
  obtain ⟨fD, fdD, mD, kD, bD, GD⟩ := T.draw
  obtain ⟨fP, fdP, mP, kP, bP, GP⟩ := T.pick
  refine F.ok scBen (fun vs H Q E h => ?_) (fun cdv A outer s H vs Q E hr h => ?_)
  · obtain ⟨p, l, cs, n, a, N, M, rs, rfl, _⟩ := h
    rfl
  · obtain ⟨p, l, cs, n, a, N, M, rs, rfl, hP, hR, hZ, hN, hM, hn, k⟩ := h
    have hr1 := hr.mono (show 1 ≤ 2 by decide)
    refine ⟨_, pss_cons (ps_par (i := 2) (j := 3) (by rfl) scBen.nd rfl rfl (by decide) rfl rfl (pa_cons (pe_call GD hr1 rfl mD kD bD .nil pass0 (pa_cons (pv 0) (pa_cons pe_int pa_nil))) (pa_cons (pe_call GD hr1 rfl mD kD bD .nil pass0 (pa_cons (pv 0) (pa_cons (pe_op op_add (pe_callB call_len_seq (by rfl) T.bi.len PySem.boot_len (pa_cons (pv 1) pa_nil)) pe_int) pa_nil))) pa_nil)) (by rfl))
      (pss_cut (ps_set (i := 4) scBen.nd rfl (Or.inl rfl) (pe_ix ix_list (pe_lst (pa_cons pe_non (pa_cons pe_int (pa_cons pe_bl (pa_cons pe_str (pa_cons pe_str (pa_cons (pe_lstN (pa_cons pe_str pa_nil)) (pa_cons (pe_tup pa_nil) (pa_cons pe_dnewK (pa_cons pe_str (pa_cons pe_str (pa_cons pe_str pa_nil)))))))))))) (pe_call GD hr1 rfl mD kD bD .nil pass0 (pa_cons (pv 0) (pa_cons pe_int pa_nil))) (fun _ _ => rfl)))
      (pss_cons (ps_if (pt_cmpR op_eq (pv 2) pe_int (nomark _)) (pss_one (ps_ret (pe_op op_catN (pe_op op_cat (pe_slice sl_list (pv 1) po_none (po_some (pv 3))) (pe_lst (pa_cons (pe_ix ix_list (pe_lst (pa_cons pe_non (pa_cons pe_str (pa_cons pe_dnewK (pa_cons pe_int (pa_cons pe_str (pa_cons pe_bl pa_nil))))))) (pe_call GD hr1 rfl mD kD bD .nil pass0 (pa_cons (pv 0) (pa_cons pe_int pa_nil))) (fun _ _ => rfl)) pa_nil))) (pe_slice sl_list (pv 1) (po_some (pv 3)) po_none)))) pss_nil)
      (pss_cons (ps_if (pt_cmpR op_eq (pv 2) pe_int (nomark _)) (pss_one (ps_ret (pe_ix ix_list (pe_lst (pa_cons (pe_lstN pa_nil) (pa_cons (pe_op op_catN (pv 1) (pe_op op_rep (pe_lst (pa_cons (pe_lstN pa_nil) pa_nil)) pe_int)) pa_nil))) (pe_call GD hr1 rfl mD kD bD .nil pass0 (pa_cons (pv 0) (pa_cons pe_int pa_nil))) (fun _ _ => rfl)))) pss_nil)
      (pss_cons (ps_if (pt_cmpR op_eq (pv 2) pe_int (nomark _)) (pss_one (ps_ret (pe_op op_catN (pe_slice sl_list (pv 1) po_none (po_some (pv 3))) (pe_slice sl_list (pv 1) (po_some (pe_op op_add (pv 3) pe_int)) po_none)))) pss_nil)
      (pss_cut (ps_if (PW.pt (pw_or (pt_cmpR op_eq (pv 3) (pe_callB call_len_seq (by rfl) T.bi.len PySem.boot_len (pa_cons (pv 1) pa_nil)) (nomark _)) (pw_or1 (pt_not (pt_val (pe_callB call_isi (by rfl) T.isi (by decide +kernel) (pa_cons (pe_ix ix_list (pv 1) (pv 3) (fun _ _ => rfl)) (pa_cons (pe_bltn (by rfl) T.list (by decide +kernel) (v := .ty "list") rfl) pa_nil)))))))) (pss_one (ps_ret (pv 1))) pss_nil)
      (pss_cons (ps_par (i := 5) (j := 6) (by rfl) scBen.nd rfl rfl (by decide) rfl rfl (pa_cons (pe_ix ix_list (pv 1) (pv 3) (fun _ _ => rfl)) (pa_cons (pe_call GP hr rfl mP kP bP .nil pass0 (pa_cons (pv 0) (pa_cons (pv 1) pa_nil))) pa_nil)) (by rfl))
      (pss_cons (ps_set (i := 7) scBen.nd rfl (Or.inl rfl) (pe_call GD hr1 rfl mD kD bD .nil pass0 (pa_cons (pv 0) (pa_cons (pe_op op_add (pe_callB call_len_seq (by rfl) T.bi.len PySem.boot_len (pa_cons (pv 5) pa_nil)) pe_int) pa_nil))))
      (pss_cut (ps_if (pt_cmpR op_eq (pv 2) pe_int (nomark _)) (pss_one (ps_set (i := 5) scBen.nd rfl (Or.inl rfl) (pe_op op_catN (pe_op op_cat (pe_slice sl_list (pv 5) po_none (po_some (pv 7))) (pe_ifExp (pt_val (pe_callB call_isi (by rfl) T.isi (by decide +kernel) (pa_cons (pv 6) (pa_cons (pe_bltn (by rfl) T.list (by decide +kernel) (v := .ty "list") rfl) pa_nil)))) (pe_slice sl_list (pv 6) po_none (po_some pe_int)) (pe_lst pa_nil))) (pe_slice sl_list (pv 5) (po_some (pv 7)) po_none))))
        (pss_one (ps_if (pt_cmpR op_lt (pv 2) pe_int (nomark _)) (pss_one (ps_set (i := 5) scBen.nd rfl (Or.inl rfl) (pe_op op_catN (pe_op op_cat (pe_slice sl_list (pv 5) po_none (po_some (pv 7))) (pe_lst (pa_cons (pv 4) pa_nil))) (pe_slice sl_list (pv 5) (po_some (pv 7)) po_none))))
        (pss_one (ps_if (pt_cmpR op_eq (pv 2) pe_int (nomark _)) (pss_one (ps_set (i := 5) scBen.nd rfl (Or.inl rfl) (pe_op op_catA (pv 5) (pe_slice sl_list (pv 5) (po_some (pv 7)) (po_some (pe_op op_add (pv 7) pe_int))))))
          (pss_one (ps_set (i := 5) scBen.nd rfl (Or.inl rfl) (pe_op op_catN (pe_slice sl_list (pv 5) po_none (po_some (pv 7))) (pe_slice sl_list (pv 5) (po_some (pe_op op_add (pv 7) pe_int)) po_none)))))))))
      (pss_one (ps_ret (pe_op op_catN (pe_op op_cat (pe_slice sl_list (pv 1) po_none (po_some (pv 3))) (pe_lst (pa_cons (pv 5) pa_nil))) (pe_slice sl_list (pv 1) (po_some (pe_op op_add (pv 3) pe_int)) po_none)))))))))))), ?_⟩
    obtain ⟨xs, ha, nap, hx, hls, hnm⟩ := id hR
    have hxl := dqa_len hx
    have hZl := hZ.len
    have free_ : ∀ {H' : Hp} {n' : Nat} {q : Addr}, But H H' p → Pen H' p l cs n' → H' q = none → q ≠ p := fun b' P' hq => nep P' hq
    refine ⟨_, rfl, p, l, cs, n, 8, rfl, hP, by decide, by decide, by omega, fun way i1 g1 H1 w0 w8 i10 in1 hp1 b1 => ?_⟩
    have P1 := hP.next i10 in1 hp1 b1
    have ha1 := b1 _ _ nap ha
    refine ⟨_, rfl, _, rfl, a, _, rfl, .inl (SqL.of ha1), _, _, rfl, rfl, p, l, cs, n + 1, _, rfl, P1, by omega, by omega, by omega, fun at_ i2 g2 H2 a0 a1 i20 in2 hp2 b2 => ?_⟩
    have P2 := P1.next i20 in2 hp2 b2
    obtain ⟨k0, rfl⟩ : ∃ k0 : Nat, at_ = (k0 : Int) := ⟨at_.toNat, by omega⟩
    have hk0 : k0 ≤ xs.length := by omega
    have b02 := b1.trans b2
    refine ⟨_, _, rfl, ?_⟩
    -- odd
    refine ⟨fun σ H' => (∃ ov, σ = ([some (.ref p), some (.ref a), some (.int way), some (.int (k0 : Int)), some ov, none, none, none] : List (Option V)) ∧ ∃ od, Dq K (off p H') ov od ∧ lf od = true) ∧ Pen H' p l cs (n + 3) ∧ But H H' p, ?_, ?_⟩
    · refine ⟨by show 1 ≤ sizeLine; decide, fun l1 hl1 hn1 => ⟨by show 0 ≤ sizeLine; decide, fun t1 ht1 => fun d1 hd1 => ⟨by show 11 ≤ sizeLine; decide, fun u hu => ?_⟩⟩⟩
      have s1 := same_at (o := .lst [V.str "a"]) hl1
      have s2 := same_at (o := .tup []) ht1
      have s3 := same_at (o := .dK []) hd1
      have s4 := same_at (o := .lst (oddV l1 t1 d1)) hu
      have s14 := s1.trans (s2.trans (s3.trans s4))
      have P3 := P2.same s14
      have n1 := nep P2 hl1
      have n2 := nep (P2.same s1) ht1
      have n3 := nep ((P2.same s1).same s2) hd1
      have n4 := nep (((P2.same s1).same s2).same s3) hu
      have e1 := s4 _ _ (s3 _ _ (s2 _ _ (upd_same (H := H2) (a := l1) (o := .lst [V.str "a"]))))
      have e2 := s4 _ _ (s3 _ _ (upd_same (H := upd H2 l1 (.lst [V.str "a"])) (a := t1) (o := .tup [])))
      have e3 := s4 _ _ (upd_same (H := upd (upd H2 l1 (.lst [V.str "a"])) t1 (.tup [])) (a := d1) (o := .dK []))
      have e4 : upd (upd (upd (upd H2 l1 (.lst [V.str "a"])) t1 (.tup [])) d1 (.dK [])) u (.lst (oddV l1 t1 d1)) u = some (.lst (oddV l1 t1 d1)) := upd_same
      obtain ⟨H3, eH3⟩ : ∃ H3, H3 = upd (upd (upd (upd H2 l1 (.lst [V.str "a"])) t1 (.tup [])) d1 (.dK [])) u (.lst (oddV l1 t1 d1)) := ⟨_, rfl⟩
      rw [← eH3] at s14 P3 e1 e2 e3 e4
      show _
      have eH3' := eH3
      unfold oddV at eH3'
      rw [← eH3']
      refine ⟨_, rfl, p, l, cs, n + 1 + 1, 11, rfl, P3, by decide, by decide, by omega, fun dd iz g H4 d0 d11 i0 in3 hp4 b4 => ?_⟩
      have P4 := P3.next i0 in3 hp4 b4
      obtain ⟨ov, hov, eov⟩ := ix_of (xs := oddV l1 t1 d1) d0 (show dd < 11 from d11)
      refine ⟨u, oddV l1 t1 d1, dd, ov, rfl, rfl, SqL.of (b4 _ _ n4 e4), eov, ⟨ov, rfl, ?_⟩, P4.mono (by omega), (b02.same s14).trans b4⟩
      exact odd_data hov (b4 _ _ n1 e1) n1 hn1 (b4 _ _ n2 e2) n2 (b4 _ _ n3 e3) n3
    rintro σ H3 ⟨⟨ov, rfl, od, hod, hlf⟩, P3, b03⟩
    clear b02 P2 P1 ha1
    have ha3 := b03 _ _ nap ha
    have hx3 := Dq.sameAll (off_but b03) _ _ hx
    have R3 := hR.but b03
    have tk : (xs.take k0).length = k0 := by rw [List.length_take]; omega
    have rtk : (rs.take k0).length = k0 := by rw [List.length_take]; omega
    have rdr : ∀ j, (rs.drop j).length = rs.length - j := fun j => List.length_drop
    -- a result
    have done : ∀ {q : Addr} {H' : Hp} {n' : Nat} {ys : List V} {ds : List PyData}, Pen H' p l cs n' → n' ≤ n + 6 → But H H' p → q ≠ p → sysModules ≠ q → H' q = some (.lst ys) → DqAll K (off p H') ys ds ∧ LsA (off p H') ys → SzR (N + 9) (M + 1) ds → Q (.ref q) H' := fun P' hn' b' nq hm hq hd hz => k _ _ _ ⟨_, hq, nq, hd.1, hd.2, .inl hm⟩ hz (P'.mono hn') b'
    -- way 0
    refine ⟨_, rfl, rfl, _, rfl, ?_⟩
    by_cases hw0 : way = 0
    · rw [decide_eq_true (show V.int way = V.int 0 by rw [hw0])]
      refine iteT ?_
      refine ⟨_, rfl, _, rfl, _, rfl, a, xs, rfl, SqL.of ha3, fun q1 hq1 => ?_⟩
      have s1 := same_at (o := .lst (cutV xs none (some (k0 : Int)))) hq1
      have nq1 := nep P3 hq1
      refine fun d1 hd1 => ⟨by show 6 ≤ sizeLine; decide, fun u hu => ?_⟩
      have s2 := same_at (o := .dK []) hd1
      have s3 := same_at (o := .lst (rowV_ d1)) hu
      have P4 := P3.same (s1.trans (s2.trans s3))
      have nd1 := nep (P3.same s1) hd1
      have nu := nep ((P3.same s1).same s2) hu
      have e1 := s3 _ _ (s2 _ _ (upd_same (H := H3) (a := q1) (o := .lst (cutV xs none (some (k0 : Int))))))
      have e2 := s3 _ _ (upd_same (H := upd H3 q1 (.lst (cutV xs none (some (k0 : Int))))) (a := d1) (o := .dK []))
      have e3 : upd (upd (upd H3 q1 (.lst (cutV xs none (some (k0 : Int))))) d1 (.dK [])) u (.lst (rowV_ d1)) u = some (.lst (rowV_ d1)) := upd_same
      have s14 := s1.trans (s2.trans s3)
      obtain ⟨H4, eH4⟩ : ∃ H4, H4 = upd (upd (upd H3 q1 (.lst (cutV xs none (some (k0 : Int))))) d1 (.dK [])) u (.lst (rowV_ d1)) := ⟨_, rfl⟩
      rw [← eH4] at P4 e1 e2 e3 s14
      have eH4' := eH4
      unfold rowV_ at eH4'
      show _
      rw [← eH4']
      rw [cut_hiV] at e1
      refine ⟨_, rfl, p, l, cs, _, 6, rfl, P4, by decide, by decide, by omega, fun dd iz g H5 d0 d6 i0 in3 hp5 b5 => ?_⟩
      have P5 := P4.next i0 in3 hp5 b5
      obtain ⟨rv, hrv, erv⟩ := ix_of (xs := rowV_ d1) d0 (show dd < 6 from d6)
      have e15 := b5 _ _ nq1 e1
      have e25 := b5 _ _ nd1 e2
      have ha5 := b5 _ _ nap (s14 _ _ ha3)
      refine ⟨u, rowV_ d1, dd, rv, rfl, rfl, SqL.of (b5 _ _ nu e3), erv, by show 1 ≤ sizeLine; decide, fun m hm => ?_⟩
      have s6 := same_at (o := .lst [rv]) hm
      refine ⟨q1, m, _, _, rfl, rfl, s6 _ _ e15, upd_same, Nat.le_trans (show _ ≤ 100 by simp only [List.length_cons, List.length_nil]; omega) (by decide), fun z hz => ?_⟩
      have s7 := same_at (o := .lst (xs.take k0 ++ [rv])) hz
      have s57 := s6.trans s7
      refine tail_rd (j := k0) rfl upd_same (s57 _ _ ha5) (by rw [List.length_append, List.length_singleton]; omega) (fun H' Q' q => ⟨_, rfl, q⟩) fun q4 H8 s8 hq4 hn4 hq => ?_
      have s58 := s57.trans s8
      obtain ⟨rd, hrd, hlr, hsr⟩ := row_data (K := K) (H := H5) (p := p) hrv e25 nd1
      have b08 := ((b03.same s14).trans b5).same s58
      refine done (P5.same s58) (by omega) b08 (nep (P5.same s57) hq4) hn4 hq ?_ (hZ.cut (mid := [rd]) (M' := M + 1) (k := k0) (j := k0) (fun r hr' => by rw [List.mem_singleton.mp hr']; exact .inr ⟨hlr, hsr⟩) (by omega) (by rw [rtk, rdr]; simp only [List.length_cons, List.length_nil]; omega))
      have hx8 := Dq.sameAll (off_but b08) _ _ hx
      have hl8 := hls.same (off_but b08)
      exact ⟨DqAll.append (DqAll.append (dqa_take k0 hx8) (.cons (Dq.same (off_up s58) _ _ hrd.1) .nil)) (dqa_drop k0 hx8), ((hl8.take k0).app (hrd.2.same (off_up s58))).app (hl8.drop k0)⟩
    rw [decide_eq_false (show ¬ V.int way = V.int 0 from fun z => hw0 (by injection z))]
    refine iteF ?_
    -- way 1
    refine ⟨_, rfl, rfl, _, rfl, ?_⟩
    by_cases hw1 : way = 1
    · rw [decide_eq_true (show V.int way = V.int 1 by rw [hw1])]
      refine iteT ?_
      refine ⟨by show 0 ≤ sizeLine; decide, fun q1 hq1 hn1 => ?_⟩
      have s1 := same_at (o := .lst []) hq1
      refine ⟨_, rfl, by show 0 ≤ sizeLine; decide, fun q2 hq2 hn2 => ⟨by show 1 ≤ sizeLine; decide, fun q3 hq3 => ?_⟩⟩
      have s2 := same_at (o := .lst []) hq2
      have s3 := same_at (o := .lst [V.ref q2]) hq3
      refine ⟨q3, 9, _, rfl, rfl, upd_same, by decide, by decide, by show 1 * 9 ≤ sizeLine; decide, fun q4 hq4 => ?_⟩
      have s4 := same_at (o := .lst (List.replicate (9 : Int).toNat [V.ref q2]).flatten) hq4
      have s14 := s1.trans (s2.trans (s3.trans s4))
      have e9 : (List.replicate (9 : Int).toNat [V.ref q2]).flatten = List.replicate 9 (V.ref q2) := rfl
      refine ⟨a, q4, _, _, rfl, rfl, s14 _ _ ha3, upd_same, Nat.le_trans (show _ ≤ 100 by rw [e9, List.length_replicate]; omega) (by decide), fun q5 hq5 hn5 => ?_⟩
      rw [e9] at *
      have s5 := same_at (o := .lst (xs ++ List.replicate 9 (V.ref q2))) hq5
      refine ⟨by show 2 ≤ sizeLine; decide, fun u hu => ?_⟩
      have s6 := same_at (o := .lst [V.ref q1, .ref q5]) hu
      have s36 := s14.trans (s5.trans s6)
      have P6 := P3.same s36
      have nq1 := nep P3 hq1
      have nq2 := nep (P3.same s1) hq2
      have nq5 := nep (P3.same s14) hq5
      have nu := nep ((P3.same s14).same s5) hu
      have e1 := s6 _ _ (s5 _ _ (s4 _ _ (s3 _ _ (s2 _ _ (upd_same (H := H3) (a := q1) (o := .lst []))))))
      have e2 := s6 _ _ (s5 _ _ (s4 _ _ (s3 _ _ (upd_same (H := upd H3 q1 (.lst [])) (a := q2) (o := .lst [])))))
      have e5 := s6 _ _ (upd_same (a := q5) (o := .lst (xs ++ List.replicate 9 (V.ref q2))))
      refine ⟨_, rfl, p, l, cs, _, 2, rfl, P6, by decide, by decide, by omega, fun dd iz g H7 d0 d2 i0 in3 hp7 b7 => ?_⟩
      have P7 := P6.next i0 in3 hp7 b7
      have b07 := (b03.same s36).trans b7
      rcases (show dd = 0 ∨ dd = 1 by omega) with rfl | rfl
      · refine ⟨u, _, 0, _, rfl, rfl, SqL.of (b7 _ _ nu upd_same), atI_nat (j := 0) rfl, ?_⟩
        exact done P7 (by omega) b07 nq1 hn1 (b7 _ _ nq1 e1) ⟨.nil, .nil⟩ ⟨Nat.zero_le _, (fun r hr' => (by cases hr'))⟩
      · refine ⟨u, _, 1, _, rfl, rfl, SqL.of (b7 _ _ nu upd_same), atI_nat (j := 1) rfl, ?_⟩
        have hx7 := Dq.sameAll (off_but b07) _ _ hx
        have d2' : Dq K (off p H7) (.ref q2) (.list []) := .lst hn2 (SqL.of (off_at nq2 (b7 _ _ nq2 e2))) .nil
        have rep : ∀ m : Nat, DqAll K (off p H7) (List.replicate m (V.ref q2)) (List.replicate m (.list [])) := fun m => by
          induction m with
          | zero => exact .nil
          | succ m ih => exact .cons d2' ih
        refine done P7 (by omega) b07 nq5 hn5 (b7 _ _ nq5 e5) ⟨DqAll.append hx7 (rep 9), (hls.same (off_but b07)).app fun z hz => LsA.one (off_at nq2 (b7 _ _ nq2 e2)) z (by rw [List.mem_singleton]; exact List.eq_of_mem_replicate hz)⟩ ⟨by rw [List.length_append, List.length_replicate]; omega, fun r hr' => ?_⟩
        rcases List.mem_append.mp hr' with hr' | hr'
        · exact (hZ.row r hr').mono (by omega)
        · rw [List.eq_of_mem_replicate hr']
          exact .inl ⟨[], rfl, Nat.zero_le _, (fun e he => (by cases he))⟩
    rw [decide_eq_false (show ¬ V.int way = V.int 1 from fun z => hw1 (by injection z))]
    refine iteF ?_
    -- way 2
    refine ⟨_, rfl, rfl, _, rfl, ?_⟩
    by_cases hw2 : way = 2
    · rw [decide_eq_true (show V.int way = V.int 2 by rw [hw2])]
      refine iteT ?_
      refine ⟨_, rfl, _, rfl, _, rfl, a, xs, rfl, SqL.of ha3, fun q1 hq1 => ?_⟩
      have s1 := same_at (o := .lst (cutV xs none (some (k0 : Int)))) hq1
      rw [cut_hiV] at s1 ⊢
      refine tail_rd (j := k0 + 1) rfl upd_same (s1 _ _ ha3) (by omega) (fun H' Q' q => ⟨_, rfl, _, _, rfl, rfl, q⟩) fun q4 H8 s8 hq4 hn4 hq => ?_
      have s58 := s1.trans s8
      have b08 := b03.same s58
      have hx8 := Dq.sameAll (off_but b08) _ _ hx
      have hz := hZ.cut (mid := []) (M' := M + 1) (N' := N + 9) (k := k0) (j := k0 + 1) (fun r hr' => by cases hr') (by omega) (by rw [rtk, rdr]; simp only [List.length_nil]; omega)
      rw [List.append_nil] at hz
      exact done (P3.same s58) (by omega) b08 (nep (P3.same s1) hq4) hn4 hq ⟨DqAll.append (dqa_take k0 hx8) (dqa_drop (k0 + 1) hx8), ((hls.same (off_but b08)).take k0).app ((hls.same (off_but b08)).drop (k0 + 1))⟩ hz
    rw [decide_eq_false (show ¬ V.int way = V.int 2 from fun z => hw2 (by injection z))]
    refine iteF ?_
    -- there, and a list
    refine ⟨fun σ H' => σ = ([some (.ref p), some (.ref a), some (.int way), some (.int (k0 : Int)), some ov, none, none, none] : List (Option V)) ∧ H' = H3 ∧ ∃ y ys es, xs[k0]? = some (.ref y) ∧ rs[k0]? = some (.list es) ∧ SqL K (off p H3) y ys ∧ DqAll K (off p H3) ys es ∧ ((∃ us, off p H3 y = some (.lst us)) ∨ ∃ ds, off p H3 y = some (.dK ds)), ?_, ?_⟩
    · refine ⟨_, rfl, _, rfl, a, _, rfl, .inl (SqL.of ha3), rfl, _, rfl, ?_⟩
      by_cases he : k0 = xs.length
      · rw [decide_eq_true (show V.int (k0 : Int) = V.int (xs.length : Int) by rw [he])]
        exact iteT (iteT ⟨_, rfl, k a rs H3 R3 ⟨by omega, fun r hr' => (hZ.row r hr').mono (by omega)⟩ (P3.mono (by omega)) b03⟩)
      · rw [decide_eq_false (show ¬ V.int (k0 : Int) = V.int (xs.length : Int) from fun z => he (by injection z with z; omega))]
        refine iteF ?_
        have hlt : k0 < xs.length := by omega
        have ex : xs[k0]? = some xs[k0] := List.getElem?_eq_getElem hlt
        obtain ⟨r, er, hr'⟩ := dqa_at hx3 ex
        obtain ⟨t, ty, _, k2, _⟩ := dq_ty (Dq.same off_in _ _ hr')
        refine ⟨_, rfl, _, rfl, a, xs, _, _, rfl, rfl, SqL.of ha3, atI_nat ex, _, _, .type t, .type "list", _, rfl, .ty _, ty, kit_ty k2, _, rfl, ?_⟩
        cases hl : isLstD r with
        | false => exact iteT ⟨_, rfl, k a rs H3 R3 ⟨by omega, fun r hr' => (hZ.row r hr').mono (by omega)⟩ (P3.mono (by omega)) b03⟩
        | true =>
          refine iteF ⟨rfl, rfl, ?_⟩
          have hmx : xs[k0] ∈ xs := List.getElem_mem hlt
          generalize xs[k0] = xv at ex hr' hmx
          cases hr' with
          | lst nm q d => exact ⟨_, _, _, ex, er, q, d, hls.same (off_but b03) _ hmx⟩
          | _ => cases hl
    rintro σ H4 ⟨rfl, rfl, y, ys, es, ey, er, hq, hd, hny⟩
    have hyl := dqa_len hd
    have hk0' : k0 < xs.length := (List.getElem?_eq_some_iff.mp ey).1
    obtain ⟨hesl, hesf⟩ : es.length ≤ M ∧ ∀ e ∈ es, lf e = true := by
      rcases hZ.row _ (List.mem_of_getElem? er) with ⟨es', e, h1, h2⟩ | ⟨_, h2⟩
      · injection e with e
        subst e
        exact ⟨h1, h2⟩
      · cases h2
    -- row, other
    refine ⟨_, rfl, _, rfl, a, xs, _, _, rfl, rfl, SqL.of ha3, atI_nat ey, _, rfl, _, rfl, p, l, a, cs, n + 3, xs, rfl, P3, ha3, nap, by omega, by omega, by omega, fun jo xo H5 hjo P5 b35 => ?_⟩
    refine ⟨_, _, rfl, ?_⟩
    have b05 := b03.trans b35
    obtain ⟨ro, ero, hro⟩ := dqa_at (Dq.sameAll (off_but b35) _ _ hx3) hjo
    have hq5 := SqL.ext hq (off_but b35)
    refine ⟨_, rfl, _, rfl, y, ys, rfl, .inl (SqL.ext hq5 off_in), _, _, rfl, rfl, p, l, cs, _, _, rfl, P5, by omega, by omega, by omega, fun sp i6 g6 H6 sp0 sp1 i60 in6 hp6 b56 => ?_⟩
    have P6 := P5.next i60 in6 hp6 b56
    obtain ⟨j0, rfl⟩ : ∃ j0 : Nat, sp = (j0 : Int) := ⟨sp.toNat, by omega⟩
    have b36 := b35.trans b56
    have b06 := b05.trans b56
    have hq6 := SqL.ext hq (off_but b36)
    have hd6 := Dq.sameAll (off_but b36) _ _ hd
    have hro6 := Dq.same (off_but b56) _ _ hro
    have hod6 := Dq.same (off_but b36) _ _ hod
    have hy6 : SqL K H6 y ys := SqL.ext hq6 off_in
    have hny6 : (∃ us, H6 y = some (.lst us)) ∨ ∃ ds, H6 y = some (.dK ds) := hny.imp (fun ⟨_, e⟩ => ⟨_, off_in _ _ (off_but b36 _ _ e)⟩) (fun ⟨_, e⟩ => ⟨_, off_in _ _ (off_but b36 _ _ e)⟩)
    have ha6 := b06 _ _ nap ha
    have hj0 : j0 ≤ ys.length := by omega
    have tj : (ys.take j0).length = j0 := by rw [List.length_take]; omega
    have rtj : (es.take j0).length = j0 := by rw [List.length_take]; omega
    have rdj : ∀ j, (es.drop j).length = es.length - j := fun j => List.length_drop
    clear hro hq5 b35 b56 b05 P5 hq hd hod ha3 hx3 R3 P3
    -- the new row
    refine ⟨fun σ H' => ∃ (y' : Addr) (o6 : V) (ys' : List V) (es' : List PyData), σ = ([some (.ref p), some (.ref a), some (.int way), some (.int (k0 : Int)), some ov, some (.ref y'), some o6, some (.int (j0 : Int))] : List (Option V)) ∧ Same H6 H' ∧ y' ≠ p ∧ sysModules ≠ y' ∧ H' y' = some (.lst ys') ∧ DqAll K (off p H') ys' es' ∧ es'.length ≤ M + 1 ∧ ∀ e ∈ es', lf e = true, ?_, ?_⟩
    · have end_ : ∀ {q : Addr} {H' : Hp} {ys' : List V} {es' : List PyData}, Same H6 H' → H6 q = none → sysModules ≠ q → H' q = some (.lst ys') → DqAll K (off p H') ys' es' → es'.length ≤ M + 1 → (∀ e ∈ es', lf e = true) → ∃ (y' : Addr) (o6 : V) (ys' : List V) (es' : List PyData), ([some (.ref p), some (.ref a), some (.int way), some (.int (k0 : Int)), some ov, some (.ref q), some xo, some (.int (j0 : Int))] : List (Option V)) = [some (.ref p), some (.ref a), some (.int way), some (.int (k0 : Int)), some ov, some (.ref y'), some o6, some (.int (j0 : Int))] ∧ Same H6 H' ∧ y' ≠ p ∧ sysModules ≠ y' ∧ H' y' = some (.lst ys') ∧ DqAll K (off p H') ys' es' ∧ es'.length ≤ M + 1 ∧ ∀ e ∈ es', lf e = true :=
        fun {q H' ys' es'} s hq0 hn h1 h2 h3 h4 => ⟨q, xo, ys', es', rfl, s, nep P6 hq0, hn, h1, h2, h3, h4⟩
      have mid : ∀ {m : List PyData}, (∀ e ∈ m, lf e = true) → ∀ e ∈ es.take j0 ++ m ++ es.drop j0, lf e = true := fun {m} hm e he => by
        rcases List.mem_append.mp he with he | he
        · rcases List.mem_append.mp he with he | he
          · exact hesf e (List.mem_of_mem_take he)
          · exact hm e he
        · exact hesf e (List.mem_of_mem_drop he)
      refine ⟨_, rfl, rfl, _, rfl, ?_⟩
      by_cases hw7 : way = 7
      · rw [decide_eq_true (show V.int way = V.int 7 by rw [hw7])]
        refine iteT ?_
        refine ⟨_, rfl, _, rfl, _, rfl, y, ys, rfl, hy6, fun q1 hq1 => ?_⟩
        have s1 := same_at (o := .lst (cutV ys none (some (j0 : Int)))) hq1
        rw [cut_hiV] at s1 ⊢
        have e1 : upd H6 q1 (.lst (ys.take j0)) q1 = some (.lst (ys.take j0)) := upd_same
        obtain ⟨t, ty, _, k2, _⟩ := dq_ty (Dq.same off_in _ _ hro6)
        refine ⟨_, rfl, _, _, .type t, .type "list", _, rfl, .ty _, tyx_same ty s1, kit_ty k2, _, rfl, ?_⟩
        cases hl : isLstD ro with
        | false =>
          refine iteF ⟨by show 0 ≤ sizeLine; decide, fun m hm => ?_⟩
          have s2 := same_at (o := .lst []) hm
          refine ⟨q1, m, _, _, rfl, rfl, s2 _ _ e1, upd_same, Nat.le_trans (show _ ≤ 100 by simp only [List.length_nil]; omega) (by decide), fun z hz => ?_⟩
          have s3 := same_at (o := .lst (ys.take j0 ++ [])) hz
          have s13 := s1.trans (s2.trans s3)
          obtain ⟨zz, hzz⟩ : ∃ zz, zz = z := ⟨z, rfl⟩
          refine ⟨_, rfl, _, rfl, _, rfl, y, ys, rfl, SqL.ext hy6 s13, fun q3 hq3 => ?_⟩
          have s4 := same_at (o := .lst (cutV ys (some (j0 : Int)) none)) hq3
          rw [cut_loV] at s4 ⊢
          refine ⟨z, q3, _, _, rfl, rfl, s4 _ _ upd_same, upd_same, Nat.le_trans (show _ ≤ 100 by rw [List.length_append, List.length_nil, List.length_drop]; omega) (by decide), fun q4 hq4 hn4 => ?_⟩
          have s14 := s13.trans s4
          refine end_ (s14.trans (same_at hq4)) (s14.free hq4) hn4 upd_same ?_ ?_ (mid (m := []) (fun e he => by cases he))
          · have hd8 := Dq.sameAll (off_up (s14.trans (same_at hq4 (o := .lst (ys.take j0 ++ [] ++ ys.drop j0))))) _ _ hd6
            exact DqAll.append (DqAll.append (dqa_take j0 hd8) .nil) (dqa_drop j0 hd8)
          · rw [List.length_append, List.length_append, rtj, rdj, List.length_nil]
            omega
        | true =>
          refine iteT ?_
          obtain ⟨b, bs, ebs, hbs, hqb, hdb, hro'⟩ : ∃ b bs ebs, xo = .ref b ∧ SqL K (off p H6) b bs ∧ DqAll K (off p H6) bs ebs ∧ ro = .list ebs := by
            cases hro6 with
            | lst nm q d => exact ⟨_, _, _, rfl, q, d, rfl⟩
            | _ => cases hl
          subst hbs hro'
          have hbf : ∀ e ∈ ebs, lf e = true := by
            rcases hZ.row _ (List.mem_of_getElem? ero) with ⟨es', e, h1, h2⟩ | ⟨_, h2⟩
            · injection e with e
              subst e
              exact h2
            · cases h2
          refine ⟨_, rfl, _, rfl, b, bs, rfl, SqL.ext (SqL.ext hqb off_in) s1, fun m hm => ?_⟩
          have s2 := same_at (o := .lst (cutV bs none (some 1))) hm
          have ec : cutV bs none (some 1) = bs.take 1 := cut_hiV bs 1
          rw [ec] at s2 ⊢
          refine ⟨q1, m, _, _, rfl, rfl, s2 _ _ e1, upd_same, Nat.le_trans (show _ ≤ 100 by rw [List.length_take (i := 1)]; omega) (by decide), fun z hz => ?_⟩
          have s3 := same_at (o := .lst (ys.take j0 ++ bs.take 1)) hz
          have s13 := s1.trans (s2.trans s3)
          refine ⟨_, rfl, _, rfl, _, rfl, y, ys, rfl, SqL.ext hy6 s13, fun q3 hq3 => ?_⟩
          have s4 := same_at (o := .lst (cutV ys (some (j0 : Int)) none)) hq3
          rw [cut_loV] at s4 ⊢
          refine ⟨z, q3, _, _, rfl, rfl, s4 _ _ upd_same, upd_same, Nat.le_trans (show _ ≤ 100 by rw [List.length_append, List.length_take (i := 1), List.length_drop]; omega) (by decide), fun q4 hq4 hn4 => ?_⟩
          have s14 := s13.trans s4
          refine end_ (s14.trans (same_at hq4)) (s14.free hq4) hn4 upd_same ?_ ?_ (mid (m := ebs.take 1) (fun e he => hbf e (List.mem_of_mem_take he)))
          · have su := off_up (p := p) (s14.trans (same_at hq4 (o := .lst (ys.take j0 ++ bs.take 1 ++ ys.drop j0))))
            have hd8 := Dq.sameAll su _ _ hd6
            exact DqAll.append (DqAll.append (dqa_take j0 hd8) (dqa_take 1 (Dq.sameAll su _ _ hdb))) (dqa_drop j0 hd8)
          · rw [List.length_append, List.length_append, rtj, rdj, List.length_take]
            omega
      rw [decide_eq_false (show ¬ V.int way = V.int 7 from fun z => hw7 (by injection z))]
      refine iteF ⟨_, rfl, _, _, rfl, rfl, _, rfl, ?_⟩
      by_cases hw5 : way < 5
      · rw [decide_eq_true hw5]
        refine iteT ?_
        refine ⟨_, rfl, _, rfl, _, rfl, y, ys, rfl, hy6, fun q1 hq1 => ?_⟩
        have s1 := same_at (o := .lst (cutV ys none (some (j0 : Int)))) hq1
        rw [cut_hiV] at s1 ⊢
        have e1 : upd H6 q1 (.lst (ys.take j0)) q1 = some (.lst (ys.take j0)) := upd_same
        refine ⟨_, rfl, by show 1 ≤ sizeLine; decide, fun m hm => ?_⟩
        have s2 := same_at (o := .lst [ov]) hm
        refine ⟨q1, m, _, _, rfl, rfl, s2 _ _ e1, upd_same, Nat.le_trans (show _ ≤ 100 by simp only [List.length_cons, List.length_nil]; omega) (by decide), fun z hz => ?_⟩
        have s3 := same_at (o := .lst (ys.take j0 ++ [ov])) hz
        have s13 := s1.trans (s2.trans s3)
        refine ⟨_, rfl, _, rfl, _, rfl, y, ys, rfl, SqL.ext hy6 s13, fun q3 hq3 => ?_⟩
        have s4 := same_at (o := .lst (cutV ys (some (j0 : Int)) none)) hq3
        rw [cut_loV] at s4 ⊢
        refine ⟨z, q3, _, _, rfl, rfl, s4 _ _ upd_same, upd_same, Nat.le_trans (show _ ≤ 100 by rw [List.length_append, List.length_singleton, List.length_drop]; omega) (by decide), fun q4 hq4 hn4 => ?_⟩
        have s14 := s13.trans s4
        refine end_ (s14.trans (same_at hq4)) (s14.free hq4) hn4 upd_same ?_ ?_ (mid (m := [od]) (fun e he => by rw [List.mem_singleton.mp he]; exact hlf))
        · have su := off_up (p := p) (s14.trans (same_at hq4 (o := .lst (ys.take j0 ++ [ov] ++ ys.drop j0))))
          have hd8 := Dq.sameAll su _ _ hd6
          exact DqAll.append (DqAll.append (dqa_take j0 hd8) (.cons (Dq.same su _ _ hod6) .nil)) (dqa_drop j0 hd8)
        · rw [List.length_append, List.length_append, rtj, rdj, List.length_singleton]
          omega
      rw [decide_eq_false hw5]
      refine iteF ⟨_, rfl, rfl, _, rfl, ?_⟩
      by_cases hw5' : way = 5
      · rw [decide_eq_true (show V.int way = V.int 5 by rw [hw5'])]
        refine iteT ?_
        refine ⟨_, rfl, _, rfl, _, rfl, _, rfl, _, rfl, _, _, rfl, rfl, _, rfl, y, ys, rfl, hy6, fun q1 hq1 => ?_⟩
        have ec : cutV ys (some (j0 : Int)) (some ((j0 : Int) + 1)) = (ys.drop j0).take 1 := cut_one ys j0
        have s1 := same_at (o := .lst (cutV ys (some (j0 : Int)) (some ((j0 : Int) + 1)))) hq1
        rw [ec] at s1 ⊢
        refine ⟨y, q1, _, _, rfl, rfl, SqL.ext hy6 s1, hny6.imp (fun ⟨_, e⟩ => ⟨_, s1 _ _ e⟩) (fun ⟨_, e⟩ => ⟨_, s1 _ _ e⟩), upd_same, Nat.le_trans (show _ ≤ 100 by rw [List.length_take (i := 1)]; omega) (by decide), fun q4 hq4 hn4 => ?_⟩
        refine end_ (es' := es ++ (es.drop j0).take 1) (s1.trans (same_at hq4)) (s1.free hq4) hn4 upd_same ?_ ?_ fun e he => ?_
        · have hd8 := Dq.sameAll (off_up (p := p) (s1.trans (same_at hq4 (o := .lst (ys ++ (ys.drop j0).take 1))))) _ _ hd6
          exact DqAll.append hd8 (dqa_take 1 (dqa_drop j0 hd8))
        · rw [List.length_append, List.length_take]
          omega
        · rcases List.mem_append.mp he with he | he
          · exact hesf e he
          · exact hesf e (List.mem_of_mem_drop (List.mem_of_mem_take he))
      rw [decide_eq_false (show ¬ V.int way = V.int 5 from fun z => hw5' (by injection z))]
      refine iteF ?_
      refine ⟨_, rfl, _, rfl, _, rfl, y, ys, rfl, hy6, fun q1 hq1 => ?_⟩
      have s1 := same_at (o := .lst (cutV ys none (some (j0 : Int)))) hq1
      rw [cut_hiV] at s1 ⊢
      refine ⟨_, rfl, _, rfl, _, _, rfl, rfl, _, rfl, y, ys, rfl, SqL.ext hy6 s1, fun q3 hq3 => ?_⟩
      have ec : cutV ys (some ((j0 : Int) + 1)) none = ys.drop (j0 + 1) := cut_loV ys (j0 + 1)
      have s4 := same_at (o := .lst (cutV ys (some ((j0 : Int) + 1)) none)) hq3
      rw [ec] at s4 ⊢
      refine ⟨q1, q3, _, _, rfl, rfl, s4 _ _ upd_same, upd_same, Nat.le_trans (show _ ≤ 100 by rw [List.length_drop]; omega) (by decide), fun q4 hq4 hn4 => ?_⟩
      have s14 := s1.trans s4
      refine end_ (es' := es.take j0 ++ es.drop (j0 + 1)) (s14.trans (same_at hq4)) (s14.free hq4) hn4 upd_same ?_ ?_ fun e he => ?_
      · have hd8 := Dq.sameAll (off_up (p := p) (s14.trans (same_at hq4 (o := .lst (ys.take j0 ++ ys.drop (j0 + 1)))))) _ _ hd6
        exact DqAll.append (dqa_take j0 hd8) (dqa_drop (j0 + 1) hd8)
      · rw [List.length_append, rtj, rdj]
        omega
      · rcases List.mem_append.mp he with he | he
        · exact hesf e (List.mem_of_mem_take he)
        · exact hesf e (List.mem_of_mem_drop he)
    rintro σ H7 ⟨y', o6, ys', es', rfl, s67, ny', hny', hy7, hd7, hl7, hf7⟩
    -- put in
    have ha7 := s67 _ _ ha6
    refine ⟨_, rfl, _, rfl, _, rfl, a, xs, rfl, SqL.of ha7, fun q1 hq1 => ?_⟩
    have s1 := same_at (o := .lst (cutV xs none (some (k0 : Int)))) hq1
    rw [cut_hiV] at s1 ⊢
    have e1 : upd H7 q1 (.lst (xs.take k0)) q1 = some (.lst (xs.take k0)) := upd_same
    refine ⟨_, rfl, by show 1 ≤ sizeLine; decide, fun m hm => ?_⟩
    have s2 := same_at (o := .lst [V.ref y']) hm
    refine ⟨q1, m, _, _, rfl, rfl, s2 _ _ e1, upd_same, Nat.le_trans (show _ ≤ 100 by simp only [List.length_cons, List.length_nil]; omega) (by decide), fun z hz => ?_⟩
    have s3 := same_at (o := .lst (xs.take k0 ++ [V.ref y'])) hz
    have s13 := s1.trans (s2.trans s3)
    refine tail_rd (j := k0 + 1) rfl upd_same (s13 _ _ ha7) (by rw [List.length_append, List.length_singleton]; omega) (fun H' Q' q => ⟨_, rfl, _, _, rfl, rfl, q⟩) fun q4 H8 s8 hq4 hn4 hq => ?_
    have s78 := s13.trans s8
    have s68 := s67.trans s78
    have b08 := b06.same s68
    have hx8 := Dq.sameAll (off_but b08) _ _ hx
    have P7 := P6.same s67
    refine done (P6.same s68) (by omega) b08 (nep (P7.same s13) hq4) hn4 hq ?_ (hZ.cut (mid := [.list es']) (M' := M + 1) (k := k0) (j := k0 + 1) (fun r hr' => by rw [List.mem_singleton.mp hr']; exact .inl ⟨es', rfl, hl7, hf7⟩) (by omega) (by rw [rtk, rdr]; simp only [List.length_cons, List.length_nil]; omega))
    have hl8 := hls.same (off_but b08)
    exact ⟨DqAll.append (DqAll.append (dqa_take k0 hx8) (.cons (.lst hny' (SqL.of (off_at ny' (s78 _ _ hy7))) (Dq.sameAll (off_up s78) _ _ hd7)) .nil)) (dqa_drop (k0 + 1) hx8), ((hl8.take k0).app (LsA.one (off_at ny' (s78 _ _ hy7)))).app (hl8.drop (k0 + 1))⟩
end
end Sj
namespace Sj
open PySem L2 Sup StK Own Shw Exg Grd KepE
open NdefX (NF NScope ncx envF startF nscope_by)
open C8 (pss_cut tCut)
/-! k66: _law_due -/
/-- [x for x in .. if test]: is it empty -/
theorem lc_sel {J : It} {n : Nat} {G : Hp → Prop} {Y : Nat → Hp → V → Hp → Prop} (wk : Walk J n G Y) {tt : TT} {v : Nat} {vs : List Nat} {σ : L2.St} {H1 : Hp} {D : Addr} {Qd : Hp → Prop} (bs : List Bool) (hbs : bs.length = n) (hD : H1 D = none) (hn : n ≤ 2000) (hG : ∀ H', Same H1 H' → G H')
    (hw : ∀ x, wipe ((wipe σ vs).set v (some x)) vs = wipe σ vs) (hv : ∀ x, ((wipe σ vs).set v (some x))[v]? = some (some x))
    (hs : ∀ i x H H' b, bs[i]? = some b → Same H1 H → Y i H x H' → Same H H' ∧ ∀ R : Bool → Hp → Prop, (∀ H'', Same H' H'' → R b H'') → tt ((wipe σ vs).set v (some x)) H' R) (hd : ∀ H ys, Same H1 H → H D = some (.lst ys) → ys.isEmpty = (!bs.any id) → Qd H) :
    ∃ W : Nat → Nat → Hp → Prop, (∃ m, W 0 m (upd H1 D (.lst []))) ∧ ∀ i m H, W i m H →
      (J.stop i H ∧ Qd H) ∨ (J.go i H ∧ ∃ Nx : Hp → Prop, (∀ H', Nx H' → ∃ m', m' < m ∧ W (i + 1) m' H') ∧ ∀ x H', J.yld i H x H' → gName v x (wipe σ vs) H' fun σ2 H2 => wipe σ2 vs = wipe σ vs ∧ tt σ2 H2 fun b H3 =>
        if b = true then tVar v σ2 H3 fun y H4 => ∃ acc, H4 D = some (.lst acc) ∧ acc.length < sizeLine ∧ Nx (upd H4 D (.lst (acc ++ [y]))) else Nx H3) := by
  subst hbs
  refine lc_it wk (fun i H' => Same H1 H' ∧ ∃ ys, H' D = some (.lst ys) ∧ ys.length ≤ i ∧ ys.isEmpty = !((bs.take i).any id)) ⟨same_at hD, [], upd_same, Nat.le_refl _, rfl⟩ (fun i H' _ p => hG H' p.1) ?_ fun H p => ?_
  · rintro i x Ho Ha hi ⟨sa, ys, da, hl, he⟩ y
    have eb : bs[i]? = some bs[i] := List.getElem?_eq_getElem hi
    obtain ⟨sy, rt⟩ := hs i x Ho Ha bs[i] eb sa y
    refine ⟨hw _, rt _ fun H3 s3 => ?_⟩
    have da3 := s3 _ _ (sy _ _ da)
    have s13 := (sa.trans sy).trans s3
    have et : (bs.take (i + 1)).any id = ((bs.take i).any id || bs[i]) := by rw [List.take_add_one, eb, Option.toList_some, List.any_append, List.any_cons, List.any_nil, Bool.or_false]; rfl
    cases e : bs[i] with
    | true =>
      rw [if_pos rfl]
      refine ⟨_, hv _, _, da3, Nat.lt_of_lt_of_le (show _ < 2001 by omega) (by decide), fun c o ec => ?_, _, upd_same, by rw [List.length_append, List.length_singleton]; omega, ?_⟩
      · rw [upd_ne (ne_of_none ec hD)]
        exact s13 _ _ ec
      · rw [et, e, Bool.or_true]
        cases ys <;> rfl
    | false =>
      rw [if_neg (by decide)]
      exact ⟨s13, ys, da3, by omega, by rw [et, e, Bool.or_false]; exact he⟩
  · obtain ⟨s, ys, h1, _, h3⟩ := p
    rw [List.take_length] at h3
    exact hd H ys s h1 h3
abbrev sDue : Stmt := top 33
abbrev nDue : List Str := ["_law_bare_here", "_law_rows", "_law_row", "_law_whole", "_law_tags_here", "_law_tag"]
theorem scDue : FnScope nDue ["_law_bare_here", "_law_rows"] (defScope sDue) := ⟨rfl, rfl, rfl, by decide +kernel, rfl, by decide +kernel, by decide +kernel⟩
def spDue (K : PySem.W.Frag) : Sp := fun vs H Q _ => ∃ (b p : Addr) (d : BareD) (x : V) (os : Option (List PyData)), vs = [.ref b, x] ∧ BareAt H b d p ∧ d.ok ∧ RowV K H x os ∧ ∀ H', Same H H' → Q (dueV (d.ds ++ d.ls) os) H'
structure DuT (w : World) (mg : Str → Option Value) : Prop where
  isi : mg "isinstance" = none
  list : mg "list" = none
  tuple : mg "tuple" = none
  str : mg "str" = none
  len : mg "len" = none
  set : mg "set" = none
def teSq (K : PySem.W.Frag) (v : Nat) : TE := tCB (rIsiT K) (tCons (tVar v) (tCons (tTup (tCons (tC (.ty "list")) (tCons (tC (.ty "tuple")) tNil))) tNil))
def ttD1 (K : PySem.W.Frag) : TT := tNot (tB (teSq K 2))
def ttD2 (K : PySem.W.Frag) : TT := tOr (tNot (tB (tCB (rIsi K) (tCons (tVar 5) (tCons (tC (.ty "str")) tNil))))) (tTest (tOp (rIn K true) (tVar 5) (tVar 4)))
section
variable {P : Program} {w : World} {K : PySem.W.Frag} {mg : Str → Option Value} {base : Heap}
theorem ok_due {f : Addr} {fd : FuncData} (F : Fun K "_law_due" "_law_due" sDue f fd) (T : DuT w mg) : FnOk P w K mg base CX0 2 f fd ["_law_bare_here", "_law_rows"] (spDue K) := by
  refine F.ok scDue (fun vs H Q E h => ?_) (fun cdv A outer s H vs Q E hr h => ?_)
  · obtain ⟨b, p, d, x, os, rfl, _⟩ := h
    rfl
  · obtain ⟨b, p, d, x, os, rfl, hB, ok, hx, k⟩ := h
    have hu := hu_of hr
    refine ⟨_, pss_cut (ps_if (PW.pt (pw_or (pt_not (pt_val (pe_callB call_isiT (by rfl) T.isi (by decide +kernel) (pa_cons (pv 1) (pa_cons (pe_tup (pa_cons (pe_bltn (by rfl) T.list (by decide +kernel) (v := .ty "list") rfl) (pa_cons (pe_bltn (by rfl) T.tuple (by decide +kernel) (v := .ty "tuple") rfl) pa_nil))) pa_nil)))))
        (pw_or1 (pt_not (pt_chain op_le op_le pe_int (pe_callB call_len_seq (by rfl) T.len PySem.boot_len (pa_cons (pv 1) pa_nil)) pe_int))))) (pss_one (ps_ret pe_str)) pss_nil)
      (pss_cut (ps_if (pt_cmpR (op_neNil hr.units) (pe_lc (te := tVar 2) (tt := ttD1 K) (own := [("_law_row", 2)]) (g := gName 2) rfl scDue.nd (pi_seq (pv 1)) (blkOk_by (N := nDue) (sc := defScope sDue) (by decide +kernel)) (fun _ _ _ _ _ => pg_name (i := 2) scDue.nd rfl (Or.inl rfl))
          (fun _ _ _ _ _ => pts_one (pt_not (pt_val (pe_callB call_isiT (by rfl) T.isi (by decide +kernel) (pa_cons (pv 2) (pa_cons (pe_tup (pa_cons (pe_bltn (by rfl) T.list (by decide +kernel) (v := .ty "list") rfl) (pa_cons (pe_bltn (by rfl) T.tuple (by decide +kernel) (v := .ty "tuple") rfl) pa_nil))) pa_nil)))))) (fun _ _ _ _ _ => pv 2)) (pe_lst pa_nil) (nomark _)) (pss_one (ps_ret pe_str)) pss_nil)
      (pss_cons (ps_asg (pe_tup (pa_cons (pe_lst pa_nil) (pa_cons (pe_op op_cat (pe_dget hu (pv 0) pe_str (fun _ _ => rfl)) (pe_dget hu (pv 0) pe_str (fun _ _ => rfl))) pa_nil))) (pg_tup rfl (pgs_cons (pg_name (i := 3) scDue.nd rfl (Or.inl rfl)) (pgs_cons (pg_name (i := 4) scDue.nd rfl (Or.inr rfl)) pgs_nil))))
      (pss_cut (ps_for PassesOwn.never rfl (pi_seq (pv 1)) (pg_name (i := 2) scDue.nd rfl (Or.inl rfl)) (pss_one (ps_set (i := 3) scDue.nd rfl (Or.inl rfl) (pe_op op_cat (pv 3) (pe_callTy call_list_of (by rfl) T.list (by decide +kernel) (pa_cons (pv 2) pa_nil))))))
      (pss_cons (ps_if (pt_cmpR (op_neNil hr.units) (pe_lc (te := tVar 5) (tt := ttD2 K) (own := [("_law_tag", 5)]) (g := gName 5) rfl scDue.nd (pi_list (pv 3)) (blkOk_by (N := nDue) (sc := defScope sDue) (by decide +kernel)) (fun _ _ _ _ _ => pg_name (i := 5) scDue.nd rfl (Or.inl rfl))
          (fun _ _ _ _ _ => pts_one (PW.pt (pw_or (pt_not (pt_val (pe_callB call_isi (by rfl) T.isi (by decide +kernel) (pa_cons (pv 5) (pa_cons (pe_bltn (by rfl) T.str (by decide +kernel) (v := .ty "str") rfl) pa_nil))))) (pw_or1 (pt_cmpR op_notIn_seq (pv 5) (pv 4) (by rfl)))))) (fun _ _ _ _ _ => pv 5)) (pe_lst pa_nil) (nomark _)) (pss_one (ps_ret pe_str)) pss_nil)
      (pss_cons (ps_if (pt_cmpR op_lt (pe_callB (SetS.call_lenX) (by rfl) T.len PySem.boot_len (pa_cons (pe_callTy (T := "set") (SetS.call_setL rfl) (by rfl) T.set (by decide +kernel) (pa_cons (pv 3) pa_nil)) pa_nil)) (pe_callB call_len_seq (by rfl) T.len PySem.boot_len (pa_cons (pv 3) pa_nil)) (nomark _)) (pss_one (ps_ret pe_str)) pss_nil)
      (pss_one (ps_ret (pe_ifExp (pt_cmpR op_lt (pe_callB call_len_seq (by rfl) T.len PySem.boot_len (pa_cons (pv 3) pa_nil)) (pe_callB call_len_seq (by rfl) T.len PySem.boot_len (pa_cons (pv 4) pa_nil)) (nomark _)) pe_str pe_non)))))))), ?_⟩
    obtain ⟨legs, elegs⟩ : ∃ legs, legs = d.ds ++ d.ls := ⟨_, rfl⟩
    rw [← elegs] at k
    have out : ∀ {v : V}, dueV legs os = v → ∀ H', Same H H' → Q v H' := fun e H' s => by rw [← e]; exact k H' s
    refine ⟨fun σ H' => σ = ([some (.ref b), some x, none, none, none, none] : List (Option V)) ∧ Same H H' ∧ ∃ rs, os = some rs ∧ 1 ≤ rs.length ∧ rs.length ≤ 8, ?_, ?_⟩
    · refine rowV_rd (v := 1) rfl hx fun H1 s1 => ?_
      refine ⟨_, rfl, ?_⟩
      cases hx with
      | odd _ _ _ => exact iteT (iteT (out rfl _ s1))
      | seq hq hy hf =>
        rename_i a ys rs
        refine iteF ?_
        have hyl := dqa_len hy
        refine ⟨_, rfl, a, ys, rfl, hq.same s1, _, _, rfl, rfl, decide (1 ≤ rs.length), ?_, ?_⟩
        · show V.bl (decide ((1 : Int) ≤ (ys.length : Int))) = _
          rw [decide_eq_decide.mpr (show (1 : Int) ≤ (ys.length : Int) ↔ 1 ≤ rs.length by omega)]
        have bad : ¬ (1 ≤ rs.length ∧ rs.length ≤ 8) → dueV legs (some rs) = .str "parts" := fun n => by
          show due66 legs rs = _
          unfold due66
          rw [if_pos (by rw [← Bool.not_eq_true, Bool.and_eq_true, decide_eq_true_eq, decide_eq_true_eq]; exact n)]
        by_cases h1 : 1 ≤ rs.length
        · rw [decide_eq_true h1]
          refine iteT ⟨_, _, rfl, rfl, decide (rs.length ≤ 8), ?_, ?_⟩
          · show V.bl (decide ((ys.length : Int) ≤ 8)) = _
            rw [decide_eq_decide.mpr (show (ys.length : Int) ≤ 8 ↔ rs.length ≤ 8 by omega)]
          by_cases h8 : rs.length ≤ 8
          · rw [decide_eq_true h8]
            exact iteF ⟨rfl, s1, rs, rfl, h1, h8⟩
          · rw [decide_eq_false h8]
            exact iteT (out (bad (fun z => h8 z.2)) _ s1)
        · rw [decide_eq_false h1]
          exact iteF ⟨false, rfl, iteT (out (bad (fun z => h1 z.1)) _ s1)⟩
    rintro σ H1 ⟨rfl, s1, rs, rfl, h1, h8⟩
    obtain ⟨a, ys, rfl, hq, hy, hl1, hl2⟩ : ∃ a ys, x = .ref a ∧ SqA K H a ys ∧ DqAll K H ys rs ∧ Few rs := by
      cases hx with
      | seq q d f => exact ⟨_, _, rfl, q, d, f⟩
    have due1 : dueV legs (some rs) = if (rs.all fun r => (isSeq r).isSome) = false then .str "parts" else if (wholeD rs).all (inL legs) = false then .str "name" else if ((wholeD rs).map nmD).Nodup then (if (wholeD rs).length < legs.length then .str "legs" else .non) else .str "twice" := by
      show due66 legs rs = _
      unfold due66
      rw [if_neg (by rw [decide_eq_true h1, decide_eq_true h8]; decide)]
    rw [due1] at out
    clear due1 k
    have hq1 := hq.same s1
    have hyl := dqa_len hy
    have hy1 := Dq.sameAll s1 _ _ hy
    -- all rows
    have bsl : (rs.map fun r => !(isSeq r).isSome).length = ys.length := by rw [List.length_map, hyl]
    have step1 : ∀ {Qd : Hp → Prop} {D : Addr}, H1 D = none → (∀ H' us, Same H1 H' → H' D = some (.lst us) → us.isEmpty = (!(rs.map fun r => !(isSeq r).isSome).any id) → Qd H') → ∀ {J : It} {G : Hp → Prop} {Y : Nat → Hp → V → Hp → Prop}, Walk J ys.length G Y → (∀ H', Same H1 H' → G H') → (∀ i H x H', Y i H x H' → H' = H ∧ ys[i]? = some x) →
        ∃ W : Nat → Nat → Hp → Prop, (∃ m, W 0 m (upd H1 D (.lst []))) ∧ ∀ i m H, W i m H →
          (J.stop i H ∧ Qd H) ∨ (J.go i H ∧ ∃ Nx : Hp → Prop, (∀ H', Nx H' → ∃ m', m' < m ∧ W (i + 1) m' H') ∧ ∀ x H', J.yld i H x H' → gName 2 x (wipe ([some (.ref b), some (.ref a), none, none, none, none] : List (Option V)) [2]) H' fun σ2 H2 => wipe σ2 [2] = wipe ([some (.ref b), some (.ref a), none, none, none, none] : List (Option V)) [2] ∧ ttD1 K σ2 H2 fun b H3 =>
            if b = true then tVar 2 σ2 H3 fun y H4 => ∃ acc, H4 D = some (.lst acc) ∧ acc.length < sizeLine ∧ Nx (upd H4 D (.lst (acc ++ [y]))) else Nx H3) := by
      intro Qd D hD kd J G Y wk hG hY
      refine lc_sel wk _ bsl hD (by omega) hG (fun x => rfl) (fun x => rfl) ?_ kd
      intro i x Ho Ha b' eb sa hy'
      obtain ⟨rfl, hxi⟩ := hY _ _ _ _ hy'
      obtain ⟨r, er, hr'⟩ := dqa_at hy1 hxi
      rw [List.getElem?_map, er] at eb
      obtain rfl := Option.some.inj eb
      exact ⟨Same.refl _, fun R kR => isSeq_rd (v := 2) rfl (Dq.same sa _ _ hr') fun H2 s2 => ⟨_, rfl, kR _ s2⟩⟩
    have allE : (!(rs.map fun r => !(isSeq r).isSome).any id) = rs.all fun r => (isSeq r).isSome := by
      rw [List.any_map, List.all_eq_not_any_not]
      rfl
    refine ⟨fun σ H' => σ = ([some (.ref b), some (.ref a), none, none, none, none] : List (Option V)) ∧ Same H H' ∧ (rs.all fun r => (isSeq r).isSome) = true, ?_, ?_⟩
    · refine ⟨_, rfl, a, rfl, ?_⟩
      rcases hq1 with q | q
      · refine .inl ⟨⟨_, q⟩, fun D hD => step1 hD (fun H2 us s2 d2 e2 => ?_) (walk_list (K := K) (a := a) (xs := ys)) (fun H' s => SqL.ext q s) (fun _ _ _ _ h => h)⟩
        refine ⟨by show 0 ≤ sizeLine; decide, fun e he => ?_⟩
        have s3 := same_at (o := .lst []) he
        refine ⟨D, e, us, rfl, rfl, s3 _ _ d2, upd_same, _, rfl, ?_⟩
        rw [e2, allE]
        cases ha : rs.all fun r => (isSeq r).isSome with
        | false => exact iteT (out (by rw [if_pos ha]) _ ((s1.trans s2).trans s3))
        | true => exact iteF ⟨rfl, (s1.trans s2).trans s3, rfl⟩
      · refine .inr ⟨⟨_, q⟩, fun D hD => step1 hD (fun H2 us s2 d2 e2 => ?_) (walk_tup (K := K) (a := a) (xs := ys)) (fun H' s => SqT.ext q s) (fun _ _ _ _ h => h)⟩
        refine ⟨by show 0 ≤ sizeLine; decide, fun e he => ?_⟩
        have s3 := same_at (o := .lst []) he
        refine ⟨D, e, us, rfl, rfl, s3 _ _ d2, upd_same, _, rfl, ?_⟩
        rw [e2, allE]
        cases ha : rs.all fun r => (isSeq r).isSome with
        | false => exact iteT (out (by rw [if_pos ha]) _ ((s1.trans s2).trans s3))
        | true => exact iteF ⟨rfl, (s1.trans s2).trans s3, rfl⟩
    rintro σ H2 ⟨rfl, s2, hall⟩
    clear step1 allE bsl hy1
    rw [if_neg (by rw [hall]; decide)] at out
    obtain ⟨Bl, rfl, hBl, hW, hbl⟩ := rows_flat hy hall
    have hWl := dqa_len hW
    obtain ⟨dl, ll, rl, hb, hdl, hll, hrl, hdp, hlp, hrp⟩ := (hB.same s2).ex
    have c1 : (strv d.ds).length = d.ds.length := List.length_map _
    have c2 : (strv d.ls).length = d.ls.length := List.length_map _
    have hle := ok.le
    refine ⟨by show 0 ≤ sizeLine; decide, fun w0 hw0 => ⟨_, rfl, b, _, rfl, DGet.k (k := Sum.inr "drivers") (same_at hw0 _ _ hb), _, rfl, b, _, rfl, DGet.k (k := Sum.inr "listeners") (same_at hw0 _ _ hb), dl, ll, _, _, rfl, rfl, same_at hw0 _ _ hdl, same_at hw0 _ _ hll, Nat.le_trans (show _ ≤ 16 by rw [c1, c2]; omega) (by decide), fun t ht => ?_⟩⟩
    have sA := same_at (o := .lst []) hw0
    have sB := same_at (o := .lst (strv d.ds ++ strv d.ls)) ht
    refine ⟨by show 2 ≤ sizeLine; decide, fun tp htp => ⟨tp, _, rfl, SqT.of upd_same, rfl, ?_⟩⟩
    have sC := same_at (o := .tup [V.ref w0, .ref t]) htp
    have eL : strv d.ds ++ strv d.ls = strv legs := by rw [elegs]; unfold strv; rw [List.map_append]
    have ew0 := sC _ _ (sB _ _ (upd_same (H := H2) (a := w0) (o := .lst [])))
    have et0 := sC _ _ (upd_same (H := upd H2 w0 (.lst [])) (a := t) (o := .lst (strv d.ds ++ strv d.ls)))
    have s3 := s2.trans (sA.trans (sB.trans sC))
    rw [eL] at et0 s3 ew0 sC ⊢
    obtain ⟨H3, e3⟩ : ∃ H3, H3 = upd (upd (upd H2 w0 (.lst [])) t (.lst (strv legs))) tp (.tup [V.ref w0, .ref t]) := ⟨_, rfl⟩
    rw [← e3] at ew0 et0 s3
    refine ⟨_, _, rfl, _, _, rfl, rfl, ?_⟩
    rw [← e3]
    have hq3 := hq.same s3
    have hBl3 : ∀ y ∈ Bl, SqA K H3 y.1 y.2 := fun y hy' => (hBl y hy').same s3
    have hW3 := Dq.sameAll s3 _ _ hW
    have hBn : (Bl.map fun y => V.ref y.1).length = Bl.length := List.length_map _
    have fin : ∀ {σ : L2.St} {H' : Hp} {W : Addr} {o2 : Option V}, σ = ([some (.ref b), some (.ref a), o2, some (.ref W), some (.ref t), none] : List (Option V)) → Same H3 H' → H' W = some (.lst (Bl.flatMap (·.2))) → (∃ (W : Addr) (o2 : Option V), σ = ([some (.ref b), some (.ref a), o2, some (.ref W), some (.ref t), none] : List (Option V)) ∧ Same H3 H' ∧ H' W = some (.lst (Bl.flatMap (·.2)))) := fun h1 h2 h3 => ⟨_, _, h1, h2, h3⟩
    refine ⟨fun σ H' => ∃ (W : Addr) (o2 : Option V), σ = ([some (.ref b), some (.ref a), o2, some (.ref W), some (.ref t), none] : List (Option V)) ∧ Same H3 H' ∧ H' W = some (.lst (Bl.flatMap (·.2))), ?_, ?_⟩
    · have sn : ∀ {i : Nat} {y : Addr × List V}, Bl[i]? = some y → (Bl.take (i + 1)).flatMap (·.2) = (Bl.take i).flatMap (·.2) ++ y.2 := fun {i y} h => by
        rw [List.take_add_one, h, Option.toList_some, List.flatMap_append]
        simp
      have stepF : ∀ (i : Nat) (x : V) (σ : L2.St) (Hc : Hp) (R : L2.St → Hp → Prop), (Bl.map fun y => V.ref y.1)[i]? = some x → (∃ (W : Addr) (o2 : Option V), σ = ([some (.ref b), some (.ref a), o2, some (.ref W), some (.ref t), none] : List (Option V)) ∧ Same H3 Hc ∧ Hc W = some (.lst ((Bl.take i).flatMap (·.2)))) →
          (∀ σ' H', (∃ (W : Addr) (o2 : Option V), σ' = ([some (.ref b), some (.ref a), o2, some (.ref W), some (.ref t), none] : List (Option V)) ∧ Same H3 H' ∧ H' W = some (.lst ((Bl.take (i + 1)).flatMap (·.2)))) → R σ' H') →
          tOp rCat (tVar 3) (tCB (fun xs H Q => ∃ p ys, xs = [V.ref p] ∧ (SqL K H p ys ∨ SqT K H p ys) ∧ ∀ l, H l = none → Q (.ref l) (upd H l (.lst ys))) (tCons (tVar 2) tNil)) (σ.set 2 (some x)) Hc fun z H1 => R ((σ.set 2 (some x)).set 3 (some z)) H1 := by
        rintro i x σ Hc R hxi ⟨W, o2, rfl, sc, hw⟩ kR
        rw [List.getElem?_map] at hxi
        cases ey : Bl[i]? with
        | none => rw [ey] at hxi; cases hxi
        | some y =>
        rw [ey] at hxi
        obtain rfl := Option.some.inj hxi
        have hym := List.mem_of_getElem? ey
        have hle : ((Bl.take i).flatMap (·.2)).length + y.2.length ≤ 900 := by
          rw [← List.length_append, ← sn ey]
          refine Nat.le_trans ?_ (show (Bl.flatMap (·.2)).length ≤ 900 by omega)
          have e : Bl.flatMap (·.2) = (Bl.take (i + 1)).flatMap (·.2) ++ (Bl.drop (i + 1)).flatMap (·.2) := by rw [← List.flatMap_append, List.take_append_drop]
          rw [e, List.length_append]
          omega
        refine ⟨_, rfl, _, rfl, y.1, y.2, rfl, (hBl3 y hym).same sc, fun l hl => ?_⟩
        have s5 := same_at (o := .lst y.2) hl
        refine ⟨W, l, _, _, rfl, rfl, s5 _ _ hw, upd_same, Nat.le_trans (show _ ≤ 900 by exact hle) (by decide), fun p5 hp5 => ?_⟩
        exact kR _ _ ⟨p5, _, rfl, sc.trans (s5.trans (same_at hp5)), by rw [upd_same, sn ey]⟩
      refine ⟨_, rfl, a, rfl, ?_⟩
      rcases hq3 with q | q
      · refine .inl ⟨⟨_, q⟩, for_list (xs := Bl.map fun y : Addr × List V => V.ref y.1) (fun i σ H' => ∃ (W : Addr) (o2 : Option V), σ = ([some (.ref b), some (.ref a), o2, some (.ref W), some (.ref t), none] : List (Option V)) ∧ Same H3 H' ∧ H' W = some (.lst ((Bl.take i).flatMap (·.2)))) ⟨w0, none, rfl, Same.refl _, ew0⟩ (fun i σ H' _ ⟨_, _, _, s, _⟩ => SqL.ext q s) (fun i x σ Hc hxi h => stepF i x σ Hc _ hxi h fun _ _ z => z) ?_⟩
        rintro σ H4 ⟨W, o2, h1, h2, h3⟩
        rw [hBn, List.take_length] at h3
        exact ⟨W, o2, h1, h2, h3⟩
      · refine .inr ⟨⟨_, q⟩, for_tup (xs := Bl.map fun y : Addr × List V => V.ref y.1) (fun i σ H' => ∃ (W : Addr) (o2 : Option V), σ = ([some (.ref b), some (.ref a), o2, some (.ref W), some (.ref t), none] : List (Option V)) ∧ Same H3 H' ∧ H' W = some (.lst ((Bl.take i).flatMap (·.2)))) ⟨w0, none, rfl, Same.refl _, ew0⟩ (fun i σ H' _ ⟨_, _, _, s, _⟩ => SqT.ext q s) (fun i x σ Hc hxi h => stepF i x σ Hc _ hxi h fun _ _ z => z) ?_⟩
        rintro σ H4 ⟨W, o2, h1, h2, h3⟩
        rw [hBn, List.take_length] at h3
        exact ⟨W, o2, h1, h2, h3⟩
    rintro σ H4 ⟨W, o2, rfl, s34, hW4⟩
    clear fin hq3 hBl3
    have s4 := s3.trans s34
    have et4 := s34 _ _ et0
    have hD4 := Dq.sameAll s34 _ _ hW3
    obtain ⟨ns, ens⟩ : ∃ ns, ns = Bl.flatMap (·.2) := ⟨_, rfl⟩
    rw [← ens] at hW4 hD4 hWl
    clear e3 s34 s3 hW hW3 hBl hbl hq hy hq1 s1 s2 sA sB sC
    -- names
    refine ⟨_, rfl, W, rfl, ⟨_, SqL.of hW4⟩, fun D hD => ?_⟩
    refine lc_sel (walk_list (K := K) (a := W) (xs := ns)) ((wholeD rs).map fun r => !inL legs r) (by rw [List.length_map, hWl]) hD (by omega) (fun H' s => SqL.of (s _ _ hW4)) (fun x => rfl) (fun x => rfl) ?_ fun H5 us s45 d5 e5 => ?_
    · rintro i x Ho Ha b' eb sa ⟨rfl, hxi⟩
      obtain ⟨r, er, hr'⟩ := dqa_at hD4 hxi
      rw [List.getElem?_map, er] at eb
      obtain rfl := Option.some.inj eb
      refine ⟨Same.refl _, fun R kR => ?_⟩
      obtain ⟨ty, tyx, k1, _⟩ := dq_ty (Dq.same sa _ _ hr')
      refine ⟨_, rfl, _, _, .type ty, .type "str", _, rfl, .ty _, tyx, kit_ty k1, _, rfl, ?_⟩
      cases hr' with
      | str z =>
        refine iteF ⟨_, rfl, _, rfl, t, strv legs, rfl, .inl (SqL.of (sa _ _ et4)), rfl, ?_, _, rfl, ?_⟩
        · exact List.all_eq_true.mpr fun y hy => by obtain ⟨z', _, rfl⟩ := List.mem_map.mp hy; rfl
        · rw [if_pos rfl, inV_strs]
          exact kR _ (Same.refl _)
      | _ => exact iteT (kR _ (Same.refl _))
    have s5 := s4.trans s45
    refine ⟨by show 0 ≤ sizeLine; decide, fun e he => ?_⟩
    have s6 := same_at (o := .lst []) he
    refine ⟨D, e, us, rfl, rfl, s6 _ _ d5, upd_same, _, rfl, ?_⟩
    have allE : (!((wholeD rs).map fun r => !inL legs r).any id) = (wholeD rs).all (inL legs) := by
      rw [List.any_map, List.all_eq_not_any_not]
      rfl
    rw [e5, allE]
    have s7 := s5.trans s6
    cases hall2 : (wholeD rs).all (inL legs) with
    | false => exact iteT (out (by rw [if_pos hall2]) _ s7)
    | true =>
    rw [if_neg (by rw [hall2]; decide)] at out
    refine iteF ?_
    obtain ⟨e1, _⟩ := all_strs hD4 hall2
    obtain ⟨zs, ezs⟩ : ∃ zs, zs = (wholeD rs).map nmD := ⟨_, rfl⟩
    have hzl : zs.length = (wholeD rs).length := by rw [ezs, List.length_map]
    rw [← ezs] at e1 out
    rw [e1] at hW4
    clear hD4
    have nl : (strv zs).length = zs.length := List.length_map _
    have ll' : (strv legs).length = legs.length := List.length_map _
    have hW7 := s6 _ _ (s45 _ _ hW4)
    have et7 := s6 _ _ (s45 _ _ et4)
    refine ⟨_, rfl, W, zs, rfl, SqL.of hW7, by omega, fun p hp' => ?_⟩
    have sp := same_at (o := SetS.SetX w p (SetS.setL zs)) hp'
    refine ⟨p, SetS.setL zs, rfl, upd_same, _, rfl, W, strv zs, rfl, .inl (SqL.of (sp _ _ hW7)), _, _, rfl, rfl, _, rfl, ?_⟩
    rw [nl]
    have s8 := s7.trans sp
    by_cases hnd : zs.Nodup
    · rw [if_pos hnd] at out
      rw [decide_eq_false (show ¬ ((SetS.setL zs).length : Int) < (zs.length : Int) by rw [SetS.setL_same hnd]; exact Int.lt_irrefl _)]
      refine iteF ?_
      refine ⟨_, rfl, W, strv zs, rfl, .inl (SqL.of (sp _ _ hW7)), _, rfl, t, strv legs, rfl, .inl (SqL.of (sp _ _ et7)), _, _, rfl, rfl, _, rfl, ?_⟩
      rw [nl, ll']
      by_cases hle : zs.length < legs.length
      · rw [decide_eq_true (show (zs.length : Int) < (legs.length : Int) by omega)]
        exact iteT (out (by rw [if_pos (by omega)]) _ s8)
      · rw [decide_eq_false (show ¬ (zs.length : Int) < (legs.length : Int) by omega)]
        exact iteF (out (by rw [if_neg (by omega)]) _ s8)
    · rw [if_neg hnd] at out
      rw [decide_eq_true (show ((SetS.setL zs).length : Int) < (zs.length : Int) by have := (nd_set zs).mpr hnd; omega)]
      exact iteT (out rfl _ s8)
end
end Sj
/-! a lambda handed to a def, where it is known that nothing is being shown -/
namespace LamX
open PySem PySem.Spec PyProof.Rows L2
section
variable {X : Cx} {pins : List (Addr × Obj)} {τ : L2.St} {H HZ : Hp} {s sB : Shared}
abbrev lamQ (X : Cx) : Str := X.env.qual ++ "<lambda>"
abbrev lamO (X : Cx) (ar : Arguments) (e : Expr) (sc : Scope) (pm : Value) (c' : Addr) (ct : Value) : Obj := PySem.W.kla_obj "<lambda>" (lamQ X) ar e sc (cloFrom X.env.cells sc.names []) pm c' ct
/-- the lambda at f runs under B -/
theorem lam_runG {B : Around} {st : List Env} {E : XK} {ar : Arguments} {e : Expr} {sc : Scope} {k : Nat} {f c' : Addr} {pm ct : Value} {tb : TE} {Q : VK} (I : Inv X pins τ H s) (L : LamS X.env.scope sc) (at_ : sB.heap.get? f = some (lamO X ar e sc pm c' ct))
    (nb : bindArgs (PySem.W.kla_fn "<lambda>" (lamQ X) ar e sc (cloFrom X.env.cells sc.names []) pm (.ref c') ct) ⟨[], []⟩ = pure []) (rm : Room (k + 1) B) (e0 : Env0 X.prog X.w X.K X.mg X.base B st sB HZ) (un : Un (frs X.stack) [] H HZ s.heap sB.heap) (nl : sB.heap.NoLimit)
    (hC : ∃ (oc : Obj) (vs : Array Value) (t : Tok), sB.heap.get? c' = some oc ∧ oc.data = .fields vs ∧ vs[1]? = some (.str (lamQ X) t))
    (hb : Room k (B.deeper (lamEnv X sc sB.heap.objs.size f c')) → PE (lamCx X B st sB HZ E sc f c') e tb) (ht : tb τ HZ Q) :
    codeAny (model X.prog X.w) B (.call (.ref f) ⟨[], []⟩) (CR (L2.CX X.prog X.w) st X.prog X.w HZ sB Q E) sB := by
  obtain ⟨oc, vs, t, z1, z2, z3⟩ := hC
  refine PySem.W.kla_callFunE rm.depth at_ rfl L.co L.gen rfl ⟨c', oc, vs, t, rfl, z1, z2, z3⟩ ?_
  rw [nb]
  refine wpAny_pure (wpAny_newFunctionEnv (fun y hy => (L.own y hy).2) (fun y hy => nomatch hy) (fun h1 fresh same => ⟨nl.fresh _ same, ?_⟩) L.kind)
  have keep : ∀ b o, sB.heap.get? b = some o → h1.get? b = some o := by
    intro b o q
    exact same.extBut b o (Nat.ne_of_lt (Heap.lt_size q)) (Heap.get?_push_of_some _ q)
  have J : Inv (lamCx X B st sB HZ E sc f c') [] τ HZ _ := lam_start2 (tk := sB.toks + ([] : List (Str × Value)).length) I L e0 rm.hd un fresh keep
  show codeAny _ _ (.expr e (lamEnv X sc sB.heap.objs.size f c')) _ _
  refine PySem.W.kla_codeExpr (wpAny_mono ((hb (rm.deeper _)).run [] _ _ HZ Q J ht) ?_ fun _ _ z => z)
  rintro v s' ⟨x, H', J', rv, q⟩
  exact ⟨x, H', J'.os, J'.bare, J'.base, J'.hok, rv, q⟩
/-- what stands around the def that got the lambda -/
abbrev inG (X : Cx) (qg : Str) (sg : Scope) (n : Nat) (g : Addr) (cdg : Value) : Around := X.A.deeper (envOfC qg sg n g cdg)
/-- there, x() -/
theorem pe_actG {CXg : CXT} {Eg E : XK} {Ng : List Str} {qg a : Str} {sg sc : Scope} {g f c' : Addr} {cdg pm ct : Value} {ar : Arguments} {e : Expr} {k : Nat} {pn : List (Addr × Obj)} {xe : Value → Shared → Prop} {W : WX} {tb : TE} {p1 p2 : Pos}
    (I : Inv X pins τ H s) (L : LamS X.env.scope sc) (at_ : s.heap.get? f = some (lamO X ar e sc pm c' ct)) (new : H f = none) (nofr : f ∉ frs X.stack)
    (nb : bindArgs (PySem.W.kla_fn "<lambda>" (lamQ X) ar e sc (cloFrom X.env.cells sc.names []) pm (.ref c') ct) ⟨[], []⟩ = pure [])
    (tk : Takes ((cxOf CXg X.prog X.w X.K X.mg X.base Ng qg sg g cdg X.A X.stack s H Eg).tr pn xe) W) (hW : ∀ cls d σ' H', E cls d H' → W cls d σ' H') (rm : Room (k + 1) (inG X qg sg s.heap.objs.size g cdg))
    (hb : ∀ (st : List Env) (s1 : Shared) (H1 : Hp), Room k ((inG X qg sg s.heap.objs.size g cdg).deeper (lamEnv X sc s1.heap.objs.size f c')) → PE (lamCx X (inG X qg sg s.heap.objs.size g cdg) st s1 H1 E sc f c') e tb)
    (h0 : Ng[0]? = some a) (hv : Vis sg a) (hd : (a == ("__debug__" : Str)) = false) (hcd : (a == ("__classdict__" : Str)) = false) :
    PE ((cxOf CXg X.prog X.w X.K X.mg X.base Ng qg sg g cdg X.A X.stack s H Eg).tr pn xe) (.Call (.Name a p1) [] [] p2)
      (fun σ1 H1 Q => σ1[0]? = some (some (.ref f)) ∧ H1 c' = some (CodeO c' (lamQ X)) ∧ tb τ H1 Q) := by
  refine ⟨fun pins1 s1 σ1 H1 Q I1 ⟨hs, hc, ht⟩ => ?_⟩
  have rd := (pe_var (pos := p1) (i := 0) h0 hv hd hcd).run pins1 s1 σ1 H1 (fun v H2 => v = .ref f ∧ H2 = H1) I1 ⟨.ref f, hs, rfl, rfl⟩
  refine wpAny_Call_Name_kw (thn rd ?_)
  rintro u s2 ⟨v, H2, I2, r2, rfl, rfl⟩
  obtain rfl : u = Value.ref f := r2
  have at2 := I2.base.keep f _ at_ new nofr (fun z => nomatch (show f ∈ ([] : List Addr) from z))
  refine PySem.W.callWith_F0 ⟨_, _, _, _, at2⟩ ?_
  obtain ⟨hC, _, _⟩ := I2.hok c' _ hc
  have run := lam_runG (Q := Q) (E := E) I L at2 nb rm I2.env0 I2.base I2.nolimit hC (hb _ _ _) ht
  have pass : Passes (L2.CX X.prog X.w) ((cxOf CXg X.prog X.w X.K X.mg X.base Ng qg sg g cdg X.A X.stack s H Eg).tr pn xe) E := passes_call tk hW
  refine wpAny_call (codeAny_mono run fun r s3 q => ?_)
  match r, q with
  | .error z, q => exact pass pins1 σ1 _ s2 z s3 I2 q
  | .ok (.ret u), q => exact I2.after q
/-- x(lambda: e), nothing being shown -/
theorem pe_lamcallG {T : List (Addr × Str)} {TT : (XK → Hp → VK → Prop) → Hp → VK → Prop} {x a : Str} {g c P : Addr} {k : Nat} {pg ar : Arguments} {bg : List Stmt} {sg sc : Scope} {dV kV doc pm cdv ct oc : Value} {an od : Option Addr} {osl : Array (Option Value)} {Ng : List Str} {e : Expr} {t : XK → TE} {p lpos pos : Pos}
    (hg : Gl X x) (hm : X.mg x = some (.ref g)) (hk : PySem.W.keepIn X.K (.ref g) = true) (lk : X.K.lookup g = some ⟨oc, od, .func (PySem.W.fnOf x x pg bg sg dV kV doc pm an cdv ct), osl⟩) (hcg : PySem.W.codeIn X.K cdv x = true)
    (hb : L2.Binds X.K (PySem.W.fnOf x x pg bg sg dV kV doc pm an cdv ct) [a] []) (Sg : FnScope Ng [a] sg) (h0 : Ng[0]? = some a) (hva : Vis sg a) (hG : GivesTo X Ng x sg g cdv bg a (lamQ X) TT)
    (TB : TabB X.base X.mg c P) (hcode : X.env.code = .ref c) (hmT : (P, lamQ X) ∈ T) (hu : ∀ p ∈ T, p.1 = P → p.2 = lamQ X) (hgu : X.A.guards = some []) (rm : Room (k + 2) X.A) (L : LamS X.env.scope sc) (hdef : defaultsOf ar X.env = ([], []))
    (nb : ∀ (q : Str) (cl : List (Str × Addr)) (pm cv ct : Value), bindArgs (PySem.W.kla_fn "<lambda>" q ar e sc cl pm cv ct) ⟨[], []⟩ = pure [])
    (hbody : ∀ (B : Around) (st : List Env) (s1 : Shared) (H1 : Hp) (E : XK) (f c' : Addr), B.guards = some [] → Room k (B.deeper (lamEnv X sc s1.heap.objs.size f c')) → PE (lamCx X B st s1 H1 E sc f c') e (t E))
    (hdb : (x == ("__debug__" : Str)) = false := by decide) (hd : (a == ("__debug__" : Str)) = false := by decide) (hcd : (a == ("__classdict__" : Str)) = false := by decide) :
    PE X (.Call (.Name x p) [.Lambda ar e sc lpos] [] pos) (tLam T TT t) := by
  refine ⟨fun pins s σ H Q I ⟨hT, h⟩ => ?_⟩
  refine wpAny_Call_Name_kw (ld_glob I hg hm ?_ hdb)
  refine PySem.W.callWith_K (h₀ := X.base) I.ok.mod.kin hk ?_ (by rfl) (by rfl)
  have one : backTo pos (starEach [.Lambda ar e sc lpos] X.env) = (false, eval (.Lambda ar e sc lpos) X.env) :: backTo pos (starEach [] X.env) := rfl
  rw [one]
  refine Calls.spliced_cons (lam_make2 I TB hcode hmT hu hT hdef (L.has I.ok) ?_)
  intro f c' pm' ct' H1 s' I1 eN T1 at_ new nofr hco
  refine Calls.spliced_nil ⟨I1.kIn, ?_⟩
  have run : codeAny (model X.prog X.w) X.A (.call (.ref g) ⟨[.ref f], []⟩) (CR C8.CX0 X.stack X.prog X.w H1 s' Q C8.E0) s' := by
    refine run_ofS (N := Ng) (ps := [a]) (us := [.ref f]) (vs := [.ref f]) lk hcg Sg rm I1.env0 (hb s' [.ref f] I1.kIn rfl) (.cons rfl .nil) rfl fun rm' => ?_
    obtain ⟨t', ht', hq'⟩ := hG f c' s' H1 Q (fun E H' Q' => t E σ H' Q')
      (fun W pn xe E p1 p2 tk hW => pe_actG I1 L at_ new nofr (nb _ _ _ _ _) tk hW rm' (fun st s1 H1 r => hbody _ st s1 H1 E f c' hgu r) h0 hva hd hcd) hco (h H1 eN T1)
    exact ⟨t', ht'.nox, hq'⟩
  refine wpAny_call (codeAny_mono run fun r s2 q => ?_)
  match r, q with
  | .error z, q => exact (show False from q).elim
  | .ok (.ret u), q => exact I1.after q
end
end LamX
/-! def f(a, *v) of which more is known: that nothing is being shown around it; o.m(e, ..), o.m() of such a def -/
namespace Grd
open PySem PySem.Spec PyProof.Rows L2
open StX
/-- a promise by positional values, asked where nothing is being shown -/
def FnGR (P : Program) (w : World) (K : PySem.W.Frag) (mg : Str → Option Value) (base : Heap) (CX : CXT) (k : Nat) (f : Addr) (sp : Sp) : Prop :=
  ∀ (A : Around) (outer : List Env) (s : Shared) (H : Hp) (us : List Value) (vs : List V) (Q : VK) (E : XK), A.guards = some [] → Room k A → Env0 P w K mg base A outer s H → Vals vs us → sp vs H Q E →
    codeAny (model P w) A (.call (.ref f) ⟨us, []⟩) (CR CX outer P w H s Q E) s
section
variable {P : Program} {w : World} {K : PySem.W.Frag} {mg : Str → Option Value} {base : Heap} {CX : CXT} {j k : Nat} {f : Addr} {sp sp' : Sp} {N ps : List Str} {name qual : Str} {params : Arguments} {body : List Stmt} {scope : Scope} {dV kV doc pm cdv ct oc : Value} {an od : Option Addr}
  {osl : Array (Option Value)}
theorem FnGR.mono (F : FnGR P w K mg base CX j f sp) (h : j ≤ k) : FnGR P w K mg base CX k f sp := fun A outer s H us vs Q E hg hr => F A outer s H us vs Q E hg (hr.mono h)
end
section
variable {X : Cx} {CX : CXT} {k : Nat} {f C : Addr} {m : Str} {sp : Sp} {E : XK} {e o : Expr} {es : List Expr} {ta : TE} {t : TA} {apos pos : Pos}
theorem run_gR {pins : List (Addr × Obj)} {σ : L2.St} {H : Hp} {s : Shared} {Q : VK} {us : List Value} {vs : List V} (F : FnGR X.prog X.w X.K X.mg X.base CX k f sp) (hG : X.A.guards = some []) (hr : Room k X.A) (hx : ∀ e s', CX X.stack H s E e s' → X.xe e s') (I : Inv X pins σ H s) (r : Vals vs us)
    (h : sp vs H Q E) : wpAny (model X.prog X.w) X.A (call (.ref f) us) (EP X pins σ Q) X.xe s := by
  refine wpAny_call (codeAny_mono (F X.A X.stack s H us vs Q E hG hr I.env0 r h) fun res s' hq => ?_)
  match res, hq with
  | .error e, hq => exact hx e s' hq
  | .ok (.ret u), hq => exact I.after hq
end
end Grd
/-! o.m(*y) of a def with a star; a promise with its binding, by place (where nothing is being shown) -/
namespace Grd
open PySem PySem.Spec PyProof.Rows L2
open StX
theorem fnGR_of {P : Program} {w : World} {K : PySem.W.Frag} {mg : Str → Option Value} {base : Heap} {CX : CXT} {k : Nat} {f : Addr} {fd : FuncData} {ps : List Str} {sp : Sp} (F : FnG P w K mg base CX k f fd ps sp) (hb : Binds K fd ps []) : FnGR P w K mg base CX k f sp := fun A outer s H us vs Q E hg hr e0 r h => by
  have hl : (us ++ []).length = ps.length := by rw [List.append_nil, ← r.length]; exact F.len _ _ _ _ h
  have hB := hb s us (e0.mod.kin.keeps fun b o e => (e0.bs b o e).1) hl
  rw [List.append_nil] at hB
  exact F.run A outer s H ⟨us, []⟩ us vs Q E hg hr e0 hB r h
end Grd
namespace Grd
open PySem PySem.Spec PyProof.Rows L2 Sup
section
variable {X : Cx} {CX : CXT} {k : Nat} {f C : Addr} {m : Str} {sp : Sp} {e o : Expr} {es : List Expr} {ta : TE} {t : TA} {apos pos : Pos}
/-- o.m(e, ..), which may raise into a try around, with what the names are then -/
def tMethA (C : Addr) (m : Str) (sp : Sp) (E : L2.St → XK) (ta : TE) (t : TA) : TE := fun σ H Q => tMethR C m sp (E σ) ta t σ H Q
theorem pe_methGA {E : L2.St → XK} {pl : Sem Bool} (he : PE X o ta) (c : Cls X.K C) (hm : Meth X.K C m f) (F : FnGR X.prog X.w X.K X.mg X.base CX k f sp) (hG : X.A.guards = some []) (hr : Room k X.A) (hx : ∀ σ, PassesAt CX X σ (E σ)) (ha : PA X (e :: es) t)
    (hst : starEach (e :: es) X.env = (false, eval e X.env) :: starEach es X.env := by rfl) (hpl : (backTo pos (starEach es X.env)).any (·.1) = false := by rfl)
    (ht : eval (.Call (.Attribute o m apos) (e :: es) [] pos) X.env = (do let ov ← eval o X.env; standAt apos.atName; let (f, first) ← holding [ov] (getMethod ov m pl); callWith pos f first (backTo pos (starEach (e :: es) X.env)) (backToKw pos (keywordEach [] X.env))) := by rfl) :
    PE X (.Call (.Attribute o m apos) (e :: es) [] pos) (tMethA C m sp E ta t) := by
  refine ⟨fun pins s σ H Q I h => ?_⟩
  refine PySem.W.methodCall_KW (pl := pl) (thn (he.run pins s σ H _ I h) fun u s1 ⟨x, H1, I1, rx, a, dx, fs, ex, ea, l, q⟩ => ?_) ht
  subst ex
  obtain rfl : u = Value.ref a := rx
  refine getmeth_ok I1 ea c hm l ?_
  refine PySem.W.callWith_K (first := [.ref a]) (h₀ := X.base) I.ok.mod.kin hm.kp (thn (ha.run pos pins s1 σ H1 _ I1 q) fun us s2 ⟨vs, H2, I2, r, q2⟩ => ⟨I2.kIn, ?_⟩) hst hpl
  exact run_gR (us := .ref a :: us) (vs := .ref a :: vs) F hG hr (fun e s' z => hx σ pins H2 s2 e s' I2 z) I2 (.cons rfl r) q2
end
end Grd
namespace Sj
open PySem L2 Sup StK Own Shw Exg Grd KepE LamX
open NdefX (NF NScope ncx envF startF nscope_by)
open C8 (pss_cut tCut)
/-! k66: _law_heard, over a lambda; _law_lacks -/
abbrev sHea : Stmt := top 34
abbrev nHea : List Str := ["_law_ask", "_law_caught", "error"]
theorem scHea : FnScope nHea ["_law_ask"] (defScope sHea) := ⟨rfl, rfl, rfl, by decide +kernel, rfl, by decide +kernel, by decide +kernel⟩
/-- InvalidChain is raised, and its reason told -/
inductive HeaX (CI : Addr) (Q : VK) : XK
  | inv {dd : Addr} {z : Str} {H' : Hp} (h : H' dd = some (.xd [("reason", .str z)])) (k : ∀ H2, Same H' H2 → Q (.str z) H2) : HeaX CI Q (.ref CI) (some dd) H'
def TThea (CI : Addr) : (XK → Hp → VK → Prop) → Hp → VK → Prop := fun tl H Q => tl (HeaX CI Q) H (fun _ H' => Q .non H')
structure HeT (K : PySem.W.Frag) (mg : Str → Option Value) (CJ CI : Addr) : Prop where
  mJ : mg "JoinError" = some (.ref CJ)
  mI : mg "InvalidChain" = some (.ref CI)
  mV : mg "ValueError" = none
  isi : mg "isinstance" = none
  ex : PySem.W.exmOne K (.ref CI) (.ref CJ) = some true
  ke : KeT K CI
  no : PySem.W.findIn K (.ref CI) "reason" = some none
  ii : PySem.W.kitOne K (.ref CI) (.ref CI) = some true
  iv : PySem.W.kitOne K (.ref CI) (.type "ValueError") = some true
theorem takesLen {X : Cx} {W : WX} {n : Nat} (hn : X.N.length = n) (tk : Takes X W) : Takes X (fun cls d σ H => σ.length = n → W cls d σ H) := fun u s' ⟨a, B, sI, pins, σ, H, cls, d, e, I, nb, up, sky, na, os, ag, w⟩ =>
  tk u s' ⟨a, B, sI, pins, σ, H, cls, d, e, I, nb, up, sky, na, os, ag, w (I.len.trans hn)⟩
section
variable {X : Cx}
theorem heard_gives {g CJ CI : Addr} {cdg : Value} {q : Str} (T : HeT X.K X.mg CJ CI) : GivesTo X nHea "_law_heard" (defScope sHea) g cdg (defBody sHea) "_law_ask" q (TThea CI) := by
  intro f c' s H Q tl act hc h
  refine ⟨_, pss_cons (ps_set (X := (cxOf C8.CX0 X.prog X.w X.K X.mg X.base nHea "_law_heard" (defScope sHea) g cdg X.A X.stack s H C8.E0).nox) (i := 1) scHea.nd rfl (Or.inl rfl) pe_non)
    (pss_cons (ps_try_keep (i := 2) (j := 1) (c := .ref CJ)
      (tb := fun W D σ H => ∃ Ech : XK, (∀ cls d σ' H', Ech cls d H' → σ'.length = 3 → W cls d σ' H') ∧ σ[0]? = some (some (.ref f)) ∧ H c' = some (CodeO c' q) ∧ tl Ech H (fun _ H' => D.rt .non H'))
      rfl rfl rfl scHea.nd rfl rfl rfl rfl ⟨rfl, by decide, .inl T.mJ⟩ (fun W pn xe tk _ => ?_))
    (pss_one (ps_ret (pe_ifExp (PW.pt (pw_and (pt_val (pe_callB call_isKe (by rfl) T.isi (by decide +kernel) (pa_cons (pv 1) (pa_cons (pe_glob rfl T.mI (v := .ref CI) rfl) pa_nil))))
        (pw_and1 (pt_val (pe_callB call_isKe (by rfl) T.isi (by decide +kernel) (pa_cons (pv 1) (pa_cons (pe_bltn (by rfl) T.mV (by decide +kernel) (v := .ty "ValueError") rfl) pa_nil))))))) (pe_fldK (pv 1)) pe_str)))), ?_⟩
  · refine ⟨fun pins s' σ H' D I h' => ?_⟩
    obtain ⟨Ech, hW, h1, h2, h3⟩ := h'
    exact (pss_cons (ps_expr (act (fun cls d σ H => σ.length = 3 → W cls d σ H) pn xe Ech _ _ (takesLen rfl tk) hW)) (pss_one (ps_ret pe_non))).run pins s' σ H' D I ⟨h1, h2, h3⟩
  · refine ⟨HeaX CI Q, ?_, rfl, hc, h⟩
    rintro cls d σ' H1 hx hl
    have hs : ∀ a : Addr, (((σ'.set 2 (some (.ref a))).set 1 (some (.ref a))).set 2 none)[1]? = some (some (V.ref a)) := fun a => by simp [hl]
    cases hx with
    | inv hd k =>
      rename_i dd z
      refine ⟨T.ex, fun a ha => ?_⟩
      have s1 := same_at (o := Kept a (.ref CI) (some dd)) ha
      have hk : KeAt (upd H1 a (Kept a (.ref CI) (some dd))) a CI [("reason", .str z)] := ⟨dd, upd_same, s1 _ _ hd⟩
      refine ⟨_, hs a, a, CI, _, _, _, true, rfl, .own _, hk, T.ke, T.ii, _, rfl, iteT ?_⟩
      refine ⟨_, hs a, a, CI, _, _, _, true, rfl, .ty _, hk, T.ke, T.iv, _, rfl, iteT ?_⟩
      exact ⟨_, hs a, a, CI, _, _, rfl, hk, T.ke, T.no, by rw [List.lookup_cons, beq_self_eq_true], k _ s1⟩
end
abbrev sLac : Stmt := top 35
abbrev nLac : List Str := ["_law_made", "_law_odd", "_law_caught", "error"]
theorem scLac : FnScope nLac ["_law_made", "_law_odd"] (defScope sLac) := ⟨rfl, rfl, rfl, by decide +kernel, rfl, by decide +kernel, by decide +kernel⟩
def spLac (K : PySem.W.Frag) (ks : Kinds) (CF CC : Addr) : Sp := fun vs H Q _ => ∃ (o f : Addr) (d : FrD) (x : V) (pd : PyData), vs = [.ref o, x] ∧ ChO H o CC f ∧ FrIs ks CF H f d ∧ NotLeg K H x d ∧ Dq K H x pd ∧ Smalls pd ∧ ∀ H', Same H H' → Q (.bl true) H'
structure LacT (P : Program) (w : World) (K : PySem.W.Frag) (mg : Str → Option Value) (base : Heap) (ks : Kinds) (CF CC CN CM fPo : Addr) : Prop where
  isi : mg "isinstance" = none
  repr : mg "repr" = none
  mM : mg "MissingError" = some (.ref CM)
  mN : mg "NoLeg" = some (.ref CN)
  ex : PySem.W.exmOne K (.ref CN) (.ref CM) = some true
  ke : KeT K CN
  no : PySem.W.findIn K (.ref CN) "name" = some none
  nn : PySem.W.kitOne K (.ref CN) (.ref CN) = some true
  cl : Cls K CC
  mpo : Meth K CC "part_of" fPo
  po : FnGR P w K mg base (L2.CX P w) 3 fPo (spPo K ks CF CC CN)
section
variable {P : Program} {w : World} {K : PySem.W.Frag} {mg : Str → Option Value} {base : Heap}
theorem ok_lac {f CF CC CN CM fPo : Addr} {fd : FuncData} {ks : Kinds} (F : Fun K "_law_lacks" "_law_lacks" sLac f fd) (T : LacT P w K mg base ks CF CC CN CM fPo) : FnG P w K mg base CX0 4 f fd ["_law_made", "_law_odd"] (spLac K ks CF CC) := by
  refine fun_g F scLac (fun vs H Q E h => ?_) (fun cdv A outer s H vs Q E hg hr h => ?_)
  · obtain ⟨o, f, d, x, pd, rfl, _⟩ := h
    rfl
  · obtain ⟨o, f, d, x, pd, rfl, hO, hF, hn, hpd, sm, k⟩ := h
    obtain ⟨dx, B, h1⟩ := id hO
    refine ⟨_, pss_cons (ps_set (i := 2) scLac.nd rfl (Or.inl rfl) pe_non)
      (pss_cons (ps_try_keep (i := 3) (j := 2) (c := .ref CM) rfl rfl rfl scLac.nd rfl rfl rfl rfl ⟨rfl, by decide, .inl T.mM⟩ (fun W pn xe tk _ => pss_one (ps_expr (pe_methGA (pv 0) T.cl T.mpo T.po hg hr (fun σ => passAt tk σ) (pa_cons (pv 1) pa_nil)))))
      (pss_one (ps_ret (pe_and (pe_callB call_isKe (by rfl) T.isi (by decide +kernel) (pa_cons (pv 2) (pa_cons (pe_glob rfl T.mN (v := .ref CN) rfl) pa_nil))) (pe_one (pe_cmpR op_eq (pe_callB (call_show hg hr.units) (by rfl) T.repr (by decide +kernel) (pa_cons (pe_fldK (pv 2)) pa_nil)) (pe_callB (call_show hg hr.units) (by rfl) T.repr (by decide +kernel) (pa_cons (pv 1) pa_nil)) (nomark _))))))), ?_⟩
    refine ⟨_, rfl, o, dx, _, rfl, h1, ?_, _, rfl, o, f, d, x, rfl, hO, hF, hn, pd, hpd, sm, fun e H1 he hx s1 => ⟨T.ex, fun a ha => ?_⟩⟩
    · unfold chF
      rw [lookup_putF, if_neg (by decide +kernel), lookup_putF, if_neg (by decide +kernel)]
      rfl
    have s2 := same_at (o := Kept a (.ref CN) (some e)) ha
    have s12 := s1.trans s2
    have hk : KeAt (upd H1 a (Kept a (.ref CN) (some e))) a CN [("name", x)] := ⟨e, upd_same, s2 _ _ hx⟩
    have hpd2 := Dq.same s12 _ _ hpd
    refine ⟨_, rfl, a, CN, _, _, _, true, rfl, .own _, hk, T.ke, T.nn, _, rfl, iteT ?_⟩
    refine ⟨_, rfl, a, CN, _, x, rfl, hk, T.ke, T.no, by rw [List.lookup_cons, beq_self_eq_true], x, pd, rfl, hpd2, sm.fit, _, rfl, x, pd, rfl, hpd2, sm.fit, rfl, ?_⟩
    rw [decide_eq_true rfl]
    exact k _ s12
end
end Sj
namespace Sj
open PySem L2 Sup StK Own Shw Exg Grd KepE LamX
open NdefX (NF NScope ncx envF startF nscope_by)
open C8 (pss_cut tCut)
/-! k66: what stays behind a lambda; what is shown -/
section
variable {K : PySem.W.Frag} {ks : Kinds} {CF : Addr} {H H' : Hp}
theorem sqL_ext {a : Addr} {xs : List V} (h : SqL K H a xs) (s : ExtN H H') : SqL K H' a xs := by
  rcases h with (h | ⟨o, h⟩) | h
  · exact .inl (.inl (s _ _ h fun ps z => by cases z))
  · exact .inl (.inr ⟨o, s _ _ h fun ps z => by cases z⟩)
  · exact .inr h
theorem sqT_ext {a : Addr} {xs : List V} (h : SqT K H a xs) (s : ExtN H H') : SqT K H' a xs := by
  rcases h with (h | ⟨o, h⟩) | h
  · exact .inl (.inl (s _ _ h fun ps z => by cases z))
  · exact .inl (.inr ⟨o, s _ _ h fun ps z => by cases z⟩)
  · exact .inr h
theorem rd_ext {a : Addr} {u : HO} (h : Rd H a u) (n : ∀ ps, u ≠ .tbl ps) (s : ExtN H H') : Rd H' a u := by
  rcases h with h | ⟨o, h⟩
  · exact .inl (s _ _ h n)
  · exact .inr ⟨o, s _ _ h fun ps z => by cases z⟩
mutual
theorem dq_ext (s : ExtN H H') : ∀ {x : V} {d : PyData}, Dq K H x d → Dq K H' x d
  | _, _, .non => .non
  | _, _, .bl b => .bl b
  | _, _, .int i => .int i
  | _, _, .str x => .str x
  | _, _, .lst n h r => .lst n (sqL_ext h s) (dqa_ext s r)
  | _, _, .tup h r => .tup (sqT_ext h s) (dqa_ext s r)
  | _, _, .dic h => .dic (rd_ext h (fun ps z => by cases z) s)
theorem dqa_ext (s : ExtN H H') : ∀ {xs : List V} {ds : List PyData}, DqAll K H xs ds → DqAll K H' xs ds
  | _, _, .nil => .nil
  | _, _, .cons h r => .cons (dq_ext s h) (dqa_ext s r)
end
mutual
theorem dp_ext (s : ExtN H H') : ∀ {x : V} {d : PyData}, Dp K H x d → Dp K H' x d
  | _, _, .non => .non
  | _, _, .bl b => .bl b
  | _, _, .int i => .int i
  | _, _, .str x => .str x
  | _, _, .lst h r => .lst (sqL_ext h s) (dpa_ext s r)
  | _, _, .tup h r => .tup (sqT_ext h s) (dpa_ext s r)
theorem dpa_ext (s : ExtN H H') : ∀ {xs : List V} {ds : List PyData}, DpAll K H xs ds → DpAll K H' xs ds
  | _, _, .nil => .nil
  | _, _, .cons h r => .cons (dp_ext s h) (dpa_ext s r)
end
mutual
theorem dq_dp : ∀ {x : V} {d : PyData}, Dq K H x d → d.hasDict = false → Dp K H x d
  | _, _, .non, _ => .non
  | _, _, .bl b, _ => .bl b
  | _, _, .int i, _ => .int i
  | _, _, .str x, _ => .str x
  | _, _, .lst n h r, e => .lst h (dqa_dpa r e)
  | _, _, .tup h r, e => .tup h (dqa_dpa r e)
  | _, _, .dic h, e => by cases e
theorem dqa_dpa : ∀ {xs : List V} {ds : List PyData}, DqAll K H xs ds → PyData.hasDictAll ds = false → DpAll K H xs ds
  | _, _, .nil, _ => .nil
  | _, _, .cons h r, e => .cons (dq_dp h (Bool.or_eq_false_iff.mp e).1) (dqa_dpa r (Bool.or_eq_false_iff.mp e).2)
end
theorem noDict_all : ∀ {ds : List PyData}, (∀ d ∈ ds, d.hasDict = false) → PyData.hasDictAll ds = false
  | [], _ => rfl
  | d :: ds, h => Bool.or_eq_false_iff.mpr ⟨h d List.mem_cons_self, noDict_all fun x hx => h x (List.mem_cons_of_mem _ hx)⟩
theorem tyx_ext {x : V} {t : Value} (h : TyX K H x t) (s : ExtN H H') : TyX K H' x t := by
  cases h with
  | base b =>
    refine .base ?_
    cases b with
    | non => exact .non
    | bl x => exact .bl x
    | int i => exact .int i
    | str x => exact .str x
    | flt x => exact .flt x
    | lst e => exact .lst (s _ _ e fun ps z => by cases z)
    | frz e => exact .frz (s _ _ e fun ps z => by cases z)
    | tup e => exact .tup (s _ _ e fun ps z => by cases z)
    | dK e => exact .dK (s _ _ e fun ps z => by cases z)
    | dT e => exact .dT (s _ _ e fun ps z => by cases z)
    | ins e c h1 h2 h3 h4 => exact .ins (s _ _ e fun ps z => by cases z) c h1 h2 h3 h4
  | byt b => exact .byt b
  | set e => exact .set (s _ _ e fun ps z => by cases z)
  | kList e c => exact .kList e c
  | kTuple e c => exact .kTuple e c
  | kDict e c => exact .kDict e c
  | fTuple e => exact .fTuple (s _ _ e fun ps z => by cases z)
  | fDict e => exact .fDict (s _ _ e fun ps z => by cases z)
theorem LegR.ok.ext {r : LegR} (h : r.ok ks H) (s : ExtN H H') : r.ok ks H' := by
  obtain ⟨h1, dx, e⟩ := h
  exact ⟨h1, dx, s _ _ e fun ps z => by cases z⟩
theorem FrIs.ext {a : Addr} {d : FrD} (h : FrIs ks CF H a d) (s : ExtN H H') : FrIs ks CF H' a d := by
  obtain ⟨dx, D, h1, h2, h3⟩ := h.at_
  exact ⟨⟨dx, D, s _ _ h1 (fun ps z => by cases z), s _ _ h2 (fun ps z => by cases z), h3⟩, fun r hr => (h.ok r hr).ext s, h.nd, h.le, h.so⟩
theorem LegR.ok.butq {r : LegR} {q : Addr} {xs : List V} (h : r.ok ks H) (hq : H q = some (.lst xs)) (b : But H H' q) : r.ok ks H' := by
  obtain ⟨h1, dx, h2⟩ := h
  exact ⟨h1, dx, b _ _ (ne_of h2 hq (by intro z; cases z)) h2⟩
theorem FrIs.butq {a q : Addr} {d : FrD} {xs : List V} (h : FrIs ks CF H a d) (hq : H q = some (.lst xs)) (b : But H H' q) : FrIs ks CF H' a d := by
  obtain ⟨dx, D, h1, h2, h3⟩ := h.at_
  exact ⟨⟨dx, D, b _ _ (ne_of h1 hq (by intro z; cases z)) h1, b _ _ (ne_of h2 hq (by intro z; cases z)) h2, h3⟩, fun r hr => (h.ok r hr).butq hq b, h.nd, h.le, h.so⟩
theorem BareAt.ext {b p : Addr} {d : BareD} (h : BareAt H b d p) (s : ExtN H H') : BareAt H' b d p := by
  obtain ⟨dl, ll, rl, h1, h2, h3, h4, h5⟩ := h.ex
  exact ⟨dl, ll, rl, s _ _ h1 (fun ps z => by cases z), s _ _ h2 (fun ps z => by cases z), s _ _ h3 (fun ps z => by cases z), s _ _ h4 (fun ps z => by cases z), h5⟩
theorem Pen.ext {p l : Addr} {cs : List Int} {n : Nat} (h : Pen H p l cs n) (s : ExtN H H') : Pen H' p l cs n := by
  obtain ⟨i, g, h1, h2, h3⟩ := h
  exact ⟨i, g, s _ _ h1 (fun ps z => by cases z), s _ _ h2 (fun ps z => by cases z), h3⟩
theorem tabs_but {T : List (Addr × Str)} {p : Addr} {xs : List V} (h : Tabs T H) (hp : H p = some (.lst xs)) (b : But H H' p) : Tabs T H' := fun q hq => by
  obtain ⟨ps, h1, h2, h3⟩ := h q hq
  refine ⟨ps, b _ _ (ne_of h1 hp (by intro z; cases z)) h1, h2, fun pos cv hc => ?_⟩
  obtain ⟨c, e1, e2⟩ := h3 pos cv hc
  refine ⟨c, e1, b _ _ (ne_of e2 hp fun z => ?_) e2⟩
  unfold CodeO at z
  cases z
/-- rows of texts in a list, apart from the pen -/
structure RowQ (H : Hp) (p q : Addr) (G : List (Addr × List Str)) : Prop where
  at_ : H q = some (.lst (refsB G))
  np : q ≠ p
  row : ∀ x ∈ G, H x.1 = some (.lst (strv x.2)) ∧ x.1 ≠ p ∧ sysModules ≠ x.1
theorem RowQ.ext {p q : Addr} {G : List (Addr × List Str)} (h : RowQ H p q G) (s : ExtN H H') : RowQ H' p q G := ⟨s _ _ h.at_ (fun ps z => by cases z), h.np, fun x hx => ⟨s _ _ (h.row x hx).1 (fun ps z => by cases z), (h.row x hx).2⟩⟩
theorem RowQ.but {p q : Addr} {G : List (Addr × List Str)} (h : RowQ H p q G) (s : But H H' p) : RowQ H' p q G := ⟨s _ _ h.np h.at_, h.np, fun x hx => ⟨s _ _ (h.row x hx).2.1 (h.row x hx).1, (h.row x hx).2⟩⟩
/-- what stands while the law's turns go on -/
structure InR (ks : Kinds) (CF : Addr) (T : List (Addr × Str)) (H : Hp) (p l : Addr) (cs : List Int) (b q f : Addr) (d : BareD) (fr : FrD) (G : List (Addr × List Str)) : Prop where
  ba : BareAt H b d p
  fr_ : FrIs ks CF H f fr
  rq : RowQ H p q G
  tb : Tabs T H
theorem InR.ext {T : List (Addr × Str)} {p l b q f : Addr} {cs : List Int} {d : BareD} {fr : FrD} {G : List (Addr × List Str)} (h : InR ks CF T H p l cs b q f d fr G) (s : ExtN H H') (t : Tabs T H') : InR ks CF T H' p l cs b q f d fr G := ⟨h.ba.ext s, h.fr_.ext s, h.rq.ext s, t⟩
theorem InR.but {T : List (Addr × Str)} {p l b q f : Addr} {cs : List Int} {n : Nat} {d : BareD} {fr : FrD} {G : List (Addr × List Str)} (h : InR ks CF T H p l cs b q f d fr G) (P : Pen H p l cs n) (s : But H H' p) : InR ks CF T H' p l cs b q f d fr G := by
  obtain ⟨xs, hp⟩ := P.at'
  exact ⟨h.ba.but P s, h.fr_.butq hp s, h.rq.but s, tabs_but h.tb hp s⟩
theorem InR.same {T : List (Addr × Str)} {p l b q f : Addr} {cs : List Int} {d : BareD} {fr : FrD} {G : List (Addr × List Str)} (h : InR ks CF T H p l cs b q f d fr G) (s : Same H H') : InR ks CF T H' p l cs b q f d fr G := h.ext (.of s) (h.tb.ext s)
/-- how a value is shown -/
def ShV (K : PySem.W.Frag) (H : Hp) (x : V) (s : Str) : Prop := (∃ d, Dq K H x d ∧ Fit d ∧ d.shown = s) ∨ ∃ d, Dp K H x d ∧ ShN.FitN d ∧ d.shown = s
theorem ShV.ext {x : V} {z : Str} (h : ShV K H x z) (s : ExtN H H') : ShV K H' x z := h.imp (fun ⟨d, a, b⟩ => ⟨d, dq_ext s a, b⟩) (fun ⟨d, a, b⟩ => ⟨d, dp_ext s a, b⟩)
theorem ShV.same {x : V} {z : Str} (h : ShV K H x z) (s : Same H H') : ShV K H' x z := h.ext (.of s)
theorem RowV.ext {x : V} {o : Option (List PyData)} (h : RowV K H x o) (s : ExtN H H') : RowV K H' x o := by
  cases h with
  | seq q d f => exact .seq (q.imp (fun z => sqL_ext z s) (fun z => sqT_ext z s)) (dqa_ext s d) f
  | odd ty a b => exact .odd (tyx_ext ty s) a b
end
def rShV (K : PySem.W.Frag) : List V → Hp → VK → Prop := fun xs H Q => rShow K xs H Q ∨ ShN.rShN K xs H Q
theorem call_shV {X : Cx} (hg : X.A.guards = some []) (hu : X.A.units + 64 < cLine) : CallR X (.builtin "repr") (rShV X.K) := by
  intro pins s σ H xs us Q I r h
  rcases h with h | h
  · exact call_show hg hu pins s σ H xs us Q I r h
  · exact ShN.call_shN hg hu pins s σ H xs us Q I r h
theorem shV_rd {K : PySem.W.Frag} {H : Hp} {x : V} {z : Str} {Q : VK} (h : ShV K H x z) (k : Q (.str z) H) : rShV K [x] H Q := by
  rcases h with ⟨d, a, b, rfl⟩ | ⟨d, a, b, rfl⟩
  · exact .inl ⟨x, d, rfl, a, b, k⟩
  · exact .inr ⟨x, d, rfl, a, b, k⟩
/-! small data, with dicts -/
structure Sd (k n : Nat) (d : PyData) : Prop where
  sh : PyData.showable d = true
  ls : PyData.leavesShort 9 d = true
  dp : d.depth ≤ k
  bk : d.bulk ≤ n
structure SdA (k n : Nat) (ds : List PyData) : Prop where
  sh : PyData.showableAll ds = true
  ls : PyData.leavesShortAll 9 ds = true
  dp : PyData.depthAll ds ≤ k
  bk : PyData.bulkAll ds ≤ n
theorem Sd.mono {k n k' n' : Nat} {d : PyData} (h : Sd k n d) (hk : k ≤ k') (hn : n ≤ n') : Sd k' n' d := ⟨h.sh, h.ls, Nat.le_trans h.dp hk, Nat.le_trans h.bk hn⟩
theorem SdA.all {k n : Nat} : ∀ {ds : List PyData}, (∀ d ∈ ds, Sd k n d) → SdA k (ds.length * (n + 1)) ds
  | [], _ => ⟨rfl, rfl, Nat.zero_le _, Nat.zero_le _⟩
  | d :: ds, h => by
    have t := SdA.all (k := k) (n := n) (ds := ds) fun x hx => h x (List.mem_cons_of_mem _ hx)
    have c := h d List.mem_cons_self
    refine ⟨Bool.and_eq_true_iff.mpr ⟨c.sh, t.sh⟩, Bool.and_eq_true_iff.mpr ⟨c.ls, t.ls⟩, Nat.max_le.mpr ⟨c.dp, t.dp⟩, ?_⟩
    show d.bulk + 1 + PyData.bulkAll ds ≤ _
    have := c.bk
    have := t.bk
    rw [List.length_cons, Nat.succ_mul]
    omega
theorem Sd.lst {k n : Nat} {ds : List PyData} (h : SdA k n ds) : Sd (k + 1) n (.list ds) := ⟨h.sh, h.ls, Nat.succ_le_succ h.dp, h.bk⟩
theorem Sd.tup {k n : Nat} {ds : List PyData} (h : SdA k n ds) : Sd (k + 1) n (.tuple ds) := ⟨h.sh, h.ls, Nat.succ_le_succ h.dp, h.bk⟩
theorem Sd.fit {k n : Nat} {d : PyData} (h : Sd k n d) (hk : k ≤ 60) (hn : n ≤ 1000000) : Fit d := by
  refine ⟨h.sh, Nat.le_trans h.dp hk, ?_⟩
  have b := PyData.shown_le_bulk 9 (by decide) d h.ls
  have := h.bk
  rw [sizeLine_eq]
  omega
theorem lf_sd {d : PyData} (h : lf d = true) : Sd 2 20 d := by
  unfold lf at h
  rw [Bool.and_eq_true, Bool.and_eq_true, Bool.and_eq_true, decide_eq_true_eq, decide_eq_true_eq] at h
  exact ⟨h.1.1.1, h.1.1.2, h.1.2, h.2⟩
theorem SzR.sd {N M : Nat} {rs : List PyData} (h : SzR N M rs) (hN : N ≤ 40) (hM : M ≤ 20) : SdA 3 40000 rs := by
  have r : ∀ r ∈ rs, Sd 3 420 r := fun r hr => by
    rcases h.row r hr with ⟨es, rfl, hl, he⟩ | ⟨hl, _⟩
    · have a := SdA.all (k := 2) (n := 20) (ds := es) fun e h' => lf_sd (he e h')
      exact (Sd.lst a).mono (Nat.le_refl _) (by have : es.length * 21 ≤ 20 * 21 := Nat.mul_le_mul_right _ (by omega); exact this)
    · exact (lf_sd hl).mono (by decide) (by decide)
  have a := SdA.all r
  have hl := h.len
  exact ⟨a.sh, a.ls, a.dp, Nat.le_trans a.bk (by have : rs.length * 421 ≤ 40 * 421 := Nat.mul_le_mul_right _ (by omega); omega)⟩
/-! the right rows -/
def rowD (x : Addr × List Str) : PyData := .list (x.2.map PyData.str)
theorem dqa_strv {K : PySem.W.Frag} {H : Hp} : ∀ zs : List Str, DqAll K H (strv zs) (zs.map PyData.str)
  | [] => .nil
  | z :: zs => .cons (.str z) (dqa_strv zs)
theorem rowQ_data {K : PySem.W.Frag} {H : Hp} {p q : Addr} {G : List (Addr × List Str)} (h : RowQ H p q G) : DqAll K (off p H) (refsB G) (G.map rowD) := by
  have hr := h.row
  clear h
  induction G with
  | nil => exact .nil
  | cons x G ih =>
    obtain ⟨h1, h2, h3⟩ := hr x List.mem_cons_self
    exact .cons (.lst h3 (SqL.of (off_at h2 h1)) (dqa_strv _)) (ih fun y hy => hr y (List.mem_cons_of_mem _ hy))
theorem rowQ_ls {H : Hp} {p q : Addr} {G : List (Addr × List Str)} (h : RowQ H p q G) : LsA (off p H) (refsB G) := fun y hy => by
  obtain ⟨x, hx, e⟩ := List.mem_map.mp hy
  injection e with e
  subst e
  exact .inl ⟨_, off_at (h.row x hx).2.1 (h.row x hx).1⟩
theorem row_noDict : ∀ zs : List Str, PyData.hasDictAll (zs.map PyData.str) = false
  | [] => rfl
  | z :: zs => Bool.or_eq_false_iff.mpr ⟨rfl, row_noDict zs⟩
theorem rowQ_at {K : PySem.W.Frag} {H : Hp} {p q : Addr} {G : List (Addr × List Str)} (h : RowQ H p q G) : RowsAt K H p q (G.map rowD) := by
  refine ⟨_, h.at_, h.np, rowQ_data h, rowQ_ls h, .inr fun r hr => ?_⟩
  obtain ⟨x, _, rfl⟩ := List.mem_map.mp hr
  exact row_noDict _
theorem pool_lf : ∀ z ∈ poolS, lf (.str z) = true := List.all_eq_true.mp (by decide +kernel)
theorem rowQ_sz {G : List (Addr × List Str)} {d : BareD} (ok : d.ok) (h8 : G.length ≤ 8) (hpm : (allN G).Perm (d.ds ++ d.ls)) : SzR 8 16 (G.map rowD) := by
  refine ⟨by rw [List.length_map]; exact h8, fun r hr => ?_⟩
  obtain ⟨x, hx, rfl⟩ := List.mem_map.mp hr
  have mm : ∀ z ∈ x.2, z ∈ allN G := fun z hz => List.mem_flatMap.mpr ⟨x, hx, hz⟩
  have l : x.2.length ≤ (allN G).length := by
    have : ∀ G : List (Addr × List Str), x ∈ G → x.2.length ≤ (allN G).length := by
      intro G
      induction G with
      | nil => intro h; cases h
      | cons y G ih =>
        intro h
        show _ ≤ (y.2 ++ allN G).length
        rw [List.length_append]
        rcases List.mem_cons.mp h with rfl | h
        · omega
        · have := ih h
          omega
    exact this G hx
  refine .inl ⟨_, rfl, ?_, fun e he => ?_⟩
  · rw [List.length_map]
    rw [hpm.length_eq, List.length_append] at l
    have := ok.le
    omega
  · obtain ⟨z, hz, rfl⟩ := List.mem_map.mp he
    exact pool_lf z (ok.po z (hpm.mem_iff.mp (mm z hz)))
theorem whole_rows : ∀ G : List (Addr × List Str), wholeD (G.map rowD) = (allN G).map PyData.str
  | [] => rfl
  | x :: G => by
    show x.2.map PyData.str ++ wholeD (G.map rowD) = (x.2 ++ allN G).map PyData.str
    rw [whole_rows G, List.map_append]
theorem due_right {G : List (Addr × List Str)} {legs : List Str} (h1 : 1 ≤ G.length) (h8 : G.length ≤ 8) (hp : (allN G).Perm legs) (nd : legs.Nodup) : due66 legs (G.map rowD) = .non := by
  have hn : ((wholeD (G.map rowD)).map nmD) = allN G := by
    rw [whole_rows, List.map_map]
    exact List.map_id' _
  have ha : (wholeD (G.map rowD)).all (inL legs) = true := by
    rw [whole_rows, List.all_map]
    exact List.all_eq_true.mpr fun z hz => decide_eq_true (hp.mem_iff.mp hz)
  unfold due66
  rw [if_neg (by rw [List.length_map, decide_eq_true h1, decide_eq_true h8]; decide), if_neg (by rw [List.all_map]; rw [show (List.all G ((fun r => (isSeq r).isSome) ∘ rowD)) = true from List.all_eq_true.mpr fun x _ => rfl]; decide), if_neg (by rw [ha]; decide), hn, if_pos (hp.nodup_iff.mpr nd), if_neg (by rw [whole_rows, List.length_map, hp.length_eq]; omega)]
theorem due_perm {legs legs' : List Str} (hp : legs.Perm legs') (o : Option (List PyData)) : dueV legs o = dueV legs' o := by
  cases o with
  | none => rfl
  | some rs =>
    show due66 legs rs = due66 legs' rs
    have e : inL legs = inL legs' := by
      funext d
      cases d with
      | str z => exact decide_eq_decide.mpr hp.mem_iff
      | _ => rfl
    unfold due66
    rw [e, hp.length_eq]
theorem due_is (legs : List Str) (o : Option (List PyData)) : dueV legs o = .non ∨ ∃ z, dueV legs o = .str z := by
  cases o with
  | none => exact .inr ⟨_, rfl⟩
  | some rs => exact (due66_is legs rs).imp id fun ⟨z, e, _⟩ => ⟨z, e⟩
/-- reading _law_heard(lambda: ..) -/
theorem hr_rd {T : List (Addr × Str)} {CI : Addr} {t : XK → TE} {σ : L2.St} {H : Hp} {Q : VK} {v : V} (hT : Tabs T H)
    (h : ∀ H1, ExtN H H1 → Tabs T H1 → ∀ (Qn : VK) (E : XK), (∀ z, v = .str z → ∀ dd H', errH H1 H' dd "reason" (.str z) → E (.ref CI) (some dd) H') → (v = .non → ∀ u H', Same H1 H' → Qn u H') → t E σ H1 Qn)
    (k : ∀ H2, ExtN H H2 → Tabs T H2 → Q v H2) : tLam T (TThea CI) t σ H Q :=
  ⟨hT, fun H1 x1 T1 => h H1 x1 T1 _ _ (fun z e dd H' er => .inv er.2.1 fun H2 s2 => by
      rw [← e]
      exact k H2 (x1.trans (.of (er.2.2.trans s2))) (T1.ext (er.2.2.trans s2))) (fun e u H' s => by
      rw [← e]
      exact k H' (x1.trans (.of s)) (T1.ext s))⟩
end Sj
namespace Sj
open PySem L2 Sup StK Own Shw Exg Grd KepE LamX
open NdefX (NF NScope ncx envF startF nscope_by)
open C8 (pss_cut tCut)
/-! k66: _law_right -/
/-- a def whose code object is named -/
theorem fun_gC {P : Program} {w : World} {K : PySem.W.Frag} {mg : Str → Option Value} {base : Heap} {k : Nat} {f : Addr} {N ps : List Str} {sp : Sp} {x qual : Str} {st : Stmt} {oc kV doc pm cdv ct : Value} {od an : Option Addr} {osl : Array (Option Value)}
    (lk : K.lookup f = some ⟨oc, od, .func (PySem.W.fnOf x qual (defArgs st) (defBody st) (defScope st) .none kV doc pm an cdv ct), osl⟩) (hcd : PySem.W.codeIn K cdv qual = true) (S : FnScope N ps (defScope st)) (len : ∀ vs H Q E, sp vs H Q E → vs.length = ps.length)
    (hbody : ∀ (A : Around) (outer : List Env) (s : Shared) (H : Hp) (vs : List V) (Q : VK) (E : XK), A.guards = some [] → Room k (A.deeper (PyProof.Rows.envOfC qual (defScope st) s.heap.objs.size f cdv)) → sp vs H Q E →
      ∃ t, PSs (cxOf CX0 P w K mg base N qual (defScope st) f cdv A outer s H E).nox (defBody st) t ∧ t { nx := fun _ H' => Q .non H', rt := Q } (start N vs) H) : FnG P w K mg base CX0 (k + 1) f (PySem.W.fnOf x qual (defArgs st) (defBody st) (defScope st) .none kV doc pm an cdv ct) ps sp := by
  refine ⟨len, fun A outer s H args us vs Q E hg hr e0 hb r hsp => ?_⟩
  refine LamX.run_ofS (CX := CX0) lk hcd S hr e0 hb r (len _ _ _ _ hsp) fun hr1 => ?_
  obtain ⟨t, ht, hq⟩ := hbody A outer s H vs Q E hg hr1 hsp
  exact ⟨t, ht.nox, hq⟩
abbrev sRi : Stmt := top 36
abbrev nRi : List Str := ["_law_pen_here", "_law_bare_here", "_law_rows", "_law_field", "_law_turn", "_law_some", "_law_again", "_law_due_here", "_law_shown", "_law_made", "_law_odd", "_law_thing"]
theorem scRi : FnScope nRi ["_law_pen_here", "_law_bare_here", "_law_rows"] (defScope sRi) := ⟨rfl, rfl, rfl, by decide +kernel, rfl, by decide +kernel, by decide +kernel⟩
abbrev qRi : Str := (("_law_right" : Str) ++ ".<locals>.") ++ "<lambda>"
abbrev tabR (Pr : Addr) : List (Addr × Str) := [(Pr, qRi)]
/-- a def of the module, by its name -/
def Fi (P : Program) (w : World) (K : PySem.W.Frag) (mg : Str → Option Value) (base : Heap) (x : Str) (k : Nat) (ps : List Str) (sp : Sp) : Prop := ∃ f fd, mg x = some (.ref f) ∧ PySem.W.keepIn K (.ref f) = true ∧ Binds K fd ps [] ∧ FnOk P w K mg base CX0 k f fd ps sp
structure RiT (P : Program) (w : World) (K : PySem.W.Frag) (mg : Str → Option Value) (base : Heap) (ks : Kinds) (CF CC CI CJ gO fC : Addr) : Prop where
  dw : Fi P w K mg base "_law_draw" 1 ["_law_pen_here", "_law_many"] spDraw
  frm : Fi P w K mg base "_law_frame" 7 ["_law_bare_here"] (spFrm ks CF)
  ben : Fi P w K mg base "_law_bent" 3 ["_law_pen_here", "_law_rows"] (spBen K)
  due : Fi P w K mg base "_law_due" 2 ["_law_bare_here", "_law_rows"] (spDue K)
  lac : ∃ f fd, mg "_law_lacks" = some (.ref f) ∧ PySem.W.keepIn K (.ref f) = true ∧ Binds K fd ["_law_made", "_law_odd"] [] ∧ FnG P w K mg base CX0 4 f fd ["_law_made", "_law_odd"] (spLac K ks CF CC)
  ne : ks.drv ≠ ks.lis
  he : ∃ g fdg, mg "_law_heard" = some (.ref g) ∧ Fun K "_law_heard" "_law_heard" sHea g fdg ∧ Binds K fdg ["_law_ask"] []
  ht : HeT K mg CJ CI
  mC : mg "Chain" = some (.ref CC)
  cls : ∃ mc pO, ClX.CRead K CC mc ∧ ClX.CMet K CC mc "of" pO gO
  of0 : FnK P w K mg base (L2.CX P w) 6 gO [] (fun vs zs H Q E => vs.length = 3 ∧ spChO K ks CF CI CC vs H Q E)
  mkC : Mk K CC fC
  iS : FnR P w K mg base (L2.CX P w) 4 fC (spChS K ks CF CI CC)
  list : mg "list" = none
  tuple : mg "tuple" = none
  len : mg "len" = none
  range : mg "range" = none
  isi : mg "isinstance" = none
  repr : mg "repr" = none
def teCo (K : PySem.W.Frag) (ks : Kinds) (CF CI CC : Addr) : XK → TE := fun E => tCMethK CC ([] : List Str).length (fun vs zs H Q E => vs.length = 3 ∧ spChO K ks CF CI CC vs H Q E) E (tC (.ref CC)) (tCons (tVar 3) (tCons (tVar 5) tNil)) tNil
def teC0 (K : PySem.W.Frag) (ks : Kinds) (CF CI CC : Addr) : XK → TE := fun E => StX.tMakeR CC (spChS K ks CF CI CC) E (tCons (tVar 3) tNil)
def teC1 (K : PySem.W.Frag) (ks : Kinds) (CF CI CC : Addr) : XK → TE := fun E => StX.tMakeR CC (spChS K ks CF CI CC) E (tCons (tVar 3) (tCons (tOp (rIxL K) (tVar 5) (tC (.int 0))) tNil))
def teC2 (K : PySem.W.Frag) (ks : Kinds) (CF CI CC : Addr) : XK → TE := fun E => StX.tMakeR CC (spChS K ks CF CI CC) E (tCons (tVar 3) (tCons (tOp (rIxL K) (tVar 5) (tC (.int 0))) (tCons (tOp (rIxL K) (tVar 5) (tC (.int 1))) tNil)))
def ttLa (K : PySem.W.Frag) (ks : Kinds) (CF CC : Addr) : TT := tNot (tB (tCall (spLac K ks CF CC) [] E0 (tCons (tVar 9) (tCons (tVar 11) tNil))))
def spRi (K : PySem.W.Frag) (T : List (Addr × Str)) : Sp := fun vs H Q _ => ∃ (p l : Addr) (cs : List Int) (n : Nat) (b q : Addr) (d : BareD) (G : List (Addr × List Str)), vs = [.ref p, .ref b, .ref q] ∧ Pen H p l cs n ∧ BareAt H b d p ∧ d.ok ∧ RowQ H p q G ∧ 1 ≤ G.length ∧ G.length ≤ 8 ∧ (allN G).Perm (d.ds ++ d.ls) ∧ n < 70000 ∧ Tabs T H ∧
  ∀ H', Pen H' p l cs (n + 200) → Tabs T H' → Q (.bl true) H'
abbrev stR (p b q f : Addr) (o4 o5 o6 o7 o8 o9 o10 : Option V) : L2.St := [some (.ref p), some (.ref b), some (.ref q), some (.ref f), o4, o5, o6, o7, o8, o9, o10, none]
/-- a list, as it is asked about -/
def LsO (K : PySem.W.Frag) (H : Hp) (x : V) (os : Option (List PyData)) : Prop := ∃ (t : String) (bl : Bool), TyX K H x (.type t) ∧ kitB t "list" = some bl ∧ (bl = true → ∃ a xs rs, x = .ref a ∧ SqL K H a xs ∧ DqAll K H xs rs ∧ Few rs ∧ os = some rs)
theorem LsO.ext {K : PySem.W.Frag} {H H' : Hp} {x : V} {os : Option (List PyData)} (h : LsO K H x os) (s : ExtN H H') : LsO K H' x os := by
  obtain ⟨t, bl, h1, h2, h3⟩ := h
  exact ⟨t, bl, tyx_ext h1 s, h2, fun e => by
    obtain ⟨a, xs, rs, e1, e2, e3, e4, e5⟩ := h3 e
    exact ⟨a, xs, rs, e1, sqL_ext e2 s, dqa_ext s e3, e4, e5⟩⟩
/-- a value that is asked about: what it is as rows, how it is shown -/
structure SomeR (K : PySem.W.Frag) (H : Hp) (x : V) (os : Option (List PyData)) (z : Str) : Prop where
  ro : RowV K H x os
  sh : ShV K H x z
  ls : LsO K H x os
theorem SomeR.ext {K : PySem.W.Frag} {H H' : Hp} {x : V} {os : Option (List PyData)} {z : Str} (h : SomeR K H x os z) (s : ExtN H H') : SomeR K H' x os z := ⟨h.ro.ext s, h.sh.ext s, h.ls.ext s⟩
def someV (a t d1 : Addr) : List V := [.ref a, .ref a, .ref t, .non, .str "ab", .ref d1, .int 5]
theorem some_data {K : PySem.W.Frag} {H : Hp} {p a t d1 : Addr} {xs : List V} {rs : List PyData} {x : V} (hx : x ∈ someV a t d1) (hR : RowsAt K H p a rs) (ha : H a = some (.lst xs)) (hz : SzR 35 19 rs) (ht : H t = some (.tup xs)) (hd : H d1 = some (.dK [])) : ∃ os z, SomeR K H x os z := by
  have few := hz.few (by decide) (by decide)
  have sd := hz.sd (by decide) (by decide)
  obtain ⟨ys, ha', _, hdq, _, hn⟩ := hR
  rw [ha] at ha'
  obtain rfl : xs = ys := by injection ha' with e; injection e
  have hdq := Dq.sameAll off_in _ _ hdq
  have lst : ∃ os z, SomeR K H (.ref a) os z := by
    refine ⟨some rs, PyData.shown (.list rs), .seq (.inl (SqL.of ha)) hdq few, ?_, "list", true, .base (.lst ha), by decide +kernel, fun _ => ⟨a, xs, rs, rfl, SqL.of ha, hdq, few, rfl⟩⟩
    have ft := (Sd.lst sd).fit (by decide) (by decide)
    rcases hn with hn | hn
    · exact .inl ⟨_, .lst hn (SqL.of ha) hdq, ft, rfl⟩
    · exact .inr ⟨_, .lst (SqL.of ha) (dqa_dpa hdq (noDict_all hn)), ⟨ft.sh, ft.dp, ft.sz, noDict_all hn⟩, rfl⟩
  unfold someV at hx
  simp only [List.mem_cons, List.not_mem_nil, or_false] at hx
  rcases hx with rfl | rfl | rfl | rfl | rfl | rfl | rfl
  · exact lst
  · exact lst
  · exact ⟨some rs, PyData.shown (.tuple rs), .seq (.inr (SqT.of ht)) hdq few, .inl ⟨_, .tup (SqT.of ht) hdq, (Sd.tup sd).fit (by decide) (by decide), rfl⟩, "tuple", false, .base (.tup ht), by decide +kernel, (fun e => (by cases e))⟩
  · exact ⟨none, _, .odd (t := "NoneType") (.base .non) (by decide +kernel) (by decide +kernel), .inl ⟨_, .non, ⟨by decide +kernel, by decide +kernel, by decide +kernel⟩, rfl⟩, "NoneType", false, .base .non, by decide +kernel, (fun e => (by cases e))⟩
  · exact ⟨none, _, .odd (t := "str") (.base (.str _)) (by decide +kernel) (by decide +kernel), .inl ⟨_, .str _, ⟨by decide +kernel, by decide +kernel, by decide +kernel⟩, rfl⟩, "str", false, .base (.str _), by decide +kernel, (fun e => (by cases e))⟩
  · exact ⟨none, _, .odd (t := "dict") (.base (.dK hd)) (by decide +kernel) (by decide +kernel), .inl ⟨_, .dic (.inl hd), ⟨by decide +kernel, by decide +kernel, by decide +kernel⟩, rfl⟩, "dict", false, .base (.dK hd), by decide +kernel, (fun e => (by cases e))⟩
  · exact ⟨none, _, .odd (t := "int") (.base (.int _)) (by decide +kernel) (by decide +kernel), .inl ⟨_, .int _, ⟨by decide +kernel, by decide +kernel, by decide +kernel⟩, rfl⟩, "int", false, .base (.int _), by decide +kernel, (fun e => (by cases e))⟩
/-- what is no leg -/
def oddW (t1 l1 d1 : Addr) : List V := [.non, .str "nobody", .int 5, .str "ground", .ref t1, .ref l1, .str "", .ref d1, .str "power", .bl true]
theorem oddW_no {K : PySem.W.Frag} {H : Hp} {t1 l1 d1 : Addr} {x : V} {fd : FrD} (hx : x ∈ oddW t1 l1 d1) (hn : ∀ z ∈ names fd.ys, z ∈ poolS) (h2 : H t1 = some (.tup [])) (h1 : H l1 = some (.lst [.str "a"])) (m1 : sysModules ≠ l1) (h3 : H d1 = some (.dK [])) : NotLeg K H x fd ∧ ∃ pd, Dq K H x pd ∧ Smalls pd := by
  have no : ∀ {d : PyData}, Dq K H x d → (∀ z, d = .str z → z ∉ poolS) → Smalls d → NotLeg K H x fd ∧ ∃ pd, Dq K H x pd ∧ Smalls pd := fun {d} hd hp sm => by
    refine ⟨?_, d, hd, sm⟩
    rcases inL_rd (fd := fd) hd with ⟨e, z, rfl, hz⟩ | ⟨_, no⟩
    · cases hd with
      | str _ => exact absurd (hn z hz) (hp z rfl)
    · exact no
  unfold oddW at hx
  simp only [List.mem_cons, List.not_mem_nil, or_false] at hx
  have st : ∀ {z y : Str}, z ∉ poolS → PyData.str z = .str y → y ∉ poolS := fun h e => by
    injection e with e
    rwa [← e]
  rcases hx with rfl | rfl | rfl | rfl | rfl | rfl | rfl | rfl | rfl | rfl
  · exact no .non (fun z e => by cases e) ⟨⟨by decide +kernel, by decide +kernel, by decide +kernel⟩, by decide +kernel⟩
  · exact no (.str _) (fun z e => st (by decide +kernel) e) ⟨⟨by decide +kernel, by decide +kernel, by decide +kernel⟩, by decide +kernel⟩
  · exact no (.int _) (fun z e => by cases e) ⟨⟨by decide +kernel, by decide +kernel, by decide +kernel⟩, by decide +kernel⟩
  · exact no (.str _) (fun z e => st (by decide +kernel) e) ⟨⟨by decide +kernel, by decide +kernel, by decide +kernel⟩, by decide +kernel⟩
  · exact no (.tup (SqT.of h2) .nil) (fun z e => by cases e) ⟨⟨by decide +kernel, by decide +kernel, by decide +kernel⟩, by decide +kernel⟩
  · exact no (.lst m1 (SqL.of h1) (.cons (.str _) .nil)) (fun z e => by cases e) ⟨⟨by decide +kernel, by decide +kernel, by decide +kernel⟩, by decide +kernel⟩
  · exact no (.str _) (fun z e => st (by decide +kernel) e) ⟨⟨by decide +kernel, by decide +kernel, by decide +kernel⟩, by decide +kernel⟩
  · exact no (.dic (.inl h3)) (fun z e => by cases e) ⟨⟨by decide +kernel, by decide +kernel, by decide +kernel⟩, by decide +kernel⟩
  · exact no (.str _) (fun z e => st (by decide +kernel) e) ⟨⟨by decide +kernel, by decide +kernel, by decide +kernel⟩, by decide +kernel⟩
  · exact no (.bl _) (fun z e => by cases e) ⟨⟨by decide +kernel, by decide +kernel, by decide +kernel⟩, by decide +kernel⟩
theorem one_of {α : Type} : ∀ {xs : List α}, xs.length = 1 → ∃ x, xs = [x]
  | [x], _ => ⟨x, rfl⟩
theorem two_of {α : Type} : ∀ {xs : List α}, xs.length = 2 → ∃ x y, xs = [x, y]
  | [x, y], _ => ⟨x, y, rfl⟩
theorem due_nil (legs : List Str) : due66 legs [] = .str "parts" := by
  unfold due66
  rw [if_pos (by rfl)]
section
variable {P : Program} {w : World} {K : PySem.W.Frag} {mg : Str → Option Value} {base : Heap}
theorem ok_ri {f c Pr CF CC CI CJ gO fC : Addr} {ks : Kinds} {oc kV doc pm ct : Value} {od an : Option Addr} {osl : Array (Option Value)} (lk : K.lookup f = some ⟨oc, od, .func (PySem.W.fnOf "_law_right" "_law_right" (defArgs sRi) (defBody sRi) (defScope sRi) .none kV doc pm an (.ref c) ct), osl⟩)
    (hcd : PySem.W.codeIn K (.ref c) "_law_right" = true) (T : RiT P w K mg base ks CF CC CI CJ gO fC) (TB : TabB base mg c Pr) :
    FnG P w K mg base CX0 9 f (PySem.W.fnOf "_law_right" "_law_right" (defArgs sRi) (defBody sRi) (defScope sRi) .none kV doc pm an (.ref c) ct) ["_law_pen_here", "_law_bare_here", "_law_rows"] (spRi K (tabR Pr)) := by
  obtain ⟨g, fdg, mh, Fh, bh⟩ := T.he
  obtain ⟨och, odh, kVh, doch, pmh, anh, cdh, cth, oslh, rfl, lkh, hch⟩ := Fh.ex
  obtain ⟨fD, fdD, mD, kD, bD, GD⟩ := T.dw
  obtain ⟨fF, fdF, mF, kF, bF, GF⟩ := T.frm
  obtain ⟨fB, fdB, mB, kB, bB, GB⟩ := T.ben
  obtain ⟨fU, fdU, mU, kU, bU, GU⟩ := T.due
  obtain ⟨fL, fdL, mL, kL, bL, GL⟩ := T.lac
  obtain ⟨mc, pO, cr, cO⟩ := T.cls
  refine fun_gC lk hcd scRi (fun vs H Q E h => ?_) (fun A outer s H vs Q E hg hr h => ?_)
  · obtain ⟨p, l, cs, n, b, q, d, G, rfl, _⟩ := h
    rfl
  have hr1 := hr.mono (show 1 ≤ 8 by decide)
  have hr2 := hr.mono (show 2 ≤ 8 by decide)
  have hr3 := hr.mono (show 3 ≤ 8 by decide)
  have hr4 := hr.mono (show 4 ≤ 8 by decide)
  have hr6 := hr.mono (show 6 ≤ 8 by decide)
  have hr7 := hr.mono (show 7 ≤ 8 by decide)
  have huT : ∀ p ∈ tabR Pr, p.1 = Pr → p.2 = qRi := fun p hp _ => by rw [List.mem_singleton.mp hp]
  have HG := heard_gives (X := (cxOf CX0 P w K mg base nRi "_law_right" (defScope sRi) f (.ref c) A outer s H E).nox) (g := g) (cdg := cdh) (q := qRi) T.ht
  refine ⟨_, pss_cons (ps_set (i := 3) scRi.nd rfl (Or.inr rfl) (pe_call GF hr7 rfl mF kF bF .nil pass0 (pa_cons (pv 1) pa_nil)))
    (pss_cut (ps_for PassesOwn.never rfl (pi_range1 rfl T.range (pa_cons pe_int pa_nil)) (pg_name (i := 4) scRi.nd rfl (Or.inl rfl))
      (pss_cons (ps_set (i := 5) scRi.nd rfl (Or.inr rfl) (pv 2))
      (pss_cut (ps_for PassesOwn.never rfl (pi_range1 rfl T.range (pa_cons (pe_call GD hr1 rfl mD kD bD .nil pass0 (pa_cons (pv 0) (pa_cons pe_int pa_nil))) pa_nil)) (pg_name (i := 6) scRi.nd rfl (Or.inl rfl))
        (pss_one (ps_set (i := 5) scRi.nd rfl (Or.inr rfl) (pe_ifExp (pt_val (pe_callB call_isi (by rfl) T.isi (by decide +kernel) (pa_cons (pv 5) (pa_cons (pe_bltn (by rfl) T.list (by decide +kernel) (v := .ty "list") rfl) pa_nil))))
          (pe_call GB hr3 rfl mB kB bB .nil pass0 (pa_cons (pv 0) (pa_cons (pv 5) pa_nil))) (pv 5)))))
      (pss_cut (ps_set (i := 5) scRi.nd rfl (Or.inr rfl) (pe_ix ix_list (pe_lst (pa_cons (pv 5) (pa_cons (pv 5) (pa_cons (pe_callTy (T := "tuple") call_tuple_of (by rfl) T.tuple (by decide +kernel) (pa_cons (pv 5) pa_nil)) (pa_cons pe_non (pa_cons pe_str (pa_cons pe_dnewK (pa_cons pe_int pa_nil))))))))
          (pe_call GD hr1 rfl mD kD bD .nil pass0 (pa_cons (pv 0) (pa_cons pe_int pa_nil))) (fun _ _ => rfl)))
      (pss_cons (ps_par (i := 7) (j := 8) (by rfl) scRi.nd rfl rfl (by decide) rfl rfl (pa_cons (pe_call GU hr2 rfl mU kU bU .nil pass0 (pa_cons (pv 1) (pa_cons (pv 5) pa_nil))) (pa_cons (pe_callB (call_shV hg hr.units) (by rfl) T.repr (by decide +kernel) (pa_cons (pv 5) pa_nil)) pa_nil)) (by rfl))
      (pss_cut (ps_if (PW.pt (pw_or (pt_cmpR op_ne (pe_lamcallG (t := teCo K ks CF CI CC) (T := tabR Pr) (Ng := nHea) (k := 6) (c := c) (P := Pr) rfl mh Fh.kp lkh hch bh scHea rfl (Or.inl rfl) HG TB rfl (List.mem_singleton.mpr rfl) huT hg hr (lamS_by (sc := defScope sRi) (by decide +kernel)) rfl (fun _ _ _ _ _ => rfl)
              (fun B st s1 H1 E f' c' hgB hr' => pe_cmethK (pe_glob rfl T.mC (v := .ref CC) rfl) cr cO T.of0 hr' (passes_call (takes_of rfl rfl rfl rfl) fun _ _ _ _ h => h) (pa_cons (pv 3) (pa_cons (pv 5) pa_nil)) pk_nil)) (pv 7) (nomark _))
          (pw_or1 (pt_cmpR op_ne (pe_callB (call_shV hg hr.units) (by rfl) T.repr (by decide +kernel) (pa_cons (pv 5) pa_nil)) (pv 8) (nomark _))))) (pss_one (ps_ret pe_bl)) pss_nil)
      (pss_cut (ps_if (PW.pt (pw_and (pt_val (pe_callB call_isi (by rfl) T.isi (by decide +kernel) (pa_cons (pv 5) (pa_cons (pe_bltn (by rfl) T.list (by decide +kernel) (v := .ty "list") rfl) pa_nil))))
          (pw_and (pt_cmpR op_eq (pe_callB call_len_seq (by rfl) T.len PySem.boot_len (pa_cons (pv 5) pa_nil)) pe_int (nomark _))
          (pw_and1 (pt_cmpR op_ne (pe_lamcallG (t := teC1 K ks CF CI CC) (T := tabR Pr) (Ng := nHea) (k := 6) (c := c) (P := Pr) rfl mh Fh.kp lkh hch bh scHea rfl (Or.inl rfl) HG TB rfl (List.mem_singleton.mpr rfl) huT hg hr (lamS_by (sc := defScope sRi) (by decide +kernel)) rfl (fun _ _ _ _ _ => rfl)
              (fun B st s1 H1 E f' c' hgB hr' => StX.pe_makeR T.mkC T.iS (hr'.mono (show 5 ≤ 6 by decide)) rfl T.mC (passes_call (takes_of rfl rfl rfl rfl) fun _ _ _ _ h => h) (pa_cons (pv 3) (pa_cons (pe_ix ix_list (pv 5) pe_int (fun _ _ => rfl)) pa_nil)))) (pv 7) (nomark _)))))) (pss_one (ps_ret pe_bl)) pss_nil)
      (pss_one (ps_if (PW.pt (pw_and (pt_val (pe_callB call_isi (by rfl) T.isi (by decide +kernel) (pa_cons (pv 5) (pa_cons (pe_bltn (by rfl) T.list (by decide +kernel) (v := .ty "list") rfl) pa_nil))))
          (pw_and (pt_cmpR op_eq (pe_callB call_len_seq (by rfl) T.len PySem.boot_len (pa_cons (pv 5) pa_nil)) pe_int (nomark _))
          (pw_and1 (pt_cmpR op_ne (pe_lamcallG (t := teC2 K ks CF CI CC) (T := tabR Pr) (Ng := nHea) (k := 6) (c := c) (P := Pr) rfl mh Fh.kp lkh hch bh scHea rfl (Or.inl rfl) HG TB rfl (List.mem_singleton.mpr rfl) huT hg hr (lamS_by (sc := defScope sRi) (by decide +kernel)) rfl (fun _ _ _ _ _ => rfl)
              (fun B st s1 H1 E f' c' hgB hr' => StX.pe_makeR T.mkC T.iS (hr'.mono (show 5 ≤ 6 by decide)) rfl T.mC (passes_call (takes_of rfl rfl rfl rfl) fun _ _ _ _ h => h) (pa_cons (pv 3) (pa_cons (pe_ix ix_list (pv 5) pe_int (fun _ _ => rfl)) (pa_cons (pe_ix ix_list (pv 5) pe_int (fun _ _ => rfl)) pa_nil))))) (pv 7) (nomark _)))))) (pss_one (ps_ret pe_bl)) pss_nil)))))))))
    (pss_cut (ps_asg (pe_tup (pa_cons (pe_cmethK (pe_glob rfl T.mC (v := .ref CC) rfl) cr cO T.of0 hr6 (passNo rfl rfl) (pa_cons (pv 3) (pa_cons (pv 2) pa_nil)) pk_nil)
        (pa_cons (pe_lst (pa_cons pe_non (pa_cons pe_str (pa_cons pe_int (pa_cons pe_str (pa_cons (pe_tup pa_nil) (pa_cons (pe_lstN (pa_cons pe_str pa_nil)) (pa_cons pe_str (pa_cons pe_dnewK (pa_cons pe_str (pa_cons pe_bl pa_nil))))))))))) pa_nil)))
        (pg_tup rfl (pgs_cons (pg_name (i := 9) scRi.nd rfl (Or.inr rfl)) (pgs_cons (pg_name (i := 10) scRi.nd rfl (Or.inl rfl)) pgs_nil))))
    (pss_one (ps_ret (pe_and (pe_cmpR (op_eqD hr.units) (pe_lc (te := tVar 11) (tt := ttLa K ks CF CC) (own := [("_law_thing", 11)]) (g := gName 11) rfl scRi.nd (pi_list (pv 10)) (blkOk_by (N := nRi) (sc := defScope sRi) (by decide +kernel)) (fun _ _ _ _ _ => pg_name (i := 11) scRi.nd rfl (Or.inl rfl))
          (fun _ _ _ _ _ => pts_one (pt_not (pt_val (pe_callG GL hg hr4 rfl mL kL bL pass0 (pa_cons (pv 9) (pa_cons (pv 11) pa_nil)))))) (fun _ _ _ _ _ => pv 11)) (pe_lst pa_nil) (nomark _))
        (pe_one (pe_cmpR op_eq (pe_lamcallG (t := teC0 K ks CF CI CC) (T := tabR Pr) (Ng := nHea) (k := 6) (c := c) (P := Pr) rfl mh Fh.kp lkh hch bh scHea rfl (Or.inl rfl) HG TB rfl (List.mem_singleton.mpr rfl) huT hg hr (lamS_by (sc := defScope sRi) (by decide +kernel)) rfl (fun _ _ _ _ _ => rfl)
              (fun B st s1 H1 E f' c' hgB hr' => StX.pe_makeR T.mkC T.iS (hr'.mono (show 5 ≤ 6 by decide)) rfl T.mC (passes_call (takes_of rfl rfl rfl rfl) fun _ _ _ _ h => h) (pa_cons (pv 3) pa_nil))) pe_str (nomark _)))))))), ?_⟩
  obtain ⟨p, l, cs, n, b, q, d, G, rfl, hP, hBa, ok, hR, h1, h8, hpm, hn, hT, k⟩ := h
  refine ⟨_, rfl, b, d, p, rfl, hBa, ok, fun f ys H1 hF hk hf s1 => ?_⟩
  have to := told_of ok T.ne hF.so hk
  have I0 : InR ks CF (tabR Pr) H1 p l cs b q f d ⟨ys, d.t, d.g, d.r⟩ G := ⟨hBa.same s1, hF, hR.ext (.of s1), hT.ext s1⟩
  have P1 := hP.same s1
  have sc : ∀ os, scal (dueV (d.ds ++ d.ls) os) (dueV (d.ds ++ d.ls) os) = true := fun os => by
    rcases due_is (d.ds ++ d.ls) os with e | ⟨z, e⟩ <;> rw [e] <;> rfl
  have dup : ∀ os, dueV (names ys) os = dueV (d.ds ++ d.ls) os := fun os => due_perm to.pm os
  refine ⟨fun σ H' => (∃ o4 o5 o6 o7 o8, σ = stR p b q f o4 o5 o6 o7 o8 none none) ∧ InR ks CF (tabR Pr) H' p l cs b q f d ⟨ys, d.t, d.g, d.r⟩ G ∧ Pen H' p l cs (n + 160), ?_, ?_⟩
  · refine ⟨8, rfl, by decide, by decide, for_range (n := 8) (fun i σ H' => (∃ o4 o5 o6 o7 o8, σ = stR p b q f o4 o5 o6 o7 o8 none none) ∧ InR ks CF (tabR Pr) H' p l cs b q f d ⟨ys, d.t, d.g, d.r⟩ G ∧ Pen H' p l cs (n + 20 * i)) ⟨⟨none, none, none, none, none, rfl⟩, I0, P1⟩ ?_ (fun σ H' h => h)⟩
    rintro i σ H2 hi ⟨⟨o4, o5, o6, o7, o8, rfl⟩, I2, P2⟩
    refine ⟨_, rfl, ?_⟩
    -- bents
    refine ⟨fun σ H' => ∃ (a : Addr) (rs : List PyData) (o4 o6 : Option V), σ = stR p b q f o4 (some (.ref a)) o6 o7 o8 none none ∧ RowsAt K H' p a rs ∧ SzR 35 19 rs ∧ InR ks CF (tabR Pr) H' p l cs b q f d ⟨ys, d.t, d.g, d.r⟩ G ∧ Pen H' p l cs (n + 20 * i + 19), ?_, ?_⟩
    · refine ⟨_, rfl, p, l, cs, n + 20 * i, 4, rfl, P2, by decide, by decide, by omega, fun dd iz g3 H3 d0 d4 i0 in1 hp3 b3 => ?_⟩
      have P3 := P2.next i0 in1 hp3 b3
      have I3 := I2.but P2 b3
      refine ⟨_, rfl, by omega, by omega, for_range (n := dd.toNat) (fun j σ H' => ∃ (a : Addr) (rs : List PyData) (o4 o6 : Option V), σ = stR p b q f o4 (some (.ref a)) o6 o7 o8 none none ∧ RowsAt K H' p a rs ∧ SzR (8 + 9 * j) (16 + j) rs ∧ InR ks CF (tabR Pr) H' p l cs b q f d ⟨ys, d.t, d.g, d.r⟩ G ∧ Pen H' p l cs (n + 20 * i + 1 + 6 * j)) ⟨q, G.map rowD, _, _, rfl, rowQ_at I3.rq, rowQ_sz ok h8 hpm, I3, P3⟩ ?_ ?_⟩
      · rintro j σ H4 hj ⟨a, rs, o4', o6', rfl, hRa, hSz, I4, P4⟩
        have hj3 : j < 3 := by omega
        obtain ⟨xs, ha, _⟩ := id hRa
        refine ⟨_, rfl, _, _, .type "list", .type "list", _, rfl, .ty _, .base (.lst ha), kit_ty (show kitB "list" "list" = some true by decide +kernel), _, rfl, iteT ?_⟩
        refine ⟨_, rfl, _, rfl, p, l, cs, _, a, 8 + 9 * j, 16 + j, rs, rfl, P4, hRa, hSz, by omega, by omega, by omega, fun a' rs' H' hR' hS' P' b' => ?_⟩
        exact ⟨a', rs', _, _, rfl, hR', hS', I4.but P4 b', P'⟩
      · rintro σ H4 ⟨a, rs, o4', o6', rfl, hRa, hSz, I4, P4⟩
        exact ⟨a, rs, _, _, rfl, hRa, ⟨Nat.le_trans hSz.len (by omega), fun r hr => (hSz.row r hr).mono (by omega)⟩, I4, P4.mono (by omega)⟩
    rintro σ H3 ⟨a, rs, o4, o6, rfl, hRa, hSz, I3, P3⟩
    clear I2 P2
    -- some
    refine ⟨fun σ H' => ∃ (x : V) (os : Option (List PyData)) (z : Str), σ = stR p b q f o4 (some x) o6 o7 o8 none none ∧ SomeR K H' x os z ∧ InR ks CF (tabR Pr) H' p l cs b q f d ⟨ys, d.t, d.g, d.r⟩ G ∧ Pen H' p l cs (n + 20 * i + 20), ?_, ?_⟩
    · obtain ⟨xs, ha, nap, _⟩ := id hRa
      refine ⟨_, rfl, _, rfl, _, rfl, a, xs, rfl, .inl ⟨SqL.of ha, fun t ht => fun d1 hd1 => ⟨by show 7 ≤ sizeLine; decide, fun u hu => ?_⟩⟩⟩
      have sA := same_at (o := .tup xs) ht
      have sB := same_at (o := .dK []) hd1
      have sC := same_at (o := .lst (someV a t d1)) hu
      have sAC := sA.trans (sB.trans sC)
      have nt := nep P3 ht
      have nd := nep (P3.same sA) hd1
      have nu := nep ((P3.same sA).same sB) hu
      have et := sC _ _ (sB _ _ (upd_same (H := H3) (a := t) (o := .tup xs)))
      have ed := sC _ _ (upd_same (H := upd H3 t (.tup xs)) (a := d1) (o := .dK []))
      have eu : upd (upd (upd H3 t (.tup xs)) d1 (.dK [])) u (.lst (someV a t d1)) u = some (.lst (someV a t d1)) := upd_same
      obtain ⟨H4, e4⟩ : ∃ H4, H4 = upd (upd (upd H3 t (.tup xs)) d1 (.dK [])) u (.lst (someV a t d1)) := ⟨_, rfl⟩
      rw [← e4] at sAC et ed eu
      have e4' := e4
      unfold someV at e4'
      show _
      rw [← e4']
      have P4 := P3.same sAC
      refine ⟨_, rfl, p, l, cs, _, 7, rfl, P4, by decide, by decide, by omega, fun dd iz g5 H5 d0 d7 i0 in1 hp5 b5 => ?_⟩
      obtain ⟨x, hx, ex⟩ := ix_of (xs := someV a t d1) d0 (show dd < 7 from d7)
      refine ⟨u, someV a t d1, dd, x, rfl, rfl, SqL.of (b5 _ _ nu eu), ex, ?_⟩
      obtain ⟨os, z, hS⟩ := some_data hx ((hRa.same sAC).but b5) (b5 _ _ nap (sAC _ _ ha)) hSz (b5 _ _ nt et) (b5 _ _ nd ed)
      exact ⟨x, os, z, rfl, hS, (I3.same sAC).but P4 b5, P4.next i0 in1 hp5 b5⟩
    rintro σ H4 ⟨x, os, z, rfl, hS, I4, P4⟩
    clear hRa hSz I3 P3
    -- due, shown
    refine ⟨_, rfl, _, rfl, b, p, d, x, os, rfl, I4.ba, ok, hS.ro, fun H5 s5 => ⟨_, rfl, shV_rd (hS.sh.same s5) ⟨_, _, rfl, ?_⟩⟩⟩
    have hS5 := hS.ext (.of s5)
    have I5 := I4.same s5
    have P5 := P4.same s5
    clear hS I4 P4 s5
    obtain ⟨v, ev⟩ : ∃ v, v = dueV (d.ds ++ d.ls) os := ⟨_, rfl⟩
    have scv := sc os
    have duv := dup os
    rw [← ev] at scv duv
    show tCut _ _ _ _ _
    rw [← ev]
    have mid : ∀ {H' : Hp}, ExtN H5 H' → Tabs (tabR Pr) H' → SomeR K H' x os z ∧ InR ks CF (tabR Pr) H' p l cs b q f d ⟨ys, d.t, d.g, d.r⟩ G ∧ Pen H' p l cs (n + 20 * i + 20) := fun xe te => ⟨hS5.ext xe, I5.ext xe te, P5.ext xe⟩
    refine ⟨fun σ H' => σ = stR p b q f o4 (some x) o6 (some v) (some (.str z)) none none ∧ SomeR K H' x os z ∧ InR ks CF (tabR Pr) H' p l cs b q f d ⟨ys, d.t, d.g, d.r⟩ G ∧ Pen H' p l cs (n + 20 * i + 20), ?_, ?_⟩
    · refine hr_rd (v := v) I5.tb (fun H6 x6 T6 Qn E ke kn => ?_) (fun H6 x6 T6 => ?_)
      · refine ⟨rfl, _, rfl, _, rfl, rfl, rfl, f, x, _, os, rfl, I5.fr_.ext x6, hS5.ro.ext x6, fun z' e => ke z' (by rw [← duv]; exact e), fun e u H' _ _ s => kn (by rw [← duv]; exact e) _ _ s⟩
      · refine ⟨_, rfl, scv, _, rfl, ?_⟩
        rw [decide_eq_true rfl]
        refine iteF ⟨_, rfl, shV_rd (hS5.sh.ext x6) ⟨_, rfl, rfl, _, rfl, ?_⟩⟩
        rw [decide_eq_true rfl]
        exact iteF ⟨rfl, mid x6 T6⟩
    rintro σ H6 ⟨rfl, hS6, I6, P6⟩
    clear mid hS5 I5 P5
    -- one
    refine ⟨fun σ H' => σ = stR p b q f o4 (some x) o6 (some v) (some (.str z)) none none ∧ SomeR K H' x os z ∧ InR ks CF (tabR Pr) H' p l cs b q f d ⟨ys, d.t, d.g, d.r⟩ G ∧ Pen H' p l cs (n + 20 * i + 20), ?_, ?_⟩
    · obtain ⟨ty, bl, tyx, kb, hls⟩ := hS6.ls
      refine ⟨_, rfl, _, _, .type ty, .type "list", _, rfl, .ty _, tyx, kit_ty kb, _, rfl, ?_⟩
      cases bl with
      | false => exact iteF (iteF ⟨rfl, hS6, I6, P6⟩)
      | true =>
        obtain ⟨a, xs, rs, rfl, hq, hdq, few, rfl⟩ := hls rfl
        refine iteT ⟨_, rfl, a, xs, rfl, .inl hq, rfl, _, rfl, ?_⟩
        by_cases h1' : xs.length = 1
        · obtain ⟨x0, rfl⟩ := one_of h1'
          rw [decide_eq_true (show V.int (([x0] : List V).length : Int) = V.int 1 from rfl)]
          refine iteT (hr_rd (v := v) I6.tb (fun H7 x7 T7 Qn E ke kn => ?_) (fun H7 x7 T7 => ?_))
          · refine ⟨_, rfl, _, rfl, a, [x0], 0, x0, rfl, rfl, sqL_ext hq x7, atI_nat (j := 0) rfl, fun o dx ho hdx hne => ?_⟩
            exact mk_ch (I6.fr_.ext x7) (dqa_ext x7 hdq) few ho hdx hne (fun z' e => ke z' (by rw [← duv]; exact e)) (fun e H' _ s => ⟨rfl, kn (by rw [← duv]; exact e) _ _ s⟩)
          · refine ⟨_, rfl, scv, _, rfl, ?_⟩
            rw [decide_eq_true rfl]
            exact iteF ⟨rfl, hS6.ext x7, I6.ext x7 T7, P6.ext x7⟩
        · rw [decide_eq_false (show ¬ V.int (xs.length : Int) = V.int 1 from fun z => h1' (by injection z with z; omega))]
          exact iteF (iteF ⟨rfl, hS6, I6, P6⟩)
    rintro σ H7 ⟨rfl, hS7, I7, P7⟩
    clear hS6 I6 P6
    -- two
    have fin : ∀ {H' : Hp}, ExtN H7 H' → Tabs (tabR Pr) H' → (∃ o4' o5 o6' o7 o8, stR p b q f o4 (some x) o6 (some v) (some (.str z)) none none = stR p b q f o4' o5 o6' o7 o8 none none) ∧ InR ks CF (tabR Pr) H' p l cs b q f d ⟨ys, d.t, d.g, d.r⟩ G ∧ Pen H' p l cs (n + 20 * (i + 1)) := fun xe te => ⟨⟨_, _, _, _, _, rfl⟩, I7.ext xe te, (P7.ext xe).mono (by omega)⟩
    obtain ⟨ty, bl, tyx, kb, hls⟩ := hS7.ls
    refine ⟨_, rfl, _, _, .type ty, .type "list", _, rfl, .ty _, tyx, kit_ty kb, _, rfl, ?_⟩
    cases bl with
    | false => exact iteF (iteF (fin (.refl _) I7.tb))
    | true =>
      obtain ⟨a, xs, rs, rfl, hq, hdq, few, rfl⟩ := hls rfl
      refine iteT ⟨_, rfl, a, xs, rfl, .inl hq, rfl, _, rfl, ?_⟩
      by_cases h2' : xs.length = 2
      · obtain ⟨x0, x1, rfl⟩ := two_of h2'
        rw [decide_eq_true (show V.int (([x0, x1] : List V).length : Int) = V.int 2 from rfl)]
        refine iteT (hr_rd (v := v) I7.tb (fun H8 x8 T8 Qn E ke kn => ?_) (fun H8 x8 T8 => ?_))
        · refine ⟨_, rfl, _, rfl, a, [x0, x1], 0, x0, rfl, rfl, sqL_ext hq x8, atI_nat (j := 0) rfl, _, rfl, a, [x0, x1], 1, x1, rfl, rfl, sqL_ext hq x8, atI_nat (j := 1) rfl, fun o dx ho hdx hne => ?_⟩
          exact mk_ch (I7.fr_.ext x8) (dqa_ext x8 hdq) few ho hdx hne (fun z' e => ke z' (by rw [← duv]; exact e)) (fun e H' _ s => ⟨rfl, kn (by rw [← duv]; exact e) _ _ s⟩)
        · refine ⟨_, rfl, scv, _, rfl, ?_⟩
          rw [decide_eq_true rfl]
          exact iteF (fin x8 T8)
      · rw [decide_eq_false (show ¬ V.int (xs.length : Int) = V.int 2 from fun z => h2' (by injection z with z; omega))]
        exact iteF (iteF (fin (.refl _) I7.tb))
  rintro σ H2 ⟨⟨o4, o5, o6, o7, o8, rfl⟩, I2, P2⟩
  clear I0 P1
  have dr : dueV (names ys) (some (G.map rowD)) = .non := by rw [dup]; exact due_right h1 h8 hpm ok.nd
  have few := (rowQ_sz ok h8 hpm).few (by decide) (by decide)
  refine ⟨fun σ H' => ∃ (o u t1 l1 d1 : Addr), σ = stR p b q f o4 o5 o6 o7 o8 (some (.ref o)) (some (.ref u)) ∧ ChO H' o CC f ∧ H' u = some (.lst (oddW t1 l1 d1)) ∧ H' t1 = some (.tup []) ∧ H' l1 = some (.lst [.str "a"]) ∧ sysModules ≠ l1 ∧ H' d1 = some (.dK []) ∧ Same H2 H', ?_, ?_⟩
  · refine ⟨rfl, _, rfl, _, rfl, rfl, rfl, f, .ref q, _, some (G.map rowD), rfl, I2.fr_, .seq (.inl (SqL.of I2.rq.at_)) (Dq.sameAll off_in _ _ (rowQ_data I2.rq)) few, (fun z e => (by rw [dr] at e; cases e)), fun _ o H3 ho hO s3 => ?_⟩
    refine ⟨by show 0 ≤ sizeLine; decide, fun t1 ht1 => ⟨by show 1 ≤ sizeLine; decide, fun l1 hl1 m1 => fun d1 hd1 => ⟨by show 10 ≤ sizeLine; decide, fun u hu => ⟨by show 2 ≤ sizeLine; decide, fun tp htp => ?_⟩⟩⟩⟩
    refine ⟨tp, _, rfl, SqT.of upd_same, rfl, _, _, rfl, _, _, rfl, rfl, ?_⟩
    have sA := same_at (o := .tup []) ht1
    have sB := same_at (o := .lst [V.str "a"]) hl1
    have sC := same_at (o := .dK []) hd1
    have sD := same_at (o := .lst (oddW t1 l1 d1)) hu
    have sE := same_at (o := .tup [V.ref o, .ref u]) htp
    obtain ⟨dx, B, ho3⟩ := hO
    exact ⟨o, u, t1, l1, d1, rfl, ⟨dx, B, sE _ _ (sD _ _ (sC _ _ (sB _ _ (sA _ _ ho3))))⟩, sE _ _ upd_same, sE _ _ (sD _ _ (sC _ _ (sB _ _ upd_same))), sE _ _ (sD _ _ (sC _ _ upd_same)), m1, sE _ _ (sD _ _ upd_same), s3.trans (sA.trans (sB.trans (sC.trans (sD.trans sE))))⟩
  rintro σ H3 ⟨o, u, t1, l1, d1, rfl, hO, hu, ht1, hl1, m1, hd1, s3⟩
  have I3 := I2.same s3
  have P3 := P2.same s3
  have hnm : ∀ z ∈ names ys, z ∈ poolS := fun z hz => ok.po z (to.pm.mem_iff.mp hz)
  refine ⟨_, rfl, u, rfl, ⟨_, SqL.of hu⟩, fun D hD => ?_⟩
  refine lc_sel (walk_list (K := K) (a := u) (xs := oddW t1 l1 d1)) (List.replicate 10 false) rfl hD (by show 10 ≤ 2000; decide) (fun H' s => SqL.of (s _ _ hu)) (fun x => rfl) (fun x => rfl) ?_ fun H4 us s4 d4 e4 => ?_
  · rintro j x Ho Ha b' eb sa ⟨rfl, hx⟩
    obtain rfl : b' = false := List.eq_of_mem_replicate (List.mem_of_getElem? eb)
    refine ⟨Same.refl _, fun R kR => ?_⟩
    obtain ⟨no, pd, hpd, sm⟩ := oddW_no (K := K) (H := Ha) (fd := ⟨ys, d.t, d.g, d.r⟩) (List.mem_of_getElem? hx) hnm (sa _ _ ht1) (sa _ _ hl1) m1 (sa _ _ hd1)
    obtain ⟨dx, B, ho3⟩ := id hO
    exact ⟨_, rfl, _, rfl, o, f, _, x, pd, rfl, ⟨dx, B, sa _ _ ho3⟩, I3.fr_.ext (.of sa), no, hpd, sm, fun H'' s'' => ⟨_, rfl, kR _ s''⟩⟩
  obtain rfl : us = [] := by
    rw [show (List.replicate 10 false).any id = false from rfl] at e4
    exact List.isEmpty_iff.mp e4
  refine ⟨by show 0 ≤ sizeLine; decide, fun e he => ?_⟩
  have s5 := same_at (o := .lst []) he
  refine ⟨.list [], .list [], .lst (SqL.of (s5 _ _ d4)) .nil, .lst (SqL.of upd_same) .nil, rfl, rfl, _, rfl, iteT ?_⟩
  have s6 := s4.trans s5
  refine hr_rd (v := .str "parts") (I3.tb.ext s6) (fun H7 x7 T7 Qn E ke kn => ?_) (fun H7 x7 T7 => ?_)
  · refine ⟨_, rfl, fun o' dx ho hdx hne => ?_⟩
    exact mk_ch (xs := []) (rs := []) (I3.fr_.ext ((ExtN.of s6).trans x7)) .nil ⟨Nat.zero_le _, Nat.zero_le _⟩ ho hdx hne (fun z' e => ke z' (by rw [← e, due_nil])) (fun e H' _ s => by rw [due_nil] at e; cases e)
  · refine ⟨rfl, ?_⟩
    rw [decide_eq_true rfl]
    exact k _ (((P3.same s6).ext x7).mono (by omega)) T7
end
end Sj
/-! The law's def, proved for the one place where the row calls it (so that what is shown around is known: nothing). -/
namespace Sup
open PySem PySem.Spec PyProof.Rows L2
abbrev Sp1 := V → Hp → VK → Prop
/-- called there with one value, the def keeps its promise -/
def AtCall (P : Program) (w : World) (K : PySem.W.Frag) (mg : Str → Option Value) (base : Heap) (f : Addr) (sp : Sp1) : Prop :=
  ∀ (s : Shared) (H : Hp) (u : Value) (v : V) (Q : VK), Env0 P w K mg base callerA [] s H → RelV v u → sp v H Q → codeAny (model P w) callerA (.call (.ref f) ⟨[u], []⟩) (CR CX0 [] P w H s Q E0) s
section
variable {P : Program} {w : World} {K : PySem.W.Frag} {mg mb : Str → Option Value} {base : Heap}
theorem at_call {nm q x : Str} {st : Stmt} {f : Addr} {fd : FuncData} {N : List Str} {k : Nat} {sp : Sp1} (F : Fun K nm q st f fd) (S : FnScope N [x] (defScope st)) (room : Room (k + 1) callerA) (hb : ∀ (s : Shared) (u : Value), BindsTo s fd ⟨[u], []⟩ [(x, u)])
    (body : ∀ (cdv : Value) (s : Shared) (H : Hp) (v : V) (Q : VK), Room k (callerA.deeper (envOfC q (defScope st) s.heap.objs.size f cdv)) → sp v H Q →
      ∃ t, PSs (cxOf CX0 P w K mg base N q (defScope st) f cdv callerA [] s H E0).nox (defBody st) t ∧ t { nx := fun _ H' => Q .non H', rt := Q } (start N [v]) H) : AtCall P w K mg base f sp := by
  obtain ⟨oc, od, kV, doc, pm, an, cdv, ct, osl, rfl, lk, hcd⟩ := F.ex
  intro s H u v Q env0 ru hsp
  have stand : ∀ b o, base.get? b = some o → s.heap.get? b = some o := fun b o z => (env0.bs b o z).1
  have inK := env0.mod.kin.keeps stand
  have kinds : ∀ y ∈ [x].zip [u], (defScope st).names.lookup y.1 = some .local ∨ ((defScope st).names.lookup y.1 = some .cell ∧ ((cellsFrom (s.heap.objs.size + 1) (defScope st).names []).lookup y.1).isSome = true) := by
    intro y hy
    have ey : y = (x, u) := by simpa using hy
    subst ey
    exact (S.par x (by simp)).imp id fun c => ⟨c, PySem.W.cellsFrom_some _ _ _ (.inl c)⟩
  apply codeAny_call_function room.depth (inK _ _ lk) rfl S.co S.gen rfl (PySem.W.codeRec_of inK hcd)
  apply hb s u
  apply wpAny_newFunctionEnv_cells S.kind kinds
  intro env he s1 inC
  subst he
  constructor
  · exact (env0.mod.nolimit.keeps stand).keeps inC.toInCall.keep
  · obtain ⟨t, ht, hq⟩ := body cdv s H v Q (room.deeper _) hsp
    have J := inv_start (CX := CX0) (E := E0) (P := P) (w := w) (us := [u]) (vs := [v]) S room.hd env0 rfl (.cons ru .nil) inC
    apply codeAny_func
    apply wpAny_mono (ht.nox.run [] s1 (start N [v]) H _ J hq) _ (fun _ _ z => z)
    intro fl s' hs
    have done : ∀ {σ' : L2.St} {H' : Hp} {y : V} {z : Value}, Inv (cxOf CX0 P w K mg base N q (defScope st) f cdv callerA [] s H E0) [] σ' H' s' → L2.RelV y z → Q y H' → CE [] P w H s Q z s' := by
      intro σ' H' y z I ry qy
      exact ⟨y, H', I.os, I.bare, I.base, I.hok, ry, qy⟩
    match fl, hs with
    | .ret _, ⟨_, _, _, I, ry, qy⟩ => exact done I ry qy
    | .next, ⟨_, _, I, qy⟩ => exact done (y := V.non) (z := Value.none) I rfl qy
    | .brk, ⟨_, _, _, z⟩ => exact z.elim
    | .cont, ⟨_, _, _, z⟩ => exact z.elim
end
end Sup
/-! The law's def at the place where the row calls it, where its code object has a table (it makes lambdas). -/
namespace Sup
open PySem PySem.Spec PyProof.Rows L2 LamX
end Sup
/-! The same where several code objects have tables (the law's own and those of defs that it calls). -/
namespace Sup
open PySem PySem.Spec PyProof.Rows L2 LamX
section
variable {P : Program} {w : World} {K : PySem.W.Frag} {mg mb : Str → Option Value}
theorem law_runsTs {f a : Addr} {Ts : List Addr} {sp : Sp1} {s1 : Shared} {vs : List Value} {ns : List Int} (inK : K.In s1.heap) (gl : s1.heap.Ns mainGlobals mg) (bl : s1.heap.Ns builtinsNs mb) (bb : ∀ x : Str, x ≠ "__name__" → mb x = bootBuiltins x) (lim : s1.heap.NoLimit)
    (nogen : s1.gens = #[]) (ht : ∀ Pt ∈ Ts, s1.heap.get? Pt = some { cls := .none, data := .fields #[] }) (nt : ∀ Pt ∈ Ts, K.lookup Pt = none) (hc : ∀ Pt ∈ Ts, ∃ c, PySem.W.CodeHd s1.heap c Pt)
    (bm : ∃ (m : Addr) (o : Obj), mg "__builtins__" = some (.ref m) ∧ m ≠ builtinsNs ∧ s1.heap.get? m = some o ∧ o.cls = .type "module" ∧ o.dict = some builtinsNs ∧ o.data = .plain)
    (ha : s1.heap.get? a = some { cls := .type "list", data := .seq vs.toArray }) (hi : IntsAre vs ns) (hl : ns.length ≤ sizeLine)
    (go : ∀ base : Heap, K.In base → base.Ns mainGlobals mg → (∀ Pt ∈ Ts, ∀ c, PySem.W.CodeHd s1.heap c Pt → TabB base mg c Pt) → AtCall P w K mg base f sp) (want : ∀ H : Hp, (∀ Pt ∈ Ts, H Pt = some (.tbl #[])) → SqL K H a (ns.map V.int) → sp (.ref a) H fun v _ => v = .bl true) :
    codeAny (model P w) callerA (.call (.ref f) ⟨[.ref a], []⟩) (fun r s' => r = .ok (.ret (.bool true)) ∧ OldK s1.heap s'.heap ∧ s'.os = s1.os ∧ AllBare s'.gens) s1 := by
  have rel := vals_ints hi
  have szV : vs.length ≤ sizeLine := hi.length ▸ hl
  have aPt : a ∉ Ts := fun z => by
    rw [ht a z] at ha
    have := congrArg Obj.data (Option.some.inj ha)
    cases this
  have main : ∀ H : Hp, (∀ Pt ∈ Ts, H Pt = some (.tbl #[])) → (∀ b u, H b = some u → b ∈ Ts ∨ (b = a ∧ K.lookup a = none ∧ ∃ o xs, u = .frz o (.lst xs))) → SqL K H a (ns.map V.int) → HOk P w H s1.heap → codeAny (model P w) callerA (.call (.ref f) ⟨[.ref a], []⟩)
      (fun r s' => r = .ok (.ret (.bool true)) ∧ OldK s1.heap s'.heap ∧ s'.os = s1.os ∧ AllBare s'.gens) s1 := by
    intro H hPt only hS hok
    have keepB : ∀ {b : Addr} {o : Obj}, s1.heap.get? b = some o → (∀ xs n, o.data ≠ .seq xs n) → o.data ≠ .fields #[] → (hidT s1.heap H).get? b = some o := by
      intro b o e no nf
      apply hidT_get e
      cases z : H b with
      | none => rfl
      | some u =>
        rcases only b u z with eb | ⟨eb, _⟩
        · rw [ht b eb] at e
          exact absurd rfl (by cases e; exact nf)
        · rw [eb, ha] at e
          exact absurd rfl (by cases e; exact no _ _)
    have keepK : K.In (hidT s1.heap H) := by
      intro b o e
      apply hidT_get (inK b o e)
      cases z : H b with
      | none => rfl
      | some u =>
        rcases only b u z with eb | ⟨eb, nk, _⟩
        · rw [nt b eb] at e
          cases e
        · rw [eb, nk] at e
          cases e
    have keepN : ∀ {b : Addr} {m : Str → Option Value}, s1.heap.Ns b m → (hidT s1.heap H).Ns b m := by
      rintro b m ⟨o, es, ep, e, d, r⟩
      exact ⟨o, es, ep, keepB e (fun xs n z => by rw [d] at z; cases z) (fun z => by rw [d] at z; cases z), d, r⟩
    have mod : Mod K mg (hidT s1.heap H) := by
      refine ⟨keepK, keepN gl, ⟨mb, keepN bl, bb⟩, ?_⟩
      obtain ⟨mc, n1, n2⟩ := lim
      exact ⟨mc, keepN n1, n2⟩
    have tab : ∀ Pt ∈ Ts, ∀ c, PySem.W.CodeHd s1.heap c Pt → TabB (hidT s1.heap H) mg c Pt := fun Pt hPt' c hc => by
      have ht := ht Pt hPt'
      refine ⟨?_, ?_, fun z => ?_⟩
      · obtain ⟨o, us, file, tf, fl, tg, x, text, tt, q, r1, r2, r3, rest⟩ := hc
        refine ⟨o, us, file, tf, fl, tg, x, text, tt, keepB q (fun xs n z => ?_) (fun z => ?_), r1, r2, r3, rest⟩
        · rw [r2] at z
          cases z
        · rw [r2] at z
          cases z
          simp at r3
      · obtain ⟨m, o, b1, b2, b3, b4, b5, b6⟩ := bm
        refine ⟨m, o, b1, b2, fun z => ?_, fun z => ?_, keepB b3 (fun xs n z => ?_) (fun z => ?_), b4, b5, b6⟩
        · obtain ⟨og, es, ep, e, d, _⟩ := gl
          rw [z, e] at b3
          rw [← Option.some.inj b3, d] at b6
          cases b6
        · rw [z, ht] at b3
          rw [← Option.some.inj b3] at b6
          cases b6
        · rw [b6] at z
          cases z
        · rw [b6] at z
          cases z
      · obtain ⟨og, es, ep, e, d, _⟩ := gl
        rw [z, ht] at e
        rw [← Option.some.inj e] at d
        cases d
    have env : Env0 P w K mg (hidT s1.heap H) callerA [] s1 H := by
      refine ⟨rfl, mod, fun b o e => of_hidT e, Nat.le_of_eq (hidT_size _ _), trivial, ?_, hok, .of_eq nogen⟩
      intro b hb
      cases hb
    apply codeAny_mono (go _ keepK (keepN gl) tab s1 H (.ref a) (.ref a) _ env rfl (want H hPt hS))
    intro r s' h
    match r, h with
    | .ok (.ret u), ⟨v, H', os, bare, un, hok', ru, q⟩ =>
      have ev : v = .bl true := q
      subst ev
      obtain rfl : u = Value.bool true := ru
      have grown : ∀ Pt ∈ Ts, ∃ more, s'.heap.get? Pt = some { cls := .none, data := .fields (#[] ++ more) } := fun Pt hp => by
        obtain ⟨more, hm⟩ := un.tbls Pt #[] (hPt Pt hp)
        exact ⟨more, hok' Pt _ hm⟩
      have stays : ∀ b o, b ∉ Ts → s1.heap.get? b = some o → s'.heap.get? b = some o := by
        intro b o nb e
        cases z : H b with
        | none => exact un.keep b o e z (fun k => by cases k) (fun k => by cases k)
        | some u =>
          obtain ⟨_, _, ob, xs, eu⟩ := (only b u z).resolve_left nb
          subst eu
          have here := (hok b _ z).1
          have there := (hok' b _ (un.frzs b ob _ z)).1
          rw [e] at here
          cases here
          exact there
      refine ⟨rfl, ⟨fun b o e => ?_, fun b o e => ?_⟩, os, bare⟩
      · by_cases hb : b ∈ Ts
        · obtain ⟨more, gr⟩ := grown b hb
          obtain ⟨c, hcc⟩ := hc b hb
          rw [ht b hb] at e
          cases e
          exact .inr (.inl ⟨(hcc.tab (ht b hb)).isCodeTable, rfl, #[], more, rfl, gr⟩)
        · exact .inl (stays b o hb e)
      · by_cases hb : b ∈ Ts
        · obtain ⟨more, gr⟩ := grown b hb
          exact ⟨_, gr⟩
        · exact ⟨o, stays b o hb e⟩
  cases known : K.lookup a with
  | some o =>
    have eo := inK a o known
    rw [ha] at eo
    cases eo
    apply main (fun b => if b ∈ Ts then some (.tbl #[]) else none) (fun Pt hp => if_pos hp)
    · intro b u z
      by_cases hb : b ∈ Ts
      · exact .inl hb
      · rw [if_neg hb] at z
        cases z
    · exact .inr ⟨_, vs.toArray, _, known, rfl, rfl, rfl, by simpa using szV, by simpa using rel⟩
    · intro b u z
      dsimp only at z
      by_cases hb : b ∈ Ts
      · rw [if_pos hb] at z
        cases z
        exact ht b hb
      · rw [if_neg hb] at z
        cases z
  | none =>
    apply main (fun b => if b ∈ Ts then some (.tbl #[]) else if b = a then some (.frz { cls := .type "list", data := .seq vs.toArray } (.lst (ns.map V.int))) else none) (fun Pt hp => if_pos hp)
    · intro b u z
      by_cases h1 : b ∈ Ts
      · exact .inl h1
      · rw [if_neg h1] at z
        by_cases hb : b = a
        · rw [if_pos hb] at z
          cases z
          exact .inr ⟨hb, known, _, _, rfl⟩
        · rw [if_neg hb] at z
          cases z
    · exact .inl (.inr ⟨{ cls := .type "list", data := .seq vs.toArray }, by dsimp only; rw [if_neg aPt, if_pos rfl]⟩)
    · intro b u z
      dsimp only at z
      by_cases h1 : b ∈ Ts
      · rw [if_pos h1] at z
        cases z
        exact ht b h1
      · rw [if_neg h1] at z
        by_cases hb : b = a
        · rw [if_pos hb] at z
          cases z
          subst hb
          exact ⟨ha, by rw [List.length_map]; exact hl, vs, _, rel, ha⟩
        · rw [if_neg hb] at z
          cases z
/-- the goal that k_head leaves, from AtCall, where several defs have tables: Ts in the order that sp wants -/
theorem walk_atTs {l : PySem.W.OpenLaw} {n m : Nat} {q : Program} {loose nms : List Str} {XP : (Str → Option Value) → Heap → Prop} {YP : World → Heap → Prop} {d : DefRec} {K : Params → PySem.W.Frag} {sp : PySem.W.Frag → List Addr → Sp1}
    (hn : l.most = some n) (hz : n ≤ sizeLine) (hdf : d.params.defaults = []) (hrec : ∀ nm ∈ nms, ((recsOf q).any fun e => e.name == nm) = true) (hY : ∀ (w : World) (h : Heap), YP w h → (K w.params).In h)
    (go : ∀ (w : World) (mg : Str → Option Value) (f : Addr) (h : Heap), (K w.params).In h → h.Ns mainGlobals mg → mg d.name = some (.ref f) → (∀ nm ∈ nms, ∀ g, mg nm = some (.ref g) → OwnTab (K w.params) g h) →
      ∃ Ts : List Addr, Ts.length = m ∧ (∀ Pt ∈ Ts, h.get? Pt = some { cls := .none, data := .fields #[] }) ∧ (∀ Pt ∈ Ts, (K w.params).lookup Pt = none) ∧ (∀ Pt ∈ Ts, ∃ c, PySem.W.CodeHd h c Pt) ∧ ∀ base : Heap, (K w.params).In base → base.Ns mainGlobals mg → (∀ Pt ∈ Ts, ∀ c, PySem.W.CodeHd h c Pt → TabB base mg c Pt) → AtCall l.prog w (K w.params) mg base f (sp (K w.params) Ts))
    (want : ∀ (K : PySem.W.Frag) (Ts : List Addr) (H : Hp) (a : Addr) (ns : List Int), Ts.length = m → ns.length ≤ n → (∀ Pt ∈ Ts, H Pt = some (.tbl #[])) → SqL K H a (ns.map V.int) → sp K Ts (.ref a) H fun v _ => v = .bl true) :
    PySem.W.WalkO q loose XP YP l.row.toRowW d [] (fun f vs => PySem.call f vs) := by
  apply Att.attach_callB hn hdf
  intro w _ s1 mg mb f _ _ _ _ a vs ns G Y _ _ _ hmg hobj hints hlen _ hg
  have inK := hY w _ Y
  have own : ∀ nm ∈ nms, ∀ g, mg nm = some (.ref g) → OwnTab (K w.params) g s1.heap := by
    intro nm hnm g hmg c Pt o1 fd e dd us sl q1 q2 q3 q4 q5
    obtain ⟨r, mem, same⟩ := List.any_eq_true.mp (hrec nm hnm)
    obtain ⟨f2, o2, fd2, c2, P2, w1, w2, w3, w4, _, ⟨⟨o3, us3, w5, _, w6, w7⟩, w8⟩⟩ := G.T.tab r mem
    have nm' : r.name = nm := beq_iff_eq.mp same
    rw [nm'] at w1
    obtain rfl : g = f2 := by
      have := hmg.symm.trans w1
      cases this
      rfl
    obtain rfl : o1 = o2 := Option.some.inj ((inK _ _ q1).symm.trans w2)
    obtain rfl : fd = fd2 := by
      have := q2.symm.trans w3
      cases this
      rfl
    obtain rfl : c = c2 := by
      have := q3.symm.trans w4
      cases this
      rfl
    have e3 := Option.some.inj ((inK _ _ q4).symm.trans w5)
    subst e3
    cases w6
    obtain rfl : Pt = P2 := by
      have := q5.symm.trans w7
      cases this
      rfl
    exact w8
  obtain ⟨Ts, h0, h1, h2, h3, h4⟩ := go w mg f _ inK G.T.g hmg own
  exact law_runsTs inK G.T.g G.T.b G.T.builtins G.T.nolimit hg h1 h2 h3 G.T.bmain hobj hints (Nat.le_trans hlen hz) h4 fun H hP hS => want _ Ts H a ns h0 hlen hP hS
end
end Sup
namespace Sj
open PySem L2 Sup StK Own Shw Exg Grd KepE LamX
open NdefX (NF NScope ncx envF startF nscope_by)
open C8 (pss_cut tCut)
/-! k66: InvalidChain; Chain.of by its places; the law -/
abbrev sIvC : Stmt := inClass (top 4) 0
section
variable {P : Program} {w : World} {K : PySem.W.Frag} {mg : Str → Option Value} {base : Heap}
theorem ok_ivc {f c cc C : Addr} {fd : FuncData} (F : FunS P K "__init__" "InvalidChain.__init__" sIvC f fd c cc C) (T : ExT P K mg C "reason") : FnOk P w K mg base CX0 1 f fd ["self", "reason"] (spInv K C) := by
  refine fn_super F scInv (fun vs H Q E h => ?_) (fun A outer s H vs Q E hr h s1 I => ?_)
  · obtain ⟨a, z, rfl, _⟩ := h
    rfl
  · obtain ⟨a, z, rfl, hz, ha, k⟩ := h
    refine super_exc (me := "self") (x := a) (C := C) (atS_of F rfl rfl rfl rfl ⟨_, rfl, rfl⟩) T.sup T.oex rfl T.hm T.hB T.hs
      (pa_cons (pe_joined (.cons pe_str (.cons (pe_fmtR (pv 1)) .nil))) pa_nil) (pss_one (ps_ost (pv 0) (pv 1))) I rfl ha ?_ rfl rfl rfl rfl rfl
    refine ⟨_, rfl, by decide +kernel, _, rfl, .inl ⟨z, rfl, Nat.le_trans hz (by decide), _, rfl, ?_, by show 1 ≤ 1000; decide, ha, ?_⟩⟩
    · have e1 : ((Str.empty ++ ("invalid chain: " : Str)) ++ reprText z).length ≤ 15 + (reprText z).length := by
        rw [strLen]
        exact Nat.add_le_add_right (by decide +kernel) _
      exact Nat.le_trans e1 (Nat.le_trans (Nat.add_le_add_left hz 15) (by decide))
    · exact ⟨_, rfl, _, rfl, a, C, rfl, T.oex, T.no, .inl ⟨ha, fun dx hd hne => k dx hd hne⟩⟩
end
theorem ch_of0 {P : Program} {w : World} {K : PySem.W.Frag} {mg : Str → Option Value} {base : Heap} {f CF CI CC : Addr} {fd : FuncData} {ks : Kinds} (F : FunD K "of" "Chain.of" (defArgs sChO) (defBody sChO) (defScope sChO) [] [] f fd) (G : FnOk P w K mg base (L2.CX P w) 6 f fd ["cls", "frame", "parts"] (spChO K ks CF CI CC)) :
    FnK P w K mg base (L2.CX P w) 6 f [] (fun vs zs H Q E => vs.length = 3 ∧ spChO K ks CF CI CC vs H Q E) := by
  have hb : KBn K fd ["cls", "frame", "parts"] 3 [] (fun us _ => us) (fun vs _ => vs) := by
    obtain ⟨oc, od, dV, kV, doc, pm, an, cdv, ct, osl, rfl, lk, hcd, hD, hK⟩ := F.ex
    rcases hD with ⟨_, rfl⟩ | ⟨e, _⟩
    case inr => exact absurd rfl e
    exact ⟨fun s us ws X h1 h2 => match us, ws, h1, h2 with
      | [a, b, c], [], _, _ => .of_eq rfl, fun r _ => r⟩
  exact fnK_of G hb
abbrev sLaw66 : Stmt := top 37
abbrev nL66 : List Str := ["_law_script", "_law_pen_here", "_law_turn", "_law_bare_here"]
theorem scL66 : FnScope nL66 ["_law_script"] (defScope sLaw66) := ⟨rfl, rfl, rfl, by decide +kernel, rfl, by decide +kernel, by decide +kernel⟩
structure L66T (P : Program) (w : World) (K : PySem.W.Frag) (mg : Str → Option Value) (base : Heap) (Pr : Addr) : Prop where
  pen : Fi P w K mg base "_law_pen" 1 ["_law_script"] (spPen K)
  bare : Fi P w K mg base "_law_bare" 3 ["_law_pen_here", "_law_most"] spBare
  par : Fi P w K mg base "_law_parts" 2 ["_law_pen_here", "_law_bare_here"] spPar
  right : ∃ f fd, mg "_law_right" = some (.ref f) ∧ PySem.W.keepIn K (.ref f) = true ∧ Binds K fd ["_law_pen_here", "_law_bare_here", "_law_rows"] [] ∧ FnG P w K mg base CX0 9 f fd ["_law_pen_here", "_law_bare_here", "_law_rows"] (spRi K (tabR Pr))
  range : mg "range" = none
def spLaw66 (K : PySem.W.Frag) (Pr : Addr) : Sp1 := fun v H Q => ∃ (a : Addr) (ns : List Int), v = .ref a ∧ SqL K H a (ns.map V.int) ∧ ns.length ≤ 63 ∧ Tabs (tabR Pr) H ∧ ∀ H', Q (.bl true) H'
section
variable {P : Program} {w : World} {K : PySem.W.Frag} {mg : Str → Option Value} {base : Heap}
theorem at_law {f Pr : Addr} {fd : FuncData} (F : Fun K "law" "law" sLaw66 f fd) (hb : ∀ (s : Shared) (u : Value), BindsTo s fd ⟨[u], []⟩ [("_law_script", u)]) (T : L66T P w K mg base Pr) : AtCall P w K mg base f (spLaw66 K Pr) := by
  refine at_call (k := 12) F scL66 ⟨rfl, by decide, by decide⟩ hb fun cdv s H v Q hr h => ?_
  obtain ⟨sc, ns, rfl, hS, hlen, hT, k⟩ := h
  obtain ⟨fP, fdP, mP, kP, bP, GP⟩ := T.pen
  obtain ⟨fB, fdB, mB, kB, bB, GB⟩ := T.bare
  obtain ⟨fA, fdA, mA, kA, bA, GA⟩ := T.par
  obtain ⟨fR, fdR, mR, kR, bR, GR⟩ := T.right
  have hgu : (callerA.deeper (PyProof.Rows.envOfC "law" (defScope sLaw66) s.heap.objs.size f cdv)).guards = some [] := rfl
  have hr1 := hr.mono (show 1 ≤ 12 by decide)
  have hr2 := hr.mono (show 2 ≤ 12 by decide)
  have hr3 := hr.mono (show 3 ≤ 12 by decide)
  have hr9 := hr.mono (show 9 ≤ 12 by decide)
  refine ⟨_, pss_cons (ps_set (i := 1) scL66.nd rfl (Or.inl rfl) (pe_call GP hr1 rfl mP kP bP .nil pass0 (pa_cons (pv 0) pa_nil)))
    (pss_cut (ps_for PassesOwn.never rfl (pi_range1 rfl T.range (pa_cons pe_int pa_nil)) (pg_name (i := 2) scL66.nd rfl (Or.inl rfl))
      (pss_cons (ps_set (i := 3) scL66.nd rfl (Or.inl rfl) (pe_call GB hr3 rfl mB kB bB .nil pass0 (pa_cons (pv 1) (pa_cons pe_int pa_nil))))
      (pss_one (ps_if (pt_not (pt_val (pe_callG GR hgu hr9 rfl mR kR bR pass0 (pa_cons (pv 1) (pa_cons (pv 3) (pa_cons (pe_call GA hr2 rfl mA kA bA .nil pass0 (pa_cons (pv 1) (pa_cons (pv 3) pa_nil))) pa_nil)))))) (pss_one (ps_ret pe_bl)) pss_nil))))
    (pss_one (ps_ret pe_bl))), ?_⟩
  refine ⟨_, rfl, sc, ns, rfl, hS, hlen, fun p l cs H1 hP s1 => ?_⟩
  refine ⟨fun _ _ => True, ?_, fun _ H' _ => k H'⟩
  refine ⟨6, rfl, by decide, by decide, for_range (n := 6) (fun i σ H' => (∃ o2 o3, σ = ([some (.ref sc), some (.ref p), o2, o3] : List (Option V))) ∧ Pen H' p l cs (400 * i) ∧ Tabs (tabR Pr) H') ⟨⟨_, _, rfl⟩, hP, hT.ext s1⟩ ?_ (fun _ _ _ => True.intro)⟩
  rintro i σ H2 hi ⟨⟨o2, o3, rfl⟩, P2, T2⟩
  obtain ⟨xs2, hp2⟩ := P2.at'
  refine ⟨_, rfl, p, l, cs, 400 * i, 6, rfl, P2, by decide, by omega, fun b d H3 ok hl hb2 hB3 P3 b23 => ?_⟩
  have T3 := tabs_but T2 hp2 b23
  obtain ⟨xs3, hp3⟩ := P3.at'
  refine ⟨_, rfl, _, rfl, _, rfl, _, rfl, p, l, cs, _, b, d, rfl, P3, hB3, ok, by omega, fun q G H4 hR hG1 hG8 hGp P4 b34 => ?_⟩
  have T4 := tabs_but T3 hp3 b34
  exact ⟨p, l, cs, _, b, q, d, G, rfl, P4, hB3.but P3 b34, ok, ⟨hR.at_, nep P3 hR.new, fun x hx => ⟨(hR.row x hx).1, nep P3 (hR.row x hx).2.1, hR.nm x hx⟩⟩, hG1, hG8, hGp, by omega, T4, fun H5 P5 T5 => ⟨true, rfl, iteF ⟨⟨_, _, rfl⟩, P5.mono (by omega), T5⟩⟩⟩
end
/-- the table: _law_right's -/
def sp66L (K : PySem.W.Frag) (Ts : List Addr) : Sp1 := fun v H Q => ∃ Pr, Ts = [Pr] ∧ spLaw66 K Pr v H Q
theorem want66 (K : PySem.W.Frag) (Ts : List Addr) (H : Hp) (a : Addr) (ns : List Int) (hl : Ts.length = 1) (h63 : ns.length ≤ 63) (hT : ∀ Pt ∈ Ts, H Pt = some (.tbl #[])) (hS : SqL K H a (ns.map V.int)) : sp66L K Ts (.ref a) H fun v _ => v = .bl true := by
  match Ts, hl with
  | [x], _ =>
    refine ⟨x, rfl, a, ns, rfl, hS, h63, fun p hp => ?_, fun _ => rfl⟩
    rw [List.mem_singleton.mp hp]
    exact TabS.nil (hT _ List.mem_cons_self)
end Sj
namespace Sj
open PySem L2 Sup StK Own Shw Exg Grd KepE LamX
open NdefX (NF NScope ncx envF startF nscope_by)
abbrev sNl : Stmt := inClass (top 6) 0
theorem in_of {st : Stmt} (h : (defScope st).kind = .function) : ∀ env : Env, env.scope = defScope st → interactive env = false := fun env e => by
  unfold interactive
  rw [e, h]
  rfl
theorem mkNL {P : Program} {w : World} {K : PySem.W.Frag} {mg : Str → Option Value} {base : Heap} {f c cc C : Addr} {fd : FuncData} (F : FunS P K "__init__" "NoLeg.__init__" sNl f fd c cc C) (T : ErrT P K mg "LookupError" "LookupError.__new__" "LookupError.__init__" tlL C) (hno : PySem.W.findIn K (.ref C) "name" = some none) : FnG P w K mg base CX0 1 f fd ["self", "name"] (spOne K C "name") :=
  ok_one bL F T (nscope_by (by decide +kernel)) rfl (by decide +kernel) rfl rfl rfl rfl (by decide) (by decide) ⟨_, rfl, rfl⟩ hno rfl (in_of rfl) fun _ => rfl
theorem all_mk66 {P : Program} {w : World} {K : PySem.W.Frag} {h : Heap} {mg : Str → Option Value} {fa : Addr} (X : K.In h) (G : h.Ns mainGlobals mg) (hfa : mg "law" = some (.ref fa)) (own : ∀ nm ∈ (["_law_right"] : List Str), ∀ g, mg nm = some (.ref g) → OwnTab K g h)
    {CI : Addr}
    {CL : Addr}
    {CD : Addr}
    {CS : Addr}
    {CF : Addr}
    {CC : Addr}
    {CV : Addr}
    {CN : Addr}
    {CJ : Addr}
    {CM : Addr}
    {tL tN : Tok} {aR : Addr} {dR : Option Addr} {itsR : Array Value} {nR : Nat} {slR : Array (Option Value)}
    {mcC uC : Value}
    {fN : Addr} {odN anN : Option Addr} {slN : Array (Option Value)} {ocN kVN dcN pmN cdN ctN : Value}
    {fIi : Addr} {odIi anIi : Option Addr} {slIi : Array (Option Value)} {ocIi kVIi dcIi pmIi cdIi ctIi : Value}
    {fBt : Addr} {odBt anBt : Option Addr} {slBt : Array (Option Value)} {ocBt kVBt dcBt pmBt cdBt ctBt : Value}
    {fWr : Addr} {odWr anWr : Option Addr} {slWr : Array (Option Value)} {ocWr kVWr dcWr pmWr cdWr ctWr : Value}
    {fLI : Addr} {odLI anLI : Option Addr} {slLI : Array (Option Value)} {ocLI kVLI dcLI pmLI cdLI ctLI : Value}
    {fPn : Addr} {odPn anPn : Option Addr} {slPn : Array (Option Value)} {ocPn kVPn dcPn pmPn cdPn ctPn : Value}
    {fDr : Addr} {odDr anDr : Option Addr} {slDr : Array (Option Value)} {ocDr kVDr dcDr pmDr cdDr ctDr : Value}
    {fPk : Addr} {odPk anPk : Option Addr} {slPk : Array (Option Value)} {ocPk kVPk dcPk pmPk cdPk ctPk : Value}
    {fTg : Addr} {odTg anTg : Option Addr} {slTg : Array (Option Value)} {ocTg kVTg dcTg pmTg cdTg ctTg : Value}
    {fBa : Addr} {odBa anBa : Option Addr} {slBa : Array (Option Value)} {ocBa kVBa dcBa pmBa cdBa ctBa : Value}
    {fFm : Addr} {odFm anFm : Option Addr} {slFm : Array (Option Value)} {ocFm kVFm dcFm pmFm cdFm ctFm : Value}
    {fWp : Addr} {odWp anWp : Option Addr} {slWp : Array (Option Value)} {ocWp kVWp dcWp pmWp cdWp ctWp : Value}
    {fPa : Addr} {odPa anPa : Option Addr} {slPa : Array (Option Value)} {ocPa kVPa dcPa pmPa cdPa ctPa : Value}
    {fBe : Addr} {odBe anBe : Option Addr} {slBe : Array (Option Value)} {ocBe kVBe dcBe pmBe cdBe ctBe : Value}
    {fDu : Addr} {odDu anDu : Option Addr} {slDu : Array (Option Value)} {ocDu kVDu dcDu pmDu cdDu ctDu : Value}
    {fHe : Addr} {odHe anHe : Option Addr} {slHe : Array (Option Value)} {ocHe kVHe dcHe pmHe cdHe ctHe : Value}
    {fLa : Addr} {odLa anLa : Option Addr} {slLa : Array (Option Value)} {ocLa kVLa dcLa pmLa cdLa ctLa : Value}
    {fLw : Addr} {odLw anLw : Option Addr} {slLw : Array (Option Value)} {ocLw kVLw dcLw pmLw cdLw ctLw : Value}
    {fmC : Addr} {odmC anmC : Option Addr} {slmC : Array (Option Value)} {ocmC kVmC dcmC pmmC cdmC ctmC : Value}
    {fmN : Addr} {odmN anmN : Option Addr} {slmN : Array (Option Value)} {ocmN kVmN dcmN pmmN cdmN ctmN : Value}
    {fcI : Addr} {odcI ancI : Option Addr} {slcI : Array (Option Value)} {occI kVcI dccI pmcI cdcI ctcI : Value}
    {fcO : Addr} {odcO ancO : Option Addr} {slcO : Array (Option Value)} {occO kVcO dccO pmcO cdcO ctcO : Value}
    {pcO : Addr} {rscO : List Value}
    {fcP : Addr} {odcP ancP : Option Addr} {slcP : Array (Option Value)} {occP kVcP dccP pmcP cdcP ctcP : Value}
    {fFI DFI : Addr} {odFI anFI : Option Addr} {slFI : Array (Option Value)} {ocFI dcFI pmFI cdFI ctFI x1FI x2FI x3FI : Value}
    {fO DO : Addr} {odO anO : Option Addr} {slO : Array (Option Value)} {ocO dcO pmO cdO ctO x1O x2O x3O : Value}
    {pO : Addr} {rsO : List Value} {mcF uM : Value}
    {fIE xIE yIE : Addr} {odIE anIE : Option Addr} {slIE : Array (Option Value)} {ocIE kVIE dcIE pmIE ctIE : Value}
    {u1IE u2IE : Value} {v1IE v2IE : Option Addr} {vsIE : Array Value} {w1IE w2IE : Array (Option Value)} {flIE : Str} {tfIE : Tok}
    {fIV xIV yIV : Addr} {odIV anIV : Option Addr} {slIV : Array (Option Value)} {ocIV kVIV dcIV pmIV ctIV : Value}
    {u1IV u2IV : Value} {v1IV v2IV : Option Addr} {vsIV : Array Value} {w1IV w2IV : Array (Option Value)} {flIV : Str} {tfIV : Tok}
    {fNL xNL yNL : Addr} {odNL anNL : Option Addr} {slNL : Array (Option Value)} {ocNL kVNL dcNL pmNL ctNL : Value}
    {u1NL u2NL : Value} {v1NL v2NL : Option Addr} {vsNL : Array Value} {w1NL w2NL : Array (Option Value)} {flNL : Str} {tfNL : Tok}
    {fDI xDI yDI : Addr} {odDI anDI : Option Addr} {slDI : Array (Option Value)} {ocDI kVDI dcDI pmDI ctDI : Value}
    {u1DI u2DI : Value} {v1DI v2DI : Option Addr} {vsDI : Array Value} {w1DI w2DI : Array (Option Value)} {flDI : Str} {tfDI : Tok}
    {fSI xSI ySI : Addr} {odSI anSI : Option Addr} {slSI : Array (Option Value)} {ocSI kVSI dcSI pmSI ctSI : Value}
    {u1SI u2SI : Value} {v1SI v2SI : Option Addr} {vsSI : Array Value} {w1SI w2SI : Array (Option Value)} {flSI : Str} {tfSI : Tok}
    {cdCI : ClassData}
    {cdCD : ClassData}
    {cdCS : ClassData}
    {cdCL : ClassData}
    {cdCN : ClassData}
    {cdCV : ClassData}
    {nm q : Str} {Ns : Addr} {bs bm sub : List Value} {sn : List Str} {ab : Bool} {col : Option Bool} {dd : Option Addr} {k0 k1 k2 k3 k5 : Option Value}
    {nm2 q2 : Str} {Ns2 : Addr} {bs2 bm2 sub2 : List Value} {sn2 : List Str} {ab2 : Bool} {col2 : Option Bool} {dd2 : Option Addr} {k02 k12 k22 k32 k52 : Option Value}
    {fRi cRi PtRi : Addr} {odRi anRi : Option Addr} {slRi : Array (Option Value)} {ocRi kVRi dcRi pmRi ctRi : Value} {eRi : Value} {ddRi : Option Addr} {vsRi : Array Value} {scRi : Array (Option Value)}
    (gCI : PySem.W.nsIn K mainGlobals "InvalidFrame" = some (some (.ref CI)))
    (gCL : PySem.W.nsIn K mainGlobals "Leg" = some (some (.ref CL)))
    (gCD : PySem.W.nsIn K mainGlobals "Driver" = some (some (.ref CD)))
    (gCS : PySem.W.nsIn K mainGlobals "Listener" = some (some (.ref CS)))
    (gCF : PySem.W.nsIn K mainGlobals "Frame" = some (some (.ref CF)))
    (gCC : PySem.W.nsIn K mainGlobals "Chain" = some (some (.ref CC)))
    (gCV : PySem.W.nsIn K mainGlobals "InvalidChain" = some (some (.ref CV)))
    (gCN : PySem.W.nsIn K mainGlobals "NoLeg" = some (some (.ref CN)))
    (gCJ : PySem.W.nsIn K mainGlobals "JoinError" = some (some (.ref CJ)))
    (gCM : PySem.W.nsIn K mainGlobals "MissingError" = some (some (.ref CM)))
    (gLet : PySem.W.nsIn K mainGlobals "LETTERS" = some (some (.str lettersS tL)))
    (gLon : PySem.W.nsIn K mainGlobals "LONGEST" = some (some (.int 8 tN)))
    (gRes : PySem.W.nsIn K mainGlobals "RESERVED" = some (some (.ref aR)))
    (lRes : K.lookup aR = some ⟨.type "tuple", dR, .seq itsR nR, slR⟩)
    (sRes : itsR.size ≤ sizeLine)
    (vRes : Vals reservedV itsR.toList)
    (z_ValueError : PySem.W.nsIn K mainGlobals "ValueError" = some none)
    (z_set : PySem.W.nsIn K mainGlobals "set" = some none)
    (z_isinstance : PySem.W.nsIn K mainGlobals "isinstance" = some none)
    (z_str : PySem.W.nsIn K mainGlobals "str" = some none)
    (z_len : PySem.W.nsIn K mainGlobals "len" = some none)
    (z_all : PySem.W.nsIn K mainGlobals "all" = some none)
    (z_bool : PySem.W.nsIn K mainGlobals "bool" = some none)
    (z_int : PySem.W.nsIn K mainGlobals "int" = some none)
    (z_abs : PySem.W.nsIn K mainGlobals "abs" = some none)
    (z_range : PySem.W.nsIn K mainGlobals "range" = some none)
    (z_list : PySem.W.nsIn K mainGlobals "list" = some none)
    (z_tuple : PySem.W.nsIn K mainGlobals "tuple" = some none)
    (z_sorted : PySem.W.nsIn K mainGlobals "sorted" = some none)
    (z_super : PySem.W.nsIn K mainGlobals "super" = some none)
    (z_repr : PySem.W.nsIn K mainGlobals "repr" = some none)
    (tyC : PySem.W.typeIn K (.ref CC) = some mcC)
    (rdC : PySem.W.readsIn K CC mcC = true)
    (gaC : PySem.W.specialIn K (.ref CC) "__getattribute__" = some (some (.builtin "type.__getattribute__")))
    (moC : PySem.W.findCls K (.ref CC) mcC "MOST" = some (.val uC))
    (rmC : RelV (.int 8) uC)
    (aN : PySem.W.nsIn K mainGlobals "is_name" = some (some (.ref fN)))
    (lN : K.lookup fN = some ⟨ocN, odN, .func (PySem.W.fnOf "is_name" "is_name" (defArgs sIsName) (defBody sIsName) (defScope sIsName) .none kVN dcN pmN anN cdN ctN), slN⟩)
    (cN : PySem.W.codeIn K cdN "is_name" = true)
    (kN : PySem.W.keepIn K (.ref fN) = true)
    (aIi : PySem.W.nsIn K mainGlobals "is_integer" = some (some (.ref fIi)))
    (lIi : K.lookup fIi = some ⟨ocIi, odIi, .func (PySem.W.fnOf "is_integer" "is_integer" (defArgs sIsInt) (defBody sIsInt) (defScope sIsInt) .none kVIi dcIi pmIi anIi cdIi ctIi), slIi⟩)
    (cIi : PySem.W.codeIn K cdIi "is_integer" = true)
    (kIi : PySem.W.keepIn K (.ref fIi) = true)
    (aBt : PySem.W.nsIn K mainGlobals "is_between" = some (some (.ref fBt)))
    (lBt : K.lookup fBt = some ⟨ocBt, odBt, .func (PySem.W.fnOf "is_between" "is_between" (defArgs sBetw) (defBody sBetw) (defScope sBetw) .none kVBt dcBt pmBt anBt cdBt ctBt), slBt⟩)
    (cBt : PySem.W.codeIn K cdBt "is_between" = true)
    (kBt : PySem.W.keepIn K (.ref fBt) = true)
    (aWr : PySem.W.nsIn K mainGlobals "wrong_frame" = some (some (.ref fWr)))
    (lWr : K.lookup fWr = some ⟨ocWr, odWr, .func (PySem.W.fnOf "wrong_frame" "wrong_frame" (defArgs sWrong) (defBody sWrong) (defScope sWrong) .none kVWr dcWr pmWr anWr cdWr ctWr), slWr⟩)
    (cWr : PySem.W.codeIn K cdWr "wrong_frame" = true)
    (kWr : PySem.W.keepIn K (.ref fWr) = true)
    (aLI : PySem.W.findIn K (.ref CL) "__init__" = some (some (.ref fLI)))
    (iLI : PySem.W.isFn K (.ref fLI) = true)
    (lLI : K.lookup fLI = some ⟨ocLI, odLI, .func (PySem.W.fnOf "__init__" "Leg.__init__" (defArgs sLegI) (defBody sLegI) (defScope sLegI) .none kVLI dcLI pmLI anLI cdLI ctLI), slLI⟩)
    (cLI : PySem.W.codeIn K cdLI "Leg.__init__" = true)
    (kLI : PySem.W.keepIn K (.ref fLI) = true)
    (aPn : PySem.W.nsIn K mainGlobals "_law_pen" = some (some (.ref fPn)))
    (lPn : K.lookup fPn = some ⟨ocPn, odPn, .func (PySem.W.fnOf "_law_pen" "_law_pen" (defArgs sPen) (defBody sPen) (defScope sPen) .none kVPn dcPn pmPn anPn cdPn ctPn), slPn⟩)
    (cPn : PySem.W.codeIn K cdPn "_law_pen" = true)
    (kPn : PySem.W.keepIn K (.ref fPn) = true)
    (aDr : PySem.W.nsIn K mainGlobals "_law_draw" = some (some (.ref fDr)))
    (lDr : K.lookup fDr = some ⟨ocDr, odDr, .func (PySem.W.fnOf "_law_draw" "_law_draw" (defArgs sDraw) (defBody sDraw) (defScope sDraw) .none kVDr dcDr pmDr anDr cdDr ctDr), slDr⟩)
    (cDr : PySem.W.codeIn K cdDr "_law_draw" = true)
    (kDr : PySem.W.keepIn K (.ref fDr) = true)
    (aPk : PySem.W.nsIn K mainGlobals "_law_pick" = some (some (.ref fPk)))
    (lPk : K.lookup fPk = some ⟨ocPk, odPk, .func (PySem.W.fnOf "_law_pick" "_law_pick" (defArgs sPick) (defBody sPick) (defScope sPick) .none kVPk dcPk pmPk anPk cdPk ctPk), slPk⟩)
    (cPk : PySem.W.codeIn K cdPk "_law_pick" = true)
    (kPk : PySem.W.keepIn K (.ref fPk) = true)
    (aTg : PySem.W.nsIn K mainGlobals "_law_tags" = some (some (.ref fTg)))
    (lTg : K.lookup fTg = some ⟨ocTg, odTg, .func (PySem.W.fnOf "_law_tags" "_law_tags" (defArgs sTags) (defBody sTags) (defScope sTags) .none kVTg dcTg pmTg anTg cdTg ctTg), slTg⟩)
    (cTg : PySem.W.codeIn K cdTg "_law_tags" = true)
    (kTg : PySem.W.keepIn K (.ref fTg) = true)
    (aBa : PySem.W.nsIn K mainGlobals "_law_bare" = some (some (.ref fBa)))
    (lBa : K.lookup fBa = some ⟨ocBa, odBa, .func (PySem.W.fnOf "_law_bare" "_law_bare" (defArgs sBare) (defBody sBare) (defScope sBare) .none kVBa dcBa pmBa anBa cdBa ctBa), slBa⟩)
    (cBa : PySem.W.codeIn K cdBa "_law_bare" = true)
    (kBa : PySem.W.keepIn K (.ref fBa) = true)
    (aFm : PySem.W.nsIn K mainGlobals "_law_frame" = some (some (.ref fFm)))
    (lFm : K.lookup fFm = some ⟨ocFm, odFm, .func (PySem.W.fnOf "_law_frame" "_law_frame" (defArgs sFrm) (defBody sFrm) (defScope sFrm) .none kVFm dcFm pmFm anFm cdFm ctFm), slFm⟩)
    (cFm : PySem.W.codeIn K cdFm "_law_frame" = true)
    (kFm : PySem.W.keepIn K (.ref fFm) = true)
    (aWp : PySem.W.nsIn K mainGlobals "wrong_parts" = some (some (.ref fWp)))
    (lWp : K.lookup fWp = some ⟨ocWp, odWp, .func (PySem.W.fnOf "wrong_parts" "wrong_parts" (defArgs sWp) (defBody sWp) (defScope sWp) .none kVWp dcWp pmWp anWp cdWp ctWp), slWp⟩)
    (cWp : PySem.W.codeIn K cdWp "wrong_parts" = true)
    (kWp : PySem.W.keepIn K (.ref fWp) = true)
    (aPa : PySem.W.nsIn K mainGlobals "_law_parts" = some (some (.ref fPa)))
    (lPa : K.lookup fPa = some ⟨ocPa, odPa, .func (PySem.W.fnOf "_law_parts" "_law_parts" (defArgs sPar) (defBody sPar) (defScope sPar) .none kVPa dcPa pmPa anPa cdPa ctPa), slPa⟩)
    (cPa : PySem.W.codeIn K cdPa "_law_parts" = true)
    (kPa : PySem.W.keepIn K (.ref fPa) = true)
    (aBe : PySem.W.nsIn K mainGlobals "_law_bent" = some (some (.ref fBe)))
    (lBe : K.lookup fBe = some ⟨ocBe, odBe, .func (PySem.W.fnOf "_law_bent" "_law_bent" (defArgs sBen) (defBody sBen) (defScope sBen) .none kVBe dcBe pmBe anBe cdBe ctBe), slBe⟩)
    (cBe : PySem.W.codeIn K cdBe "_law_bent" = true)
    (kBe : PySem.W.keepIn K (.ref fBe) = true)
    (aDu : PySem.W.nsIn K mainGlobals "_law_due" = some (some (.ref fDu)))
    (lDu : K.lookup fDu = some ⟨ocDu, odDu, .func (PySem.W.fnOf "_law_due" "_law_due" (defArgs sDue) (defBody sDue) (defScope sDue) .none kVDu dcDu pmDu anDu cdDu ctDu), slDu⟩)
    (cDu : PySem.W.codeIn K cdDu "_law_due" = true)
    (kDu : PySem.W.keepIn K (.ref fDu) = true)
    (aHe : PySem.W.nsIn K mainGlobals "_law_heard" = some (some (.ref fHe)))
    (lHe : K.lookup fHe = some ⟨ocHe, odHe, .func (PySem.W.fnOf "_law_heard" "_law_heard" (defArgs sHea) (defBody sHea) (defScope sHea) .none kVHe dcHe pmHe anHe cdHe ctHe), slHe⟩)
    (cHe : PySem.W.codeIn K cdHe "_law_heard" = true)
    (kHe : PySem.W.keepIn K (.ref fHe) = true)
    (aLa : PySem.W.nsIn K mainGlobals "_law_lacks" = some (some (.ref fLa)))
    (lLa : K.lookup fLa = some ⟨ocLa, odLa, .func (PySem.W.fnOf "_law_lacks" "_law_lacks" (defArgs sLac) (defBody sLac) (defScope sLac) .none kVLa dcLa pmLa anLa cdLa ctLa), slLa⟩)
    (cLa : PySem.W.codeIn K cdLa "_law_lacks" = true)
    (kLa : PySem.W.keepIn K (.ref fLa) = true)
    (aLw : PySem.W.nsIn K mainGlobals "law" = some (some (.ref fLw)))
    (lLw : K.lookup fLw = some ⟨ocLw, odLw, .func (PySem.W.fnOf "law" "law" (defArgs sLaw66) (defBody sLaw66) (defScope sLaw66) .none kVLw dcLw pmLw anLw cdLw ctLw), slLw⟩)
    (cLw : PySem.W.codeIn K cdLw "law" = true)
    (kLw : PySem.W.keepIn K (.ref fLw) = true)
    (amC : PySem.W.findIn K (.ref CF) "__contains__" = some (some (.ref fmC)))
    (imC : PySem.W.isFn K (.ref fmC) = true)
    (jmC : PySem.W.fnIn K fmC = true)
    (lmC : K.lookup fmC = some ⟨ocmC, odmC, .func (PySem.W.fnOf "__contains__" "Frame.__contains__" (defArgs (sFr 9)) (defBody (sFr 9)) (defScope (sFr 9)) .none kVmC dcmC pmmC anmC cdmC ctmC), slmC⟩)
    (cmC : PySem.W.codeIn K cdmC "Frame.__contains__" = true)
    (kmC : PySem.W.keepIn K (.ref fmC) = true)
    (amN : PySem.W.findIn K (.ref CF) "__len__" = some (some (.ref fmN)))
    (imN : PySem.W.isFn K (.ref fmN) = true)
    (jmN : PySem.W.fnIn K fmN = true)
    (lmN : K.lookup fmN = some ⟨ocmN, odmN, .func (PySem.W.fnOf "__len__" "Frame.__len__" (defArgs (sFr 12)) (defBody (sFr 12)) (defScope (sFr 12)) .none kVmN dcmN pmmN anmN cdmN ctmN), slmN⟩)
    (cmN : PySem.W.codeIn K cdmN "Frame.__len__" = true)
    (kmN : PySem.W.keepIn K (.ref fmN) = true)
    (acI : PySem.W.findIn K (.ref CC) "__init__" = some (some (.ref fcI)))
    (icI : PySem.W.isFn K (.ref fcI) = true)
    (lcI : K.lookup fcI = some ⟨occI, odcI, .func (PySem.W.fnOf "__init__" "Chain.__init__" (defArgs sChI) (defBody sChI) (defScope sChI) .none kVcI dccI pmcI ancI cdcI ctcI), slcI⟩)
    (ccI : PySem.W.codeIn K cdcI "Chain.__init__" = true)
    (kcI : PySem.W.keepIn K (.ref fcI) = true)
    (acO : PySem.W.findCls K (.ref CC) mcC "of" = some (.get (.builtin "classmethod.__get__") (.ref pcO) .none (.ref CC)))
    (rcO : PySem.W.recIn K pcO "classmethod" = some (.ref fcO :: rscO))
    (jcO : PySem.W.fnIn K fcO = true)
    (lcO : K.lookup fcO = some ⟨occO, odcO, .func (PySem.W.fnOf "of" "Chain.of" (defArgs sChO) (defBody sChO) (defScope sChO) .none kVcO dccO pmcO ancO cdcO ctcO), slcO⟩)
    (ccO : PySem.W.codeIn K cdcO "Chain.of" = true)
    (kcO : PySem.W.keepIn K (.ref fcO) = true)
    (acP : PySem.W.findIn K (.ref CC) "part_of" = some (some (.ref fcP)))
    (icP : PySem.W.isFn K (.ref fcP) = true)
    (lcP : K.lookup fcP = some ⟨occP, odcP, .func (PySem.W.fnOf "part_of" "Chain.part_of" (defArgs sChP) (defBody sChP) (defScope sChP) .none kVcP dccP pmcP ancP cdcP ctcP), slcP⟩)
    (ccP : PySem.W.codeIn K cdcP "Chain.part_of" = true)
    (kcP : PySem.W.keepIn K (.ref fcP) = true)
    (aFI : PySem.W.findIn K (.ref CF) "__init__" = some (some (.ref fFI)))
    (iFI : PySem.W.isFn K (.ref fFI) = true)
    (lFI : K.lookup fFI = some ⟨ocFI, odFI, .func (PySem.W.fnOf "__init__" "Frame.__init__" (defArgs sFrI) (defBody sFrI) (defScope sFrI) .none (.ref DFI) dcFI pmFI anFI cdFI ctFI), slFI⟩)
    (cFI : PySem.W.codeIn K cdFI "Frame.__init__" = true)
    (kFI : PySem.W.keepIn K (.ref fFI) = true)
    (n1FI : PySem.W.nsIn K DFI "top" = some (some x1FI))
    (r1FI : RelV (.int 1) x1FI)
    (n2FI : PySem.W.nsIn K DFI "ground" = some (some x2FI))
    (r2FI : RelV (.bl false) x2FI)
    (n3FI : PySem.W.nsIn K DFI "power" = some (some x3FI))
    (r3FI : RelV (.bl false) x3FI)
    (tyF : PySem.W.typeIn K (.ref CF) = some mcF)
    (rdF : PySem.W.readsIn K CF mcF = true)
    (gaF : PySem.W.specialIn K (.ref CF) "__getattribute__" = some (some (.builtin "type.__getattribute__")))
    (moF : PySem.W.findCls K (.ref CF) mcF "MOST" = some (.val uM))
    (rmF : RelV (.int 40) uM)
    (aO : PySem.W.findCls K (.ref CF) mcF "of" = some (.get (.builtin "classmethod.__get__") (.ref pO) .none (.ref CF)))
    (rO : PySem.W.recIn K pO "classmethod" = some (.ref fO :: rsO))
    (fO_ : PySem.W.fnIn K fO = true)
    (lO : K.lookup fO = some ⟨ocO, odO, .func (PySem.W.fnOf "of" "Frame.of" (defArgs sOf) (defBody sOf) (defScope sOf) .none (.ref DO) dcO pmO anO cdO ctO), slO⟩)
    (cO : PySem.W.codeIn K cdO "Frame.of" = true)
    (kO : PySem.W.keepIn K (.ref fO) = true)
    (n1O : PySem.W.nsIn K DO "top" = some (some x1O))
    (r1O : RelV (.int 1) x1O)
    (n2O : PySem.W.nsIn K DO "ground" = some (some x2O))
    (r2O : RelV (.bl false) x2O)
    (n3O : PySem.W.nsIn K DO "power" = some (some x3O))
    (r3O : RelV (.bl false) x3O)
    (aIE : PySem.W.findIn K (.ref CI) "__init__" = some (some (.ref fIE)))
    (iIE : PySem.W.isFn K (.ref fIE) = true)
    (tIE : PySem.W.typeIn K (.ref fIE) = some (.type "function"))
    (lIE : K.lookup fIE = some ⟨ocIE, odIE, .func (PySem.W.fnX "__init__" "InvalidFrame.__init__" (defArgs sInv) (defBody sInv) (defScope sInv) [("__class__", yIE)] .none kVIE dcIE pmIE anIE (.ref xIE) ctIE), slIE⟩)
    (cIE : PySem.W.codeIn K (.ref xIE) "InvalidFrame.__init__" = true)
    (mIE : K.lookup xIE = some ⟨u1IE, v1IE, .fields vsIE, w1IE⟩)
    (nIE : vsIE[2]? = some (.str flIE tfIE))
    (pIE : ((P.main.file : Str) == flIE) = true)
    (qIE : K.lookup yIE = some ⟨u2IE, v2IE, .cell (some (.ref CI)), w2IE⟩)
    (kIE : PySem.W.keepIn K (.ref fIE) = true)
    (aIV : PySem.W.findIn K (.ref CV) "__init__" = some (some (.ref fIV)))
    (iIV : PySem.W.isFn K (.ref fIV) = true)
    (tIV : PySem.W.typeIn K (.ref fIV) = some (.type "function"))
    (lIV : K.lookup fIV = some ⟨ocIV, odIV, .func (PySem.W.fnX "__init__" "InvalidChain.__init__" (defArgs sIvC) (defBody sIvC) (defScope sIvC) [("__class__", yIV)] .none kVIV dcIV pmIV anIV (.ref xIV) ctIV), slIV⟩)
    (cIV : PySem.W.codeIn K (.ref xIV) "InvalidChain.__init__" = true)
    (mIV : K.lookup xIV = some ⟨u1IV, v1IV, .fields vsIV, w1IV⟩)
    (nIV : vsIV[2]? = some (.str flIV tfIV))
    (pIV : ((P.main.file : Str) == flIV) = true)
    (qIV : K.lookup yIV = some ⟨u2IV, v2IV, .cell (some (.ref CV)), w2IV⟩)
    (kIV : PySem.W.keepIn K (.ref fIV) = true)
    (aNL : PySem.W.findIn K (.ref CN) "__init__" = some (some (.ref fNL)))
    (iNL : PySem.W.isFn K (.ref fNL) = true)
    (tNL : PySem.W.typeIn K (.ref fNL) = some (.type "function"))
    (lNL : K.lookup fNL = some ⟨ocNL, odNL, .func (PySem.W.fnX "__init__" "NoLeg.__init__" (defArgs sNl) (defBody sNl) (defScope sNl) [("__class__", yNL)] .none kVNL dcNL pmNL anNL (.ref xNL) ctNL), slNL⟩)
    (cNL : PySem.W.codeIn K (.ref xNL) "NoLeg.__init__" = true)
    (mNL : K.lookup xNL = some ⟨u1NL, v1NL, .fields vsNL, w1NL⟩)
    (nNL : vsNL[2]? = some (.str flNL tfNL))
    (pNL : ((P.main.file : Str) == flNL) = true)
    (qNL : K.lookup yNL = some ⟨u2NL, v2NL, .cell (some (.ref CN)), w2NL⟩)
    (kNL : PySem.W.keepIn K (.ref fNL) = true)
    (aDI : PySem.W.findIn K (.ref CD) "__init__" = some (some (.ref fDI)))
    (iDI : PySem.W.isFn K (.ref fDI) = true)
    (tDI : PySem.W.typeIn K (.ref fDI) = some (.type "function"))
    (lDI : K.lookup fDI = some ⟨ocDI, odDI, .func (PySem.W.fnX "__init__" "Driver.__init__" (defArgs sDrvI) (defBody sDrvI) (defScope sDrvI) [("__class__", yDI)] .none kVDI dcDI pmDI anDI (.ref xDI) ctDI), slDI⟩)
    (cDI : PySem.W.codeIn K (.ref xDI) "Driver.__init__" = true)
    (mDI : K.lookup xDI = some ⟨u1DI, v1DI, .fields vsDI, w1DI⟩)
    (nDI : vsDI[2]? = some (.str flDI tfDI))
    (pDI : ((P.main.file : Str) == flDI) = true)
    (qDI : K.lookup yDI = some ⟨u2DI, v2DI, .cell (some (.ref CD)), w2DI⟩)
    (kDI : PySem.W.keepIn K (.ref fDI) = true)
    (aSI : PySem.W.findIn K (.ref CS) "__init__" = some (some (.ref fSI)))
    (iSI : PySem.W.isFn K (.ref fSI) = true)
    (tSI : PySem.W.typeIn K (.ref fSI) = some (.type "function"))
    (lSI : K.lookup fSI = some ⟨ocSI, odSI, .func (PySem.W.fnX "__init__" "Listener.__init__" (defArgs sLisI) (defBody sLisI) (defScope sLisI) [("__class__", ySI)] .none kVSI dcSI pmSI anSI (.ref xSI) ctSI), slSI⟩)
    (cSI : PySem.W.codeIn K (.ref xSI) "Listener.__init__" = true)
    (mSI : K.lookup xSI = some ⟨u1SI, v1SI, .fields vsSI, w1SI⟩)
    (nSI : vsSI[2]? = some (.str flSI tfSI))
    (pSI : ((P.main.file : Str) == flSI) = true)
    (qSI : K.lookup ySI = some ⟨u2SI, v2SI, .cell (some (.ref CS)), w2SI⟩)
    (kSI : PySem.W.keepIn K (.ref fSI) = true)
    (top_ : (P.main.scope.names.lookup ("super" : Str)).isSome = false)
    (third : PySem.W.nsIn K cStatics "thirdparty.any" = some none)
    (clsCI : PySem.W.clsIn K CI = some cdCI)
    (mrCI : PySem.W.mroIn K CI (.ref CI) = some true)
    (clsCD : PySem.W.clsIn K CD = some cdCD)
    (mrCD : PySem.W.mroIn K CD (.ref CD) = some true)
    (clsCS : PySem.W.clsIn K CS = some cdCS)
    (mrCS : PySem.W.mroIn K CS (.ref CS) = some true)
    (clsCL : PySem.W.clsIn K CL = some cdCL)
    (mrCL : PySem.W.mroIn K CL (.ref CL) = some true)
    (clsCN : PySem.W.clsIn K CN = some cdCN)
    (mrCN : PySem.W.mroIn K CN (.ref CN) = some true)
    (clsCV : PySem.W.clsIn K CV = some cdCV)
    (mrCV : PySem.W.mroIn K CV (.ref CV) = some true)
    (exL : K.lookup CI = some (excClassObj nm q CI Ns bs bm true sn sub ab col dd k0 k1 k2 k3 k5 "ValueError.__new__"))
    (exR : PySem.HandSPX.refsVE bm = true)
    (exS : PySem.W.findIn K (.ref CI) "__setattr__" = some (some (.builtin "object.__setattr__")))
    (exB : PySem.W.subIn K (.ref CI) (.type "BaseException") = some true)
    (exV : PySem.W.subIn K (.ref CI) (.type "ValueError") = some true)
    (exT : PySem.W.typeIn K (.ref CI) = some (.type "type"))
    (exK : PySem.W.keepIn K (.ref CI) = true)
    (exN : PySem.W.findIn K (.ref CI) "reason" = some none)
    (exU : PySem.W.ks_superIn K CI CI "__init__" = some (some (.builtin "ValueError.__init__")))
    (vxL : K.lookup CV = some (excClassObj nm2 q2 CV Ns2 bs2 bm2 true sn2 sub2 ab2 col2 dd2 k02 k12 k22 k32 k52 "ValueError.__new__"))
    (vxR : PySem.HandSPX.refsVE bm2 = true)
    (vxS : PySem.W.findIn K (.ref CV) "__setattr__" = some (some (.builtin "object.__setattr__")))
    (vxB : PySem.W.subIn K (.ref CV) (.type "BaseException") = some true)
    (vxV : PySem.W.subIn K (.ref CV) (.type "ValueError") = some true)
    (vxT : PySem.W.typeIn K (.ref CV) = some (.type "type"))
    (vxK : PySem.W.keepIn K (.ref CV) = true)
    (vxN : PySem.W.findIn K (.ref CV) "reason" = some none)
    (vxU : PySem.W.ks_superIn K CV CV "__init__" = some (some (.builtin "ValueError.__init__")))
    (exVJ : PySem.W.exmOne K (.ref CV) (.ref CJ) = some true)
    (kiVV : PySem.W.kitOne K (.ref CV) (.ref CV) = some true)
    (kiVE : PySem.W.kitOne K (.ref CV) (.type "ValueError") = some true)
    (gaV : PySem.W.findIn K (.ref CV) "__getattribute__" = some (some (.builtin "BaseException.__getattribute__")))
    (ggV : PySem.W.findIn K (.ref CV) "__getattr__" = some none)
    (hdV : PySem.W.hasDictIn K CV = true)
    (caV : PySem.W.findIn K (.ref CV) "__class__" = some (some (.builtin "object.__class__")))
    (obV : PySem.W.mroIn K CV (.type "object") = some true)
    (iniN : PySem.W.excInitIn K CN tlL "LookupError.__new__" = true)
    (ovN : PySem.W.excOver K CN tlL = true)
    (saN : PySem.W.findIn K (.ref CN) "__setattr__" = some (some (.builtin "object.__setattr__")))
    (exCN : PySem.W.subIn K (.ref CN) (.type "BaseException") = some true)
    (tyN : PySem.W.typeIn K (.ref CN) = some (.type "type"))
    (kN_ : PySem.W.keepIn K (.ref CN) = true)
    (hdN : PySem.W.hasDictIn K CN = true)
    (sBN : PySem.W.subIn K (.ref CN) (.type "LookupError") = some true)
    (hmN : PySem.W.ks_superIn K CN CN "__init__" = some (some (.builtin "LookupError.__init__")))
    (noN : PySem.W.findIn K (.ref CN) "name" = some none)
    (exmNM : PySem.W.exmOne K (.ref CN) (.ref CM) = some true)
    (kiNN : PySem.W.kitOne K (.ref CN) (.ref CN) = some true)
    (gaN : PySem.W.findIn K (.ref CN) "__getattribute__" = some (some (.builtin "BaseException.__getattribute__")))
    (ggN : PySem.W.findIn K (.ref CN) "__getattr__" = some none)
    (caN : PySem.W.findIn K (.ref CN) "__class__" = some (some (.builtin "object.__class__")))
    (obN : PySem.W.mroIn K CN (.type "object") = some true)
    (fnLI : PySem.W.fnIn K fLI = true)
    (tyLI : PySem.W.typeIn K (.ref fLI) = some (.type "function"))
    (suCD : PySem.W.ks_superIn K CD CD "__init__" = some (some (.ref fLI)))
    (suCS : PySem.W.ks_superIn K CS CS "__init__" = some (some (.ref fLI)))
    (pgCD : PySem.W.plainGet K CD Str.empty = true)
    (hdCD : PySem.W.hasDictIn K CD = true)
    (poCD : PySem.W.plainOver K CD = true)
    (saCD : PySem.W.findIn K (.ref CD) "__setattr__" = some (some (.builtin "object.__setattr__")))
    (mkCD : PySem.W.makesIn K CD = true)
    (kcCD : PySem.W.keepIn K (.ref CD) = true)
    (caCD : PySem.W.findIn K (.ref CD) "__class__" = some (some (.builtin "object.__class__")))
    (obCD : PySem.W.mroIn K CD (.type "object") = some true)
    (nnCD : PySem.W.findIn K (.ref CD) "name" = some none)
    (pgCS : PySem.W.plainGet K CS Str.empty = true)
    (hdCS : PySem.W.hasDictIn K CS = true)
    (poCS : PySem.W.plainOver K CS = true)
    (saCS : PySem.W.findIn K (.ref CS) "__setattr__" = some (some (.builtin "object.__setattr__")))
    (mkCS : PySem.W.makesIn K CS = true)
    (kcCS : PySem.W.keepIn K (.ref CS) = true)
    (caCS : PySem.W.findIn K (.ref CS) "__class__" = some (some (.builtin "object.__class__")))
    (obCS : PySem.W.mroIn K CS (.type "object") = some true)
    (nnCS : PySem.W.findIn K (.ref CS) "name" = some none)
    (pgCF : PySem.W.plainGet K CF Str.empty = true)
    (hdCF : PySem.W.hasDictIn K CF = true)
    (poCF : PySem.W.plainOver K CF = true)
    (saCF : PySem.W.findIn K (.ref CF) "__setattr__" = some (some (.builtin "object.__setattr__")))
    (mkCF : PySem.W.makesIn K CF = true)
    (kcCF : PySem.W.keepIn K (.ref CF) = true)
    (caCF : PySem.W.findIn K (.ref CF) "__class__" = some (some (.builtin "object.__class__")))
    (obCF : PySem.W.mroIn K CF (.type "object") = some true)
    (pgCC : PySem.W.plainGet K CC Str.empty = true)
    (hdCC : PySem.W.hasDictIn K CC = true)
    (poCC : PySem.W.plainOver K CC = true)
    (saCC : PySem.W.findIn K (.ref CC) "__setattr__" = some (some (.builtin "object.__setattr__")))
    (mkCC : PySem.W.makesIn K CC = true)
    (kcCC : PySem.W.keepIn K (.ref CC) = true)
    (caCC : PySem.W.findIn K (.ref CC) "__class__" = some (some (.builtin "object.__class__")))
    (obCC : PySem.W.mroIn K CC (.type "object") = some true)
    (ncframe : PySem.W.findIn K (.ref CC) "frame" = some none)
    (ncparts : PySem.W.findIn K (.ref CC) "parts" = some none)
    (nf_legs : PySem.W.findIn K (.ref CF) "_legs" = some none)
    (nftop : PySem.W.findIn K (.ref CF) "top" = some none)
    (nfground : PySem.W.findIn K (.ref CF) "ground" = some none)
    (nfpower : PySem.W.findIn K (.ref CF) "power" = some none)
    (cn : PySem.W.specialIn K (.builtin "object.__class__") "__get__" = some (some (.builtin "getset_descriptor.__get__")))
    (ct : PySem.W.takesIn K (.builtin "object.__class__") = some true)
    (kdd : PySem.W.kitAny K (.ref CD) [.ref CD, .ref CS] = some true)
    (kii : PySem.W.kitAny K (.ref CS) [.ref CD, .ref CS] = some true)
    (klt : PySem.W.kitAny K (.type "list") [.type "list", .type "tuple"] = some true)
    (ktt : PySem.W.kitAny K (.type "tuple") [.type "list", .type "tuple"] = some true)
    (neDS : CD ≠ CS)
    (aRi : PySem.W.nsIn K mainGlobals "_law_right" = some (some (.ref fRi)))
    (lRi : K.lookup fRi = some ⟨ocRi, odRi, .func (PySem.W.fnOf "_law_right" "_law_right" (defArgs sRi) (defBody sRi) (defScope sRi) .none kVRi dcRi pmRi anRi (.ref cRi) ctRi), slRi⟩)
    (cRi_ : PySem.W.codeIn K (.ref cRi) "_law_right" = true)
    (kRi : PySem.W.keepIn K (.ref fRi) = true)
    (oRi : K.lookup cRi = some ⟨eRi, ddRi, .fields vsRi, scRi⟩)
    (vRi : vsRi[11]? = some (.ref PtRi))
    (hRi : PySem.W.codeHdIn K cRi PtRi = true)
    (tRi : K.lookup PtRi = none) :
    ∃ Ts : List Addr, Ts.length = 1 ∧ (∀ Pt ∈ Ts, h.get? Pt = some { cls := .none, data := .fields #[] }) ∧ (∀ Pt ∈ Ts, K.lookup Pt = none) ∧ (∀ Pt ∈ Ts, ∃ c, PySem.W.CodeHd h c Pt) ∧ ∀ base : Heap, K.In base → base.Ns mainGlobals mg → (∀ Pt ∈ Ts, ∀ c, PySem.W.CodeHd h c Pt → TabB base mg c Pt) → AtCall P w K mg base fa (sp66L K Ts) := by
  have mRi := PySem.W.mg_of X G aRi
  have e := hfa.symm.trans (PySem.W.mg_of X G aLw)
  cases e
  have tRi_ : h.get? PtRi = some { cls := .none, data := .fields #[] } := own "_law_right" (by decide +kernel) _ mRi cRi PtRi _ _ _ _ _ _ lRi rfl rfl oRi vRi
  have one_ : ∀ {R : Addr → Prop}, R PtRi → ∀ Pt ∈ [PtRi], R Pt := by
    intro R a Pt hp
    rw [List.mem_singleton.mp hp]; exact a
  refine ⟨[PtRi], rfl, one_ tRi_, one_ tRi, one_ ⟨cRi, PySem.W.codeHd_of_K X hRi⟩, fun base _ _ TBs => ?_⟩
  have TBR : TabB base mg cRi PtRi := TBs PtRi (by simp) cRi (PySem.W.codeHd_of_K X hRi)
  have FRi := fun_mk (x := "_law_right") (qual := "_law_right") (st := sRi) lRi cRi_ kRi
  have bRi_ := FRi.binds (ps := ["_law_pen_here", "_law_bare_here", "_law_rows"]) fun _ _ _ _ _ _ us hl => match us, hl with | [_, _, _], _ => rfl
  have mCI := PySem.W.mg_of X G gCI
  have mCL := PySem.W.mg_of X G gCL
  have mCD := PySem.W.mg_of X G gCD
  have mCS := PySem.W.mg_of X G gCS
  have mCF := PySem.W.mg_of X G gCF
  have mCC := PySem.W.mg_of X G gCC
  have mCV := PySem.W.mg_of X G gCV
  have mCN := PySem.W.mg_of X G gCN
  have mCJ := PySem.W.mg_of X G gCJ
  have mCM := PySem.W.mg_of X G gCM
  have y_ValueError := PySem.W.mg_none_of X G z_ValueError
  have y_set := PySem.W.mg_none_of X G z_set
  have y_isinstance := PySem.W.mg_none_of X G z_isinstance
  have y_str := PySem.W.mg_none_of X G z_str
  have y_len := PySem.W.mg_none_of X G z_len
  have y_all := PySem.W.mg_none_of X G z_all
  have y_bool := PySem.W.mg_none_of X G z_bool
  have y_int := PySem.W.mg_none_of X G z_int
  have y_abs := PySem.W.mg_none_of X G z_abs
  have y_range := PySem.W.mg_none_of X G z_range
  have y_list := PySem.W.mg_none_of X G z_list
  have y_tuple := PySem.W.mg_none_of X G z_tuple
  have y_sorted := PySem.W.mg_none_of X G z_sorted
  have y_super := PySem.W.mg_none_of X G z_super
  have y_repr := PySem.W.mg_none_of X G z_repr
  have FN := fun_mk (x := "is_name") (qual := "is_name") (st := sIsName) lN cN kN
  have mN := PySem.W.mg_of X G aN
  have bN_ := FN.binds (ps := ["value"]) fun _ _ _ _ _ _ us hl => match us, hl with | [_], _ => rfl
  have FIi := fun_mk (x := "is_integer") (qual := "is_integer") (st := sIsInt) lIi cIi kIi
  have mIi := PySem.W.mg_of X G aIi
  have bIi_ := FIi.binds (ps := ["value"]) fun _ _ _ _ _ _ us hl => match us, hl with | [_], _ => rfl
  have FBt := fun_mk (x := "is_between") (qual := "is_between") (st := sBetw) lBt cBt kBt
  have mBt := PySem.W.mg_of X G aBt
  have bBt_ := FBt.binds (ps := ["value", "least", "most"]) fun _ _ _ _ _ _ us hl => match us, hl with | [_, _, _], _ => rfl
  have FWr := fun_mk (x := "wrong_frame") (qual := "wrong_frame") (st := sWrong) lWr cWr kWr
  have mWr := PySem.W.mg_of X G aWr
  have bWr_ := FWr.binds (ps := ["legs", "top", "ground", "power"]) fun _ _ _ _ _ _ us hl => match us, hl with | [_, _, _, _], _ => rfl
  have FLI := fun_mk (x := "__init__") (qual := "Leg.__init__") (st := sLegI) lLI cLI kLI
  have bLI_ := FLI.binds (ps := ["self", "name"]) fun _ _ _ _ _ _ us hl => match us, hl with | [_, _], _ => rfl
  have FPn := fun_mk (x := "_law_pen") (qual := "_law_pen") (st := sPen) lPn cPn kPn
  have mPn := PySem.W.mg_of X G aPn
  have bPn_ := FPn.binds (ps := ["_law_script"]) fun _ _ _ _ _ _ us hl => match us, hl with | [_], _ => rfl
  have FDr := fun_mk (x := "_law_draw") (qual := "_law_draw") (st := sDraw) lDr cDr kDr
  have mDr := PySem.W.mg_of X G aDr
  have bDr_ := FDr.binds (ps := ["_law_pen_here", "_law_many"]) fun _ _ _ _ _ _ us hl => match us, hl with | [_, _], _ => rfl
  have FPk := fun_mk (x := "_law_pick") (qual := "_law_pick") (st := sPick) lPk cPk kPk
  have mPk := PySem.W.mg_of X G aPk
  have bPk_ := FPk.binds (ps := ["_law_pen_here", "_law_some"]) fun _ _ _ _ _ _ us hl => match us, hl with | [_, _], _ => rfl
  have FTg := fun_mk (x := "_law_tags") (qual := "_law_tags") (st := sTags) lTg cTg kTg
  have mTg := PySem.W.mg_of X G aTg
  have bTg_ := FTg.binds (ps := ["_law_pen_here", "_law_many"]) fun _ _ _ _ _ _ us hl => match us, hl with | [_, _], _ => rfl
  have FBa := fun_mk (x := "_law_bare") (qual := "_law_bare") (st := sBare) lBa cBa kBa
  have mBa := PySem.W.mg_of X G aBa
  have bBa_ := FBa.binds (ps := ["_law_pen_here", "_law_most"]) fun _ _ _ _ _ _ us hl => match us, hl with | [_, _], _ => rfl
  have FFm := fun_mk (x := "_law_frame") (qual := "_law_frame") (st := sFrm) lFm cFm kFm
  have mFm := PySem.W.mg_of X G aFm
  have bFm_ := FFm.binds (ps := ["_law_bare_here"]) fun _ _ _ _ _ _ us hl => match us, hl with | [_], _ => rfl
  have FWp := fun_mk (x := "wrong_parts") (qual := "wrong_parts") (st := sWp) lWp cWp kWp
  have mWp := PySem.W.mg_of X G aWp
  have bWp_ := FWp.binds (ps := ["frame", "parts"]) fun _ _ _ _ _ _ us hl => match us, hl with | [_, _], _ => rfl
  have FPa := fun_mk (x := "_law_parts") (qual := "_law_parts") (st := sPar) lPa cPa kPa
  have mPa := PySem.W.mg_of X G aPa
  have bPa_ := FPa.binds (ps := ["_law_pen_here", "_law_bare_here"]) fun _ _ _ _ _ _ us hl => match us, hl with | [_, _], _ => rfl
  have FBe := fun_mk (x := "_law_bent") (qual := "_law_bent") (st := sBen) lBe cBe kBe
  have mBe := PySem.W.mg_of X G aBe
  have bBe_ := FBe.binds (ps := ["_law_pen_here", "_law_rows"]) fun _ _ _ _ _ _ us hl => match us, hl with | [_, _], _ => rfl
  have FDu := fun_mk (x := "_law_due") (qual := "_law_due") (st := sDue) lDu cDu kDu
  have mDu := PySem.W.mg_of X G aDu
  have bDu_ := FDu.binds (ps := ["_law_bare_here", "_law_rows"]) fun _ _ _ _ _ _ us hl => match us, hl with | [_, _], _ => rfl
  have FHe := fun_mk (x := "_law_heard") (qual := "_law_heard") (st := sHea) lHe cHe kHe
  have mHe := PySem.W.mg_of X G aHe
  have bHe_ := FHe.binds (ps := ["_law_ask"]) fun _ _ _ _ _ _ us hl => match us, hl with | [_], _ => rfl
  have FLa := fun_mk (x := "_law_lacks") (qual := "_law_lacks") (st := sLac) lLa cLa kLa
  have mLa := PySem.W.mg_of X G aLa
  have bLa_ := FLa.binds (ps := ["_law_made", "_law_odd"]) fun _ _ _ _ _ _ us hl => match us, hl with | [_, _], _ => rfl
  have FLw := fun_mk (x := "law") (qual := "law") (st := sLaw66) lLw cLw kLw
  have mLw := PySem.W.mg_of X G aLw
  have FmC := fun_mk (x := "__contains__") (qual := "Frame.__contains__") (st := (sFr 9)) lmC cmC kmC
  have bmC_ := FmC.binds (ps := ["self", "x"]) fun _ _ _ _ _ _ us hl => match us, hl with | [_, _], _ => rfl
  have FmN := fun_mk (x := "__len__") (qual := "Frame.__len__") (st := (sFr 12)) lmN cmN kmN
  have bmN_ := FmN.binds (ps := ["self"]) fun _ _ _ _ _ _ us hl => match us, hl with | [_], _ => rfl
  have FcI : FunD K "__init__" "Chain.__init__" (defArgs sChI) (defBody sChI) (defScope sChI) [] [] fcI _ := ⟨⟨occI, odcI, _, _, dccI, pmcI, ancI, cdcI, ctcI, slcI, rfl, lcI, ccI, .inl ⟨rfl, rfl⟩, .inl rfl⟩, kcI⟩
  have FcO : FunD K "of" "Chain.of" (defArgs sChO) (defBody sChO) (defScope sChO) [] [] fcO _ := ⟨⟨occO, odcO, _, _, dccO, pmcO, ancO, cdcO, ctcO, slcO, rfl, lcO, ccO, .inl ⟨rfl, rfl⟩, .inl rfl⟩, kcO⟩
  have FcP := fun_mk (x := "part_of") (qual := "Chain.part_of") (st := sChP) lcP ccP kcP
  have bcP_ := FcP.binds (ps := ["self", "name"]) fun _ _ _ _ _ _ us hl => match us, hl with | [_, _], _ => rfl
  have FIE : FunS P K "__init__" "InvalidFrame.__init__" sInv fIE _ xIE yIE CI := ⟨⟨ocIE, odIE, kVIE, dcIE, pmIE, anIE, ctIE, slIE, rfl, lIE⟩, cIE, ⟨u1IE, v1IE, vsIE, w1IE, flIE, tfIE, mIE, nIE, pIE⟩, ⟨u2IE, v2IE, w2IE, qIE⟩, kIE⟩
  have bIE_ : Binds K (PySem.W.fnX "__init__" "InvalidFrame.__init__" (defArgs sInv) (defBody sInv) (defScope sInv) [("__class__", yIE)] .none kVIE dcIE pmIE anIE (.ref xIE) ctIE) ["self", "reason"] [] := .all fun us hl => match us, hl with | [_, _], _ => rfl
  have FIV : FunS P K "__init__" "InvalidChain.__init__" sIvC fIV _ xIV yIV CV := ⟨⟨ocIV, odIV, kVIV, dcIV, pmIV, anIV, ctIV, slIV, rfl, lIV⟩, cIV, ⟨u1IV, v1IV, vsIV, w1IV, flIV, tfIV, mIV, nIV, pIV⟩, ⟨u2IV, v2IV, w2IV, qIV⟩, kIV⟩
  have bIV_ : Binds K (PySem.W.fnX "__init__" "InvalidChain.__init__" (defArgs sIvC) (defBody sIvC) (defScope sIvC) [("__class__", yIV)] .none kVIV dcIV pmIV anIV (.ref xIV) ctIV) ["self", "reason"] [] := .all fun us hl => match us, hl with | [_, _], _ => rfl
  have FNL : FunS P K "__init__" "NoLeg.__init__" sNl fNL _ xNL yNL CN := ⟨⟨ocNL, odNL, kVNL, dcNL, pmNL, anNL, ctNL, slNL, rfl, lNL⟩, cNL, ⟨u1NL, v1NL, vsNL, w1NL, flNL, tfNL, mNL, nNL, pNL⟩, ⟨u2NL, v2NL, w2NL, qNL⟩, kNL⟩
  have bNL_ : Binds K (PySem.W.fnX "__init__" "NoLeg.__init__" (defArgs sNl) (defBody sNl) (defScope sNl) [("__class__", yNL)] .none kVNL dcNL pmNL anNL (.ref xNL) ctNL) ["self", "name"] [] := .all fun us hl => match us, hl with | [_, _], _ => rfl
  have FDI : FunS P K "__init__" "Driver.__init__" sDrvI fDI _ xDI yDI CD := ⟨⟨ocDI, odDI, kVDI, dcDI, pmDI, anDI, ctDI, slDI, rfl, lDI⟩, cDI, ⟨u1DI, v1DI, vsDI, w1DI, flDI, tfDI, mDI, nDI, pDI⟩, ⟨u2DI, v2DI, w2DI, qDI⟩, kDI⟩
  have bDI_ : Binds K (PySem.W.fnX "__init__" "Driver.__init__" (defArgs sDrvI) (defBody sDrvI) (defScope sDrvI) [("__class__", yDI)] .none kVDI dcDI pmDI anDI (.ref xDI) ctDI) ["self", "name"] [] := .all fun us hl => match us, hl with | [_, _], _ => rfl
  have FSI : FunS P K "__init__" "Listener.__init__" sLisI fSI _ xSI ySI CS := ⟨⟨ocSI, odSI, kVSI, dcSI, pmSI, anSI, ctSI, slSI, rfl, lSI⟩, cSI, ⟨u1SI, v1SI, vsSI, w1SI, flSI, tfSI, mSI, nSI, pSI⟩, ⟨u2SI, v2SI, w2SI, qSI⟩, kSI⟩
  have bSI_ : Binds K (PySem.W.fnX "__init__" "Listener.__init__" (defArgs sLisI) (defBody sLisI) (defScope sLisI) [("__class__", ySI)] .none kVSI dcSI pmSI anSI (.ref xSI) ctSI) ["self", "name"] [] := .all fun us hl => match us, hl with | [_, _], _ => rfl
  have FFI : FunD K "__init__" "Frame.__init__" (defArgs sFrI) (defBody sFrI) (defScope sFrI) [] kwsF fFI _ := ⟨⟨ocFI, odFI, _, _, dcFI, pmFI, anFI, cdFI, ctFI, slFI, rfl, lFI, cFI, .inl ⟨rfl, rfl⟩, .inr ⟨DFI, rfl, fun p hp => by
      rcases List.mem_cons.mp hp with rfl | hp
      · exact ⟨_, n1FI, r1FI⟩
      rcases List.mem_cons.mp hp with rfl | hp
      · exact ⟨_, n2FI, r2FI⟩
      obtain rfl := List.mem_singleton.mp hp
      exact ⟨_, n3FI, r3FI⟩⟩⟩, kFI⟩
  have FO : FunD K "of" "Frame.of" (defArgs sOf) (defBody sOf) (defScope sOf) [] kwsF fO _ := ⟨⟨ocO, odO, _, _, dcO, pmO, anO, cdO, ctO, slO, rfl, lO, cO, .inl ⟨rfl, rfl⟩, .inr ⟨DO, rfl, fun p hp => by
      rcases List.mem_cons.mp hp with rfl | hp
      · exact ⟨_, n1O, r1O⟩
      rcases List.mem_cons.mp hp with rfl | hp
      · exact ⟨_, n2O, r2O⟩
      obtain rfl := List.mem_singleton.mp hp
      exact ⟨_, n3O, r3O⟩⟩⟩, kO⟩
  have NT : NmT K mg := ⟨y_isinstance, y_str, y_len, y_all, ⟨tL, PySem.W.mg_of X G gLet⟩, ⟨tN, PySem.W.mg_of X G gLon⟩, ⟨aR, PySem.W.mg_of X G gRes, fun H => .inr ⟨_, itsR, nR, lRes, rfl, rfl, sRes, vRes⟩⟩⟩
  have suCI_ : SupT P K mg CI := ⟨top_, y_super, ⟨cdCI, clsCI⟩, third⟩
  have suCD_ : SupT P K mg CD := ⟨top_, y_super, ⟨cdCD, clsCD⟩, third⟩
  have suCS_ : SupT P K mg CS := ⟨top_, y_super, ⟨cdCS, clsCS⟩, third⟩
  have suCN_ : SupT P K mg CN := ⟨top_, y_super, ⟨cdCN, clsCN⟩, third⟩
  have suCV_ : SupT P K mg CV := ⟨top_, y_super, ⟨cdCV, clsCV⟩, third⟩
  have OE : OexC K CI := ⟨⟨nm, q, Ns, bs, bm, sn, sub, ab, col, dd, k0, k1, k2, k3, k5, exL, exR⟩, exS, exB, exT, exK⟩
  have OV : OexC K CV := ⟨⟨nm2, q2, Ns2, bs2, bm2, sn2, sub2, ab2, col2, dd2, k02, k12, k22, k32, k52, vxL, vxR⟩, vxS, vxB, vxT, vxK⟩
  have EV : ExT P K mg CV "reason" := ⟨suCV_, OV, vxU, vxV, mrCV, vxN⟩
  have ET : ExT P K mg CI "reason" := ⟨suCI_, OE, exU, exV, mrCI, exN⟩
  have LT : LgT P K mg CI fIE fLI fN := ⟨ET, aIE, tIE, mCI, mN⟩
  have clCD : Cls K CD := ⟨pgCD, hdCD, poCD, saCD⟩
  have isCD : IsiC K CD := ⟨clCD, caCD, cn, ct, obCD⟩
  have clCS : Cls K CS := ⟨pgCS, hdCS, poCS, saCS⟩
  have isCS : IsiC K CS := ⟨clCS, caCS, cn, ct, obCS⟩
  have clCF : Cls K CF := ⟨pgCF, hdCF, poCF, saCF⟩
  have isCF : IsiC K CF := ⟨clCF, caCF, cn, ct, obCF⟩
  have clCC : Cls K CC := ⟨pgCC, hdCC, poCC, saCC⟩
  have isCC : IsiC K CC := ⟨clCC, caCC, cn, ct, obCC⟩
  have glCD : FnOk P w K mg base (L2.CX P w) 3 fLI _ ["self", "name"] (spLegI K CI CD) := ok_legI FLI LT NT ⟨clCD, nnCD⟩ FN bN_ FIE bIE_
  have glCS : FnOk P w K mg base (L2.CX P w) 3 fLI _ ["self", "name"] (spLegI K CI CS) := ok_legI FLI LT NT ⟨clCS, nnCS⟩ FN bN_ FIE bIE_
  have hD := ok_drvI FDI ⟨suCD_, suCD, tyLI, fnLI, mrCD⟩ bLI_ glCD
  have hS := ok_lisI FSI ⟨suCS_, suCS, tyLI, fnLI, mrCS⟩ bLI_ glCS
  let ks : Kinds := ⟨CD, CS, CL⟩
  have MD : MkL P w K mg base CI CD "Driver" := ⟨⟨fDI, _, ⟨mkCD, aDI, iDI, kcCD⟩, hD, bDI_⟩, mCD⟩
  have MS : MkL P w K mg base CI CS "Listener" := ⟨⟨fSI, _, ⟨mkCS, aSI, iSI, kcCS⟩, hS, bSI_⟩, mCS⟩
  have BI : Bi mg := ⟨y_int, y_len, y_abs⟩
  have gI : FnOk P w K mg base CX0 1 fIE _ ["self", "reason"] (spInv K CI) := ok_inv FIE ET
  have gII : FnOk P w K mg base CX0 1 fIi _ ["value"] (spIsInt K) := ok_isint FIi y_isinstance y_int y_bool
  have gBt : FnOk P w K mg base CX0 2 fBt _ ["value", "least", "most"] (spBetw K) := ok_betw FBt gII mIi kIi bIi_
  have WT : WrT P w K mg base ks CF := { isi := y_isinstance, all := y_all, len := y_len, bool := y_bool, mD := mCD, mI := mCS, mF := mCF, most := ⟨mcF, uM, ⟨rdF, gaF⟩, ⟨moF, rmF⟩⟩, icD := isCD, icI := isCS, nD := nnCD, nI := nnCS, dd := kdd, ii := kii, betw := ⟨fBt, _, mBt, kBt, bBt_, gBt⟩ }
  have gWr : FnOk P w K mg base CX0 3 fWr _ ["legs", "top", "ground", "power"] (spWrong K ks) := ok_wrong FWr WT
  have FT : FrT P w K mg base ks CI fIE CF := { wr := WT, sorted := y_sorted, mI := mCI, ex := ET, iC := aIE, tI := tIE, inv := ⟨_, bIE_, gI⟩, wrong := ⟨fWr, _, mWr, kWr, bWr_, gWr⟩, cl := clCF, nL := nf_legs, nT := nftop, nG := nfground, nP := nfpower }
  have kB := fr_kwB (w := w) (base := base) FFI FT
  have MF : Mk K CF fFI := ⟨mkCF, aFI, iFI, kcCF⟩
  have OT : OfT P w K mg base ks CI fIE CF fFI := { isi := y_isinstance, list := y_list, tuple := y_tuple, mI := mCI, ex := ET, iC := aIE, tI := tIE, inv := ⟨_, bIE_, gI⟩, mkc := MF, kt := klt, kt2 := ktt }
  have gO := ok_of FO OT kB
  have gDr : FnOk P w K mg base CX0 1 fDr _ ["_law_pen_here", "_law_many"] spDraw := ok_draw FDr BI
  have DW : DwT P w K mg base := { bi := BI, sorted := y_sorted, draw := ⟨fDr, _, mDr, kDr, bDr_, gDr⟩, tags := ⟨fTg, _, mTg, kTg, bTg_, ok_tags FTg BI y_range FDr bDr_ mDr⟩ }
  have CR : ClX.CRead K CF mcF := ⟨rdF, gaF⟩
  have CMf : ClX.CMet K CF mcF "of" pO fO := ⟨aO, ⟨rsO, rO⟩, fO_⟩
  have TK : FkT P w K mg base ks CI CF := { d := MD, i := MS, mF := mCF, of := ⟨mcF, pO, fO, CR, CMf, of_kwB FO gO⟩ }
  have FM : FmT K mg CF := ⟨clCF, nf_legs, y_len, y_isinstance, y_str⟩
  have tIn : MetN P w K mg base CX0 1 CF "__contains__" ["self", "x"] (spFIs K ks CF) := ⟨fmC, _, amC, imC, jmC, ⟨fun vs H Q E q => (ok_fin (P := P) (w := w) (mg := mg) (base := base) FmC FM).len vs H Q E (spFIs_of q), fun A outer s H args us vs Q E hr he hb hv hs => (ok_fin (P := P) (w := w) (mg := mg) (base := base) FmC FM).run A outer s H args us vs Q E hr he hb hv (spFIs_of hs)⟩, bmC_⟩
  have tLen : MetN P w K mg base CX0 1 CF "__len__" ["self"] (spFLen CF) := ⟨fmN, _, amN, imN, jmN, ok_flen FmN FM, bmN_⟩
  have OX : Oex K CN "LookupError" "LookupError.__new__" tlL := ⟨iniN, ovN, saN, exCN, tyN, kN_, hdN, sBN⟩
  have ER : ErrT P K mg "LookupError" "LookupError.__new__" "LookupError.__init__" tlL CN := ⟨suCN_, OX, hmN, mrCN⟩
  have NL : NlT P w K mg base CN fNL := ⟨OX, aNL, tNL, ⟨_, mkNL FNL ER noN, bNL_⟩, mCN⟩
  have KV : KeT K CV := ⟨by rw [clsCV]; rfl, gaV, ggV, vxB, hdV, caV, cn, ct, obV⟩
  have KN : KeT K CN := ⟨by rw [clsCN]; rfl, gaN, ggN, exCN, hdN, caN, cn, ct, obN⟩
  -- chains
  have gWp := ok_wp FWp (w := w) (base := base) (ks := ks) { in_ := tIn, len_ := tLen, mC := mCC, most := ⟨mcC, uC, ⟨rdC, gaC⟩, ⟨moC, rmC⟩⟩, isi := y_isinstance, all := y_all, len := y_len, set := y_set, list := y_list, tuple := y_tuple }
  have gV : FnOk P w K mg base CX0 1 fIV _ ["self", "reason"] (spInv K CV) := ok_ivc FIV EV
  have CT : ChT P w K mg base ks CF CV fIV CC := { wrong := ⟨fWp, _, mWp, kWp, bWp_, gWp⟩, mI := mCV, ex := EV, iC := aIV, tI := tIV, inv := ⟨_, bIV_, gV⟩, tuple := y_tuple, list := y_list, isi := y_isinstance, cl := clCC, nF := ncframe, nP := ncparts }
  have CS_ := fnr_chI FcI CT
  have MCC : Mk K CC fcI := ⟨mkCC, acI, icI, kcCC⟩
  have gCO := ok_cho FcO CT MCC CS_
  have gPo := ok_chp FcP (w := w) (base := base) (ks := ks) clCC ncframe tIn NL
  have DR : Fi P w K mg base "_law_draw" 1 ["_law_pen_here", "_law_many"] spDraw := ⟨fDr, _, mDr, kDr, bDr_, gDr⟩
  have PK : Fi P w K mg base "_law_pick" 2 ["_law_pen_here", "_law_some"] spPick := ⟨fPk, _, mPk, kPk, bPk_, ok_pick FPk BI FDr bDr_ mDr⟩
  have gBe := ok_ben FBe { bi := BI, draw := DR, pick := PK, isi := y_isinstance, list := y_list }
  have gDu := ok_due FDu (P := P) (w := w) (mg := mg) (base := base) { isi := y_isinstance, list := y_list, tuple := y_tuple, str := y_str, len := y_len, set := y_set }
  have LCT : LacT P w K mg base ks CF CC CN CM fcP := { isi := y_isinstance, repr := y_repr, mM := mCM, mN := mCN, ex := exmNM, ke := KN, no := noN, nn := kiNN, cl := clCC, mpo := ⟨acP, icP, kcP⟩, po := fnGR_of gPo bcP_ }
  have HET : HeT K mg CJ CV := { mJ := mCJ, mI := mCV, mV := y_ValueError, isi := y_isinstance, ex := exVJ, ke := KV, no := vxN, ii := kiVV, iv := kiVE }
  have RT : RiT P w K mg base ks CF CC CV CJ fcO fcI := { dw := DR, frm := ⟨fFm, _, mFm, kFm, bFm_, ok_frm FFm TK⟩, ben := ⟨fBe, _, mBe, kBe, bBe_, gBe⟩, due := ⟨fDu, _, mDu, kDu, bDu_, gDu⟩, lac := ⟨fLa, _, mLa, kLa, bLa_, ok_lac FLa LCT⟩, ne := neDS, he := ⟨fHe, _, mHe, FHe, bHe_⟩, ht := HET, mC := mCC, cls := ⟨mcC, pcO, ⟨rdC, gaC⟩, ⟨acO, ⟨rscO, rcO⟩, jcO⟩⟩, of0 := ch_of0 FcO gCO, mkC := MCC, iS := CS_, list := y_list, tuple := y_tuple, len := y_len, range := y_range, isi := y_isinstance, repr := y_repr }
  have gRi := ok_ri lRi cRi_ RT TBR
  have L : L66T P w K mg base PtRi := { pen := ⟨fPn, _, mPn, kPn, bPn_, ok_pen FPn y_list⟩, bare := ⟨fBa, _, mBa, kBa, bBa_, ok_bare FBa DW⟩, par := ⟨fPa, _, mPa, kPa, bPa_, ok_par FPa DW y_range⟩, right := ⟨fRi, _, mRi, kRi, bRi_, gRi⟩, range := y_range }
  have AL := at_law FLw (fun s u => .of_eq rfl) L
  exact fun s H u v Q env ru hsp => by
    obtain ⟨a, e, hh⟩ := hsp
    cases e
    exact AL s H u v Q env ru hh
end Sj
open PySem PySem.W PyProof.Rows in
set_option maxRecDepth 100000 in
set_option maxHeartbeats 0 in
theorem PySem.Challenge.cw_strayjoins_k66_chains_refused_holds : PySem.Challenge.rw_strayjoins_k66_chains_refused.Holds := by
  w_on; o_law; k_head; (case hw => w_witness2)
  k_fill
  refine Sup.walk_atTs (l := PySem.Challenge.rw_strayjoins_k66_chains_refused) (sp := Sj.sp66L) (m := 1) (nms := ["_law_right"]) rfl (by decide) rfl (by decide +kernel) (fun w h Y => PySem.W.km_in_of Y) ?F ?W
  case W => exact fun K Ts H a ns h3 hl hT hS => Sj.want66 K Ts H a ns h3 hl hT hS
  case F =>
    intro w mg f h KX G hmg own
    refine' Sj.all_mk66 KX G hmg own ?gCI ?gCL ?gCD ?gCS ?gCF ?gCC ?gCV ?gCN ?gCJ ?gCM ?gLet ?gLon ?gRes ?lRes ?sRes ?vRes ?z_ValueError ?z_set ?z_isinstance ?z_str ?z_len ?z_all ?z_bool ?z_int ?z_abs ?z_range ?z_list ?z_tuple ?z_sorted ?z_super ?z_repr ?tyC ?rdC ?gaC ?moC ?rmC ?aN ?lN ?cN ?kN ?aIi ?lIi ?cIi ?kIi ?aBt ?lBt ?cBt ?kBt ?aWr ?lWr ?cWr ?kWr ?aLI ?iLI ?lLI ?cLI ?kLI ?aPn ?lPn ?cPn ?kPn ?aDr ?lDr ?cDr ?kDr ?aPk ?lPk ?cPk ?kPk ?aTg ?lTg ?cTg ?kTg ?aBa ?lBa ?cBa ?kBa ?aFm ?lFm ?cFm ?kFm ?aWp ?lWp ?cWp ?kWp ?aPa ?lPa ?cPa ?kPa ?aBe ?lBe ?cBe ?kBe ?aDu ?lDu ?cDu ?kDu ?aHe ?lHe ?cHe ?kHe ?aLa ?lLa ?cLa ?kLa ?aLw ?lLw ?cLw ?kLw ?amC ?imC ?jmC ?lmC ?cmC ?kmC ?amN ?imN ?jmN ?lmN ?cmN ?kmN ?acI ?icI ?lcI ?ccI ?kcI ?acO ?rcO ?jcO ?lcO ?ccO ?kcO ?acP ?icP ?lcP ?ccP ?kcP ?aFI ?iFI ?lFI ?cFI ?kFI ?n1FI ?r1FI ?n2FI ?r2FI ?n3FI ?r3FI ?tyF ?rdF ?gaF ?moF ?rmF ?aO ?rO ?fO_ ?lO ?cO ?kO ?n1O ?r1O ?n2O ?r2O ?n3O ?r3O ?aIE ?iIE ?tIE ?lIE ?cIE ?mIE ?nIE ?pIE ?qIE ?kIE ?aIV ?iIV ?tIV ?lIV ?cIV ?mIV ?nIV ?pIV ?qIV ?kIV ?aNL ?iNL ?tNL ?lNL ?cNL ?mNL ?nNL ?pNL ?qNL ?kNL ?aDI ?iDI ?tDI ?lDI ?cDI ?mDI ?nDI ?pDI ?qDI ?kDI ?aSI ?iSI ?tSI ?lSI ?cSI ?mSI ?nSI ?pSI ?qSI ?kSI ?top_ ?third ?clsCI ?mrCI ?clsCD ?mrCD ?clsCS ?mrCS ?clsCL ?mrCL ?clsCN ?mrCN ?clsCV ?mrCV ?exL ?exR ?exS ?exB ?exV ?exT ?exK ?exN ?exU ?vxL ?vxR ?vxS ?vxB ?vxV ?vxT ?vxK ?vxN ?vxU ?exVJ ?kiVV ?kiVE ?gaV ?ggV ?hdV ?caV ?obV ?iniN ?ovN ?saN ?exCN ?tyN ?kN_ ?hdN ?sBN ?hmN ?noN ?exmNM ?kiNN ?gaN ?ggN ?caN ?obN ?fnLI ?tyLI ?suCD ?suCS ?pgCD ?hdCD ?poCD ?saCD ?mkCD ?kcCD ?caCD ?obCD ?nnCD ?pgCS ?hdCS ?poCS ?saCS ?mkCS ?kcCS ?caCS ?obCS ?nnCS ?pgCF ?hdCF ?poCF ?saCF ?mkCF ?kcCF ?caCF ?obCF ?pgCC ?hdCC ?poCC ?saCC ?mkCC ?kcCC ?caCC ?obCC ?ncframe ?ncparts ?nf_legs ?nftop ?nfground ?nfpower ?cn ?ct ?kdd ?kii ?klt ?ktt ?neDS ?aRi ?lRi ?cRi_ ?kRi ?oRi ?vRi ?hRi ?tRi
    case gCI => k_is
    case gCL => k_is
    case gCD => k_is
    case gCS => k_is
    case gCF => k_is
    case gCC => k_is
    case gCV => k_is
    case gCN => k_is
    case gCJ => k_is
    case gCM => k_is
    case gLet => k_is
    case gLon => k_is
    case gRes => k_is
    case lRes => k_is
    case sRes => decide
    case vRes => exact .cons ⟨_, rfl⟩ (.cons ⟨_, rfl⟩ (.cons ⟨_, rfl⟩ .nil))
    case z_ValueError => k_is
    case z_set => k_is
    case z_isinstance => k_is
    case z_str => k_is
    case z_len => k_is
    case z_all => k_is
    case z_bool => k_is
    case z_int => k_is
    case z_abs => k_is
    case z_range => k_is
    case z_list => k_is
    case z_tuple => k_is
    case z_sorted => k_is
    case z_super => k_is
    case z_repr => k_is
    case tyC => k_is
    case rdC => k_is
    case gaC => k_is
    case moC => k_is
    case rmC => exact ⟨_, rfl⟩
    case aN => k_is
    case lN => k_is
    case cN => k_is
    case kN => k_is
    case aIi => k_is
    case lIi => k_is
    case cIi => k_is
    case kIi => k_is
    case aBt => k_is
    case lBt => k_is
    case cBt => k_is
    case kBt => k_is
    case aWr => k_is
    case lWr => k_is
    case cWr => k_is
    case kWr => k_is
    case aLI => k_is
    case iLI => k_is
    case lLI => k_is
    case cLI => k_is
    case kLI => k_is
    case aPn => k_is
    case lPn => k_is
    case cPn => k_is
    case kPn => k_is
    case aDr => k_is
    case lDr => k_is
    case cDr => k_is
    case kDr => k_is
    case aPk => k_is
    case lPk => k_is
    case cPk => k_is
    case kPk => k_is
    case aTg => k_is
    case lTg => k_is
    case cTg => k_is
    case kTg => k_is
    case aBa => k_is
    case lBa => k_is
    case cBa => k_is
    case kBa => k_is
    case aFm => k_is
    case lFm => k_is
    case cFm => k_is
    case kFm => k_is
    case aWp => k_is
    case lWp => k_is
    case cWp => k_is
    case kWp => k_is
    case aPa => k_is
    case lPa => k_is
    case cPa => k_is
    case kPa => k_is
    case aBe => k_is
    case lBe => k_is
    case cBe => k_is
    case kBe => k_is
    case aDu => k_is
    case lDu => k_is
    case cDu => k_is
    case kDu => k_is
    case aHe => k_is
    case lHe => k_is
    case cHe => k_is
    case kHe => k_is
    case aLa => k_is
    case lLa => k_is
    case cLa => k_is
    case kLa => k_is
    case aLw => k_is
    case lLw => k_is
    case cLw => k_is
    case kLw => k_is
    case amC => k_is
    case imC => k_is
    case jmC => k_is
    case lmC => k_is
    case cmC => k_is
    case kmC => k_is
    case amN => k_is
    case imN => k_is
    case jmN => k_is
    case lmN => k_is
    case cmN => k_is
    case kmN => k_is
    case acI => k_is
    case icI => k_is
    case lcI => k_is
    case ccI => k_is
    case kcI => k_is
    case acO => k_is
    case rcO => k_is
    case jcO => k_is
    case lcO => k_is
    case ccO => k_is
    case kcO => k_is
    case acP => k_is
    case icP => k_is
    case lcP => k_is
    case ccP => k_is
    case kcP => k_is
    case aFI => k_is
    case iFI => k_is
    case lFI => k_is
    case cFI => k_is
    case kFI => k_is
    case n1FI => k_is
    case r1FI => exact ⟨_, rfl⟩
    case n2FI => k_is
    case r2FI => rfl
    case n3FI => k_is
    case r3FI => rfl
    case tyF => k_is
    case rdF => k_is
    case gaF => k_is
    case moF => k_is
    case rmF => exact ⟨_, rfl⟩
    case aO => k_is
    case rO => k_is
    case fO_ => k_is
    case lO => k_is
    case cO => k_is
    case kO => k_is
    case n1O => k_is
    case r1O => exact ⟨_, rfl⟩
    case n2O => k_is
    case r2O => rfl
    case n3O => k_is
    case r3O => rfl
    case aIE => k_is
    case iIE => k_is
    case tIE => k_is
    case lIE => k_is
    case cIE => k_is
    case mIE => k_is
    case nIE => rfl
    case pIE => first | rfl | decide +kernel
    case qIE => k_is
    case kIE => k_is
    case aIV => k_is
    case iIV => k_is
    case tIV => k_is
    case lIV => k_is
    case cIV => k_is
    case mIV => k_is
    case nIV => rfl
    case pIV => first | rfl | decide +kernel
    case qIV => k_is
    case kIV => k_is
    case aNL => k_is
    case iNL => k_is
    case tNL => k_is
    case lNL => k_is
    case cNL => k_is
    case mNL => k_is
    case nNL => rfl
    case pNL => first | rfl | decide +kernel
    case qNL => k_is
    case kNL => k_is
    case aDI => k_is
    case iDI => k_is
    case tDI => k_is
    case lDI => k_is
    case cDI => k_is
    case mDI => k_is
    case nDI => rfl
    case pDI => first | rfl | decide +kernel
    case qDI => k_is
    case kDI => k_is
    case aSI => k_is
    case iSI => k_is
    case tSI => k_is
    case lSI => k_is
    case cSI => k_is
    case mSI => k_is
    case nSI => rfl
    case pSI => first | rfl | decide +kernel
    case qSI => k_is
    case kSI => k_is
    case top_ => first | rfl | decide +kernel
    case third => k_is
    case clsCI => k_is
    case mrCI => k_is
    case clsCD => k_is
    case mrCD => k_is
    case clsCS => k_is
    case mrCS => k_is
    case clsCL => k_is
    case mrCL => k_is
    case clsCN => k_is
    case mrCN => k_is
    case clsCV => k_is
    case mrCV => k_is
    case exL => k_is
    case exR => decide +kernel
    case exS => k_is
    case exB => k_is
    case exV => k_is
    case exT => k_is
    case exK => k_is
    case exN => k_is
    case exU => kernel_rfl
    case vxL => k_is
    case vxR => decide +kernel
    case vxS => k_is
    case vxB => k_is
    case vxV => k_is
    case vxT => k_is
    case vxK => k_is
    case vxN => k_is
    case vxU => kernel_rfl
    case exVJ => kernel_rfl
    case kiVV => kernel_rfl
    case kiVE => kernel_rfl
    case gaV => k_is
    case ggV => k_is
    case hdV => k_is
    case caV => k_is
    case obV => k_is
    case iniN => kernel_rfl
    case ovN => kernel_rfl
    case saN => k_is
    case exCN => k_is
    case tyN => k_is
    case kN_ => k_is
    case hdN => k_is
    case sBN => k_is
    case hmN => kernel_rfl
    case noN => k_is
    case exmNM => kernel_rfl
    case kiNN => kernel_rfl
    case gaN => k_is
    case ggN => k_is
    case caN => k_is
    case obN => k_is
    case fnLI => k_is
    case tyLI => k_is
    case suCD => kernel_rfl
    case suCS => kernel_rfl
    case pgCD => k_is
    case hdCD => k_is
    case poCD => k_is
    case saCD => k_is
    case mkCD => k_is
    case kcCD => k_is
    case caCD => k_is
    case obCD => k_is
    case nnCD => k_is
    case pgCS => k_is
    case hdCS => k_is
    case poCS => k_is
    case saCS => k_is
    case mkCS => k_is
    case kcCS => k_is
    case caCS => k_is
    case obCS => k_is
    case nnCS => k_is
    case pgCF => k_is
    case hdCF => k_is
    case poCF => k_is
    case saCF => k_is
    case mkCF => k_is
    case kcCF => k_is
    case caCF => k_is
    case obCF => k_is
    case pgCC => k_is
    case hdCC => k_is
    case poCC => k_is
    case saCC => k_is
    case mkCC => k_is
    case kcCC => k_is
    case caCC => k_is
    case obCC => k_is
    case ncframe => k_is
    case ncparts => k_is
    case nf_legs => k_is
    case nftop => k_is
    case nfground => k_is
    case nfpower => k_is
    case cn => k_is
    case ct => k_is
    case kdd => kernel_rfl
    case kii => kernel_rfl
    case klt => kernel_rfl
    case ktt => kernel_rfl
    case neDS => decide
    case aRi => k_is
    case lRi => k_is
    case cRi_ => k_is
    case kRi => k_is
    case oRi => k_is
    case vRi => rfl
    case hRi => kernel_rfl
    case tRi => kernel_rfl
