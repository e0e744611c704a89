import PyProof.Rows.All
import Wide.All
import OpenK.AllK
import Wide.FinOn
import KE.KSuper
import HandS.ForMost
import HandS.Codes
import HandS.Nested
import KE.KExcSuper
import HandS.Exc
import HandS.ExcInit
import HandS.FStr
import HandS.IsInst
import HandS.Property
import PyProof.ReprRoads
import KE.KCallOwn
import HandS.SetBool
import HandS.SetKeys
import HandS.Walk
import HandS.DictComp
import HandS.Star
import HandS.MethStar
import HandS.ClsMeth
import HandS.MakeKwOnly
import HandS.CallLocal
import HandS.WordsExc
import HandS.TryOnly
import HandS.ExcValue
import HandS.ExcField
import HandS.ExcIs
import KE.KExcIs
import HandS.Lambda
import KE.KExcInit
import PyProof.ReprBulk
import HandS.Conv
import HandS.Iter
import KE.KDictSum
import HandS.DictEq
import HandS.OwnEq
import HandS.More
import PyProof.TupleOfSeq
import PyProof.Rows.SortStr
import KE.KParD
import HandS.Words
import KE.KOpsOwn
import KE.KFmtOwn
import KE.KTupTruth
import HandS.Deep
import HandS.ExcOwn
import HandS.MakeKw
import HandS.RaiseMore
import HandS.WordsList
import HandS.WordsDict
import HandS.TupAny
import HandS.BoundList
import HandS.Style
import HandS.Flow
import HandS.ListItems
import HandS.Strs
import HandS.SetFor
import PySem.Challenge.RW_strayjoins_k08_whole_words_held_together
set_option Elab.async false
set_option linter.all false
set_option maxRecDepth 100000
set_option maxHeartbeats 8000000
namespace Sup
open PySem PySem.Spec PyProof.Rows L2
open NdefX (NF NScope ncx envF startF CellsAt inv_startN)

/-! ### a def of a class body that says super(): it closes over the class -/
structure FunS (P : Program) (K : PySem.W.Frag) (x qual : Str) (st : Stmt) (f : Addr) (fd : FuncData) (c cc D : Addr) : Prop where
  ex : ∃ (oc : Value) (od : Option Addr) (kV doc pm : Value) (an : Option Addr) (ct : Value) (osl : Array (Option Value)),
    fd = PySem.W.fnX x qual (defArgs st) (defBody st) (defScope st) [("__class__", cc)] .none kV doc pm an (.ref c) ct ∧ K.lookup f = some ⟨oc, od, .func fd, osl⟩
  cd : PySem.W.codeIn K (.ref c) qual = true
  file : ∃ (ccl : Value) (cdd : Option Addr) (vs : Array Value) (ccs : Array (Option Value)) (fl : Str) (tf : Tok), K.lookup c = some ⟨ccl, cdd, .fields vs, ccs⟩ ∧ vs[2]? = some (.str fl tf) ∧ ((P.main.file : Str) == fl) = true
  cell : ∃ (cl : Value) (cld : Option Addr) (csl : Array (Option Value)), K.lookup cc = some ⟨cl, cld, .cell (some (.ref D)), csl⟩
  kp : PySem.W.keepIn K (.ref f) = true
def nf (x qual : Str) (st : Stmt) (c cc : Addr) : NF := ⟨x, qual, defArgs st, defBody st, defScope st, [("__class__", cc)], c⟩

section
variable {P : Program} {w : World} {K : PySem.W.Frag} {mg : Str → Option Value} {base : Heap} {CX : CXT} {x qual : Str} {st : Stmt} {f c cc D : Addr} {fd : FuncData} {N ps : List Str} {k : Nat} {sp : Sp}
theorem fn_super (F : FunS P K x qual st f fd c cc D) (S : NScope N ps ["__class__"] (defScope st)) (len : ∀ vs H Q E, sp vs H Q E → vs.length = ps.length)
    (hbody : ∀ (A : Around) (outer : List Env) (s : Shared) (H : Hp) (vs : List V) (Q : VK) (E : XK), Room k (A.deeper (envF (nf x qual st c cc) f s.heap.objs.size)) → sp vs H Q E → ∀ s1,
      Inv (ncx CX P w K mg base N (nf x qual st c cc) f A outer s H E) [] (startF N vs [some (.ref D)]) H s1 →
      PySem.wpAt (model P w) (A.deeper (envF (nf x qual st c cc) f s.heap.objs.size)) (.func (defBody st) (envF (nf x qual st c cc) f s.heap.objs.size)) (execs (defBody st) (envF (nf x qual st c cc) f s.heap.objs.size))
        (SP (ncx CX P w K mg base N (nf x qual st c cc) f A outer s H E) [] { nx := fun _ H' => Q .non H', rt := Q }) (ncx CX P w K mg base N (nf x qual st c cc) f A outer s H E).xe s1) :
    FnOk P w K mg base CX (k + 1) f fd ps sp := by
  obtain ⟨oc, od, kV, doc, pm, an, ct, osl, rfl, lk⟩ := F.ex
  obtain ⟨cl, cld, csl, lc⟩ := F.cell
  refine ⟨len, fun A outer s H args us vs Q E hr e0 hb r hsp => ?_⟩
  have hl := len _ _ _ _ hsp
  have KX : K.In s.heap := e0.mod.kin.keeps fun b o e => (e0.bs b o e).1
  have lim : s.heap.NoLimit := e0.mod.nolimit.keeps fun b o e => (e0.bs b o e).1
  have hcc : s.heap.get? cc = some ⟨cl, cld, .cell (some (.ref D)), csl⟩ := KX _ _ lc
  have C : CellsAt (nf x qual st c cc).cl ["__class__"] [some (V.ref D)] s.heap H := by
    refine ⟨rfl, fun y b e => ?_, fun a b q h1 h2 => ?_, fun i y hy => ?_⟩
    · have e : (if y == "__class__" then some cc else none) = some b := by
        have q : List.lookup y [(("__class__" : Str), cc)] = some b := e
        rw [List.lookup_cons] at q
        cases z : y == ("__class__" : Str) with
        | true => rw [z] at q; rw [if_pos rfl]; exact q
        | false => rw [z] at q; cases q
      split at e
      · cases e
        exact ⟨(e0.bs _ _ (e0.mod.kin _ _ lc)).2, _, _, hcc, rfl⟩
      · cases e
    · have key : ∀ {y : Str} {b : Addr}, List.lookup y [(("__class__" : Str), cc)] = some b → y = "__class__" := fun {y b} q => by
        rw [List.lookup_cons] at q
        cases z : y == ("__class__" : Str) with
        | true => exact eq_of_beq z
        | false => rw [z] at q; cases q
      exact (key h1).trans (key h2).symm
    · match i, hy with
      | 0, hy =>
        have e : (("__class__" : Str)) = y := Option.some.inj hy
        subst e
        refine ⟨cc, by show List.lookup _ [(("__class__" : Str), cc)] = some cc; rw [List.lookup_cons, beq_self_eq_true], fun v hv => ?_⟩
        have e : V.ref D = v := Option.some.inj (Option.some.inj hv)
        subst e
        exact ⟨_, rfl, _, hcc, rfl⟩
  refine ks_codeAny_call_defAt (fd := PySem.W.fnX x qual (defArgs st) (defBody st) (defScope st) [("__class__", cc)] .none kV doc pm an (.ref c) ct) (body := defBody st) (binds := ps.zip us) hr.depth (KX _ _ lk) rfl lim (PySem.W.codeRec_of KX F.cd) rfl hb
    S.nocell (fun ⟨n, _⟩ hy => S.par n (List.of_mem_zip hy).1) (fun h₁ hns kp => ?_) S.co S.gen S.kind
  have I : Inv (ncx CX P w K mg base N (nf x qual st c cc) f A outer s H E) [] (startF N vs [some (.ref D)]) H { s with heap := h₁, toks := s.toks + (ps.zip us).length } := inv_startN S hr.hd e0 hl r C hns kp
  refine ks_wpAt_mono (hbody A outer s H vs Q E (hr.deeper _) hsp _ I) (fun fl s' hs => ?_) fun e s' hs => hs
  have fin : ∀ {σ' : L2.St} {H' : Hp} {v : V} {u : Value}, Inv (ncx CX P w K mg base N (nf x qual st c cc) f A outer s H E) [] σ' H' s' → L2.RelV v u → Q v H' → CE outer P w H s Q u s' :=
    fun {σ' H' v u} J rv q => ⟨v, H', J.os, J.bare, J.base, J.hok, rv, q⟩
  cases fl with
  | ret u =>
    obtain ⟨v, σ', H', J, rv, q⟩ := hs
    exact fin J rv q
  | next =>
    obtain ⟨σ', H', J, q⟩ := hs
    exact fin (v := V.non) (u := Value.none) J rfl q
  | brk =>
    obtain ⟨_, _, _, q⟩ := hs
    exact False.elim q
  | cont =>
    obtain ⟨_, _, _, q⟩ := hs
    exact False.elim q
end

/-! ### super().m(e, ..) as the first statement, m a def of a class above -/
/-- facts of the running def, by the context -/
structure AtS (X : Cx) (body : List Stmt) (f c cc D : Addr) (me : Str) : Prop where
  hk : X.env.scope.kind = .function
  hks : X.env.kindOf "super" = some .globalImplicit
  hkc : X.env.kindOf "__class__" = some .free
  hfu : X.env.func = some f
  hco : X.env.code = .ref c
  cl : X.env.cells.lookup ("__class__" : Str) = some cc
  hkl : X.env.kindOf me = some .local
  fn : ∃ (oc : Value) (od : Option Addr) (fd : FuncData) (osl : Array (Option Value)) (ar : Arg), X.K.lookup f = some ⟨oc, od, .func fd, osl⟩ ∧ (fd.params.posonlyargs ++ fd.params.args).head? = some ar ∧ ar.arg = me
  file : ∃ (ccl : Value) (cdd : Option Addr) (vs : Array Value) (ccs : Array (Option Value)) (fl : Str) (tf : Tok), X.K.lookup c = some ⟨ccl, cdd, .fields vs, ccs⟩ ∧ vs[2]? = some (.str fl tf) ∧ ((X.prog.main.file : Str) == fl) = true
  cell : ∃ (l : Value) (ld : Option Addr) (csl : Array (Option Value)), X.K.lookup cc = some ⟨l, ld, .cell (some (.ref D)), csl⟩
/-- facts of the text -/
structure SupT (prog : Program) (K : PySem.W.Frag) (mg : Str → Option Value) (D : Addr) : Prop where
  top : (prog.main.scope.names.lookup ("super" : Str)).isSome = false
  mg : mg "super" = none
  cls : ∃ cdD, PySem.W.clsIn K D = some cdD
  third : PySem.W.nsIn K cStatics "thirdparty.any" = some none

section
variable {X : Cx} {body : List Stmt} {f c cc D : Addr} {me : Str} {pins : List (Addr × Obj)} {s : Shared} {σ : L2.St} {H : Hp}
/-- super() itself: a new object, kept aside -/
theorem super_base {attr : Str} {whole : Sem Value} {p0 p1 : Pos} {x C : Addr} {ox : Obj} {Q : Value → Shared → Prop} (a : AtS X body f c cc D me) (t : SupT X.prog X.K X.mg D) (I : Inv X pins σ H s)
    (hN : X.N[0]? = some me) (hx : σ[0]? = some (some (.ref x))) (ho : s.heap.get? x = some ox) (hc : ox.cls = .ref C) (hnc : ∀ c, ox.data ≠ .cls c)
    (hsub : PySem.W.mroIn X.K C (.ref D) = some true) (hat : (attr == ("__class__" : Str)) = false)
    (h : ∀ so h', so = s.heap.objs.size → h'.get? so = some (PySem.W.ks_superObj D x C) → (∀ b o, s.heap.get? b = some o → h'.get? b = some o) → Inv X pins σ H { s with heap := h' } → Q (.ref so) { s with heap := h' }) :
    PySem.wpAt (model X.prog X.w) X.A (.func body X.env) (attributeBase (.Call (.Name "super" p0) [] [] p1) attr X.env whole) Q X.xe s := by
  obtain ⟨oc, od, fd, osl, ar, lf, hp, hself⟩ := a.fn
  obtain ⟨ccl, cdd, vs, ccs, fl, tf, lc, hvs, hfile⟩ := a.file
  obtain ⟨l, ld, csl, lcc⟩ := a.cell
  obtain ⟨cdD, hD⟩ := t.cls
  have KX := I.kIn
  obtain ⟨oD, hD1, hD2⟩ : ∃ oD, s.heap.get? D = some oD ∧ oD.data = .cls cdD := by
    unfold PySem.W.clsIn at hD
    split at hD
    · rename_i c d cd' sl ho
      cases hD
      exact ⟨_, KX _ _ ho, rfl⟩
    · cases hD
  obtain ⟨m, hns, hl⟩ := I.loc
  obtain ⟨u, ru, lk⟩ := hl 0 me _ hN hx (.inl a.hkl)
  obtain rfl : u = Value.ref x := ru
  have hm : m me = some (Value.ref x) := by
    rcases lk with ⟨_, e⟩ | ⟨e, _⟩
    · exact e
    · rw [a.hkl] at e
      rcases e with e | e <;> cases e
  refine ks_wpAt_super_base a.hks a.hkc hat a.hfu (KX _ _ lf) rfl hp a.hco (KX _ _ lc) rfl hvs hfile t.top ?_
  obtain ⟨mb, b1, b2⟩ := I.mod.blt
  refine PySem.W.ks_loadName_global a.hk a.hks (Calls.loadGlobal_builtin (by rw [I.ok.glob]; exact I.mod.glob.keeps I.bk) t.mg (by rw [I.ok.blt]; exact b1.keeps I.bk) ((b2 _ (by decide)).trans (by decide +kernel : bootBuiltins "super" = some (.type "super"))) ⟨rfl, ?_⟩)
  refine wpAny_loadName_free a.hk a.hkc a.cl ⟨_, KX _ _ lcc, rfl⟩ ?_
  rw [hself]
  refine wpAny_loadName_local a.hk a.hkl hns hm ?_
  refine ks_wpAny_isType_cls hD1 hD2 ⟨rfl, ?_⟩
  obtain ⟨hh, g, d, tk, os⟩ := s
  exact ks_wpAny_call_super hD1 hD2 ho hc hnc (PySem.W.looks_mroIn KX hsub) fun h' e k => h _ _ rfl e k (I.kept (t' := tk) k)

/-- super().m: the def of the class above, bound; kept aside -/
theorem super_meth {name : Str} {pl : Sem Bool} {x C so f2 : Addr} {ox : Obj} {Q : Value × List Value → Shared → Prop} (I : Inv X pins σ H s) (hso : s.heap.get? so = some (PySem.W.ks_superObj D x C))
    (ho : s.heap.get? x = some ox) (hnc : ∀ c, ox.data ≠ .cls c) (third : PySem.W.nsIn X.K cStatics "thirdparty.any" = some none)
    (hm : PySem.W.ks_superIn X.K C D name = some (some (.ref f2))) (ht : PySem.W.typeIn X.K (.ref f2) = some (.type "function")) (hn : (name == ("__class__" : Str)) = false)
    (h : ∀ q s', q = s.heap.objs.size → s'.heap.get? q = some (PySem.W.methodObj (.ref f2) (.ref x)) → (∀ b o, s.heap.get? b = some o → s'.heap.get? b = some o) → Inv X pins σ H s' → Q (.ref q, []) s') :
    wpAny (model X.prog X.w) X.A (getMethod (.ref so) name pl) Q X.xe s := by
  have KX := I.kIn
  obtain ⟨hh, g, d, tk, os⟩ := s
  cases hc : PySem.W.clsIn X.K C with
  | none => unfold PySem.W.ks_superIn at hm; rw [hc] at hm; cases hm
  | some cd =>
    unfold PySem.W.ks_superIn at hm
    rw [hc] at hm
    have hxC : x ≠ C := by
      rintro rfl
      unfold PySem.W.clsIn at hc
      split at hc
      · rename_i c d cd' sl hoc
        have e := KX _ _ hoc
        rw [ho] at e
        cases e
        exact hnc _ rfl
      · cases hc
    obtain ⟨of, hof, hofc⟩ : ∃ of, hh.get? f2 = some of ∧ of.cls = .type "function" := by
      have ht' : (X.K.lookup f2).map (·.cls) = some (.type "function") := ht
      cases z : X.K.lookup f2 with
      | none => rw [z] at ht'; cases ht'
      | some of => rw [z] at ht'; exact ⟨of, KX _ _ z, Option.some.inj ht'⟩
    refine ks_wpAny_getMethod_super hso (PySem.W.looks_opaque KX third) (l₀ := cd.mro) ?_ rfl KX hm hof hofc hxC hn ?_
    · exact fun A Q E s k q => wpAny_bind ((PySem.W.looks_clsIn KX hc) A _ E s k (wpAny_pure q))
    · have kp : ∀ b o, hh.get? b = some o → (hh.push (PySem.W.methodObj (.ref f2) (.ref x))).get? b = some o := fun b o e => Heap.get?_push_of_some _ e
      exact h _ _ rfl (Heap.get?_push_at rfl rfl) kp (I.kept (t' := tk + 1) kp)

/-- an instance that is tracked: what super() asks of it -/
theorem ins_obj {a C dx : Addr} {fs : List (Str × V)} (I : Inv X pins σ H s) (e : H a = some (.ins C dx fs)) : ∃ ox : Obj, s.heap.get? a = some ox ∧ ox.cls = .ref C ∧ ∀ c, ox.data ≠ .cls c := by
  obtain ⟨d, z, ne, ob, _⟩ := (show ObjOk X.prog X.w H s.heap a (.ins C dx fs) from I.hok a _ e)
  exact ⟨_, ob, rfl, fun c h => by cases h⟩

/-- super().m(e, ..), then the rest -/
theorem super_own {CX : CXT} {k : Nat} {f2 x C : Addr} {fd2 : FuncData} {ps2 : List Str} {sp2 : Sp} {dvs : List V} {ds : List Value} {E : XK} {attr : Str} {e : Expr} {es : List Expr} {t : TA} {rest : List Stmt} {u : TS} {D' : Ends} {p0 p1 p2 p3 p4 : Pos}
    (a : AtS X body f c cc D me) (T : SupT X.prog X.K X.mg D) (F : FnOk X.prog X.w X.K X.mg X.base CX k f2 fd2 ps2 sp2) (hr : Room k X.A) (hb : Binds X.K fd2 ps2 ds) (hd : Vals dvs ds) (hx : Passes CX X E)
    (hN : X.N[0]? = some me) (hm : PySem.W.ks_superIn X.K C D attr = some (some (.ref f2))) (ht : PySem.W.typeIn X.K (.ref f2) = some (.type "function")) (hfn : PySem.W.fnIn X.K f2 = true)
    (hsub : PySem.W.mroIn X.K C (.ref D) = some true) (hat : (attr == ("__class__" : Str)) = false) (ha : PA X (e :: es) t) (hrest : PSs X rest u)
    (I : Inv X pins σ H s) (hσ : σ[0]? = some (some (.ref x))) (hins : ∃ ox : Obj, s.heap.get? x = some ox ∧ ox.cls = .ref C ∧ ∀ c, ox.data ≠ .cls c)
    (hq : t σ H fun vs H1 => sp2 (.ref x :: (vs ++ dvs)) H1 (fun _ H2 => u D' σ H2) E)
    (hi : interactive X.env = false) (hs : swapsWith (.Call (.Attribute (.Call (.Name "super" p0) [] [] p1) attr p2) (e :: es) [] p3) none p4.line X.env = pure false)
    (he : eval (.Call (.Attribute (.Call (.Name "super" p0) [] [] p1) attr p2) (e :: es) [] p3) X.env = (do
      let ov ← attributeBase (.Call (.Name "super" p0) [] [] p1) attr X.env (eval (.Call (.Name "super" p0) [] [] p1) X.env)
      standAt p2.atName
      let (f, first) ← holding [ov] (getMethod ov attr (pure false))
      callWith p3 f first (backTo p3 (starEach (e :: es) X.env)) []))
    (hst : starEach (e :: es) X.env = (false, eval e X.env) :: starEach es X.env) (hpl : (backTo p3 (starEach es X.env)).any (·.1) = false) :
    PySem.wpAt (model X.prog X.w) X.A (.func body X.env) (execs (.Expr (.Call (.Attribute (.Call (.Name "super" p0) [] [] p1) attr p2) (e :: es) [] p3) p4 :: rest) X.env) (SP X pins D') X.xe s := by
  obtain ⟨ox, ho, hc, hnc⟩ := hins
  refine ks_wpAt_execs_cons (ks_wpAt_Expr_any (ks_wpAt_MethodCall (pl := pure false) (super_base a T I hN hσ ho hc hnc hsub hat fun so h' eso hso kp I1 => ?_) he) hi hs)
  refine super_meth (x := x) (C := C) (D := D) I1 hso (kp _ _ ho) hnc T.third hm ht hat fun q s2 eq hq2 kp2 I2 => ?_
  have hqn : H q = none := by rw [eq]; exact I1.hok.fresh (Nat.le_refl _)
  have hq0 : X.s_0.heap.objs.size ≤ q := by rw [eq]; exact I1.sz
  have hqL : q ≠ X.env.locals := by rw [eq]; exact (Nat.ne_of_lt I1.lt).symm
  have hqf : q ∉ X.fs := by rw [eq]; exact I1.nofs (Nat.le_refl _)
  have J : Inv X (pins ++ [(q, PySem.W.methodObj (.ref f2) (.ref x))]) σ H s2 := I2.pins_of fun p hp => by
    rcases List.mem_append.mp hp with hp | hp
    · exact I2.pin p (List.mem_append_right _ hp)
    · obtain rfl := List.mem_singleton.mp hp
      exact ⟨hq2, hqn, hqL, hqf, fun v hv => by cases hv⟩
  refine PySem.W.callWith_M (h₀ := X.base) (L := X.env.locals) (news := [(q, PySem.W.methodObj (.ref f2) (.ref x))]) I.ok.mod.kin ?_ (List.mem_singleton.mpr rfl) hfn ?_ hst hpl
  · intro p hp
    obtain rfl := List.mem_singleton.mp hp
    exact ⟨hq2, hqL, Heap.get?_none_of_le (Nat.le_trans I.ok.bsz hq0)⟩
  refine thn (ha.run p3 _ s2 σ H _ J hq) fun us s3 ⟨vs, H3, I3, r, q3⟩ => ?_
  have hq3 : s3.heap.get? q = some (PySem.W.methodObj (.ref f2) (.ref x)) := (I3.pin _ (List.mem_append_right _ (List.mem_append_right _ (List.mem_singleton.mpr rfl)))).1
  refine ⟨⟨hq3, I3.kIn⟩, ?_⟩
  refine wpAny_call (PySem.W.method_call hq3 ?_)
  have r2 : Vals (V.ref x :: (vs ++ dvs)) (Value.ref x :: (us ++ ds)) := .cons rfl (r.append hd)
  have hl : (Value.ref x :: (us ++ ds)).length = ps2.length := by rw [← r2.length]; exact F.len _ _ _ _ q3
  have I4 : Inv X pins σ H3 s3 := I3.pins_of fun p hp => I3.pin p (List.mem_append_right _ (List.mem_append_left _ hp))
  refine codeAny_mono (F.run X.A X.stack s3 H3 ⟨.ref x :: us, []⟩ (.ref x :: (us ++ ds)) (.ref x :: (vs ++ dvs)) _ E hr I3.env0 (hb s3 (.ref x :: us) I3.kIn hl) r2 q3) fun r s' hq' => ?_
  cases r with
  | error e => exact hx pins σ H3 s3 e s' I4 hq'
  | ok fl =>
    cases fl with
    | ret v =>
      obtain ⟨v', H', I5, _, q5⟩ := I4.after hq'
      exact wpAt_of_wpAny (hrest.run pins s' σ H' D' I5 q5)
    | next => exact False.elim hq'
    | brk => exact False.elim hq'
    | cont => exact False.elim hq'
end
end Sup
namespace Sup
open PySem PySem.Spec PyProof.Rows L2
open NdefX (NF NScope ncx envF startF CellsAt inv_startN)
section
variable {X : Cx} {body : List Stmt} {f c cc D : Addr} {me : Str} {pins : List (Addr × Obj)} {s : Shared} {σ : L2.St} {H : Hp}
/-- an exception that is being made: what super() asks of it -/
theorem exo_obj {a C : Addr} {d : Option Addr} (I : Inv X pins σ H s) (e : H a = some (exo a C d)) : ∃ ox : Obj, s.heap.get? a = some ox ∧ ox.cls = .ref C ∧ ∀ c, ox.data ≠ .cls c := by
  obtain ⟨t1, ho⟩ := exo_at I.hok e
  exact ⟨_, ho, rfl, fun c h => by cases h⟩
/-- super().__init__, ValueError's, bound; kept aside -/
theorem super_methX {pl : Sem Bool} {x C so : Addr} {Q : Value × List Value → Shared → Prop} (I : Inv X pins σ H s) (hso : s.heap.get? so = some (PySem.W.ks_superObj D x C))
    (hx : H x = some (exo x C none)) (third : PySem.W.nsIn X.K cStatics "thirdparty.any" = some none)
    (hm : PySem.W.ks_superIn X.K C D "__init__" = some (some (.builtin "ValueError.__init__"))) (hB : PySem.W.subIn X.K (.ref C) (.type "ValueError") = some true)
    (h : ∀ q s', q = s.heap.objs.size → s'.heap.get? q = some (PySem.W.kxs_mw "ValueError.__init__" x) → Inv X pins σ H s' → Q (.ref q, []) s') :
    wpAny (model X.prog X.w) X.A (getMethod (.ref so) "__init__" pl) Q X.xe s := by
  have KX := I.kIn
  obtain ⟨t1, ho⟩ := exo_at I.hok hx
  have hI : PySem.W.Looks (model X.prog X.w) s.heap (isInstance (.ref x) (.type "ValueError")) true :=
    (PySem.W.InstAt.type (ox := { cls := .ref C, dict := none, data := .fields #[.ref t1, .none, .none, .none, .bool false, .none] }) (od := none) ⟨ho, rfl, rfl, trivial⟩).andThen (PySem.W.looks_subIn KX hB)
  obtain ⟨hh, g, d, tk, os⟩ := s
  cases hc : PySem.W.clsIn X.K C with
  | none => unfold PySem.W.ks_superIn at hm; rw [hc] at hm; cases hm
  | some cd =>
    unfold PySem.W.ks_superIn at hm
    rw [hc] at hm
    have hxC : x ≠ C := by
      rintro rfl
      unfold PySem.W.clsIn at hc
      split at hc
      · rename_i c d cd' sl hoc
        have e := KX _ _ hoc
        rw [ho] at e
        cases e
      · cases hc
    refine PySem.W.kxs_getMethod PySem.W.kxs_ValueError hso (PySem.W.looks_opaque KX third) (l₀ := cd.mro) ?_ rfl KX hm hI hxC (by decide) ?_
    · exact fun A Q E s k q => wpAny_bind ((PySem.W.looks_clsIn KX hc) A _ E s k (wpAny_pure q))
    · have kp : ∀ b o, hh.get? b = some o → (hh.push (PySem.W.kxs_mw "ValueError.__init__" x)).get? b = some o := fun b o e => Heap.get?_push_of_some _ e
      exact h _ _ rfl (Heap.get?_push_at rfl rfl) (I.kept (t' := tk + 1) kp)
/-- it is called: nothing of it is told -/
theorem call_mw {u a C : Addr} {us : List Value} {Q : Value → Shared → Prop} (T : OexC X.K C) (I : Inv X pins σ H s) (hu : s.heap.get? u = some (PySem.W.kxs_mw "ValueError.__init__" a)) (e : H a = some (exo a C none)) (hl : us.length ≤ sizeLine)
    (h : ∀ s', Inv X pins σ H s' → Q .none s') : wpAny (model X.prog X.w) X.A (call (.ref u) us) Q X.xe s := by
  obtain ⟨nm, q, N, bs, bm, sn, sub, ab, col, dd, k0, k1, k2, k3, k5, hC, hbm⟩ := T.cls
  obtain ⟨t1, ho⟩ := exo_at I.hok e
  have hCs := I.kIn _ _ hC
  obtain ⟨hh, g, d, tk, os⟩ := s
  refine wpAny_call (codeAny_of_tree ?_)
  show wpAny _ X.A.in1 (callAny (.ref u) ⟨us, []⟩) _ _ _
  simp only [callAny]
  refine wpAny_bind (wpAny_load hu ?_)
  simp only [PySem.W.kxs_mw, show (Value.type "method-wrapper" == Value.type "method" || Value.type "method-wrapper" == Value.type "builtin_function_or_method" || Value.type "method-wrapper" == Value.type "method-wrapper") = true by decide, if_true]
  refine PySem.W.KFB.if_so (by decide) ?_
  refine wpAny_bind (PySem.W.check_bound_init F.excBase_ValueError.toExcCallFacts hCs ho rfl ?_)
  refine wpAny_bind (wpAny_pure (wpAny_pure ?_))
  refine ⟨plainId_quiet F.excBase_ValueError.init.plain _, codeAny_builtin F.excBase_ValueError.initEntry ?_⟩
  refine PySem.W.exc_init_tree (cls := .ref C) (t0 := t1) (dv := none) (c2 := .none) (c3 := .none) (b4 := .bool false) ho hl fun h' k e' t' => ?_
  have J := I.write (t' := tk) (x := a) (e := a) (o := exo a C none) (by rw [e]; exact True.intro) (.inl rfl) k ⟨_, e'⟩ (exo_ok e')
  have eu : upd H a (exo a C none) = H := by
    funext b
    by_cases hb : b = a
    · rw [hb, upd_same, e]
    · rw [upd_ne hb]
  rw [eu] at J
  exact h _ J
end
end Sup
namespace Sup
open PySem PySem.Spec PyProof.Rows L2
open NdefX (NF NScope ncx envF startF CellsAt inv_startN)
section
variable {X : Cx} {body : List Stmt} {f c cc D : Addr} {me : Str} {pins : List (Addr × Obj)} {s : Shared} {σ : L2.St} {H : Hp}
/-- super().__init__(e, ..) of an exception, then the rest -/
theorem super_exc {x C : Addr} {e : Expr} {es : List Expr} {t : TA} {rest : List Stmt} {u : TS} {D' : Ends} {p0 p1 p2 p3 p4 : Pos}
    (a : AtS X body f c cc D me) (T : SupT X.prog X.K X.mg D) (TC : OexC X.K C)
    (hN : X.N[0]? = some me) (hm : PySem.W.ks_superIn X.K C D "__init__" = some (some (.builtin "ValueError.__init__"))) (hB : PySem.W.subIn X.K (.ref C) (.type "ValueError") = some true)
    (hsub : PySem.W.mroIn X.K C (.ref D) = some true) (ha : PA X (e :: es) t) (hrest : PSs X rest u)
    (I : Inv X pins σ H s) (hσ : σ[0]? = some (some (.ref x))) (hx : H x = some (exo x C none))
    (hq : t σ H fun vs H1 => vs.length ≤ 1000 ∧ H1 x = some (exo x C none) ∧ u D' σ H1)
    (hi : interactive X.env = false) (hs : swapsWith (.Call (.Attribute (.Call (.Name "super" p0) [] [] p1) "__init__" p2) (e :: es) [] p3) none p4.line X.env = pure false)
    (he : eval (.Call (.Attribute (.Call (.Name "super" p0) [] [] p1) "__init__" p2) (e :: es) [] p3) X.env = (do
      let ov ← attributeBase (.Call (.Name "super" p0) [] [] p1) "__init__" X.env (eval (.Call (.Name "super" p0) [] [] p1) X.env)
      standAt p2.atName
      let (f, first) ← holding [ov] (getMethod ov "__init__" (pure false))
      callWith p3 f first (backTo p3 (starEach (e :: es) X.env)) []))
    (hst : starEach (e :: es) X.env = (false, eval e X.env) :: starEach es X.env) (hpl : (backTo p3 (starEach es X.env)).any (·.1) = false) :
    PySem.wpAt (model X.prog X.w) X.A (.func body X.env) (execs (.Expr (.Call (.Attribute (.Call (.Name "super" p0) [] [] p1) "__init__" p2) (e :: es) [] p3) p4 :: rest) X.env) (SP X pins D') X.xe s := by
  obtain ⟨ox, ho, hc, hnc⟩ := exo_obj I hx
  refine ks_wpAt_execs_cons (ks_wpAt_Expr_any (ks_wpAt_MethodCall (pl := pure false) (super_base a T I hN hσ ho hc hnc hsub (by decide) fun so h' eso hso kp I1 => ?_) he) hi hs)
  refine super_methX (x := x) (C := C) (D := D) I1 hso hx T.third hm hB fun q s2 eq hq2 I2 => ?_
  have hqn : H q = none := by rw [eq]; exact I1.hok.fresh (Nat.le_refl _)
  have hq0 : X.s_0.heap.objs.size ≤ q := by rw [eq]; exact I1.sz
  have hqL : q ≠ X.env.locals := by rw [eq]; exact (Nat.ne_of_lt I1.lt).symm
  have hqf : q ∉ X.fs := by rw [eq]; exact I1.nofs (Nat.le_refl _)
  have J : Inv X (pins ++ [(q, PySem.W.kxs_mw "ValueError.__init__" x)]) σ H s2 := I2.pins_of fun p hp => by
    rcases List.mem_append.mp hp with hp | hp
    · exact I2.pin p (List.mem_append_right _ hp)
    · obtain rfl := List.mem_singleton.mp hp
      exact ⟨hq2, hqn, hqL, hqf, fun v hv => by cases hv⟩
  refine PySem.W.kxs_callWith1 (h₀ := X.base) (L := X.env.locals) (news := [(q, PySem.W.kxs_mw "ValueError.__init__" x)]) (i := "ValueError.__init__") (x := x) ?_ (List.mem_singleton.mpr rfl) ?_ hst hpl
  · intro p hp
    obtain rfl := List.mem_singleton.mp hp
    exact ⟨hq2, hqL, Heap.get?_none_of_le (Nat.le_trans I.ok.bsz hq0)⟩
  refine thn (ha.run p3 _ s2 σ H _ J hq) fun us s3 ⟨vs, H3, I3, r, hl, hx3, q3⟩ => ?_
  have hq3 : s3.heap.get? q = some (PySem.W.kxs_mw "ValueError.__init__" x) := (I3.pin _ (List.mem_append_right _ (List.mem_append_right _ (List.mem_singleton.mpr rfl)))).1
  have I4 : Inv X pins σ H3 s3 := I3.pins_of fun p hp => I3.pin p (List.mem_append_right _ (List.mem_append_left _ hp))
  refine ⟨hq3, ?_⟩
  exact call_mw TC I4 hq3 hx3 (by rw [← r.length]; exact Nat.le_trans hl (by decide)) fun s' I5 => wpAt_of_wpAny (hrest.run pins s' σ H3 D' I5 q3)
end
theorem atS_of {P : Program} {w : World} {K : PySem.W.Frag} {mg : Str → Option Value} {base : Heap} {CX : CXT} {x qual : Str} {st : Stmt} {f c cc D : Addr} {fd : FuncData} {N : List Str} {A : Around} {outer : List Env} {s : Shared} {H : Hp} {E : XK} {me : Str} {body : List Stmt}
    (F : FunS P K x qual st f fd c cc D) (hk : (defScope st).kind = .function) (hs : (defScope st).names.lookup ("super" : Str) = some .globalImplicit) (hc : (defScope st).names.lookup ("__class__" : Str) = some .free)
    (hm : (defScope st).names.lookup me = some .local) (ha : ∃ ar, ((defArgs st).posonlyargs ++ (defArgs st).args).head? = some ar ∧ ar.arg = me) : AtS (ncx CX P w K mg base N (nf x qual st c cc) f A outer s H E) body f c cc D me := by
  obtain ⟨oc, od, kV, doc, pm, an, ct, osl, rfl, lk⟩ := F.ex
  obtain ⟨ar, h1, h2⟩ := ha
  refine ⟨hk, hs, hc, rfl, rfl, ?_, hm, ⟨oc, od, _, osl, ar, lk, h1, h2⟩, F.file, F.cell⟩
  show List.lookup _ [(("__class__" : Str), cc)] = some cc
  rw [List.lookup_cons, beq_self_eq_true]
end Sup
namespace Sup
open PySem PySem.Spec PyProof.Rows L2
/-! ### x == y, x != y where x or y is an instance with an __eq__ of its own -/
section
variable {M : Model} {prog : Program} {w : World} {A : Around} {E : Value → Shared → Prop} {s : Shared} {K : PySem.W.Frag} {x C g : Addr} {ox : Obj} {od : Option Obj} {b : Value}
/-- the answer, as it is or turned -/
def ansOf (op : CmpOp) (k : Bool) : Bool := match op with
  | .NotEq => !k
  | _ => k
/-- g gives a truth value that R takes -/
def GivesB (prog : Program) (w : World) (A : Around) (E : Value → Shared → Prop) (g x : Addr) (b : Value) (R : Bool → Shared → Prop) (s : Shared) : Prop :=
  wpAny (model prog w) A (call (.ref g) [.ref x, b]) (fun v s' => ∃ k, v = .bool k ∧ R k s') E s
theorem objNe_own (X : K.In s.heap) (I : PySem.W.InstAt s.heap x ox C od) (hs : PySem.W.findIn K (.ref C) "__eq__" = some (some (.ref g))) (hf : PySem.W.isFn K (.ref g) = true) (hu : A.units < cLine) {Q : Fin → Shared → Prop}
    (h : GivesB prog w A E g x b (fun k s' => Q (.done (.ret (.bool (!k)))) s') s) : wpAny (model prog w) A (Builtin.«object.__ne__» ⟨[.ref x, b], []⟩) Q E s := by
  unfold Builtin.«object.__ne__»
  repeat (first
    | with_reducible refine wpAny_cRoomFor hu ?_
    | (refine wpAny_bind (m := callSpecialIfBound? (.ref x) (Str.ofString "__eq__") [b])
        (PySem.W.ifBound_K X I hs hf (wpAny_mono h (fun r s' hr => by
          obtain ⟨k, rfl, hq⟩ := hr
          repeat (first | exact hq | exact wpAny_pure hq | exact wpAny_truthy_bool hq | (refine wpAny_bind (m := truthy (.bool _)) (wpAny_truthy_bool ?_)) | wp_step)) fun _ _ e => e)))
    | wp_step)
theorem ifBound_objNe {args : List Value} {Q : Option Value → Shared → Prop} (X : K.In s.heap) (I : PySem.W.InstAt s.heap x ox C od) (hs : PySem.W.findIn K (.ref C) "__ne__" = some (some (.builtin "object.__ne__")))
    (h : wpAny M A (call (.builtin "object.__ne__") (.ref x :: args)) (fun v => Q (some v)) E s) : wpAny M A (callSpecialIfBound? (.ref x) "__ne__" args) Q E s := by
  simp only [callSpecialIfBound?, bindSpecialIfBound?]
  refine wpAny_holding (wpAny_bind (wpAny_bind (wpAny_bind (I.type.here ((PySem.W.looks_findIn X hs).here ?_)))))
  refine wpAny_bind (wpAny_askSetting (wpAny_ite ?_))
  have fin : wpAny M A (call (.builtin "object.__ne__") ([.ref x] ++ args) >>= fun v => pure (some v)) Q E s := wpAny_bind (wpAny_mono h (fun v s' h' => wpAny_pure h') fun _ _ h' => h')
  split
  · exact wpAny_bind (wpAny_of_eq (F.cmp_object.ne.bind _) (wpAny_pure (by exact fin)))
  · exact wpAny_tryCatch (wpAny_bind (wpAny_of_eq (F.cmp_object.ne.bind _) (wpAny_pure (by exact fin))))
/-- the instance's own answer -/
theorem try_own {op : CmpOp} (hop : op = .Eq ∨ op = .NotEq) (X : K.In s.heap) (I : PySem.W.InstAt s.heap x ox C od) (hs : PySem.W.findIn K (.ref C) "__eq__" = some (some (.ref g))) (hf : PySem.W.isFn K (.ref g) = true)
    (hn : PySem.W.findIn K (.ref C) "__ne__" = some (some (.builtin "object.__ne__"))) (hm : PySem.W.mroIn K C (.type "object") = some true) (hu : A.in1.units < cLine) {R : Bool → Shared → Prop}
    (h : ∀ A', A' = A ∨ A' = A.in1 → GivesB prog w A' E g x b R s) :
    wpAny (model prog w) A (tryCompare (.ref x) (cmpInfo op).2.1 b) (fun r s' => ∃ k, r = some (.bool (ansOf op k)) ∧ R k s') E s := by
  rcases hop with rfl | rfl
  · unfold tryCompare
    refine wpAny_bind (PySem.W.ifBound_K X I hs hf (wpAny_mono (h A (.inl rfl)) (fun v s' hv => ?_) fun _ _ e => e))
    obtain ⟨k, rfl, hq⟩ := hv
    exact wpAny_pure ⟨k, rfl, hq⟩
  · unfold tryCompare
    refine wpAny_bind (ifBound_objNe X I hn (wpAny_call (codeAny_call_builtin F.cmp_object.ne.plain F.cmpEntry_ne (PySem.W.check_slot F.cmpKind_ne F.cmpSplit_ne (I.type.andThen (PySem.W.looks_mroIn X hm)) (F.cmpArgs_ne _ _)
      (objNe_own X I hs hf hu (wpAny_mono (h A.in1 (.inr rfl)) (fun v s' hv => ?_) fun _ _ e => e))))))
    obtain ⟨k, rfl, hq⟩ := hv
    exact ⟨k, rfl, wpAny_pure ⟨k, rfl, hq⟩⟩
theorem rc_own_left {op : CmpOp} (hop : op = .Eq ∨ op = .NotEq) {tb : Value} {Q : Value → Shared → Prop} (hu : A.units < cLine) (X : K.In s.heap) (I : PySem.W.InstAt s.heap x ox C od) (hb : PySem.W.Looks (model prog w) s.heap (typeOf b) tb) (hn : PySem.W.notFirst K C tb = true)
    {R : Bool → Shared → Prop} (one : wpAny (model prog w) A (tryCompare (.ref x) (cmpInfo op).2.1 b) (fun r s' => ∃ k, r = some (.bool (ansOf op k)) ∧ R k s') E s) (h : ∀ k s', R k s' → Q (.bool (ansOf op k)) s') :
    wpAny (model prog w) A (richCompare op (.ref x) b) Q E s := by
  unfold richCompare
  simp only [oneThing_ref]
  refine wpAny_holding (wpAny_bind (wpAny_cRoomFor hu ?_))
  refine wpAny_bind (I.type.here (wpAny_bind (hb.here ?_)))
  split
  · rename_i q
    have e : PySem.W.subIn K tb (.ref C) = some false := by
      rcases Bool.or_eq_true_iff.mp hn with e | e
      · rw [beq_iff_eq.mp e] at q; simp at q
      · exact beq_iff_eq.mp e
    refine wpAny_bind ((PySem.W.looks_subIn X e).here ?_)
    simp only [Bool.false_eq_true, if_false]
    refine wpAny_bind (wpAny_mono one (fun r s' z => ?_) fun _ _ e => e)
    obtain ⟨k, rfl, hq⟩ := z
    exact wpAny_pure (h _ _ hq)
  · refine wpAny_bind (wpAny_pure ?_)
    simp only [Bool.false_eq_true, if_false]
    refine wpAny_bind (wpAny_mono one (fun r s' z => ?_) fun _ _ e => e)
    obtain ⟨k, rfl, hq⟩ := z
    exact wpAny_pure (h _ _ hq)
/-- the right one's class is below the left one's: it is asked first -/
theorem rc_own_right {op : CmpOp} (hop : op = .Eq ∨ op = .NotEq) {a' D : Addr} {oy : Obj} {od' : Option Obj} {Q : Value → Shared → Prop} (hu : A.units < cLine) (X : K.In s.heap) (I : PySem.W.InstAt s.heap x ox C od) (J : PySem.W.InstAt s.heap a' oy D od')
    (hne : D ≠ C) (hsub : PySem.W.subIn K (.ref D) (.ref C) = some true)
    {R : Bool → Shared → Prop} (one : wpAny (model prog w) A (tryCompare (.ref a') (cmpInfo op).2.1 (.ref x)) (fun r s' => ∃ k, r = some (.bool (ansOf op k)) ∧ R k s') E s) (h : ∀ k s', R k s' → Q (.bool (ansOf op k)) s') :
    wpAny (model prog w) A (richCompare op (.ref x) (.ref a')) Q E s := by
  have hr : (cmpInfo op).2.2 = (cmpInfo op).2.1 := by rcases hop with rfl | rfl <;> rfl
  unfold richCompare
  simp only [oneThing_ref]
  refine wpAny_holding (wpAny_bind (wpAny_cRoomFor hu ?_))
  refine wpAny_bind (I.type.here (wpAny_bind (J.type.here ?_)))
  split
  · refine wpAny_bind ((PySem.W.looks_subIn X hsub).here ?_)
    simp only [if_true]
    rw [hr]
    refine wpAny_bind (wpAny_mono one (fun r s' z => ?_) fun _ _ e => e)
    obtain ⟨k, rfl, hq⟩ := z
    exact wpAny_bind (wpAny_rule (wpAny_pure (h _ _ hq)))
  · rename_i q
    exact absurd (show (Value.ref C != Value.ref D) = true by simp [Ne.symm hne]) q
end
/-- what == asks of the class at C -/
structure EqC (X : Cx) (C : Addr) (sp : Sp) : Prop where
  ex : ∃ (g : Addr) (fd : FuncData) (k : Nat), PySem.W.findIn X.K (.ref C) "__eq__" = some (some (.ref g)) ∧ PySem.W.isFn X.K (.ref g) = true ∧ FnOk X.prog X.w X.K X.mg X.base CX0 k g fd ["self", "other"] sp ∧ Room (k + 1) X.A ∧ Binds X.K fd ["self", "other"] []
  ne : PySem.W.findIn X.K (.ref C) "__ne__" = some (some (.builtin "object.__ne__"))
  ob : PySem.W.mroIn X.K C (.type "object") = some true
def rOwnE (K : PySem.W.Frag) (op : CmpOp) (S : Addr → Prop) (spE : Addr → Sp) : R2 := fun x y H Q => ∃ a C dx fs, x = .ref a ∧ H a = some (.ins C dx fs) ∧ S C ∧
  ((∃ t, TyX K H y t ∧ PySem.W.notFirst K C t = true ∧ spE C [x, y] H (fun z H' => ∃ k, z = .bl k ∧ Q (.bl (ansOf op k)) H') E0) ∨
   ∃ b D dy gs, y = .ref b ∧ H b = some (.ins D dy gs) ∧ S D ∧ D ≠ C ∧ PySem.W.subIn K (.ref D) (.ref C) = some true ∧ spE D [y, x] H (fun z H' => ∃ k, z = .bl k ∧ Q (.bl (ansOf op k)) H') E0)
section
variable {X : Cx} {pins : List (Addr × Obj)} {σ : L2.St} {H : Hp} {s : Shared}
theorem gives_own {A : Around} {g a : Addr} {fd : FuncData} {k : Nat} {sp : Sp} {y : V} {b : Value} {Q' : Bool → Hp → Prop} {E' : Value → Shared → Prop} (F : FnOk X.prog X.w X.K X.mg X.base CX0 k g fd ["self", "other"] sp) (hr : Room k A) (hb : Binds X.K fd ["self", "other"] []) (e0 : Env0 X.prog X.w X.K X.mg X.base A X.stack s H)
    (I : Inv X pins σ H s) (ry : RelV y b) (h : sp [.ref a, y] H (fun z H' => ∃ k, z = .bl k ∧ Q' k H') E0) :
    GivesB X.prog X.w A E' g a b (fun k s' => ∃ H', Inv X pins σ H' s' ∧ Q' k H') s := by
  refine wpAny_call (codeAny_mono (F.run A X.stack s H ⟨[.ref a, b], []⟩ [.ref a, b] [.ref a, y] _ E0 hr e0 (by simpa using hb s [.ref a, b] I.kIn rfl) (.cons rfl (.cons ry .nil)) h) fun r s' hq => ?_)
  cases r with
  | error e => exact False.elim hq
  | ok fl =>
    cases fl with
    | ret u =>
      obtain ⟨v, H', I', rv, k, ev, q⟩ := I.after hq
      subst ev
      exact ⟨k, rv, H', I', q⟩
    | next => exact False.elim hq
    | brk => exact False.elim hq
    | cont => exact False.elim hq
theorem op_ownE {op : CmpOp} (hop : op = .Eq ∨ op = .NotEq) {S : Addr → Prop} {spE : Addr → Sp} (T : ∀ C, S C → EqC X C (spE C)) : OpR X (compareOp op) (rOwnE X.K op S spE) := by
  intro pins s σ H x y v u Q I rx ry h
  obtain ⟨a, C, dx, fs, rfl, ha, hS, h⟩ := h
  obtain rfl : v = Value.ref a := rx
  obtain ⟨mA, O, _⟩ := ins_get I.hok ha
  obtain ⟨od, J, _⟩ := O.look
  have hcmp : compareOp op (.ref a) u = richCompare op (.ref a) u := by rcases hop with rfl | rfl <;> rfl
  rw [hcmp]
  have KX := I.kIn
  rcases h with ⟨t, ht, hn, q⟩ | ⟨b, D, dy, gs, rfl, hb, hSD, hne, hsub, q⟩
  · obtain ⟨⟨g, fd, k, h1, h2, GF, hr, hbd⟩, h3, h4⟩ := T C hS
    obtain ⟨P, KP, hP, _⟩ := kit_of I ry ht
    refine rc_own_left hop hr.units0 KX J (KP.ty _ _ KX hP) hn (R := fun k s' => ∃ H', Inv X pins σ H' s' ∧ Q (.bl (ansOf op k)) H') (try_own hop KX J h1 h2 h3 h4 (Room.in1 hr).units0 fun A' hA => ?_) fun k s' ⟨H', I', qq⟩ => ⟨.bl (ansOf op k), H', I', rfl, qq⟩
    rcases hA with rfl | rfl
    · exact gives_own GF (hr.mono (Nat.le_succ _)) hbd I.env0 I ry q
    · exact gives_own GF (Room.in1 hr) hbd I.env0.in1 I ry q
  · obtain rfl : u = Value.ref b := ry
    obtain ⟨⟨g, fd, k, h1, h2, GF, hr, hbd⟩, h3, h4⟩ := T D hSD
    obtain ⟨mB, O', _⟩ := ins_get I.hok hb
    obtain ⟨od', J', _⟩ := O'.look
    refine rc_own_right hop hr.units0 KX J J' hne hsub (R := fun k s' => ∃ H', Inv X pins σ H' s' ∧ Q (.bl (ansOf op k)) H') (try_own hop KX J' h1 h2 h3 h4 (Room.in1 hr).units0 fun A' hA => ?_) fun k s' ⟨H', I', qq⟩ => ⟨.bl (ansOf op k), H', I', rfl, qq⟩
    rcases hA with rfl | rfl
    · exact gives_own GF (hr.mono (Nat.le_succ _)) hbd I.env0 I (y := .ref a) rfl q
    · exact gives_own GF (Room.in1 hr) hbd I.env0.in1 I (y := .ref a) rfl q
end
end Sup
namespace Sup
open PySem PySem.Spec PyProof.Rows L2
section
variable {X : Cx}
/-- repr(True) -/
def boolText (b : Bool) : Str := if b then "True" else "False"
theorem call_repr_bool : CallR X (.builtin "repr") (fun xs H Q => ∃ b, xs = [.bl b] ∧ Q (.str (boolText b)) H) := by
  intro pins s σ H xs us Q I r h
  obtain ⟨b, rfl, q⟩ := h
  obtain ⟨u, rfl, ru⟩ := r.one
  obtain rfl : u = Value.bool b := ru
  exact PySem.P.repr_of_bool ⟨.str (boolText b), H, I.tok _, ⟨_, rfl⟩, q⟩
/-- repr of data, where nothing is shown around -/
theorem call_reprD (hg : X.A.guards = some []) (hu : X.A.units + 70 < cLine) : CallR X (.builtin "repr") (fun xs H Q => ∃ x d, xs = [x] ∧ Dp X.K H x d ∧ (∃ a, x = .ref a) ∧ PyData.showable d = true ∧ d.hasDict = false ∧ d.depth ≤ 64 ∧ d.shown.length ≤ sizeLine ∧ Q (.str d.shown) H) := by
  intro pins s σ H xs us Q I r h
  obtain ⟨x, d, rfl, hd, ⟨a, rfl⟩, hs, hno, hdp, hsz, q⟩ := h
  obtain ⟨u, rfl, ru⟩ := r.one
  obtain ⟨as, rd⟩ := Dp.reads I d (.ref a) u hd ru
  obtain rfl : u = Value.ref a := ru
  exact PySem.repr_of_reads' rd hs (PyData.noDict_hsm hno) hg (by omega) (fun _ _ e => e) (fun h' u tk hk => ⟨.str d.shown, H, I.kept (t' := tk) hk, ⟨_, rfl⟩, q⟩) hsz
/-- a class's own __str__ or __repr__ -/
structure StrC (X : Cx) (C : Addr) (name : Str) (sp : Sp) : Prop where
  ex : ∃ (g : Addr) (fd : FuncData) (k : Nat), PySem.W.findIn X.K (.ref C) name = some (some (.ref g)) ∧ PySem.W.isFn X.K (.ref g) = true ∧ FnOk X.prog X.w X.K X.mg X.base CX0 k g fd ["self"] sp ∧ Room (k + 3) X.A ∧ Binds X.K fd ["self"] []
def rStrOwn (S : Addr → Prop) (spS : Addr → Sp) : List V → Hp → VK → Prop := fun xs H Q => ∃ a C dx fs, xs = [.ref a] ∧ H a = some (.ins C dx fs) ∧ S C ∧ spS C [.ref a] H (fun z H' => ∃ y, z = .str y ∧ Q (.str y) H') E0
theorem gives_str {pins : List (Addr × Obj)} {σ : L2.St} {H : Hp} {s : Shared} {A : Around} {g a : Addr} {fd : FuncData} {k : Nat} {sp : Sp} {Q' : VK} {E' : Value → Shared → Prop} (F : FnOk X.prog X.w X.K X.mg X.base CX0 k g fd ["self"] sp) (hr : Room k A) (hb : Binds X.K fd ["self"] [])
    (e0 : Env0 X.prog X.w X.K X.mg X.base A X.stack s H) (I : Inv X pins σ H s) (h : sp [.ref a] H (fun z H' => ∃ y, z = .str y ∧ Q' (.str y) H') E0) :
    wpAny (model X.prog X.w) A (call (.ref g) [.ref a]) (PySem.W.StrBack (EP X pins σ Q')) E' s := by
  refine wpAny_call (codeAny_mono (F.run A X.stack s H ⟨[.ref a], []⟩ [.ref a] [.ref a] _ E0 hr e0 (by simpa using hb s [.ref a] I.kIn rfl) (.cons rfl .nil) h) fun r s' hq => ?_)
  cases r with
  | error e => exact False.elim hq
  | ok fl =>
    cases fl with
    | ret u =>
      obtain ⟨v, H', I', rv, y, ev, q⟩ := I.after hq
      subst ev
      obtain ⟨t, rfl⟩ := rv
      exact ⟨.str y, H', I', ⟨t, rfl⟩, q⟩
    | next => exact False.elim hq
    | brk => exact False.elim hq
    | cont => exact False.elim hq
theorem call_strOwn {S : Addr → Prop} {spS : Addr → Sp} (T : ∀ C, S C → StrC X C "__str__" (spS C)) : CallR X (.type "str") (rStrOwn S spS) := by
  intro pins s σ H xs us Q I r h
  obtain ⟨a, C, dx, fs, rfl, ha, hS, q⟩ := h
  obtain ⟨u, rfl, ru⟩ := r.one
  obtain rfl : u = Value.ref a := ru
  obtain ⟨g, fd, k, h1, h2, GF, hr, hb⟩ := T C hS
  obtain ⟨mA, O, _⟩ := ins_get I.hok ha
  obtain ⟨od, J, _⟩ := O.look
  have hr2 : Room k X.A.in1.in1 := ((show Room (k + 2) X.A from hr.mono (by omega)).in1).in1
  exact PySem.W.kso_call hr2.units0 I.kIn J h1 h2 (gives_str GF hr2 hb I.env0.in1.in1 I q)
theorem call_reprOwn {S : Addr → Prop} {spS : Addr → Sp} (T : ∀ C, S C → StrC X C "__repr__" (spS C)) : CallR X (.builtin "repr") (rStrOwn S spS) := by
  intro pins s σ H xs us Q I r h
  obtain ⟨a, C, dx, fs, rfl, ha, hS, q⟩ := h
  obtain ⟨u, rfl, ru⟩ := r.one
  obtain rfl : u = Value.ref a := ru
  obtain ⟨g, fd, k, h1, h2, GF, hr, hb⟩ := T C hS
  obtain ⟨mA, O, _⟩ := ins_get I.hok ha
  obtain ⟨od, J, _⟩ := O.look
  obtain ⟨m, hF⟩ := I.fr
  have hr2 : Room k X.A.in1 := (show Room (k + 1) X.A from hr.mono (by omega)).in1
  exact PySem.W.repr_K hr2.units0 hF I.ok.mod.kin J h1 h2 (gives_str GF hr2 hb I.env0.in1 I q)
end
end Sup
/-! {e for x in xs if ..}, e an int or a text (SetK), and len of such a set -/
namespace SetT
open PySem PySem.Spec PyProof.Rows L2
/-- the empty set at D -/
abbrev zeroK (P : Program) (w : World) (D : Addr) : HO := SetK P w D (fun _ => false) 0
/-- y is added to the set at D, then Nx -/
def rAdd (P : Program) (w : World) (D : Addr) (y : V) (H : Hp) (Nx : Hp → Prop) : Prop := ∃ (c : Key) (S : Key → Bool) (n : Nat), y = kV c ∧ H D = some (SetK P w D S n) ∧ n + 1 < scanBound ∧ Nx (upd H D (SetK P w D (fun j => S j || decide (j = c)) (if S c = true then n else n + 1)))
/-- one turn's reading -/
def turnT (P : Program) (w : World) (D : Addr) (g : TG) (tt : TT) (te : TE) (vs : List Nat) (σ : L2.St) (Nx : Hp → Prop) (x : V) (H : Hp) : Prop :=
  g x (wipe σ vs) H fun σ2 H2 => wipe σ2 vs = wipe σ vs ∧ tt σ2 H2 fun b H3 => if b = true then te σ2 H3 fun y H4 => rAdd P w D y H4 Nx else Nx H3
/-- all turns: W i m: ahead of turn i, m falls -/
def loopT (P : Program) (w : World) (D : Addr) (J : It) (g : TG) (tt : TT) (te : TE) (vs : List Nat) (σ : L2.St) (W : Nat → Nat → Hp → Prop) (Qd : Hp → Prop) : Prop :=
  ∀ i m H, W i m H → (J.stop i H ∧ Qd H) ∨ (J.go i H ∧ ∃ Nx : Hp → Prop, (∀ H', Nx H' → ∃ m', m' < m ∧ W (i + 1) m' H') ∧ ∀ x H', J.yld i H x H' → turnT P w D g tt te vs σ Nx x H')
def tSet (P : Program) (w : World) (wi : TI) (g : TG) (tt : TT) (te : TE) (vs : List Nat) : TE := fun σ H Q => wi σ H fun J H1 => ∀ D, H1 D = none → ∃ W : Nat → Nat → Hp → Prop, (∃ m, W 0 m (upd H1 D (zeroK P w D))) ∧ loopT P w D J g tt te vs σ W (Q (.ref D))
section
variable {X : Cx}
theorem zero_new {P : Program} {w : World} {h : Heap} : (h.push { cls := .type "set", dict := none, data := .set #[] 0 (.fresh 0 0 (!w.params.followText "set-order")) }).SetOf (mixKind P w) h.objs.size (fun _ => false) 0 :=
  ⟨_, #[], 0, _, Heap.get?_push_size _ rfl, ⟨rfl, rfl, rfl⟩, rfl, (fun e he => by simp at he), (fun k => by simp), (by decide), (by rfl), rfl⟩
/-- the loop in the block's context Y -/
theorem loop_run {Y : Cx} {elt tg iter : Expr} {ifs : List Expr} {scope : Scope} {pos : Pos} {it D : Addr} {J : It} {g : TG} {tt : TT} {te : TE} {vs : List Nat} {fp : List Addr} {tn : Nat → Heap → Prop} {σ : L2.St} {W : Nat → Nat → Hp → Prop} {Qd : Hp → Prop} {R : Result → Shared → Prop}
    (hc : Y.calm = true) (T : Turn Y.prog Y.w Y.K tg J fp it tn) (hg : PG Y tg g) (ht : PTs Y ifs tt) (he : PE Y elt te) (hl : loopT Y.prog Y.w D J g tt te vs σ W Qd)
    (xe : ∀ e s', Y.xe e s' → notedBy (model Y.prog Y.w) Y.A Y.env (fun e s' => R (.error e) s') e s')
    (stat : ∀ (σ' : L2.St) (H' : Hp) (s' : Shared), Inv Y [] σ' H' s' → (∀ b ∈ fp, H' b = none) → ∀ b ∈ fp, FpOk Y [] H' b)
    (fin : ∀ i s' H', Inv Y [] (wipe σ vs) H' s' → tn i s'.heap → (∀ b ∈ fp, H' b = none) → J.stop i H' → Qd H' → ∀ s6, Inv Y [] (wipe σ vs) H' s6 → R (.ok .next) s6)
    {i m : Nat} {H : Hp} {s : Shared} (I : Inv Y [] (wipe σ vs) H s) (st : tn i s.heap) (nf : ∀ b ∈ fp, H b = none) (hw : W i m H) :
    codeAny (model Y.prog Y.w) Y.A (.compLoop (.SetComp elt [⟨tg, iter, ifs, 0⟩] scope pos) 0 (.ref it) (.ref D) Y.env) R s := by
  refine PpSet.compLoopS_any (fun n s' => ∃ i H', Inv Y [] (wipe σ vs) H' s' ∧ tn i s'.heap ∧ (∀ b ∈ fp, H' b = none) ∧ W i n H') ?_ m ⟨i, H, I, st, nf, hw⟩
  rintro n s5 ⟨i, H5, I5, st5, n5, w5⟩
  rcases hl i n H5 w5 with ⟨stop, qq⟩ | ⟨go, Nx, hNx, step⟩
  · refine thnF (T.done Y rfl rfl rfl hc i [] s5 _ H5 (fun _ _ => False) I5 (stat _ _ _ I5 n5) st5 stop) fun r s6 ⟨hr, I6⟩ => ?_
    subst hr
    exact fin i s5 H5 I5 st5 n5 stop qq s6 I6
  · refine thnF (T.item Y rfl rfl rfl hc i [] s5 _ H5 (fun _ _ => False) I5 (stat _ _ _ I5 n5) st5 go) fun r s6 ⟨u, hr, h6⟩ => ?_
    subst hr
    refine thnF h6 fun _ s7 ⟨x, H7, I7, r7, y7, st7, n7⟩ => ?_
    have I7' := I7.pinned (stat _ _ _ I7 n7) (T.obj _ _ st7)
    refine wpAny_mono (hg.run _ s7 _ H7 x u _ I7' r7 (step x H7 y7)) (fun _ s8 ⟨σ8, H8, I8, hw8, q8⟩ => ?_) xe
    -- what stands when a turn is through
    have back : ∀ {s' : Shared} {H' : Hp}, Inv Y ([] ++ pinsAt fp s7.heap) σ8 H' s' → Nx H' → ∃ m, m < n ∧ ∃ i H', Inv Y [] (wipe σ vs) H' s' ∧ tn i s'.heap ∧ (∀ b ∈ fp, H' b = none) ∧ W i m H' := fun {s' H'} I' nx => by
      obtain ⟨m', hm, w'⟩ := hNx H' nx
      have held : ∀ b ∈ fp, ∀ o, s7.heap.get? b = some o → s'.heap.get? b = some o ∧ H' b = none := fun b hb o e => by
        have z := I'.pin (b, o) (List.mem_append_right _ (List.mem_append_right _ (mem_pinsAt hb e)))
        exact ⟨z.1, z.2.1⟩
      refine ⟨m', hm, i + 1, H', ?_, T.keep _ _ _ st7 fun b hb o e => (held b hb o e).1, fun b hb => ?_, w'⟩
      · refine (I'.unpinned (pins := [])).weak (by rw [← hw8, wipe_length]) fun j v e => ?_
        rw [← hw8] at e
        exact (wipe_some e).1
      · obtain ⟨o, e, _⟩ := T.obj _ _ st7 b hb
        exact (held b hb o e).2
    refine wpAny_mono (ht.run _ s8 σ8 H8 _ I8 q8) (fun b s9 ⟨H9, I9, q9⟩ => ?_) xe
    cases b with
    | false =>
      simp only [Bool.false_eq_true, if_false] at q9 ⊢
      exact back I9 q9
    | true =>
      simp only [if_true] at q9 ⊢
      refine wpAny_mono (he.run _ s9 σ8 H9 _ I9 q9) (fun z s10 ⟨yv, H10, I10, r10, c, S, n0, ey, hD, hz, nx⟩ => ?_) xe
      refine wpAny_mono (mt_saddK _ s10 σ8 H10 (.ref D) [yv] (.ref D) [z] (fun _ H' => Nx H') I10 rfl (.cons r10 .nil) ⟨D, c, S, n0, rfl, by rw [ey], hD, hz, nx⟩) (fun _ s11 ⟨_, H11, I11, _, q11⟩ => back I11 q11) xe
/-- the block's start, the set at D laid -/
theorem start_run {elt tg iter : Expr} {ifs : List Expr} {scope : Scope} {own : List (PySem.Str × Nat)} {pos : Pos} {J : It} {g : TG} {tt : TT} {te : TE} {pins : List (Addr × Obj)} {σ : L2.St} {s3 : Shared} {H3 : Hp} {it D : Addr} {fp : List Addr} {tn : Nat → Heap → Prop} {W : Nat → Nat → Hp → Prop} {m0 : Nat} {Q : VK}
    (hc : X.calm = true) (hN : X.N.Nodup) (ok : BlkOk X.N X.env.scope scope own) (I3 : Inv X pins σ H3 s3) (f3 : ∀ b ∈ fp, FpOk X pins H3 b ∧ b < s3.heap.objs.size) (T : Turn X.prog X.w X.K tg J fp it tn) (st3 : tn 0 s3.heap)
    (hg : ∀ (s : Shared) (H : Hp) (C : Addr) (cl : List (PySem.Str × Addr)) (fp : List Addr), PG (X.blk s H scope (compEnvC scope cl C X.env) fp) tg g) (ht : ∀ (s : Shared) (H : Hp) (C : Addr) (cl : List (PySem.Str × Addr)) (fp : List Addr), PTs (X.blk s H scope (compEnvC scope cl C X.env) fp) ifs tt)
    (he : ∀ (s : Shared) (H : Hp) (C : Addr) (cl : List (PySem.Str × Addr)) (fp : List Addr), PE (X.blk s H scope (compEnvC scope cl C X.env) fp) elt te) (w0 : W 0 m0 H3) (hl : loopT X.prog X.w D J g tt te (own.map (·.2)) σ W (Q (.ref D))) :
    codeAny (model X.prog X.w) X.A (.compStart (.SetComp elt [⟨tg, iter, ifs, 0⟩] scope pos) 0 (.ref it) (.ref D) (compEnvC scope (cellsFrom (s3.heap.objs.size + 1) scope.names (cloFrom X.env.cells scope.names [])) s3.heap.objs.size X.env))
      (compPost (model X.prog X.w) X.A X.xe none (EP X pins σ Q) (.ref D) s3.heap.objs.size) { s3 with heap := pushCells (s3.heap.push { cls := .type "dict", data := .dict #[] }) scope.names } := by
  have I4 := block_start I3 ok hN f3
  have st4 := T.keep _ _ (pushCells (s3.heap.push { cls := .type "dict", data := .dict #[] }) scope.names) st3 fun b _ o e => pushCells_keeps _ _ _ _ (Heap.get?_push_of_some _ e)
  have loop := loop_run (Y := X.blk s3 H3 scope (compEnvC scope (cellsFrom (s3.heap.objs.size + 1) scope.names (cloFrom X.env.cells scope.names [])) s3.heap.objs.size X.env) fp) (elt := elt) (iter := iter) (scope := scope) (pos := pos)
    (R := compPost (model X.prog X.w) X.A X.xe none (EP X pins σ Q) (.ref D) s3.heap.objs.size) hc T (hg _ _ _ _ _) (ht _ _ _ _ _) (he _ _ _ _ _) hl (fun _ _ z => False.elim z)
    (fun σ' H' s' I' hn b hb => ⟨hn b hb, (I'.ok.exf b hb).1, I'.ok.exfs b hb, .inl hb, fun x c e => (I'.ok.exf b hb).2 x c e, fun p hp => absurd (show p ∈ ([] : List (Addr × Obj)) ++ [] from hp) (by simp)⟩)
    (fun i s' H' I' _ _ _ qd s6 I6 => ?_) I4 st4 (fun b hb => (f3 b hb).1.1) w0
  · exact PpSet.codeAny_compStart_set loop (T.self X.A 0 _ _ _ st4 loop)
  · have I7 : Inv X pins σ H' s6 := I3.call' (ch := fp) I6.os I6.base I6.hok I6.bare fun b hb => ⟨(f3 b hb).1.2.2.2.1, (f3 b hb).1.2.1, (f3 b hb).1.2.2.2.2.1, (f3 b hb).1.2.2.2.2.2⟩
    have nC : H' s3.heap.objs.size = none := I6.free
    obtain ⟨m, hn, _⟩ := I6.loc
    obtain ⟨f0, f1, f2', f4, f5, f6⟩ := I3.fpOk (H' := H') (Nat.le_refl _) nC
    exact ⟨m, hn, fun h'' sb => ⟨.ref D, H', I7.turned (t' := s6.toks) (fun b o hb e => (sb.2 b hb).trans e) f0 f1 f4 f5 f6, rfl, qd⟩⟩
/-- {e for x in xs if ..} -/
theorem pe_set {elt tg iter : Expr} {ifs : List Expr} {scope : Scope} {own : List (PySem.Str × Nat)} {pos : Pos} {wi : TI} {g : TG} {tt : TT} {te : TE} (hc : X.calm = true) (hN : X.N.Nodup) (hi : PI X tg iter wi) (ok : BlkOk X.N X.env.scope scope own)
    (hg : ∀ (s : Shared) (H : Hp) (C : Addr) (cl : List (PySem.Str × Addr)) (fp : List Addr), PG (X.blk s H scope (compEnvC scope cl C X.env) fp) tg g) (ht : ∀ (s : Shared) (H : Hp) (C : Addr) (cl : List (PySem.Str × Addr)) (fp : List Addr), PTs (X.blk s H scope (compEnvC scope cl C X.env) fp) ifs tt)
    (he : ∀ (s : Shared) (H : Hp) (C : Addr) (cl : List (PySem.Str × Addr)) (fp : List Addr), PE (X.blk s H scope (compEnvC scope cl C X.env) fp) elt te) (hs : ∀ x, foldedSetIterable iter X.env x = pure x := by intro _; rfl) :
    PE X (.SetComp elt [⟨tg, iter, ifs, 0⟩] scope pos) (tSet X.prog X.w wi g tt te (own.map (·.2))) := by
  refine ⟨fun pins s σ H Q I h => ?_⟩
  have hfree : ∀ y ∈ scope.names, y.2 = .free → ∃ c, X.env.cells.lookup y.1 = some c := fun y hy e => (ok.free y hy e).elim (fun k => I.ok.has _ (.inl k)) fun k => I.ok.has _ (.inr k)
  rw [PpSet.eval_SetComp]
  refine wpAny_comprehension_free (use := none) rfl hs (closure_ok hfree) ok.kind (fun y hy e => by rw [ok.uniq y hy, e]) (thn (hi.run pins s σ H _ I h) fun xv s1 hx => thn hx fun itv s2 h2 => ?_)
  obtain ⟨it, fp, tn, J, H2, e, I2, T, st2, f2, q⟩ := h2
  subst e
  refine PpSet.newSet_ok (newEnv_comp ?_)
  obtain ⟨W, ⟨m0, w0⟩, hl⟩ := q _ (I2.hok.fresh (Nat.le_refl s2.heap.objs.size))
  have kp : ∀ b o, s2.heap.get? b = some o → (s2.heap.push { cls := .type "set", dict := none, data := .set #[] 0 (.fresh 0 0 (!X.w.params.followText "set-order")) }).get? b = some o := fun b o e => Heap.get?_push_of_some _ e
  refine start_run (s3 := { s2 with heap := s2.heap.push { cls := .type "set", dict := none, data := .set #[] 0 (.fresh 0 0 (!X.w.params.followText "set-order")) } }) hc hN ok
    (I2.laid (t' := s2.toks) kp (Nat.le_refl _) (setK_new (P := X.prog) (w := X.w) (H := upd H2 s2.heap.objs.size (zeroK X.prog X.w s2.heap.objs.size)) zero_new)) (fun b hb => ?_) T (T.keep _ _ _ st2 fun b _ o e => kp b o e) hg ht he w0 hl
  obtain ⟨o, e, _⟩ := T.obj _ _ st2 b hb
  have lt := Heap.lt_size e
  refine ⟨⟨?_, (f2 b hb).2⟩, by rw [Heap.size_push]; exact Nat.lt_succ_of_lt lt⟩
  rw [upd_ne (Nat.ne_of_lt lt)]
  exact (f2 b hb).1
/-- len of such a set -/
theorem call_len_setK : CallR X (.builtin "len") (fun xs H Q => ∃ p S n, xs = [.ref p] ∧ H p = some (SetK X.prog X.w p S n) ∧ Q (.int n) H) := by
  intro pins s σ H xs us Q I r h
  obtain ⟨p, S, n, rfl, hp, q⟩ := h
  obtain ⟨u, rfl, rx⟩ := vals1 r
  cases rx
  obtain ⟨o, es, ep, t, ho, hex, hd, _, _, hb, hf, hn⟩ := setK_get I hp
  exact call_len_set ho hex hd hf (Int.lt_trans (Int.ofNat_lt.mpr hb) (by decide)) ⟨.int n, H, I.tok _, ⟨_, by rw [hn]⟩, q⟩
end
/-- over a walk -/
theorem set_it {J : It} {n : Nat} {G : Hp → Prop} {Y : Nat → Hp → V → Hp → Prop} (wk : Walk J n G Y) {P : Program} {w : World} {g : TG} {tt : TT} {te : TE} {vs : List Nat} {σ : L2.St} {H1 : Hp} {D : Addr} {Qd : Hp → Prop} (Pv : Nat → Hp → Prop) (h0 : Pv 0 (upd H1 D (zeroK P w D))) (hG : ∀ i H, i ≤ n → Pv i H → G H)
    (hs : ∀ i x H H', i < n → Pv i H → Y i H x H' → turnT P w D g tt te vs σ (Pv (i + 1)) x H') (hd : ∀ H, Pv n H → Qd H) :
    ∃ W : Nat → Nat → Hp → Prop, (∃ m, W 0 m (upd H1 D (zeroK P w D))) ∧ loopT P w D J g tt te vs σ W Qd := by
  refine ⟨fun i m H => m + i = n ∧ Pv i H, ⟨n, rfl, h0⟩, fun i m H ⟨e, p⟩ => ?_⟩
  have q := hG i H (by omega) p
  match m, e with
  | 0, e =>
    obtain rfl : i = n := by omega
    exact .inl ⟨wk.stops H q, hd H p⟩
  | m + 1, e => exact .inr ⟨wk.goes i H (by omega) q, Pv (i + 1), fun H' p' => ⟨m, Nat.lt_succ_self m, by omega, p'⟩, fun x H' y => hs i x H H' (by omega) p (wk.yields i H x H' (by omega) q y)⟩
/-- {k: v for ..} over a walk -/
theorem dict_it {J : It} {n : Nat} {G : Hp → Prop} {Y : Nat → Hp → V → Hp → Prop} (wk : Walk J n G Y) {g : TG} {tt : TT} {tk tv : TE} {vs : List Nat} {σ : L2.St} {H1 : Hp} {D : Addr} {Qd : Hp → Prop} (Pv : Nat → Hp → Prop) (h0 : Pv 0 (upd H1 D (.dK []))) (hG : ∀ i H, i ≤ n → Pv i H → G H)
    (hs : ∀ i x H H', i < n → Pv i H → Y i H x H' → g x (wipe σ vs) H' fun σ2 H2 => wipe σ2 vs = wipe σ vs ∧ tt σ2 H2 fun b H3 =>
      if b = true then tk σ2 H3 fun y H4 => tv σ2 H4 fun z H5 => ∃ kvs k, y = kV k ∧ H5 D = some (.dK kvs) ∧ kvs.length < sizeLine ∧ Pv (i + 1) (upd H5 D (.dK (putK kvs k z))) else Pv (i + 1) H3) (hd : ∀ H, Pv n H → Qd H) :
    ∃ W : Nat → Nat → Hp → Prop, (∃ m, W 0 m (upd H1 D (.dK []))) ∧ ∀ i m H, W i m H →
      (J.stop i H ∧ Qd H) ∨ (J.go i H ∧ ∃ Nx : Hp → Prop, (∀ H', Nx H' → ∃ m', m' < m ∧ W (i + 1) m' H') ∧ ∀ x H', J.yld i H x H' → g x (wipe σ vs) H' fun σ2 H2 => wipe σ2 vs = wipe σ vs ∧ tt σ2 H2 fun b H3 =>
        if b = true then tk σ2 H3 fun y H4 => tv σ2 H4 fun z H5 => ∃ kvs k, y = kV k ∧ H5 D = some (.dK kvs) ∧ kvs.length < sizeLine ∧ Nx (upd H5 D (.dK (putK kvs k z))) else Nx H3) := by
  refine ⟨fun i m H => m + i = n ∧ Pv i H, ⟨n, rfl, h0⟩, fun i m H ⟨e, p⟩ => ?_⟩
  have q := hG i H (by omega) p
  match m, e with
  | 0, e =>
    obtain rfl : i = n := by omega
    exact .inl ⟨wk.stops H q, hd H p⟩
  | m + 1, e => exact .inr ⟨wk.goes i H (by omega) q, Pv (i + 1), fun H' p' => ⟨m, Nat.lt_succ_self m, by omega, p'⟩, fun x H' y => hs i x H H' (by omega) p (wk.yields i H x H' (by omega) q y)⟩
/-! ### how many unlike ones -/
def nd : List Str → Nat
  | [] => 0
  | x :: xs => if x ∈ xs then nd xs else nd xs + 1
theorem nd_le : ∀ xs : List Str, nd xs ≤ xs.length
  | [] => Nat.le_refl 0
  | x :: xs => by
    have := nd_le xs
    unfold nd
    rw [List.length_cons]
    split <;> omega
theorem nd_iff : ∀ xs : List Str, nd xs < xs.length ↔ ¬ xs.Nodup
  | [] => by simp [nd]
  | x :: xs => by
    have h1 := nd_le xs
    have h2 := nd_iff xs
    unfold nd
    rw [List.length_cons, List.nodup_cons]
    by_cases hx : x ∈ xs
    · rw [if_pos hx]
      exact ⟨fun _ z => z.1 hx, fun _ => by omega⟩
    · rw [if_neg hx]
      constructor
      · intro h z
        exact h2.mp (by omega) z.2
      · intro h
        have : nd xs < xs.length := h2.mpr fun z => h ⟨hx, z⟩
        omega
end SetT
/-! defs with *args and keyword-only parameters, called with keywords; C(*y, k = v), C.m(e, k = v) -/
namespace StK
open PySem PySem.Spec PyProof.Rows L2
open StX
/-- as KwChain, but r is what is left to be done -/
def KwEnd {α : Type} (D : Addr) : List (Str × Value) → Sem α → Sem α → Prop
  | [], t, r => t = r
  | q :: l, t, r => ∃ (β γ : Type) (k1 : Option Value → Sem β) (k2 : β → Sem γ) (k3 : γ → Sem α) (a : β), t = ((nsGet D q.1 >>= k1) >>= k2) >>= k3 ∧ k1 (some q.2) = pure a ∧ KwEnd D l (k2 a >>= k3) r
theorem KwEnd.run {α : Type} {K : PySem.W.Frag} {M : Model} {A : Around} {Ex : Value → Shared → Prop} {Q : α → Shared → Prop} {s : Shared} {D : Addr} (X : K.In s.heap) : ∀ {l : List (Str × Value)} {t r : Sem α}, (∀ q ∈ l, PySem.W.nsIn K D q.1 = some (some q.2)) → KwEnd D l t r → wpAny M A r Q Ex s → wpAny M A t Q Ex s
  | [], t, r, _, e, h => by
    obtain rfl : t = r := e
    exact h
  | q :: l, t, r, hl, e, h => by
    obtain ⟨β, γ, k1, k2, k3, a, e1, e2, e3⟩ := e
    have l1 : PySem.W.Looks M s.heap (nsGet D q.1 >>= k1) a := (PySem.W.looks_nsIn X (hl q (List.mem_cons_self ..))).andThen (PySem.W.Looks.of_pure e2)
    rw [e1, bind_assoc]
    exact wpAny_bind (l1.here (KwEnd.run X (fun p hp => hl p (List.mem_cons_of_mem _ hp)) e3 h))
/-- a promise by positional values and by the values of the keywords ks -/
def FnK (P : Program) (w : World) (K : PySem.W.Frag) (mg : Str → Option Value) (base : Heap) (CX : CXT) (k : Nat) (f : Addr) (ks : List Str) (sp : List V → List V → Hp → VK → XK → Prop) : Prop :=
  ∀ (A : Around) (outer : List Env) (s : Shared) (H : Hp) (us ws : List Value) (vs zs : List V) (Q : VK) (E : XK), Room k A → Env0 P w K mg base A outer s H → Vals vs us → Vals zs ws → zs.length = ks.length → sp vs zs H Q E →
    codeAny (model P w) A (.call (.ref f) ⟨us, ks.zip ws⟩) (CR CX outer P w H s Q E) s
section
variable {CX : CXT} {P : Program} {w : World} {K : PySem.W.Frag} {mg : Str → Option Value} {base : Heap} {k : Nat} {f : Addr} {x qual : Str} {params : Arguments} {body : List Stmt} {scope : Scope} {kws : List (Str × V)} {fd : FuncData} {N ps : List Str} {sp : Sp}
theorem FnK.mono {j : Nat} {ks : List Str} {sp : List V → List V → Hp → VK → XK → Prop} (F : FnK P w K mg base CX j f ks sp) (h : j ≤ k) : FnK P w K mg base CX k f ks sp := fun A outer s H us ws vs zs Q E hr => F A outer s H us ws vs zs Q E (hr.mono h)
theorem FnK.imp {ks : List Str} {sp sp' : List V → List V → Hp → VK → XK → Prop} (F : FnK P w K mg base CX k f ks sp) (h : ∀ vs zs H Q E, sp' vs zs H Q E → sp vs zs H Q E) : FnK P w K mg base CX k f ks sp' := fun A outer s H us ws vs zs Q E hr e0 r rz hl hs => F A outer s H us ws vs zs Q E hr e0 r rz hl (h _ _ _ _ _ hs)
/-- what a def with *v is promised of: the values ahead, a new tuple of the rest -/
def spStarK (n : Nat) (gV : List V → List V → List V) (sp : Sp) : List V → List V → Hp → VK → XK → Prop := fun vs zs H Q E => ∃ ws rest, vs = ws ++ rest ∧ ws.length = n ∧ rest.length ≤ sizeLine ∧ ∀ p, H p = Option.none → sp (gV ws zs ++ [V.ref p]) (upd H p (.tup rest)) Q E
/-- def f(a, .., *v, k = d, ..): n positional values ahead, keywords ks, ms: the keyword-only parameters that lack -/
theorem fn_starK {pv : Str} (F : FunD K x qual params body scope [] kws f fd) (S : FnScope N (ps ++ [pv]) scope) (hCX : CXUp CX) (n : Nat) (ks : List Str) (ms : List (Str × V)) (g : {α : Type} → List α → List α → List α → List α) (hk : kws ≠ []) (hms : ∀ q ∈ ms, q ∈ kws)
    (hrel : ∀ {vs mz zs : List V} {us mv ws : List Value}, Vals vs us → Vals mz mv → Vals zs ws → Vals (g vs mz zs) (g us mv ws))
    (hgl : ∀ (us mv ws : List Value), us.length = n → mv.length = ms.length → ws.length = ks.length → (g us mv ws).length = ps.length)
    (hb : ∀ (D : Addr) (doc pm : Value) (an : Option Addr) (cdv ct : Value) (us rest mv ws : List Value), us.length = n → mv.length = ms.length → ws.length = ks.length →
      KwEnd D ((ms.map (·.1)).zip mv) (bindArgs (PySem.W.fnOf x qual params body scope .none (.ref D) doc pm an cdv ct) ⟨us ++ rest, ks.zip ws⟩) (newTuple rest >>= fun t => pure (ps.zip (g us mv ws) ++ [(pv, t)])))
    (hbody : ∀ (cdv : Value) (A : Around) (outer : List Env) (s : Shared) (H : Hp) (vs : List V) (Q : VK) (E : XK), Room k (A.deeper (envOfC qual scope s.heap.objs.size f cdv)) → sp vs H Q E →
      ∃ t, PSs (cxOf CX P w K mg base N qual scope f cdv A outer s H E) body t ∧ t { nx := fun _ H' => Q .non H', rt := Q } (start N vs) H) :
    FnK P w K mg base CX (k + 1) f ks (spStarK n (fun vs zs => g vs (ms.map (·.2)) zs) sp) := by
  obtain ⟨oc, od, dV, kV, doc, pm, an, cdv, ct, osl, rfl, lk, hcd, hD, hK⟩ := F.ex
  rcases hD with ⟨_, rfl⟩ | ⟨e, _⟩
  case inr => exact absurd rfl e
  rcases hK with e | ⟨D, rfl, hq⟩
  · exact absurd e hk
  obtain ⟨mv, hl, rk, hks⟩ := kwd_vals (ms := ms) fun q hm => hq q (hms q hm)
  intro A outer s H us ws vs zs Q E hr e0 r rz hzl hsp
  obtain ⟨v1, rest, ev, hl1, hz, hsp⟩ := hsp
  subst ev
  obtain ⟨u1, u2, eu, r1, r2⟩ := vals_split r
  subst eu
  have hn : H s.heap.objs.size = Option.none := e0.hok.fresh (Nat.le_refl _)
  have l1 : u1.length = n := by rw [← r1.length]; exact hl1
  have l2 : u2.length ≤ sizeLine := by rw [← r2.length]; exact hz
  have l3 : ws.length = ks.length := by rw [← rz.length]; exact hzl
  have gl := hgl u1 mv ws l1 hl l3
  have gr := hrel r1 rk rz
  refine run_bnd lk hcd S hr e0 (G := fun xs H2 => ∃ p, H p = Option.none ∧ xs = g v1 (ms.map (·.2)) zs ++ [V.ref p] ∧ H2 = upd H p (.tup rest)) (fun A' Ex Q' h => ?_) fun s2 H2 xs ⟨p, hp, ex, eH⟩ hr' => ?_
  · refine KwEnd.run (e0.mod.kin.keeps fun b o e => (e0.bs b o e).1) hks (hb D doc pm an cdv ct u1 u2 mv ws l1 hl l3) ?_
    refine wpAny_bind (wpAny_newTuple (wpAny_pure ?_) l2)
    have new : ObjOk P w (upd H s.heap.objs.size (.tup rest)) (s.heap.push ({ cls := .type "tuple", data := .seq u2.toArray } : Obj)) s.heap.objs.size (.tup rest) := ⟨hz, u2, r2, ⟨_, Heap.get?_push_size _ rfl, rfl, _, rfl⟩⟩
    have un := un_laid (fs := frs outer) (s := s) (o := ({ cls := .type "tuple", data := .seq u2.toArray } : Obj)) (u := .tup rest) hn
    have z := h _ _ (g v1 (ms.map (·.2)) zs ++ [V.ref s.heap.objs.size]) (g u1 mv ws ++ [Value.ref s.heap.objs.size]) (env0_laid e0 new) un rfl (fun e s' => hCX outer s H _ _ E e s' un (fun b o q => Heap.get?_push_of_some _ q) rfl) (gr.append (.cons rfl .nil))
      (by rw [List.length_append, List.length_append, gr.length, gl] <;> rfl) ⟨_, hn, rfl, rfl⟩
    rw [List.zip_append gl.symm] at z
    exact z
  · subst ex eH
    exact hbody cdv A outer s2 _ _ Q E hr' (hsp p hp)
end
section
variable {CX : CXT} {P : Program} {w : World} {K : PySem.W.Frag} {mg : Str → Option Value} {base : Heap} {k n : Nat} {f : Addr} {fd : FuncData} {ps ks : List Str} {sp : Sp} {g : List Value → List Value → List Value} {gV : List V → List V → List V}
/-- a promise with its binding, as a promise by keywords -/
theorem fnK_of (F : FnOk P w K mg base CX k f fd ps sp) (hb : KBn K fd ps n ks g gV) : FnK P w K mg base CX k f ks (fun vs zs H Q E => vs.length = n ∧ sp (gV vs zs) H Q E) := fun A outer s H us ws vs zs Q E hr e0 r rz hl hs =>
  F.run A outer s H ⟨us, ks.zip ws⟩ (g us ws) (gV vs zs) Q E hr e0 (hb.to s us ws (e0.mod.kin.keeps fun b o e => (e0.bs b o e).1) (r.length.symm.trans hs.1) (rz.length.symm.trans hl)) (hb.rel r rz) hs.2
end
/-! ### the call's node -/
section
variable {M : Model} {A : Around} {E : Value → Shared → Prop} {s : Shared}
theorem sk_lone {f : Value} {x : Sem Value} {pos : Pos} {keywords : List (Option Str × Sem Value)} {Q : Args → Shared → Prop} (hall : keywords.all (·.1.isSome) = true)
    (h : wpAny M A x (fun v s₁ => wpAny M A (evalAll (keywords.map (·.2))) (fun ks s₂ => PySem.W.StarOf M A E v (fun vs s₃ => Q ⟨vs, (keywords.filterMap (·.1)).zip ks⟩ s₃) s₂) E s₁) E s) :
    wpAny M A (evalArgs f true [(true, (do let v ← x; standAt pos; pure v))] keywords) Q E s := by
  unfold evalArgs
  first
    | refine wpAny_bind (wpAny_bind (wpAny_mono h (fun v s₁ h₁ => wpAny_bind (wpAny_standAt (wpAny_pure ?_))) fun _ _ x => x))
    | refine wpAny_bind (wpAny_bind (wpAny_bind (wpAny_mono h (fun v s₁ h₁ => wpAny_bind (wpAny_standAt (wpAny_pure (wpAny_pure ?_)))) fun _ _ x => x)))
  refine wpAny_holding ?_
  simp only [hall, if_true]
  refine wpAny_bind (wpAny_mono h₁ (fun ks s₂ h₂ => ?_) fun _ _ x => x)
  unfold PySem.W.StarOf at h₂
  refine wpAny_bind ?_
  refine wpAny_bind (wpAny_mono h₂ (fun b s₃ h₃ => ?_) fun _ _ x => x)
  obtain ⟨rfl, h₃⟩ := h₃
  have z := wpAny_holding (vs := (((keywords.filterMap (·.1)).zip ks).map (·.2))) (wpAny_mono h₃ (fun vs s₄ h₄ => h₄) fun _ _ x => x)
  try simp only [Bool.false_eq_true, if_false]
  first
    | exact wpAny_mono z (fun vs s₄ h₄ => wpAny_pure h₄) fun _ _ x => x
    | exact wpAny_bind (wpAny_pure (wpAny_mono z (fun vs s₄ h₄ => wpAny_pure h₄) fun _ _ x => x))
theorem sk_call {f : Value} {first : List Value} {pos : Pos} {Q : Value → Shared → Prop} {P : Heap → Prop} {args : List (Bool × Sem Value)} {kws : List (Option Str × Sem Value)} (hst : args.any (·.1) = true)
    (hk : ∀ h, P h → ∃ k, (k = Keeper.frame ∨ k = Keeper.machine ∨ k = Keeper.boundFrame) ∧ PySem.W.Looks M h (keeperOf f) k)
    (h : wpAny M A (evalArgs f true args kws) (fun a s₁ => P s₁.heap ∧ wpAny M A (call f (first ++ a.pos) a.kw) Q E s₁) E s) : wpAny M A (callWith pos f first args kws) Q E s := by
  unfold callWith
  refine wpAny_bind (wpAny_holding (wpAny_mono h (fun a s₁ h₁ => wpAny_bind (wpAny_standAt ?_)) fun _ _ x => x))
  obtain ⟨k, hk', L⟩ := hk _ h₁.1
  simp only [hst, Bool.true_or]
  refine wpAny_bind (L.here ?_)
  have tail : ∀ {t : Sem Value}, wpAny M A t Q E s₁ → wpAny M A (t >>= fun r => holding [r] point >>= fun _ => pure r) Q E s₁ :=
    fun ht => wpAny_bind (wpAny_mono ht (fun r s₂ hr => wpAny_bind (wpAny_holding (wpAny_point (wpAny_pure hr)))) fun _ _ x => x)
  have marked (mk : Value) : wpAny M A (callMarked mk f (first ++ a.pos) a.kw) Q E s₁ := by unfold callMarked; exact Calls.wpAny_keep h₁.2
  rcases hk' with rfl | rfl | rfl <;> dsimp only <;> first | exact tail (marked _) | exact tail (wpAny_operating h₁.2)
end
/-! ### making -/
/-- what the making of a C asks: behind the values t gives and the keywords' values, a new instance and its dict -/
def spMk (C : Addr) (sp : List V → List V → Hp → VK → XK → Prop) (E : XK) (vs zs : List V) (H : Hp) (Q : VK) : Prop := ∀ x dx, H x = Option.none → H dx = Option.none → dx ≠ x →
  sp (V.ref x :: vs) zs (upd (upd H dx (.own x)) x (.ins C dx [])) (fun v H2 => v = .non ∧ Q (.ref x) H2) E
section
variable {X : Cx} {CX : CXT} {k n i : Nat} {f C : Addr} {ks : List Str} {sp : List V → List V → Hp → VK → XK → Prop} {E : XK} {x m : Str} {p pos sp_ apos : Pos} {e o : Expr} {es : List Expr} {kws : List Keyword} {te ta : TE} {t tk : TA} {mc : Value} {q g : Addr}
theorem run_makeK {pins : List (Addr × Obj)} {σ : L2.St} {H : Hp} {s : Shared} {Q : VK} {us ws : List Value} {vs zs : List V} (M : Mk X.K C f) (F : FnK X.prog X.w X.K X.mg X.base CX k f ks sp) (hr : Room (k + 1) X.A) (hx : Passes CX X E) (I : Inv X pins σ H s) (r : Vals vs us) (rz : Vals zs ws) (hl : zs.length = ks.length)
    (h : spMk C sp E vs zs H Q) : wpAny (model X.prog X.w) X.A (call (.ref C) us (ks.zip ws)) (EP X pins σ Q) X.xe s := by
  have hq := h (s.heap.objs.size + 1) s.heap.objs.size (I.hok.fresh (Nat.le_succ _)) (I.hok.fresh (Nat.le_refl _)) (Nat.ne_of_lt (Nat.lt_succ_self _))
  have I2 := Inv.made (C := C) I
  have r2 : Vals (V.ref (s.heap.objs.size + 1) :: vs) (Value.ref (s.heap.objs.size + 1) :: us) := .cons rfl r
  refine wpAny_call (make_map (f := f) I.kIn M.makes M.init (beq_iff_eq.mp M.fn) (codeAny_mono (F _ X.stack _ _ (Value.ref (s.heap.objs.size + 1) :: us) ws _ zs _ E (hr.make C us (ks.zip ws)) (I2.env0.make C us (ks.zip ws)) r2 rz hl hq) fun r s' hq' => ?_))
  cases r with
  | error e => exact hx pins σ _ _ e s' I2 hq'
  | ok fl =>
    cases fl with
    | ret u =>
      obtain ⟨v, H', I3, rv, ev, q3⟩ := I2.after hq'
      subst ev
      exact ⟨rv, ⟨V.ref (s.heap.objs.size + 1), H', I3, rfl, q3⟩⟩
    | next => exact False.elim hq'
    | brk => exact False.elim hq'
    | cont => exact False.elim hq'
/-- C(e, .., k = v, ..), C a name of the module -/
def tMakeS (C : Addr) (m : Nat) (sp : List V → List V → Hp → VK → XK → Prop) (E : XK) (t tk : TA) : TE := fun σ H Q => t σ H fun vs H1 => tk σ H1 fun zs H2 => zs.length = m ∧ spMk C sp E vs zs H2 Q
theorem pe_makeS (M : Mk X.K C f) (F : FnK X.prog X.w X.K X.mg X.base CX k f ks sp) (hr : Room (k + 1) X.A) (hg : Gl X x) (hm : X.mg x = some (.ref C)) (hx : Passes CX X E) (ha : PA X (e :: es) t) (hkw : PK X kws tk)
    (hall : (backToKw pos (keywordEach kws X.env)).all (·.1.isSome) = true := by rfl) (hks : (backToKw pos (keywordEach kws X.env)).filterMap (·.1) = ks := by rfl) (hdb : (x == ("__debug__" : Str)) = false := by decide)
    (he : starEach (e :: es) X.env = (false, eval e X.env) :: starEach es X.env := by rfl) (hpl : ((backTo pos (starEach (e :: es) X.env)).any (·.1) || (backToKw pos (keywordEach kws X.env)).any (·.1.isNone)) = false := by rfl) :
    PE X (.Call (.Name x p) (e :: es) kws pos) (tMakeS C ks.length sp E t tk) := by
  refine ⟨fun pins s σ H Q I h => ?_⟩
  refine wpAny_Call_Name_kw (ld_glob I hg hm ?_ hdb)
  refine PySem.W.callWith_KW (h₀ := X.base) I.ok.mod.kin M.kp hall (thn (ha.run pos pins s σ H _ I h) fun us s1 ⟨vs, H1, I1, r, q⟩ => ?_) hpl he
  refine thn (hkw.run pos pins s1 σ H1 _ I1 q) fun ws s2 ⟨zs, H2, I2, rz, l2, q2⟩ => ⟨I2.kIn, ?_⟩
  rw [hks]
  exact run_makeK M F hr hx I2 r rz l2 q2
/-- c(*e, k = v, ..), c a name whose value is the class at C -/
def tMakeT (K : PySem.W.Frag) (C : Addr) (m : Nat) (sp : List V → List V → Hp → VK → XK → Prop) (E : XK) (tf te : TE) (tk : TA) : TE := fun σ H Q => tf σ H fun c H0 => c = .ref C ∧ te σ H0 fun y H1 => tk σ H1 fun zs H2 => zs.length = m ∧ ∃ a xs, y = V.ref a ∧ (SqT K H2 a xs ∨ SqL K H2 a xs) ∧ spMk C sp E xs zs H2 Q
theorem pe_makeT {tf : TE} (M : Mk X.K C f) (F : FnK X.prog X.w X.K X.mg X.base CX k f ks sp) (hr : Room (k + 1) X.A) (hx : Passes CX X E) (hf : PE X (.Name x p) tf) (he : PE X e te) (hkw : PK X kws tk)
    (hall : (backToKw pos (keywordEach kws X.env)).all (·.1.isSome) = true := by rfl) (hks : (backToKw pos (keywordEach kws X.env)).filterMap (·.1) = ks := by rfl)
    (hst : starEach [.Starred e sp_] X.env = [(true, eval e X.env)] := by rfl) :
    PE X (.Call (.Name x p) [.Starred e sp_] kws pos) (tMakeT X.K C ks.length sp E tf te tk) := by
  refine ⟨fun pins s σ H Q I h => ?_⟩
  refine wpAny_Call_Name_kw (thn (hf.run pins s σ H _ I h) fun u s1 ⟨c, H1, I1, rc, ec, q1⟩ => ?_)
  subst ec
  obtain rfl : u = Value.ref C := rc
  rw [hst]
  refine sk_call (P := X.K.In) rfl (PySem.W.keeps_K M.kp) (sk_lone hall (thn (he.run pins s1 σ H1 _ I1 q1) fun v s2 ⟨y, H2, I2, ry, q2⟩ => ?_))
  refine thn (hkw.run pos pins s2 σ H2 _ I2 q2) fun ws s3 ⟨zs, H3, I3, rz, l2, a, xs, ey, hxs, q3⟩ => ?_
  subst ey
  obtain rfl : v = Value.ref a := ry
  refine star_any I3 hxs fun us s4 I4 rv => ⟨I4.kIn, ?_⟩
  rw [hks]
  exact run_makeK M F hr hx I4 rv rz l2 q3
/-! ### classmethods -/
theorem run_cmK {Q : VK} {pins : List (Addr × Obj)} {σ : L2.St} {H : Hp} {s : Shared} {us ws : List Value} {vs zs : List V} (F : FnK X.prog X.w X.K X.mg X.base CX k g ks sp) (hr : Room k X.A) (hx : Passes CX X E) (I : Inv X ((q, PySem.W.methodObj (.ref g) (.ref C)) :: pins) σ H s)
    (r : Vals vs us) (rz : Vals zs ws) (hl : zs.length = ks.length) (h : sp (.ref C :: vs) zs H Q E) : wpAny (model X.prog X.w) X.A (call (.ref q) us (ks.zip ws)) (EP X pins σ Q) X.xe s := by
  have z : wpAny (model X.prog X.w) X.A (call (.ref q) us (ks.zip ws)) (EP X ((q, PySem.W.methodObj (.ref g) (.ref C)) :: pins) σ Q) X.xe s := by
    refine wpAny_call (PySem.W.method_call (ClX.pin_at I) (codeAny_mono (F X.A X.stack s H (.ref C :: us) ws (.ref C :: vs) zs Q E hr I.env0 (.cons rfl r) rz hl h) fun r s' hq => ?_))
    cases r with
    | error e => exact hx _ σ H s e s' I hq
    | ok fl =>
      cases fl with
      | ret u => exact I.after hq
      | next => exact False.elim hq
      | brk => exact False.elim hq
      | cont => exact False.elim hq
  exact thn z fun _ _ y => ClX.unpinE y
/-- C.m(e, .., k = v, ..), m a classmethod of C -/
def tCMethK (C : Addr) (m : Nat) (sp : List V → List V → Hp → VK → XK → Prop) (E : XK) (ta : TE) (t tk : TA) : TE := fun σ H Q => ta σ H fun x H1 => x = .ref C ∧ t σ H1 fun vs H2 => tk σ H2 fun zs H3 => zs.length = m ∧ sp (.ref C :: vs) zs H3 Q E
theorem pe_cmethK {pl : Sem Bool} (he : PE X o ta) (r : ClX.CRead X.K C mc) (c : ClX.CMet X.K C mc m q g) (F : FnK X.prog X.w X.K X.mg X.base CX k g ks sp) (hr : Room k X.A) (hx : Passes CX X E) (ha : PA X (e :: es) t) (hkw : PK X kws tk)
    (hall : (backToKw pos (keywordEach kws X.env)).all (·.1.isSome) = true := by rfl) (hks : (backToKw pos (keywordEach kws X.env)).filterMap (·.1) = ks := by rfl)
    (hst : starEach (e :: es) X.env = (false, eval e X.env) :: starEach es X.env := by rfl) (hpl : ((backTo pos (starEach (e :: es) X.env)).any (·.1) || (backToKw pos (keywordEach kws X.env)).any (·.1.isNone)) = false := by rfl)
    (ht : eval (.Call (.Attribute o m apos) (e :: es) kws pos) X.env = (do
      let ov ← eval o X.env
      standAt apos.atName
      let (f, first) ← holding [ov] (getMethod ov m pl)
      callWith pos f first (backTo pos (starEach (e :: es) X.env)) (backToKw pos (keywordEach kws X.env))) := by rfl) :
    PE X (.Call (.Attribute o m apos) (e :: es) kws pos) (tCMethK C ks.length sp E ta t tk) := by
  refine ⟨fun pins s σ H Q I h => ?_⟩
  refine PySem.W.methodCall_KW (pl := pl) (thn (he.run pins s σ H _ I h) fun u s1 ⟨x, H1, I1, rx, ex, q1⟩ => ?_) ht
  subst ex
  obtain rfl : u = Value.ref C := rx
  refine ClX.getmethcm_ok I1 r c fun s2 I2 => ?_
  refine PySem.W.callWith_of (P := PySem.W.MethP X.K _ g (.ref C)) hpl (PySem.W.keeps_M c.fi) ?_
  have z := ha.run pos _ s2 σ H1 _ I2 q1
  rw [hst] at z ⊢
  refine evalArgs_kw hall ?_
  refine thn z fun us s3 ⟨vs, H2, I3, rv, q2⟩ => ?_
  refine thn (hkw.run pos _ s3 σ H2 _ I3 q2) fun ws s4 ⟨zs, H3, I4, rz, l2, q3⟩ => ⟨⟨ClX.pin_at I4, I4.kIn⟩, ?_⟩
  rw [hks]
  exact run_cmK F hr hx I4 rv rz l2 q3
end
end StK
/-! try: .. / except x as e: c = e, and what c holds behind it -/
namespace KepE
open PySem PySem.Spec PyProof.Rows L2
/-- a caught exception at a: its class, its dict -/
def Kept (a : Addr) (cls : Value) (d : Option Addr) : HO := .ext fun h => ∃ (oe : Obj) (vs : Array Value), h.get? a = some oe ∧ Zc cls d oe ∧ oe.data = .fields vs
section
variable {X : Cx} {pins : List (Addr × Obj)} {s : Shared} {σ : L2.St} {H : Hp} {a : Addr}
/-- an object that was made since the entry is followed from now on -/
theorem track {o : HO} (I : Inv X pins σ H s) (h0 : X.s_0.heap.get? a = none) (hn : H a = none) (nL : a ≠ X.env.locals) (nC : ∀ x c, X.env.cells.lookup x = some c → c ≠ a) (nP : ∀ p ∈ X.pn ++ pins, p.1 ≠ a) (new : ObjOk X.prog X.w (upd H a o) s.heap a o) : Inv X pins σ (upd H a o) s := by
  have ne : ∀ {b : Addr} {u : HO}, H b = some u → b ≠ a := fun e => ne_of_none e hn
  refine ⟨I.ok, I.os, I.bare, ⟨I.base.keep, I.base.slot, fun b u q n hx => ?_, I.base.there, fun b xs q => ?_, fun b u v q => ?_, fun b ps q => ?_⟩, I.loc, I.cell, ?_, fun x c e => ?_, fun p hp => ?_, I.hok.laidN (fun _ _ e => e) hn new, I.len⟩
  · rw [upd_ne (fun z => by rw [z, h0] at q; cases q)]
    exact I.base.free b u q n hx
  · have e := I.base.tups b xs q
    rw [upd_ne (ne e)]
    exact e
  · have e := I.base.frzs b u v q
    rw [upd_ne (ne e)]
    exact e
  · obtain ⟨more, e⟩ := I.base.tbls b ps q
    exact ⟨more, by rw [upd_ne (ne e)]; exact e⟩
  · rw [upd_ne (Ne.symm nL)]
    exact I.free
  · rw [upd_ne (nC x c e)]
    exact I.freeC x c e
  · obtain ⟨p1, p2, p3⟩ := I.pin p hp
    exact ⟨p1, by rw [upd_ne (nP p hp)]; exact p2, p3⟩
end
/-- what the clause 'except x as e: c = e' wishes of the body's exception: e in the slot i, c in the slot j -/
def wKeep (K : PySem.W.Frag) (c : Value) (i j : Nat) (D : Ends) : WX := fun cls d σ H => PySem.W.exmOne K cls c = some true ∧ ∀ a, H a = none → D.nx (((σ.set i (some (.ref a))).set j (some (.ref a))).set i none) (upd H a (Kept a cls d))
section
variable {X : Cx} {x n m : Str} {c : Value} {i j : Nat} {body : List Stmt} {np p1 p2 p3 pos pos' : Pos} {tb : WX → TS}
/-- the suite: c = e, then the name e goes; the exception is followed -/
theorem suite_keep {pins : List (Addr × Obj)} {s5 : Shared} {σ : L2.St} {H : Hp} {a : Addr} {oe : Obj} {vs : Array Value} {cls : Value} {d : Option Addr} {D : Ends} {E : Value → Shared → Prop} (ok : X.Ok) (hN : X.N.Nodup) (hi : X.N[i]? = some n) (hln : X.env.kindOf n = some .local) (hj : X.N[j]? = some m) (hlm : X.env.scope.names.lookup m = some .local)
    (hdn : (n == ("__debug__" : Str)) = false) (hcn : (n == ("__classdict__" : Str)) = false) (h0 : X.s_0.heap.get? a = none) (hP : ∀ p ∈ X.pn ++ pins, p.1 ≠ a) (hz : Zc cls d oe) (hd : oe.data = .fields vs) (hs : swapsWith (.Name n p2) (some (.Name m p1)) p3.line X.env = pure false) (hlt : i < σ.length)
    (S : Inv (X.suite a ((a, oe) :: (X.pn ++ pins))) [] (σ.set i (some (.ref a))) H s5) (q : D.nx (((σ.set i (some (.ref a))).set j (some (.ref a))).set i none) (upd H a (Kept a cls d))) :
    wpAny (model X.prog X.w) (X.A.mark (some (.ref a))) (execs [.Assign [.Name m p1] (.Name n p2) p3] X.env) (fun f s6 => wpAny (model X.prog X.w) X.A (do bindName X.env n .none; unbindBehindTheSuite X.env n pos') (fun _ s7 => SP X pins D f s7) X.xe s6) E s5 := by
  have st : PSs (X.suite a ((a, oe) :: (X.pn ++ pins))) [.Assign [.Name m p1] (.Name n p2) p3] (tAsg (tVar i) (gName j)) := pss_one (ps_set (X := X.suite a ((a, oe) :: (X.pn ++ pins))) hN hj (.inl hlm) (pe_var hi (.inl hln) hdn hcn) hs (.inr hlm))
  refine wpAny_mono (st.run [] s5 _ H { nx := fun σ' H' => σ' = (σ.set i (some (.ref a))).set j (some (.ref a)) ∧ H' = H, rt := fun _ _ => False, bk := fun _ _ => False, ct := fun _ _ => False } S ⟨.ref a, by rw [List.getElem?_set_self hlt], rfl, rfl⟩) (fun f s6 r => ?_) (fun _ _ z => False.elim z)
  match f, r with
  | .next, r =>
    obtain ⟨σ6, H6, S6, rfl, rfl⟩ := r
    obtain ⟨e6, na, nL, _, _⟩ := S6.pin (a, oe) (List.mem_append_left _ List.mem_cons_self)
    have nC : ∀ y c, X.env.cells.lookup y = some c → c ≠ a := fun y c e z => by
      obtain ⟨v, o, ho, hv⟩ := S6.cell y c e
      rw [z, e6] at ho
      obtain rfl := Option.some.inj ho
      rw [hd] at hv
      cases hv
    exact gone_ok (track (o := Kept a cls d) (S6.unsuite ok) h0 na nL nC hP ⟨⟨oe, vs, e6, hz, hd⟩, ⟨oe, e6⟩, fun _ _ ⟨o, v, q, r⟩ k => ⟨o, v, k o q, r⟩⟩) hN hi hln fun s7 J7 => ⟨_, _, J7, q⟩
  | .ret u, r =>
    obtain ⟨_, _, _, _, _, z⟩ := r
    exact z.elim
  | .brk, r =>
    obtain ⟨_, _, _, z⟩ := r
    exact z.elim
  | .cont, r =>
    obtain ⟨_, _, _, z⟩ := r
    exact z.elim
/-- try: body / except x as n: m = n -/
theorem ps_try_keep (hs : X.stack = X.env :: X.outer) (hf : X.env.frame = some X.env.locals) (hex : X.ex = []) (hN : X.N.Nodup) (hi : X.N[i]? = some n) (hln : X.env.kindOf n = some .local) (hj : X.N[j]? = some m) (hlm : X.env.scope.names.lookup m = some .local) (hc : Names X x c)
    (hb : ∀ (W : WX) (pn : List (Addr × Obj)) (xe : Value → Shared → Prop), Takes (X.tr pn xe) W → PassesOwn (model X.prog X.w) X.A X.env xe → PSs (X.tr pn xe) body (tb W))
    (hdn : (n == ("__debug__" : Str)) = false := by decide) (hcn : (n == ("__classdict__" : Str)) = false := by decide) (hsw : swapsWith (.Name n p2) (some (.Name m p1)) p3.line X.env = pure false := by rfl) :
    PS X (.Try body [.ExceptHandler (some (.Name x np)) (some n) [.Assign [.Name m p1] (.Name n p2) p3] pos'] [] [] pos) (fun D σ H => tb (wKeep X.K c i j D) D σ H) := by
  refine ⟨fun pins s σ H D I h => wpAny_Try_except ?_⟩
  have ok := I.ok
  have hfr : X.A.frames = some (X.env :: X.outer) := by rw [ok.frames, hs]
  refine wpAny_mono ((hb (wKeep X.K c i j D) (X.pn ++ pins) (fun e s₁ => wpAny (model X.prog X.w) X.A (noteFrame e X.env) (fun _ s₂ => wpAny (model X.prog X.w) X.A (setFlight e none) (fun _ s₃ =>
    wpAny (model X.prog X.w) X.A (handleBy e X.env [.ExceptHandler (some (.Name x np)) (some n) [.Assign [.Name m p1] (.Name n p2) p3] pos']) (SP X pins D) X.xe s₃) X.xe s₂) X.xe s₁) (fun u s' xx => ?_) PassesOwn.looking).run [] s σ H D (I.toTry _) h) (fun f s1 hsp => ?_) fun _ _ z => z
  · obtain ⟨a, B, sI, _, σ', H', cls, d, rfl, J', nb, up, sky, na, os, ag, hm, hq⟩ := xx
    have J : Inv X pins σ' H' sI := J'.ofTry ok
    rw [show (X.tr (X.pn ++ pins) _).stack = X.env :: X.outer from hs] at sky
    refine Sky.land Zc.steady hfr hf sky fun h3 fl3 up3 => ?_
    have back : ∀ {h : Heap}, HandSPX.FlyingZ B (X.env :: X.outer) a (Zc cls d) h → sI.heap.UpToSlots h → ∃ oe vs, h.get? a = some oe ∧ Zc cls d oe ∧ oe.data = .fields vs ∧ a ∉ frs (X.env :: X.outer) ∧ Inv X pins σ' H' { s' with heap := h } := fun {h} fl u => by
      obtain ⟨oe, vs, he, hz, hd⟩ := fl.there
      refine ⟨oe, vs, he, hz, hd, fun hm => ?_, J.landed nb fl.1 u os ag⟩
      obtain ⟨_, o', e', hnf⟩ := fl.2.2.1.mem hm
      rw [he] at e'
      cases e'
      exact hnf _ hd
    obtain ⟨oe3, vs3, he3, hz3, hd3, nfr, J3⟩ := back fl3 (up.trans up3)
    have nI : sI.heap.get? a = none := by
      cases e : sI.heap.get? a with
      | none => rfl
      | some o =>
        have z := nb a o e (by rw [hs]; exact nfr)
        rw [fl3.2.1] at z
        cases z
    have n0 : X.s_0.heap.get? a = none := by
      cases e : X.s_0.heap.get? a with
      | none => rfl
      | some o =>
        obtain ⟨o', z⟩ := J.base.there a o e (by rw [hex]; exact List.not_mem_nil)
        rw [nI] at z
        cases z
    have nL : a ≠ X.env.locals := fun z => nfr (List.mem_filterMap.mpr ⟨X.env, List.mem_cons_self, by rw [hf, z]⟩)
    have nF : a ∉ X.fs := fun hm => by
      obtain ⟨e, he, q⟩ := List.mem_filterMap.mp hm
      exact nfr (List.mem_filterMap.mpr ⟨e, List.mem_cons_of_mem _ he, q⟩)
    have nP : ∀ p ∈ X.pn ++ pins, p.1 ≠ a := fun p hp z => by
      have e := (J.pin p hp).1
      rw [z, nI] at e
      cases e
    have hlt : i < σ'.length := by
      rw [J.len]
      exact (List.getElem?_eq_some_iff.mp hi).1
    refine wpAny_handleBy_cons (codeAny_handlers_test ?_) (fun q => nomatch q)
    have S3 := J3.suite he3 hd3 na nL nF
    have LT : PySem.W.Looks (model X.prog X.w) h3 (typeOf (.ref a)) cls := fun A Q E s k q => wpAny_typeOf_ref (k _ _ he3) (by rw [hz3.1]; exact q)
    have hit := PySem.W.exm_one (M := model X.prog X.w) J3.kIn LT hm
    have named : ∀ {Q : Value → Shared → Prop} {E : Value → Shared → Prop}, Q c { s' with heap := h3 } → wpAny (model X.prog X.w) (X.A.mark (some (.ref a))) (eval (.Name x np) X.env) Q E { s' with heap := h3 } := fun {Q E} q => by
      obtain ⟨hg, hdbg, hm | ⟨hm, hv, hnn⟩⟩ := hc
      · exact ld_glob (X := X.suite a ((a, oe3) :: (X.pn ++ pins))) S3 hg hm q hdbg
      · exact ld_blt (X := X.suite a ((a, oe3) :: (X.pn ++ pins))) S3 hg hm hv q hnn hdbg
    refine named (hit.here (codeAny_handlers_suite_as (HandSPX.lands_againZ fl3 fun h4 fl4 up4 => ?_)))
    obtain ⟨oe4, vs4, he4, hz4, hd4, _, J4⟩ := back fl4 ((up.trans up3).trans up4)
    refine store_ok (X := X.suite a ((a, oe4) :: (X.pn ++ pins))) (v := .ref a) (J4.suite he4 hd4 na nL nF) hN hi (.inl hln) rfl (fun s5 S5 => ?_) (.inr hln)
    exact suite_keep ok hN hi hln hj hlm hdn hcn n0 nP hz4 hd4 hsw hlt S5 (hq a na)
  · cases f with
    | next =>
      obtain ⟨σ', H', J', q⟩ := hsp
      exact wpAny_execs_nil ⟨σ', H', J'.ofTry ok, q⟩
    | brk =>
      obtain ⟨σ', H', J', q⟩ := hsp
      exact ⟨σ', H', J'.ofTry ok, q⟩
    | cont =>
      obtain ⟨σ', H', J', q⟩ := hsp
      exact ⟨σ', H', J'.ofTry ok, q⟩
    | ret u =>
      obtain ⟨v, σ', H', J', r, q⟩ := hsp
      exact ⟨v, σ', H', J'.ofTry ok, r, q⟩
end
/-! ### what is kept -/
/-- the facts for an own error's fields and classes -/
structure KeT (K : PySem.W.Frag) (C : Addr) : Prop where
  cl : (PySem.W.clsIn K C).isSome = true
  ga : PySem.W.findIn K (.ref C) "__getattribute__" = some (some (.builtin "BaseException.__getattribute__"))
  gg : PySem.W.findIn K (.ref C) "__getattr__" = some none
  exC : PySem.W.subIn K (.ref C) (.type "BaseException") = some true
  hdC : PySem.W.hasDictIn K C = true
  ca : PySem.W.findIn K (.ref C) "__class__" = some (some (.builtin "object.__class__"))
  cn : PySem.W.specialIn K (.builtin "object.__class__") "__get__" = some (some (.builtin "getset_descriptor.__get__"))
  ct : PySem.W.takesIn K (.builtin "object.__class__") = some true
  ob : PySem.W.mroIn K C (.type "object") = some true
/-- an error of the class at C with the fields fs is kept at a -/
def KeAt (H : Hp) (a C : Addr) (fs : List (Str × V)) : Prop := ∃ dd, H a = some (Kept a (.ref C) (some dd)) ∧ H dd = some (.xd fs)
theorem KeAt.inst {X : Cx} {pins : List (Addr × Obj)} {s : Shared} {σ : L2.St} {H : Hp} {a C : Addr} {fs : List (Str × V)} (I : Inv X pins σ H s) (h : KeAt H a C fs) : ∃ (ox od : Obj) (mA : Str → Option Value), PySem.W.InstAt s.heap a ox C (some od) ∧ (∀ f, PySem.W.lookIn f od = some (mA f)) ∧ ∀ f, RelO (fs.lookup f) (mA f) := by
  obtain ⟨dd, e1, e2⟩ := h
  obtain ⟨⟨oe, vs, ha, hz, hd⟩, _⟩ := I.hok a _ e1
  obtain ⟨mA, hns, hr⟩ := (show ObjOk X.prog X.w H s.heap dd (.xd fs) from I.hok dd _ e2)
  obtain ⟨od, ho, hl⟩ := lookIn_ns hns
  exact ⟨oe, od, mA, ⟨ha, hz.1, by unfold PySem.W.notCls; rw [hd] <;> rfl, by rw [hz.2]; exact ho⟩, hl, hr⟩
def tFldK (K : PySem.W.Frag) (n : Str) (te : TE) : TE := fun σ H Q => te σ H fun x H1 => ∃ a C fs v, x = .ref a ∧ KeAt H1 a C fs ∧ KeT K C ∧ PySem.W.findIn K (.ref C) n = some none ∧ fs.lookup n = some v ∧ Q v H1
theorem pe_fldK {X : Cx} {e : Expr} {te : TE} {pos : Pos} {n : Str} (he : PE X e te) (hb : attributeBase e n X.env (eval e X.env) = eval e X.env := by rfl) : PE X (.Attribute e n pos) (tFldK X.K n te) := by
  refine ⟨fun pins s σ H Q I h => attr_of hb (thn (he.run pins s σ H _ I h) ?_)⟩
  rintro u s1 ⟨x, H1, I1, rx, a, C, fs, v, rfl, hk, T, hno, l, q⟩
  cases rx
  obtain ⟨ox, od, mA, J, hl, hr⟩ := hk.inst I1
  obtain ⟨u, hu, ru⟩ := RelO.some_of (v := v) (o := mA n) (by rw [← l]; exact hr n)
  exact HandSPX.exc_get I1.kIn J T.ga T.gg T.exC (PySem.W.findObj_own T.hdC hno rfl (by rw [hl, hu])) (handed_of ru) ⟨v, H1, I1.tok _, ru, q⟩
/-- isinstance(e, c), e a kept error -/
def rIsKe (K : PySem.W.Frag) : List V → Hp → VK → Prop := fun xs H Q => ∃ (a C : Addr) (fs : List (Str × V)) (c : V) (u : Value) (b : Bool), xs = [.ref a, c] ∧ ClsV c u ∧ KeAt H a C fs ∧ KeT K C ∧ PySem.W.kitOne K (.ref C) u = some b ∧ Q (.bl b) H
theorem call_isKe {X : Cx} : CallR X (.builtin "isinstance") (rIsKe X.K) := by
  intro pins s σ H xs us Q I r h
  obtain ⟨a, C, fs, c, u, b, rfl, k, hx, T, e, q⟩ := h
  obtain ⟨u1, u2, rfl, r1, r2⟩ := vals2 r
  cases r1
  obtain rfl := k.eq r2
  obtain ⟨ox, od, _, J, _⟩ := hx.inst I
  exact PySem.W.kia_one (PySem.W.kitx_exc T.cl T.ga T.gg T.exC T.ca T.cn T.ct T.ob) I.kIn J e (fun z => nomatch z) fun tk => ⟨.bl b, H, I.kept (t' := tk) fun _ _ z => z, ⟨rfl, q⟩⟩
end KepE
/-! Defs of which more is known: that nothing is being shown around them (a repr of a list asks it). -/
namespace Grd
open PySem PySem.Spec PyProof.Rows L2
/-- as FnOk, called where nothing is being shown -/
structure FnG (P : Program) (w : World) (K : PySem.W.Frag) (mg : Str → Option Value) (base : Heap) (CX : CXT) (k : Nat) (f : Addr) (fd : FuncData) (ps : List Str) (sp : Sp) : Prop where
  len : ∀ vs H Q E, sp vs H Q E → vs.length = ps.length
  run : ∀ (A : Around) (outer : List Env) (s : Shared) (H : Hp) (args : Args) (us : List Value) (vs : List V) (Q : VK) (E : XK),
    A.guards = some [] → Room k A → Env0 P w K mg base A outer s H → BindsTo s fd args (ps.zip us) → Vals vs us → sp vs H Q E → codeAny (model P w) A (.call (.ref f) args) (CR CX outer P w H s Q E) s
section
variable {P : Program} {w : World} {K : PySem.W.Frag} {mg : Str → Option Value} {base : Heap} {CX : CXT} {j k : Nat} {f : Addr} {fd : FuncData} {ps : List Str} {sp sp' : Sp}
theorem FnG.of (F : FnOk P w K mg base CX k f fd ps sp) : FnG P w K mg base CX k f fd ps sp := ⟨F.len, fun A outer s H args us vs Q E _ => F.run A outer s H args us vs Q E⟩
theorem FnG.mono (F : FnG P w K mg base CX j f fd ps sp) (h : j ≤ k) : FnG P w K mg base CX k f fd ps sp := ⟨F.len, fun A outer s H args us vs Q E hg hr => F.run A outer s H args us vs Q E hg (hr.mono h)⟩
theorem FnG.imp (F : FnG P w K mg base CX k f fd ps sp) (h : ∀ vs H Q E, sp' vs H Q E → sp vs H Q E) : FnG P w K mg base CX k f fd ps sp' :=
  ⟨fun vs H Q E q => F.len vs H Q E (h _ _ _ _ q), fun A outer s H args us vs Q E hg hr he hb hv hs => F.run A outer s H args us vs Q E hg hr he hb hv (h _ _ _ _ hs)⟩
/-- by its body -/
theorem fun_g {x qual : Str} {st : Stmt} {N : List Str} (F : Fun K x qual st f fd) (S : FnScope N ps (defScope st)) (len : ∀ vs H Q E, sp vs H Q E → vs.length = ps.length)
    (hbody : ∀ (cdv : Value) (A : Around) (outer : List Env) (s : Shared) (H : Hp) (vs : List V) (Q : VK) (E : XK), A.guards = some [] → Room k (A.deeper (envOfC qual (defScope st) s.heap.objs.size f cdv)) → sp vs H Q E →
      ∃ t, PSs (cxOf CX0 P w K mg base N qual (defScope st) f cdv A outer s H E).nox (defBody st) t ∧ t { nx := fun _ H' => Q .non H', rt := Q } (start N vs) H) : FnG P w K mg base CX0 (k + 1) f fd ps sp := by
  obtain ⟨oc, od, kV, doc, pm, an, cdv, ct, osl, rfl, lk, hcd⟩ := F.ex
  refine ⟨len, fun A outer s H args us vs Q E hg hr e0 hb r hsp => ?_⟩
  refine LamX.run_ofS (CX := CX0) lk hcd S hr e0 hb r (len _ _ _ _ hsp) fun hr1 => ?_
  obtain ⟨t, ht, hq⟩ := hbody cdv A outer s H vs Q E hg hr1 hsp
  exact ⟨t, ht.nox, hq⟩
end
section
variable {X : Cx} {CX : CXT} {k : Nat} {f : Addr} {fd : FuncData} {ps : List Str} {sp : Sp} {E : XK} {x : Str} {p pos : Pos} {e : Expr} {es : List Expr} {t : TA}
theorem run_g {pins : List (Addr × Obj)} {σ : L2.St} {H : Hp} {s : Shared} {Q : VK} {us : List Value} {vs : List V} (F : FnG X.prog X.w X.K X.mg X.base CX k f fd ps sp) (hG : X.A.guards = some []) (hr : Room k X.A) (hb : Binds X.K fd ps []) (hx : Passes CX X E)
    (I : Inv X pins σ H s) (r : Vals vs us) (h : sp vs H Q E) : wpAny (model X.prog X.w) X.A (call (.ref f) us) (EP X pins σ Q) X.xe s := by
  have hl : (us ++ []).length = ps.length := by rw [List.append_nil, ← r.length]; exact F.len _ _ _ _ h
  have hB := hb s us I.kIn hl
  rw [List.append_nil] at hB
  refine wpAny_call (codeAny_mono (F.run X.A X.stack s H ⟨us, []⟩ us vs Q E hG hr I.env0 hB r h) fun res s' hq => ?_)
  match res, hq with
  | .error e, hq => exact hx pins σ H s e s' I hq
  | .ok (.ret u), hq => exact I.after hq
theorem pe_callG (F : FnG X.prog X.w X.K X.mg X.base CX k f fd ps sp) (hG : X.A.guards = some []) (hr : Room k X.A) (hg : Gl X x) (hm : X.mg x = some (.ref f)) (hk : PySem.W.keepIn X.K (.ref f) = true) (hb : Binds X.K fd ps []) (hx : Passes CX X E)
    (ha : PA X (e :: es) t) (hdb : (x == ("__debug__" : Str)) = false := by decide) (hs : starEach (e :: es) X.env = (false, eval e X.env) :: starEach es X.env := by rfl) (hp : (backTo pos (starEach es X.env)).any (·.1) = false := by rfl) :
    PE X (.Call (.Name x p) (e :: es) [] pos) (tCall sp [] E t) := by
  refine ⟨fun pins s σ H Q I h => wpAny_Call_Name_kw (ld_glob I hg hm ?_ hdb)⟩
  refine PySem.W.callWith_K (h₀ := X.base) I.ok.mod.kin hk (thn (ha.run pos pins s σ H _ I h) ?_) hs hp
  rintro us s1 ⟨vs, H1, I1, r, q⟩
  rw [List.append_nil] at q
  exact ⟨I1.kIn, run_g F hG hr hb hx I1 r q⟩
end
end Grd
/-! Own exceptions over any built-in base, made and kept as values. -/
namespace Exg
open PySem PySem.Spec PyProof.Rows L2 Sup
open NdefX (NF NScope ncx envF startF CellsAt inv_startN)
/-- a built-in base -/
structure BaseE (B newId initId : String) (tl : List Value) : Prop where
  F : ExcBaseFacts B newId initId tl
  SF : StoreFacts B tl "object.__setattr__" "object"
  KF : PySem.W.KxsFacts B initId
abbrev tlV : List Value := [.type "ValueError", .type "Exception", .type "BaseException", .type "object"]
abbrev tlL : List Value := [.type "LookupError", .type "Exception", .type "BaseException", .type "object"]
abbrev tlO : List Value := [.type "OverflowError", .type "ArithmeticError", .type "Exception", .type "BaseException", .type "object"]
theorem bV : BaseE "ValueError" "ValueError.__new__" "ValueError.__init__" tlV := ⟨PySem.F.excBase_ValueError, PySem.F.store_ValueError, PySem.W.kxs_ValueError⟩
theorem bL : BaseE "LookupError" "LookupError.__new__" "LookupError.__init__" tlL := ⟨PySem.F.excBase_LookupError, PySem.F.store_LookupError, PySem.W.kxs_LookupError⟩
theorem bO : BaseE "OverflowError" "OverflowError.__new__" "OverflowError.__init__" tlO := ⟨PySem.F.excBase_OverflowError, PySem.F.store_OverflowError, PySem.W.kxs_OverflowError⟩
/-- what the text says of the class at C -/
structure Oex (K : PySem.W.Frag) (C : Addr) (B newId : String) (tl : List Value) : Prop where
  ini : PySem.W.excInitIn K C tl newId = true
  ov : PySem.W.excOver K C tl = true
  sa : PySem.W.findIn K (.ref C) "__setattr__" = some (some (.builtin "object.__setattr__"))
  exC : PySem.W.subIn K (.ref C) (.type "BaseException") = some true
  tyC : PySem.W.typeIn K (.ref C) = some (.type "type")
  kC : PySem.W.keepIn K (.ref C) = true
  hd : PySem.W.hasDictIn K C = true
  sB : PySem.W.subIn K (.ref C) (.type B) = some true
theorem upd_twice {H : Hp} {a : Addr} {o u : HO} : upd (upd H a o) a u = upd H a u := by
  funext b
  by_cases z : b = a
  · rw [z, upd_same, upd_same]
  · rw [upd_ne z, upd_ne z, upd_ne z]
theorem upd_swap {H : Hp} {a b : Addr} {o u : HO} (n : a ≠ b) : upd (upd H a o) b u = upd (upd H b u) a o := by
  funext c
  by_cases z : c = b
  · rw [z, upd_same, upd_ne n.symm, upd_same]
  · by_cases y : c = a
    · rw [y, upd_ne n, upd_same, upd_same]
    · rw [upd_ne z, upd_ne y, upd_ne y, upd_ne z]
section
variable {B newId initId : String} {tl : List Value} {X : Cx} {pins : List (Addr × Obj)} {σ : L2.St} {H : Hp} {s : Shared} {a C dx : Addr} {f : Str} {y : V} {u : Value} {fs : List (Str × V)} {Q : Unit → Shared → Prop} {E : Value → Shared → Prop} {A : Around}
/-- self.f = y, the dict is there -/
theorem put_old (b : BaseE B newId initId tl) (T : Oex X.K C B newId tl) (I : Inv X pins σ H s) (e : H a = some (exo a C (some dx))) (ed : H dx = some (exd dx fs)) (hl : fs.length ≤ 900)
    (hno : PySem.W.findIn X.K (.ref C) f = some none) (ry : RelV y u) (h : ∀ s', Inv X pins σ (upd H dx (exd dx ((f, y) :: fs))) s' → Q () s') : wpAny (model X.prog X.w) A (setAttr (.ref a) f u) Q E s := by
  obtain ⟨t1, ho⟩ := exo_at I.hok e
  obtain ⟨mA, hns, rel⟩ := exd_at I.hok ed
  have hw := within_of rel
  have KX := I.kIn
  obtain ⟨cd, hc, hd'⟩ := PySem.W.any_some T.hd
  obtain ⟨hp, g, d, t, os⟩ := s
  obtain ⟨oD, _, _, hoD, _, _⟩ := hns.count hw
  have at_ : PySem.W.InstAt hp a { cls := .ref C, dict := some dx, data := .fields #[.ref t1, .none, .none, .none, .bool false, .none] } C (some oD) := ⟨ho, rfl, rfl, hoD⟩
  refine PySem.W.set_plain KX at_ T.sa (PySem.W.osa_openX (r := none) b.SF KX at_ T.ov (NoAttr.taker hno) fun b0 => ?_)
  refine wpAny_bind (wpAny_pure (wpAny_bind (wpAny_bind (wpAny_loadPart ho (wpAny_bind ((PySem.W.looks_clsIn KX hc).at ?_))))))
  rw [hd']
  refine wpAny_pure (a := some dx) (PySem.OEX.store_in_old hns hw (by rw [List.length_map]; exact Nat.le_trans hl (by decide)) fun h' tk' hn hs => ?_)
  refine h _ (I.write (t' := tk') (x := dx) (e := dx) (o := exd dx ((f, y) :: fs)) (by rw [ed]; trivial) (.inl rfl) (fun c o hb ho => (hs.2 c hb).trans ho) ?_ (exd_ok hn (relO_put ry rel)))
  obtain ⟨o, _, _, e', _⟩ := hn
  exact ⟨o, e'⟩
/-- .., the first one -/
theorem put_new (b : BaseE B newId initId tl) (T : Oex X.K C B newId tl) (I : Inv X pins σ H s) (e : H a = some (exo a C none)) (hno : PySem.W.findIn X.K (.ref C) f = some none) (ry : RelV y u)
    (h : ∀ dx s', H dx = none → dx ≠ a → Inv X pins σ (upd (upd H dx (exd dx [(f, y)])) a (exo a C (some dx))) s' → Q () s') : wpAny (model X.prog X.w) A (setAttr (.ref a) f u) Q E s := by
  obtain ⟨t1, ho⟩ := exo_at I.hok e
  have KX := I.kIn
  obtain ⟨cd, hc, hd'⟩ := PySem.W.any_some T.hd
  obtain ⟨hp, g, d, t, os⟩ := s
  have at_ : PySem.W.InstAt hp a { cls := .ref C, dict := none, data := .fields #[.ref t1, .none, .none, .none, .bool false, .none] } C none := ⟨ho, rfl, rfl, trivial⟩
  refine PySem.W.set_plain KX at_ T.sa (PySem.W.osa_openX (r := none) b.SF KX at_ T.ov (NoAttr.taker hno) fun b0 => ?_)
  refine wpAny_bind (wpAny_pure (wpAny_bind (PySem.W.instanceDict_exc (s := ⟨hp, g, d, t + 1, os⟩) ho (PySem.W.looks_clsIn KX hc) hd' ?_)))
  have hdn : H hp.objs.size = none := I.hok.fresh (Nat.le_refl _)
  have nda : hp.objs.size ≠ a := (Nat.ne_of_lt (Heap.lt_size ho)).symm
  have e0 : Heap.Ns1 (hp.push (PySem.W.dictOf [] 0)) hp.objs.size (fun _ => none) := Heap.Ns1.of_empty ⟨_, #[], _, Heap.get?_push_at rfl rfl, rfl, fun e he => absurd he (by simp), fun _ => rfl⟩
  have I1 : Inv X pins σ (upd H hp.objs.size (exd hp.objs.size [])) ⟨hp.push (PySem.W.dictOf [] 0), g, d, t + 1, os⟩ :=
    I.laid (t' := t + 1) (fun c o ho => Heap.get?_push_of_some _ ho) (Nat.le_refl _) (exd_ok e0 fun g => trivial)
  have ha1 : (hp.push (PySem.W.dictOf [] 0)).get? a = some { cls := .ref C, dict := none, data := .fields #[.ref t1, .none, .none, .none, .bool false, .none] } := Heap.get?_push_of_some _ ho
  have ha2 : ((hp.push (PySem.W.dictOf [] 0)).update a fun o => { o with dict := some hp.objs.size }).get? a = some { cls := .ref C, dict := some hp.objs.size, data := .fields #[.ref t1, .none, .none, .none, .bool false, .none] } := Heap.get?_update_self _ ha1 rfl
  have I2 := I1.write (t' := t + 1) (x := a) (e := a) (o := exo a C (some hp.objs.size)) (h' := (hp.push (PySem.W.dictOf [] 0)).update a fun o => { o with dict := some hp.objs.size })
    (by rw [upd_ne nda.symm, e]; trivial) (.inl rfl) (fun c o hb ho => (Heap.get?_update_ne _ _ _ _ hb).trans ho) ⟨_, ha2⟩ (exo_ok ha2)
  have ed2 : upd (upd H hp.objs.size (exd hp.objs.size [])) a (exo a C (some hp.objs.size)) hp.objs.size = some (exd hp.objs.size []) := by rw [upd_ne nda, upd_same]
  obtain ⟨mA, hns, rel⟩ := exd_at I2.hok ed2
  show wpAny _ _ (Builtin.ObjectAttr.storeInDict hp.objs.size (.str f t) f u) _ _ _
  refine PySem.OEX.store_in_old hns (within_of rel) (by decide) fun h' tk' hn hs => ?_
  have I3 := I2.write (t' := tk') (x := hp.objs.size) (e := hp.objs.size) (o := exd hp.objs.size [(f, y)]) (h' := h') (by rw [ed2]; trivial) (.inl rfl) (fun c o hb ho => (hs.2 c hb).trans ho)
    (by obtain ⟨o, _, _, e', _⟩ := hn; exact ⟨o, e'⟩) (exd_ok hn (relO_put ry rel))
  refine h hp.objs.size _ hdn nda ?_
  rw [upd_swap nda.symm, upd_twice] at I3
  exact I3
end
/-- self.f = e -/
def tPut (K : PySem.W.Frag) (B newId : String) (tl : List Value) (f : Str) (to te : TE) : TS := fun D σ H => te σ H fun y H1 => to σ H1 fun x H2 => ∃ a C : Addr, x = .ref a ∧ Oex K C B newId tl ∧ PySem.W.findIn K (.ref C) f = some none ∧
  ((H2 a = some (exo a C none) ∧ ∀ dx, H2 dx = none → dx ≠ a → D.nx σ (upd (upd H2 dx (exd dx [(f, y)])) a (exo a C (some dx)))) ∨
    ∃ (dx : Addr) (fs : List (Str × V)), H2 a = some (exo a C (some dx)) ∧ H2 dx = some (exd dx fs) ∧ fs.length ≤ 900 ∧ D.nx σ (upd H2 dx (exd dx ((f, y) :: fs))))
section
variable {B newId initId : String} {tl : List Value} {X : Cx} {body : List Stmt} {f0 c cc D : Addr} {me : Str} {pins : List (Addr × Obj)} {s : Shared} {σ : L2.St} {H : Hp}
theorem ps_put {o e : Expr} {to te : TE} {f : Str} {p' pos : Pos} (b : BaseE B newId initId tl) (ho : PE X o to) (he : PE X e te) (hs : swapsWith e (some (.Attribute o f p')) pos.line X.env = pure false := by rfl) :
    PS X (.Assign [.Attribute o f p'] e pos) (tPut X.K B newId tl f to te) := by
  refine ⟨fun pins s σ H D I h => plainObj_wpAny_Assign_Attribute (thn (he.run pins s σ H _ I h) ?_) hs⟩
  rintro v s1 ⟨y, H1, I1, r1, q1⟩
  refine thn (ho.run pins s1 σ H1 _ I1 q1) ?_
  rintro u s2 ⟨x, H2, I2, r2, a, C, rfl, T, hno, q⟩
  cases r2
  rcases q with ⟨ea, q⟩ | ⟨dx, fs, ea, ed, hl, q⟩
  · exact put_new b T I2 ea hno r1 fun dx s' n ne J => ⟨σ, _, J, q dx n ne⟩
  · exact put_old b T I2 ea ed hl hno r1 fun s' J => ⟨σ, _, J, q⟩
/-- super().__init__ of the built-in base, bound -/
theorem sup_meth {pl : Sem Bool} {x C so : Addr} {Q : Value × List Value → Shared → Prop} (b : BaseE B newId initId tl) (T : Oex X.K C B newId tl) (I : Inv X pins σ H s) (hso : s.heap.get? so = some (PySem.W.ks_superObj D x C))
    (hx : H x = some (exo x C none)) (third : PySem.W.nsIn X.K cStatics "thirdparty.any" = some none)
    (hm : PySem.W.ks_superIn X.K C D "__init__" = some (some (.builtin initId))) (hne : (Value.builtin initId == .builtin "super.__init__") = false ∨ True)
    (h : ∀ q s', q = s.heap.objs.size → s'.heap.get? q = some (PySem.W.kxs_mw initId x) → Inv X pins σ H s' → Q (.ref q, []) s') :
    wpAny (model X.prog X.w) X.A (getMethod (.ref so) "__init__" pl) Q X.xe s := by
  have KX := I.kIn
  obtain ⟨t1, ho⟩ := exo_at I.hok hx
  have hI : PySem.W.Looks (model X.prog X.w) s.heap (isInstance (.ref x) (.type B)) true :=
    (PySem.W.InstAt.type (ox := { cls := .ref C, dict := none, data := .fields #[.ref t1, .none, .none, .none, .bool false, .none] }) (od := none) ⟨ho, rfl, rfl, trivial⟩).andThen (PySem.W.looks_subIn KX T.sB)
  obtain ⟨cd, hc, _⟩ := PySem.W.any_some T.hd
  obtain ⟨hh, g, d, tk, os⟩ := s
  unfold PySem.W.ks_superIn at hm
  rw [hc] at hm
  have hxC : x ≠ C := by
    rintro rfl
    unfold PySem.W.clsIn at hc
    split at hc
    · rename_i c d cd' sl hoc
      have e := KX _ _ hoc
      rw [ho] at e
      cases e
    · cases hc
  refine PySem.W.kxs_getMethod b.KF hso (PySem.W.looks_opaque KX third) (l₀ := cd.mro) ?_ rfl KX hm hI hxC (by decide) ?_
  · exact fun A Q E s k q => wpAny_bind ((PySem.W.looks_clsIn KX hc) A _ E s k (wpAny_pure q))
  · exact h _ _ rfl (Heap.get?_push_at rfl rfl) (I.kept (t' := tk + 1) fun b o e => Heap.get?_push_of_some _ e)
theorem sup_call {u a C : Addr} {us : List Value} {Q : Value → Shared → Prop} (b : BaseE B newId initId tl) (T : Oex X.K C B newId tl) (I : Inv X pins σ H s) (hu : s.heap.get? u = some (PySem.W.kxs_mw initId a)) (e : H a = some (exo a C none)) (hl : us.length ≤ sizeLine)
    (h : ∀ s', Inv X pins σ H s' → Q .none s') : wpAny (model X.prog X.w) X.A (call (.ref u) us) Q X.xe s := by
  obtain ⟨nm, N, q, bs, bm, hdct, sn, sub, ab, col, dd, k0, k1, k2, k3, k5, hCs, hbm⟩ := PySem.W.excInit_of I.kIn T.ini
  obtain ⟨t1, ho⟩ := exo_at I.hok e
  obtain ⟨hh, g, d, tk, os⟩ := s
  refine wpAny_call (codeAny_of_tree ?_)
  show wpAny _ X.A.in1 (callAny (.ref u) ⟨us, []⟩) _ _ _
  simp only [callAny]
  refine wpAny_bind (wpAny_load hu ?_)
  simp only [PySem.W.kxs_mw, show (Value.type "method-wrapper" == Value.type "method" || Value.type "method-wrapper" == Value.type "builtin_function_or_method" || Value.type "method-wrapper" == Value.type "method-wrapper") = true by decide, if_true]
  refine PySem.W.KFB.if_so (by decide) ?_
  refine wpAny_bind (PySem.W.check_bound_init b.F.toExcCallFacts hCs ho rfl ?_)
  refine wpAny_bind (wpAny_pure (wpAny_pure ?_))
  refine ⟨plainId_quiet b.F.init.plain _, codeAny_builtin b.F.initEntry ?_⟩
  refine PySem.W.exc_init_tree (cls := .ref C) (t0 := t1) (dv := none) (c2 := .none) (c3 := .none) (b4 := .bool false) ho hl fun h' k e' t' => ?_
  have J := I.write (t' := tk) (x := a) (e := a) (o := exo a C none) (by rw [e]; trivial) (.inl rfl) k ⟨_, e'⟩ (exo_ok e')
  have eu : upd H a (exo a C none) = H := by
    funext z
    by_cases hz : z = a
    · rw [hz, upd_same, e]
    · rw [upd_ne hz]
  exact h _ (eu ▸ J)
/-- super().__init__(e, ..), then the rest -/
theorem sup_exc {x C : Addr} {e : Expr} {es : List Expr} {t : TA} {rest : List Stmt} {u : TS} {D' : Ends} {p0 p1 p2 p3 p4 : Pos}
    (b : BaseE B newId initId tl) (a : AtS X body f0 c cc D me) (T : SupT X.prog X.K X.mg D) (TC : Oex X.K C B newId tl)
    (hN : X.N[0]? = some me) (hm : PySem.W.ks_superIn X.K C D "__init__" = some (some (.builtin initId)))
    (hsub : PySem.W.mroIn X.K C (.ref D) = some true) (ha : PA X (e :: es) t) (hrest : PSs X rest u)
    (I : Inv X pins σ H s) (hσ : σ[0]? = some (some (.ref x))) (hx : H x = some (exo x C none))
    (hq : t σ H fun vs H1 => vs.length ≤ 1000 ∧ H1 x = some (exo x C none) ∧ u D' σ H1)
    (hi : interactive X.env = false) (hs : swapsWith (.Call (.Attribute (.Call (.Name "super" p0) [] [] p1) "__init__" p2) (e :: es) [] p3) none p4.line X.env = pure false)
    (he : eval (.Call (.Attribute (.Call (.Name "super" p0) [] [] p1) "__init__" p2) (e :: es) [] p3) X.env = (do
      let ov ← attributeBase (.Call (.Name "super" p0) [] [] p1) "__init__" X.env (eval (.Call (.Name "super" p0) [] [] p1) X.env)
      standAt p2.atName
      let (f, first) ← holding [ov] (getMethod ov "__init__" (pure false))
      callWith p3 f first (backTo p3 (starEach (e :: es) X.env)) []))
    (hst : starEach (e :: es) X.env = (false, eval e X.env) :: starEach es X.env) (hpl : (backTo p3 (starEach es X.env)).any (·.1) = false) :
    PySem.wpAt (model X.prog X.w) X.A (.func body X.env) (execs (.Expr (.Call (.Attribute (.Call (.Name "super" p0) [] [] p1) "__init__" p2) (e :: es) [] p3) p4 :: rest) X.env) (SP X pins D') X.xe s := by
  obtain ⟨ox, ho, hc, hnc⟩ := exo_obj I hx
  refine ks_wpAt_execs_cons (ks_wpAt_Expr_any (ks_wpAt_MethodCall (pl := pure false) (super_base a T I hN hσ ho hc hnc hsub (by decide) fun so h' eso hso kp I1 => ?_) he) hi hs)
  refine sup_meth (x := x) (C := C) (D := D) b TC I1 hso hx T.third hm (.inr trivial) fun q s2 eq hq2 I2 => ?_
  have hqn : H q = none := by rw [eq]; exact I1.hok.fresh (Nat.le_refl _)
  have hq0 : X.s_0.heap.objs.size ≤ q := by rw [eq]; exact I1.sz
  have hqL : q ≠ X.env.locals := by rw [eq]; exact (Nat.ne_of_lt I1.lt).symm
  have hqf : q ∉ X.fs := by rw [eq]; exact I1.nofs (Nat.le_refl _)
  have J : Inv X (pins ++ [(q, PySem.W.kxs_mw initId x)]) σ H s2 := I2.pins_of fun p hp => by
    rcases List.mem_append.mp hp with hp | hp
    · exact I2.pin p (List.mem_append_right _ hp)
    · obtain rfl := List.mem_singleton.mp hp
      exact ⟨hq2, hqn, hqL, hqf, fun v hv => by cases hv⟩
  refine PySem.W.kxs_callWith1 (h₀ := X.base) (L := X.env.locals) (news := [(q, PySem.W.kxs_mw initId x)]) (i := initId) (x := x) ?_ (List.mem_singleton.mpr rfl) ?_ hst hpl
  · intro p hp
    obtain rfl := List.mem_singleton.mp hp
    exact ⟨hq2, hqL, Heap.get?_none_of_le (Nat.le_trans I.ok.bsz hq0)⟩
  refine thn (ha.run p3 _ s2 σ H _ J hq) fun us s3 ⟨vs, H3, I3, r, hl, hx3, q3⟩ => ?_
  have hq3 : s3.heap.get? q = some (PySem.W.kxs_mw initId x) := (I3.pin _ (List.mem_append_right _ (List.mem_append_right _ (List.mem_singleton.mpr rfl)))).1
  have I4 : Inv X pins σ H3 s3 := I3.pins_of fun p hp => I3.pin p (List.mem_append_right _ (List.mem_append_left _ hp))
  refine ⟨hq3, ?_⟩
  exact sup_call b TC I4 hq3 hx3 (by rw [← r.length]; exact Nat.le_trans hl (by decide)) fun s' I5 => wpAt_of_wpAny (hrest.run pins s' σ H3 D' I5 q3)
end
end Exg
namespace Exg
open PySem PySem.Spec PyProof.Rows L2 Sup Grd
/-- C(e, ..): a new exception, C's own __init__ keeping sp -/
def tMkE (C : Addr) (sp : Sp) (ta : TA) : TE := fun σ H Q => ta σ H fun vs H1 => vs.length ≤ 1000 ∧ ∀ a, H1 a = none → sp (.ref a :: vs) (upd H1 a (exo a C none)) (fun v H2 => v = .non ∧ Q (.ref a) H2) E0
theorem guards_make {A : Around} (h : A.guards = some []) (C : Addr) (us : List Value) (kw : List (Str × Value)) : (A.under (.builtin "type.__call__" ⟨.ref C :: us, kw⟩)).guards = some [] := by
  simp [Around.under, pushGuards, Code.guards, Code.isGuard, guardIds, h]
section
variable {B newId initId : String} {tl : List Value} {X : Cx} {pins : List (Addr × Obj)} {s : Shared} {σ : L2.St} {H : Hp} {C fI : Addr} {k : Nat} {fd : FuncData} {ps : List Str} {sp : Sp} {Q : VK} {us : List Value} {vs : List V}
theorem run_mkE (b : BaseE B newId initId tl) (T : Oex X.K C B newId tl) (iC : PySem.W.findIn X.K (.ref C) "__init__" = some (some (.ref fI))) (tI : PySem.W.typeIn X.K (.ref fI) = some (.type "function"))
    (F : FnG X.prog X.w X.K X.mg X.base CX0 k fI fd ps sp) (hG : X.A.guards = some []) (hr : Room (k + 1) X.A) (hb : Binds X.K fd ps []) (I : Inv X pins σ H s) (r : Vals vs us) (hl : vs.length ≤ 1000)
    (h : ∀ a, H a = none → sp (.ref a :: vs) (upd H a (exo a C none)) (fun v H2 => v = .non ∧ Q (.ref a) H2) E0) : wpAny (model X.prog X.w) X.A (call (.ref C) us) (EP X pins σ Q) X.xe s := by
  obtain ⟨nm, N, q, bs, bm, hdct, sn, sub, ab, col, dd, k0, k1, k2, k3, k5, hC, hbm⟩ := PySem.W.excInit_of I.kIn T.ini
  obtain ⟨hp, g, dr, tk, os⟩ := s
  have hn : H (hp.objs.size + 1) = none := I.hok.fresh (Nat.le_succ _)
  have hq := h _ hn
  have hget : ((hp.push (PySem.W.kdv_tup us)).push (PySem.HandSPX.excO C hp.objs.size)).get? (hp.objs.size + 1) = some (PySem.HandSPX.excO C hp.objs.size) := by heap_get
  have I2 : Inv X pins σ (upd H (hp.objs.size + 1) (exo (hp.objs.size + 1) C none)) ⟨(hp.push (PySem.W.kdv_tup us)).push (PySem.HandSPX.excO C hp.objs.size), g, dr, tk, os⟩ :=
    I.laid (t' := tk) (fun c o z => Heap.get?_push_of_some _ (Heap.get?_push_of_some _ z)) (Nat.le_succ _) (exo_ok hget)
  have r2 : Vals (V.ref (hp.objs.size + 1) :: vs) (Value.ref (hp.objs.size + 1) :: us) := .cons rfl r
  have hlen : (Value.ref (hp.objs.size + 1) :: us ++ []).length = ps.length := by
    rw [List.append_nil, ← r2.length]
    exact F.len _ _ _ _ hq
  have hB := hb ⟨(hp.push (PySem.W.kdv_tup us)).push (PySem.HandSPX.excO C hp.objs.size), g, dr, tk, os⟩ (Value.ref (hp.objs.size + 1) :: us) I2.kIn hlen
  rw [List.append_nil] at hB
  refine wpAny_call (PySem.HandSPX.call_own b.F hbm hC (PySem.W.looks_findIn I.kIn iC) (fun self => PySem.W.bind_fn I.kIn self tI) (by rw [← r.length]; exact Nat.le_trans hl (by decide))
    (codeAny_mono (F.run _ X.stack _ _ ⟨Value.ref (hp.objs.size + 1) :: us, []⟩ _ _ _ E0 (guards_make hG C us []) (hr.make C us []) (I2.env0.make C us []) hB r2 hq) fun res s' z => ?_))
  match res, z with
  | .error e, z => exact z.elim
  | .ok (.ret u), z =>
    obtain ⟨v, H', I3, rv, ev, q3⟩ := I2.after z
    subst ev
    exact ⟨rv, .ref (hp.objs.size + 1), H', I3, rfl, q3⟩
theorem pe_mkE {x : Str} {e : Expr} {es : List Expr} {ta : TA} {p pos : Pos} (b : BaseE B newId initId tl) (T : Oex X.K C B newId tl) (iC : PySem.W.findIn X.K (.ref C) "__init__" = some (some (.ref fI))) (tI : PySem.W.typeIn X.K (.ref fI) = some (.type "function"))
    (F : FnG X.prog X.w X.K X.mg X.base CX0 k fI fd ps sp) (hG : X.A.guards = some []) (hr : Room (k + 1) X.A) (hb : Binds X.K fd ps []) (hg : Gl X x) (hm : X.mg x = some (.ref C)) (ha : PA X (e :: es) ta)
    (hdb : (x == ("__debug__" : Str)) = false := by decide) (hs : starEach (e :: es) X.env = (false, eval e X.env) :: starEach es X.env := by rfl) (hp : (backTo pos (starEach es X.env)).any (·.1) = false := by rfl) :
    PE X (.Call (.Name x p) (e :: es) [] pos) (tMkE C sp ta) := by
  refine ⟨fun pins s σ H Q I h => wpAny_Call_Name_kw (ld_glob I hg hm ?_ hdb)⟩
  refine PySem.W.callWith_K (h₀ := X.base) I.ok.mod.kin T.kC (thn (ha.run pos pins s σ H _ I h) ?_) hs hp
  rintro us s1 ⟨vs, H1, I1, r, hl, q⟩
  exact ⟨I1.kIn, run_mkE b T iC tI F hG hr hb I1 r hl q⟩
end
end Exg
/-! C(name = e): an own exception, made by keywords. -/
namespace Exg
open PySem PySem.Spec PyProof.Rows L2 Sup Grd
section
variable {prog : Program} {w : World} {A : Around} {E : Value → Shared → Prop} {R : Result → Shared → Prop} {h : Heap} {g : Array GenState} {d : Drawn} {t : Nat} {os : OsState}
variable {nm q : Str} {C N : Addr} {bs bm tl : List Value} {hdct : Bool} {sn : List Str} {sub : List Value} {ab : Bool} {col : Option Bool} {dd : Option Addr} {k0 k1 k2 k3 k5 : Option Value} {B newId initId : String} {kw : List (Str × Value)}
theorem check_new_kw {M : Model} (F : ExcBaseFacts B newId initId tl) (hT : ∀ X : String, bm.contains (.type X) = tl.contains (.type X)) {rest : List Value} {Q : Unit → Shared → Prop}
    (hC : h.get? C = some (excClassObj nm q C N bs bm hdct sn sub ab col dd k0 k1 k2 k3 k5 newId)) (hq : Q () ⟨h, g, d, t, os⟩) : wpAny M A (checkBuiltinCall newId ⟨.ref C :: rest, kw⟩) Q E ⟨h, g, d, t, os⟩ := by
  have h1 : (Value.ref C :: bm).contains (.type B) = true := by
    rw [List.contains_cons, hT, F.hasB, Bool.or_true]
  have h2 := F.noStar
  simp only [checkBuiltinCall, F.newKind, F.newSplit, F.newRow]
  repeat (first | refine wpAny_loadPart_at hC ?_
                | (refine wpAny_isSubtype_exc hC ?_; rw [h1])
                | refine wpAny_staticBase_exc hC ?_
                | refine wpAny_madeBy_exc hC ?_
                | simp only [bne_self_eq_false, Bool.false_eq_true, if_false]
                | wp_step)
  exact hq
end
section
variable {prog : Program} {w : World} {A : Around} {E : Value → Shared → Prop} {R : Result → Shared → Prop} {h : Heap} {g : Array GenState} {d : Drawn} {t : Nat} {os : OsState}
variable {nm q : Str} {C N : Addr} {bs bm tl : List Value} {hdct : Bool} {sn : List Str} {sub : List Value} {ab : Bool} {col : Option Bool} {dd : Option Addr} {k0 k1 k2 k3 k5 : Option Value} {B newId initId : String} {kw : List (Str × Value)}
/-- the words do not reach the new object -/
theorem new_kw (F : ExcBaseFacts B newId initId tl) (hT : ∀ X : String, bm.contains (.type X) = tl.contains (.type X)) {rest : List Value}
    (hC : h.get? C = some (excClassObj nm q C N bs bm hdct sn sub ab col dd k0 k1 k2 k3 k5 newId)) (hr : rest.length ≤ sizeLine)
    (hq : R (.ok (.ret (.ref (h.objs.size + 1)))) ⟨(h.push (PySem.W.kdv_tup rest)).push (PySem.HandSPX.excO C h.objs.size), g, d, t, os⟩) :
    codeAny (model prog w) A (.builtin newId ⟨.ref C :: rest, kw⟩) R ⟨h, g, d, t, os⟩ := by
  have h0 := F.ends
  have h1 : (Value.ref C :: bm).contains (.type B) = true := by
    rw [List.contains_cons, hT, F.hasB, Bool.or_true]
  have h2 : (Value.ref C :: bm).contains (.type "AttributeError") = false := by
    rw [List.contains_cons, hT, F.noAttr] <;> rfl
  have h3 : (Value.ref C :: bm).contains (.type "NameError") = false := by
    rw [List.contains_cons, hT, F.noName] <;> rfl
  refine codeAny_builtinAt F.entry ?_
  unfold Builtin.«BaseException.__new__»
  refine PySem.wpAt_bind ?_
  show PySem.wpAt _ _ _ (stack >>= _) _ _ _
  refine PySem.wpAt_bind (PySem.wpAt_stack fun p below => PySem.wpAt_of_wpAny ?_)
  wp_walk
  refine PySem.wpAt_of_wpAny ?_
  rw [F.owner]
  repeat (first | with_reducible refine wpAny_madeHere_exc F.canon hC ?_
                | with_reducible refine wpAny_loadPart_at hC ?_
                | (with_reducible refine wpAny_isSubtype_exc hC ?_; first | rw [h1] | rw [h2] | rw [h3])
                | wp_step)
  show R _ _
  rw [Heap.size_push]
  exact hq
theorem type_call_kw (F : ExcBaseFacts B newId initId tl) (hT : ∀ X : String, bm.contains (.type X) = tl.contains (.type X)) {rest : List Value} {fI : Addr} {Q : Fin → Shared → Prop}
    (hC : h.get? C = some (excClassObj nm q C N bs bm hdct sn sub ab col dd k0 k1 k2 k3 k5 newId))
    (hi : PySem.W.Looks (model prog w) h (typeLookup (.ref C) "__init__") (some (.ref fI))) (hb : ∀ self, PySem.W.Looks (model prog w) h (bindSpecial (.ref fI) self) (.ref fI, [self])) (hr : rest.length ≤ sizeLine)
    (hq : codeAny (model prog w) A (.call (.ref fI) ⟨.ref (h.objs.size + 1) :: rest, kw⟩)
      (fun r s' => match r with | .ok (.ret v) => v = .none ∧ Q (.done (.ret (.ref (h.objs.size + 1)))) s' | .ok _ => False | .error e => E e s')
      ⟨(h.push (PySem.W.kdv_tup rest)).push (PySem.HandSPX.excO C h.objs.size), g, d, t, os⟩) :
    wpAny (model prog w) A (Builtin.«type.__call__» ⟨.ref C :: rest, kw⟩) Q E ⟨h, g, d, t, os⟩ := by
  repeat (first | with_reducible refine wpAny_loadPart_at hC ?_
                | with_reducible refine wpAny_madeBy_exc hC ?_
                | wp_step)
  refine codeAny_call_builtin_code (Code.quiet_builtin _ F.quiet) (check_new_kw F hT hC (new_kw F hT hC hr ?_))
  show wpAny _ _ _ _ _ _
  have kp : ∀ b o, h.get? b = some o → ((h.push (PySem.W.kdv_tup rest)).push (PySem.HandSPX.excO C h.objs.size)).get? b = some o :=
    fun b o e => Heap.get?_push_of_some _ (Heap.get?_push_of_some _ e)
  have hC1 := kp _ _ hC
  have hx : ((h.push (PySem.W.kdv_tup rest)).push (PySem.HandSPX.excO C h.objs.size)).get? (h.objs.size + 1) = some (PySem.HandSPX.excO C h.objs.size) := by
    heap_get
  have hcC : (Value.ref C :: bm).contains (.ref C) = true := by
    simp
  have i1 := hi.keeps kp
  have b1 := (hb (.ref (h.objs.size + 1))).keeps kp
  unfold isInstance
  repeat (first | with_reducible refine wpAny_loadPart_at hx ?_
                | (with_reducible refine wpAny_isSubtype_exc hC1 ?_; rw [hcC])
                | wp_step)
  show wpAny _ _ (typeLookup (.ref C) _) _ _ _
  refine i1.at (wpAny_holding (wpAny_bind (b1.at ?_)))
  refine wpAny_bind (wpAny_call (codeAny_mono hq fun r s' z => ?_))
  match r, z with
  | .error e, z => exact z
  | .ok (.ret v), ⟨e, z⟩ =>
    subst e
    first
      | exact wpAny_pure (wpAny_pure z)
      | (wp_walk; exact z)
theorem check_type_kw {M : Model} {rest : List Value} {Q : Unit → Shared → Prop} (hC : h.get? C = some (excClassObj nm q C N bs bm hdct sn sub ab col dd k0 k1 k2 k3 k5 newId))
    (hq : Q () ⟨h, g, d, t, os⟩) : wpAny M A (checkBuiltinCall "type.__call__" ⟨.ref C :: rest, kw⟩) Q E ⟨h, g, d, t, os⟩ := by
  have f3 := tc_sub
  have hT : (⟨h, g, d, t, os⟩ : Shared).TypeIs (.ref C) "type" := ⟨_, hC, rfl⟩
  simp only [checkBuiltinCall, tc_kind, tc_split]
  repeat (any_goals (first | assumption
                           | with_reducible refine wpAny_loadPart_at hC ?_
                           | with_reducible refine wpAny_onRaise ?_
                           | with_reducible refine wpAny_map ?_
                           | wp_step))
theorem call_kw (F : ExcBaseFacts B newId initId tl) (hT : ∀ X : String, bm.contains (.type X) = tl.contains (.type X)) {rest : List Value} {fI : Addr}
    (hC : h.get? C = some (excClassObj nm q C N bs bm hdct sn sub ab col dd k0 k1 k2 k3 k5 newId))
    (hi : PySem.W.Looks (model prog w) h (typeLookup (.ref C) "__init__") (some (.ref fI))) (hb : ∀ self, PySem.W.Looks (model prog w) h (bindSpecial (.ref fI) self) (.ref fI, [self])) (hr : rest.length ≤ sizeLine)
    (hq : codeAny (model prog w) (A.under (.builtin "type.__call__" ⟨.ref C :: rest, kw⟩)) (.call (.ref fI) ⟨.ref (h.objs.size + 1) :: rest, kw⟩) (PySem.W.InitBack (h.objs.size + 1) R)
      ⟨(h.push (PySem.W.kdv_tup rest)).push (PySem.HandSPX.excO C h.objs.size), g, d, t, os⟩) :
    codeAny (model prog w) A (.call (.ref C) ⟨rest, kw⟩) R ⟨h, g, d, t, os⟩ := by
  have f1 := tc_lookup
  have f2 := tc_bind (.ref C)
  have hTy : (⟨h, g, d, t, os⟩ : Shared).TypeIs (.ref C) "type" := ⟨_, hC, rfl⟩
  refine codeAny_of_tree ?_
  show wpAny _ _ (callAny (.ref C) _) _ _ _
  repeat (any_goals (first | assumption
                           | with_reducible refine wpAny_loadPart_at hC ?_
                           | wp_step))
  refine ⟨rfl, ?_⟩
  refine codeAny_call_builtin_at (Code.quiet_builtin _ (by decide +kernel)) entry_typeCall (check_type_kw hC (type_call_kw F hT hC hi hb hr ?_))
  refine codeAny_mono hq fun r s' z => ?_
  match r, z with
  | .error e, z => exact z
  | .ok (.ret v), z => exact z
end
end Exg
namespace Exg
open PySem PySem.Spec PyProof.Rows L2 Sup Grd
/-- C(n = e, ..) -/
def tMkK (C : Addr) (n : Nat) (sp : Sp) (gV : List V → List V → List V) (tk : TA) : TE := fun σ H Q => tk σ H fun zs H1 => zs.length = n ∧ ∀ a, H1 a = none → sp (gV [.ref a] zs) (upd H1 a (exo a C none)) (fun v H2 => v = .non ∧ Q (.ref a) H2) E0
section
variable {B newId initId : String} {tl : List Value} {X : Cx} {pins : List (Addr × Obj)} {s : Shared} {σ : L2.St} {H : Hp} {C fI : Addr} {k : Nat} {fd : FuncData} {ps ks : List Str} {sp : Sp} {Q : VK} {ws : List Value} {zs : List V} {g : List Value → List Value → List Value} {gV : List V → List V → List V}
theorem run_mkK (b : BaseE B newId initId tl) (T : Oex X.K C B newId tl) (iC : PySem.W.findIn X.K (.ref C) "__init__" = some (some (.ref fI))) (tI : PySem.W.typeIn X.K (.ref fI) = some (.type "function"))
    (F : FnG X.prog X.w X.K X.mg X.base CX0 k fI fd ps sp) (hG : X.A.guards = some []) (hr : Room (k + 1) X.A) (hb : KBn X.K fd ps 1 ks g gV) (I : Inv X pins σ H s) (r : Vals zs ws) (hl : zs.length = ks.length)
    (h : ∀ a, H a = none → sp (gV [.ref a] zs) (upd H a (exo a C none)) (fun v H2 => v = .non ∧ Q (.ref a) H2) E0) : wpAny (model X.prog X.w) X.A (call (.ref C) [] (ks.zip ws)) (EP X pins σ Q) X.xe s := by
  obtain ⟨nm, N, q, bs, bm, hdct, sn, sub, ab, col, dd, k0, k1, k2, k3, k5, hC, hbm⟩ := PySem.W.excInit_of I.kIn T.ini
  obtain ⟨hp, gs, dr, tk, os⟩ := s
  have hn : H (hp.objs.size + 1) = none := I.hok.fresh (Nat.le_succ _)
  have hq := h _ hn
  have hget : ((hp.push (PySem.W.kdv_tup [])).push (PySem.HandSPX.excO C hp.objs.size)).get? (hp.objs.size + 1) = some (PySem.HandSPX.excO C hp.objs.size) := by heap_get
  have I2 : Inv X pins σ (upd H (hp.objs.size + 1) (exo (hp.objs.size + 1) C none)) ⟨(hp.push (PySem.W.kdv_tup [])).push (PySem.HandSPX.excO C hp.objs.size), gs, dr, tk, os⟩ :=
    I.laid (t' := tk) (fun c o z => Heap.get?_push_of_some _ (Heap.get?_push_of_some _ z)) (Nat.le_succ _) (exo_ok hget)
  have r2 : Vals (gV [V.ref (hp.objs.size + 1)] zs) (g [Value.ref (hp.objs.size + 1)] ws) := hb.rel (.cons rfl .nil) r
  have hB := hb.to ⟨(hp.push (PySem.W.kdv_tup [])).push (PySem.HandSPX.excO C hp.objs.size), gs, dr, tk, os⟩ [Value.ref (hp.objs.size + 1)] ws I2.kIn rfl (r.length.symm.trans hl)
  refine wpAny_call (call_kw b.F hbm hC (PySem.W.looks_findIn I.kIn iC) (fun self => PySem.W.bind_fn I.kIn self tI) (Nat.zero_le _)
    (codeAny_mono (F.run _ X.stack _ _ ⟨[Value.ref (hp.objs.size + 1)], ks.zip ws⟩ _ _ _ E0 (guards_make hG C [] (ks.zip ws)) (hr.make C [] (ks.zip ws)) (I2.env0.make C [] (ks.zip ws)) hB r2 hq) fun res s' z => ?_))
  match res, z with
  | .error e, z => exact z.elim
  | .ok (.ret u), z =>
    obtain ⟨v, H', I3, rv, ev, q3⟩ := I2.after z
    subst ev
    exact ⟨rv, .ref (hp.objs.size + 1), H', I3, rfl, q3⟩
theorem pe_mkK {x : Str} {kws : List Keyword} {tk : TA} {p pos : Pos} (b : BaseE B newId initId tl) (T : Oex X.K C B newId tl) (iC : PySem.W.findIn X.K (.ref C) "__init__" = some (some (.ref fI))) (tI : PySem.W.typeIn X.K (.ref fI) = some (.type "function"))
    (F : FnG X.prog X.w X.K X.mg X.base CX0 k fI fd ps sp) (hG : X.A.guards = some []) (hr : Room (k + 1) X.A) (hb : KBn X.K fd ps 1 ks g gV) (hg : Gl X x) (hm : X.mg x = some (.ref C)) (hkw : PK X kws tk)
    (h1 : (backToKw pos (keywordEach kws X.env)).all (·.1.isSome) = true := by rfl) (h2 : (backToKw pos (keywordEach kws X.env)).filterMap (·.1) = ks := by rfl) (h3 : (x == ("__debug__" : Str)) = false := by decide)
    (h4 : ((backTo pos (starEach [] X.env)).any (·.1) || (backToKw pos (keywordEach kws X.env)).any (·.1.isNone)) = false := by rfl) : PE X (.Call (.Name x p) [] kws pos) (tMkK C ks.length sp gV tk) := by
  refine ⟨fun pins s σ H Q I h => wpAny_Call_Name_kw (ld_glob I hg hm ?_ h3)⟩
  refine PySem.W.callWith_KW0 (h₀ := X.base) I.ok.mod.kin T.kC h1 (thn (hkw.run pos pins s σ H _ I h) ?_) h4
  rintro ws s2 ⟨zs, H2, I2, rz, l2, q2⟩
  refine ⟨I2.kIn, ?_⟩
  rw [h2]
  exact run_mkK b T iC tI F hG hr hb I2 rz l2 q2
end
/-! ### what is kept: its fields, its classes -/
/-- an exception at a, of the class at C, with these fields -/
def ExAt (H : Hp) (a C : Addr) (fs : List (Str × V)) : Prop := ∃ dx, H a = some (exo a C (some dx)) ∧ H dx = some (exd dx fs)
/-- the facts for its fields -/
structure XfT (K : PySem.W.Frag) (C : Addr) : Prop where
  ga : PySem.W.findIn K (.ref C) "__getattribute__" = some (some (.builtin "BaseException.__getattribute__"))
  gg : PySem.W.findIn K (.ref C) "__getattr__" = some none
  exC : PySem.W.subIn K (.ref C) (.type "BaseException") = some true
  hdC : PySem.W.hasDictIn K C = true
def tFldE (K : PySem.W.Frag) (n : Str) (te : TE) : TE := fun σ H Q => te σ H fun x H1 => ∃ a C fs v, x = .ref a ∧ ExAt H1 a C fs ∧ XfT K C ∧ PySem.W.findIn K (.ref C) n = some none ∧ fs.lookup n = some v ∧ Q v H1
theorem pe_fldE {X : Cx} {e : Expr} {te : TE} {pos : Pos} {n : Str} (he : PE X e te) (hb : attributeBase e n X.env (eval e X.env) = eval e X.env := by rfl) : PE X (.Attribute e n pos) (tFldE X.K n te) := by
  refine ⟨fun pins s σ H Q I h => attr_of hb (thn (he.run pins s σ H _ I h) ?_)⟩
  rintro u s1 ⟨x, H1, I1, rx, a, C, fs, v, rfl, ⟨dx, ea, ed⟩, T, hno, l, q⟩
  cases rx
  obtain ⟨t1, ho⟩ := exo_at I1.hok ea
  obtain ⟨mA, hns, hr⟩ := exd_at I1.hok ed
  obtain ⟨od, hd, hl⟩ := lookIn_ns hns
  obtain ⟨u, hu, ru⟩ := RelO.some_of (v := v) (o := mA n) (by rw [← l]; exact hr n)
  have J : PySem.W.InstAt s1.heap a { cls := .ref C, dict := some dx, data := .fields #[.ref t1, .none, .none, .none, .bool false, .none] } C (some od) := ⟨ho, rfl, rfl, hd⟩
  exact HandSPX.exc_get I1.kIn J T.ga T.gg T.exC (PySem.W.findObj_own T.hdC hno rfl (by rw [hl, hu])) (handed_of ru) ⟨v, H1, I1.tok _, ru, q⟩
/-- the facts for isinstance -/
structure XiT (K : PySem.W.Frag) (C : Addr) : Prop where
  cl : (PySem.W.clsIn K C).isSome = true
  ga : PySem.W.findIn K (.ref C) "__getattribute__" = some (some (.builtin "BaseException.__getattribute__"))
  gg : PySem.W.findIn K (.ref C) "__getattr__" = some none
  exC : PySem.W.subIn K (.ref C) (.type "BaseException") = some true
  ca : PySem.W.findIn K (.ref C) "__class__" = some (some (.builtin "object.__class__"))
  cn : PySem.W.specialIn K (.builtin "object.__class__") "__get__" = some (some (.builtin "getset_descriptor.__get__"))
  ct : PySem.W.takesIn K (.builtin "object.__class__") = some true
  ob : PySem.W.mroIn K C (.type "object") = some true
/-- an exception at a, its dict made or not -/
def ExIs (H : Hp) (a C : Addr) : Prop := H a = some (exo a C none) ∨ ∃ fs, ExAt H a C fs
theorem ExIs.inst {X : Cx} {pins : List (Addr × Obj)} {s : Shared} {σ : L2.St} {H : Hp} {a C : Addr} (I : Inv X pins σ H s) (h : ExIs H a C) : ∃ ox od, PySem.W.InstAt s.heap a ox C od := by
  rcases h with e | ⟨fs, dx, e, ed⟩
  · obtain ⟨t1, ho⟩ := exo_at I.hok e
    exact ⟨_, none, ho, rfl, rfl, trivial⟩
  · obtain ⟨t1, ho⟩ := exo_at I.hok e
    obtain ⟨mA, hns, _⟩ := exd_at I.hok ed
    obtain ⟨od, _, _, hd, _⟩ := hns
    exact ⟨_, some od, ho, rfl, rfl, hd⟩
/-- isinstance(e, c), e a kept exception -/
def rIsX (K : PySem.W.Frag) : List V → Hp → VK → Prop := fun xs H Q => ∃ (a C : Addr) (c : V) (u : Value) (b : Bool), xs = [.ref a, c] ∧ ClsV c u ∧ ExIs H a C ∧ XiT K C ∧ PySem.W.kitOne K (.ref C) u = some b ∧ Q (.bl b) H
theorem call_isX {X : Cx} : CallR X (.builtin "isinstance") (rIsX X.K) := by
  intro pins s σ H xs us Q I r h
  obtain ⟨a, C, c, u, b, rfl, k, hx, T, e, q⟩ := h
  obtain ⟨u1, u2, rfl, r1, r2⟩ := vals2 r
  cases r1
  obtain rfl := k.eq r2
  obtain ⟨ox, od, J⟩ := hx.inst I
  exact PySem.W.kia_one (PySem.W.kitx_exc T.cl T.ga T.gg T.exC T.ca T.cn T.ct T.ob) I.kIn J e (fun z => nomatch z) fun tk => ⟨.bl b, H, I.kept (t' := tk) fun _ _ z => z, ⟨rfl, q⟩⟩
/-- C(), C an own exception class without its own __init__ -/
theorem pe_mk0E {X : Cx} {B newId initId : String} {tl : List Value} {C : Addr} {x : Str} {p pos : Pos} (b : BaseE B newId initId tl) (q : PySem.W.excIn X.K C tl newId = true) (kC : PySem.W.keepIn X.K (.ref C) = true) (hg : Gl X x) (hm : X.mg x = some (.ref C))
    (hdb : (x == ("__debug__" : Str)) = false := by decide) : PE X (.Call (.Name x p) [] [] pos) (fun _ H Q => ∀ a, H a = none → Q (.ref a) (upd H a (exo a C none))) := by
  refine ⟨fun pins s σ H Q I h => wpAny_Call_Name_kw (ld_glob I hg hm ?_ hdb)⟩
  refine PySem.W.callWith_K0 I.kIn kC ?_
  show wpAny _ _ (call (.ref C) []) _ _ _
  obtain ⟨bm, N, nm, qn, bs, hdct, sn, sub, ab, col, dd, k0, k1, k2, k3, k5, mN, hC, hN, hni, T⟩ := exc_obj I.kIn q
  refine wpAny_call_exc_subT b.F T hC hN hni (fun h' a hm => ?_) (Nat.zero_le _)
  have hn : H a = none := I.hok.gone hm.new
  obtain ⟨t, ht, _, _⟩ := hm.there
  exact ⟨.ref a, _, I.laidN hm.keeps hm.new hn (exo_ok ht), rfl, h a hn⟩
end Exg
/-! repr of data with an empty dict in it, where nothing is being shown. -/
namespace Shw
open PySem PySem.Spec PyProof.Rows L2
mutual
/-- data; its lists are none of the interpreter's own -/
inductive Dq (K : PySem.W.Frag) (H : Hp) : V → PyData → Prop
  | non : Dq K H .non .none
  | bl (b : Bool) : Dq K H (.bl b) (.bool b)
  | int (i : Int) : Dq K H (.int i) (.int i)
  | str (x : Str) : Dq K H (.str x) (.str x)
  | lst {a : Addr} {xs : List V} {ds : List PyData} (n : sysModules ≠ a) (h : SqL K H a xs) (r : DqAll K H xs ds) : Dq K H (.ref a) (.list ds)
  | tup {a : Addr} {xs : List V} {ds : List PyData} (h : SqT K H a xs) (r : DqAll K H xs ds) : Dq K H (.ref a) (.tuple ds)
  | dic {a : Addr} (h : Rd H a (.dK [])) : Dq K H (.ref a) (.dict [])
inductive DqAll (K : PySem.W.Frag) (H : Hp) : List V → List PyData → Prop
  | nil : DqAll K H [] []
  | cons {v : V} {vs : List V} {d : PyData} {ds : List PyData} (h : Dq K H v d) (r : DqAll K H vs ds) : DqAll K H (v :: vs) (d :: ds)
end
theorem DqAll.append {K : PySem.W.Frag} {H : Hp} {xs ys : List V} {ds es : List PyData} (h : DqAll K H xs ds) (g : DqAll K H ys es) : DqAll K H (xs ++ ys) (ds ++ es) := by
  induction ds generalizing xs with
  | nil => cases h; exact g
  | cons d ds ih => cases h with | cons a b => exact .cons a (ih b)
theorem rd_same {H H' : Hp} {a : Addr} {u : HO} (s : ∀ b o, H b = some o → H' b = some o) (h : Rd H a u) : Rd H' a u := h.imp (s _ _) fun ⟨o, e⟩ => ⟨o, s _ _ e⟩
mutual
theorem Dq.same {K : PySem.W.Frag} {H H' : Hp} (s : ∀ b o, H b = some o → H' b = some o) : ∀ (d : PyData) (v : V), Dq K H v d → Dq K H' v d
  | .none, _, h => by cases h; exact .non
  | .bool _, _, h => by cases h; exact .bl _
  | .int _, _, h => by cases h; exact .int _
  | .str _, _, h => by cases h; exact .str _
  | .list ds, _, h => by
    cases h with
    | lst n q r => exact .lst n (q.imp (rd_same s) id) (Dq.sameAll s ds _ r)
  | .tuple ds, _, h => by
    cases h with
    | tup q r => exact .tup (q.imp (rd_same s) id) (Dq.sameAll s ds _ r)
  | .dict _, _, h => by
    cases h with
    | dic q => exact .dic (rd_same s q)
theorem Dq.sameAll {K : PySem.W.Frag} {H H' : Hp} (s : ∀ b o, H b = some o → H' b = some o) : ∀ (ds : List PyData) (vs : List V), DqAll K H vs ds → DqAll K H' vs ds
  | [], _, h => by cases h; exact .nil
  | d :: ds, _, h => by
    cases h with
    | cons a b => exact .cons (Dq.same s d _ a) (Dq.sameAll s ds _ b)
end
section
variable {X : Cx} {pins : List (Addr × Obj)} {σ : L2.St} {H : Hp} {s : Shared}
mutual
theorem Dq.reads (I : Inv X pins σ H s) : ∀ (d : PyData) (v : V) (u : Value), Dq X.K H v d → RelV v u → ∃ as, Reads s.heap u d as ∧ sysModules ∉ as
  | .none, _, _, h, r => by
    cases h; cases r
    exact ⟨[], .none, List.not_mem_nil⟩
  | .bool b, _, _, h, r => by
    cases h; cases r
    exact ⟨[], .bool b, List.not_mem_nil⟩
  | .int i, _, _, h, r => by
    cases h
    obtain ⟨t, rfl⟩ := r
    exact ⟨[], .int i t, List.not_mem_nil⟩
  | .str x, _, _, h, r => by
    cases h
    obtain ⟨t, rfl⟩ := r
    exact ⟨[], .str x t, List.not_mem_nil⟩
  | .list ds, _, _, h, r => by
    cases h with
    | lst n hs ha =>
      cases r
      obtain ⟨its, rv, ⟨o, k, ho, hc, _, hd⟩, _⟩ := I.list hs
      obtain ⟨as, hr, hn⟩ := Dq.readsAll I ds _ its ha rv
      exact ⟨_, .list ho hc hd hr, fun z => (List.mem_cons.mp z).elim n hn⟩
  | .tuple ds, _, _, h, r => by
    cases h with
    | tup hs ha =>
      cases r
      obtain ⟨its, rv, ⟨o, ho, hc, k, hd⟩, _⟩ := I.tuple hs
      obtain ⟨as, hr, hn⟩ := Dq.readsAll I ds _ its ha rv
      exact ⟨_, .tuple ho hc hd hr, hn⟩
  | .dict _, _, _, h, r => by
    cases h with
    | dic hs =>
      cases r
      obtain ⟨_, hsm, vs, kv, o, es, ep, ho, hx, hd, hk, hp, _⟩ := dk_rd I.hok hs
      cases kv
      have e0 : es.toList = [] := by
        generalize es.toList = l at hp
        cases hp
        rfl
      refine ⟨_, .dict (as := []) (bs := []) ho hx.1 hd (by rw [e0]; exact .nil) (by rw [e0]; exact .nil), ?_⟩
      intro z
      rw [List.append_nil] at z
      rw [List.mem_singleton.mp z] at hsm
      exact absurd hsm (by simp)
theorem Dq.readsAll (I : Inv X pins σ H s) : ∀ (ds : List PyData) (vs : List V) (us : List Value), DqAll X.K H vs ds → Vals vs us → ∃ as, ReadsAll s.heap us ds as ∧ sysModules ∉ as
  | [], _, _, h, r => by
    cases h; cases r
    exact ⟨[], .nil, List.not_mem_nil⟩
  | d :: ds, _, _, h, r => by
    cases h with
    | cons h1 h2 =>
      cases r with
      | cons r1 r2 =>
        obtain ⟨as, q1, n1⟩ := Dq.reads I d _ _ h1 r1
        obtain ⟨bs, q2, n2⟩ := Dq.readsAll I ds _ _ h2 r2
        exact ⟨_, .cons q1 q2, fun z => (List.mem_append.mp z).elim n1 n2⟩
end
end
section
variable {X : Cx}
/-- what may be shown -/
structure Fit (d : PyData) : Prop where
  sh : PyData.showable d = true
  dp : d.depth ≤ 60
  sz : d.shown.length ≤ sizeLine
def rShow (K : PySem.W.Frag) : List V → Hp → VK → Prop := fun xs H Q => ∃ x d, xs = [x] ∧ Dq K H x d ∧ Fit d ∧ Q (.str d.shown) H
theorem call_show (hg : X.A.guards = some []) (hu : X.A.units + 64 < cLine) : CallR X (.builtin "repr") (rShow X.K) := by
  intro pins s σ H xs us Q I r h
  obtain ⟨x, d, rfl, hd, ft, q⟩ := h
  obtain ⟨u, rfl, ru⟩ := vals1 r
  obtain ⟨as, rd, na⟩ := Dq.reads I d x u hd ru
  cases hd with
  | non => cases ru; exact PySem.P.repr_of_none ⟨.str _, H, I.tok _, ⟨_, rfl⟩, q⟩
  | bl b => cases ru; exact PySem.P.repr_of_bool ⟨.str _, H, I.tok _, ⟨_, rfl⟩, q⟩
  | int i => obtain ⟨t, rfl⟩ := ru; exact PySem.P.repr_of_int (of_decide_eq_true ft.sh) ⟨.str _, H, I.tok _, ⟨_, rfl⟩, q⟩
  | str y => obtain ⟨t, rfl⟩ := ru; exact PySem.P.repr_of_str ⟨.str _, H, I.tok _, ⟨_, rfl⟩, q⟩ ft.sz
  | lst n q1 q2 => cases ru; exact PySem.repr_of_reads' rd ft.sh (fun _ => na) hg (by have := ft.dp; omega) (fun _ _ e => e) (fun h' u tk hk => ⟨.str _, H, I.kept (t' := tk) hk, ⟨_, rfl⟩, q⟩) ft.sz
  | tup q1 q2 => cases ru; exact PySem.repr_of_reads' rd ft.sh (fun _ => na) hg (by have := ft.dp; omega) (fun _ _ e => e) (fun h' u tk hk => ⟨.str _, H, I.kept (t' := tk) hk, ⟨_, rfl⟩, q⟩) ft.sz
  | dic q1 => cases ru; exact PySem.repr_of_reads' rd ft.sh (fun _ => na) hg (by have := ft.dp; omega) (fun _ _ e => e) (fun h' u tk hk => ⟨.str _, H, I.kept (t' := tk) hk, ⟨_, rfl⟩, q⟩) ft.sz
/-- {x!r} -/
def tShowR (K : PySem.W.Frag) (te : TE) : TE := fun σ H Q => te σ H fun x H1 => ∃ d, Dq K H1 x d ∧ Fit d ∧ Q (.str d.shown) H1
theorem pe_showR {e : Expr} {te : TE} {pos : Pos} (hg : X.A.guards = some []) (hu : X.A.units + 64 < cLine) (he : PE X e te) : PE X (.FormattedValue e 114 none pos) (tShowR X.K te) := by
  refine ⟨fun pins s σ H Q I h => wpAny_FormattedValue_repr (thn (he.run pins s σ H _ I h) ?_)⟩
  rintro v s1 ⟨x, H1, I1, r1, d, hd, ft, q⟩
  obtain ⟨as, rd, na⟩ := Dq.reads I1 d x v hd r1
  have fin : ∀ (h' : Heap) (u : Tok) (tk : Nat), (∀ b o, s1.heap.get? b = some o → h'.get? b = some o) → wpAny (model X.prog X.w) X.A (formatField (.str d.shown u) Str.empty) (EP X pins σ Q) X.xe { s1 with heap := h', toks := tk } :=
    fun h' u tk hk => wpAny_formatField_str ⟨.str _, H1, I1.kept (t' := tk) hk, ⟨_, rfl⟩, q⟩ ⟨.str _, H1, (I1.kept (t' := tk) hk).tok _, ⟨_, rfl⟩, q⟩ ft.sz
  cases hd with
  | non => cases r1; exact pyReprObj_none (fin _ _ _ fun _ _ e => e)
  | bl b => cases r1; exact pyReprObj_bool (fin _ _ _ fun _ _ e => e)
  | int i => obtain ⟨t, rfl⟩ := r1; exact pyReprObj_int (of_decide_eq_true ft.sh) (fin _ _ _ fun _ _ e => e)
  | str y => obtain ⟨t, rfl⟩ := r1; exact pyReprObj_str (fin _ _ _ fun _ _ e => e) ft.sz
  | lst n q1 q2 => cases r1; exact pyReprObj_of_reads rd ft.sh (fun _ => na) hg (by have := ft.dp; omega) (fun _ _ e => e) (fun h' u tk hk => fin h' u tk hk) ft.sz
  | tup q1 q2 => cases r1; exact pyReprObj_of_reads rd ft.sh (fun _ => na) hg (by have := ft.dp; omega) (fun _ _ e => e) (fun h' u tk hk => fin h' u tk hk) ft.sz
  | dic q1 => cases r1; exact pyReprObj_of_reads rd ft.sh (fun _ => na) hg (by have := ft.dp; omega) (fun _ _ e => e) (fun h' u tk hk => fin h' u tk hk) ft.sz
/-- new lists -/
theorem big {pins : List (Addr × Obj)} {σ : L2.St} {H : Hp} {s : Shared} (I : Inv X pins σ H s) : sysModules ≠ s.heap.objs.size := Nat.ne_of_lt (StX.env0_big I.env0)
def tLstN (t : TA) : TE := fun σ H Q => t σ H fun xs H1 => xs.length ≤ sizeLine ∧ ∀ p, H1 p = none → sysModules ≠ p → Q (.ref p) (upd H1 p (.lst xs))
theorem pe_lstN {es : List Expr} {t : TA} {pos : Pos} (h : PA X es t) : PE X (.List es pos) (tLstN t) := by
  refine ⟨fun pins s σ H Q I hq => wpAny_List_spliced (thn (h.run pos pins s σ H _ I hq) ?_)⟩
  rintro us s1 ⟨xs, H1, I1, r, z, q⟩
  refine ⟨r.length ▸ z, .ref s1.heap.objs.size, _, I1.lnew (t' := s1.toks) r z, rfl, q _ I1.fresh (big I1)⟩
def rCatN : R2 := fun x y H Q => ∃ l b xs zs, x = .ref l ∧ y = .ref b ∧ H l = some (.lst xs) ∧ H b = some (.lst zs) ∧ xs.length + zs.length ≤ sizeLine ∧ ∀ p, H p = none → sysModules ≠ p → Q (.ref p) (upd H p (.lst (xs ++ zs)))
theorem op_catN : OpR X (binaryOp .Add) rCatN := by
  intro pins s σ H x y v u Q I rx ry h
  obtain ⟨l, b, xs, zs, rfl, rfl, hH, hB, hz, q⟩ := h
  cases rx; cases ry
  obtain ⟨_, its, n, r, hl, e⟩ := I.lstM hH
  obtain ⟨_, its2, n2, r2, hl2, e2⟩ := I.lstM hB
  refine PySem.P.add_list e e2 ?_ (by rw [List.size_toArray, List.size_toArray, ← hl, ← hl2]; exact hz)
  rw [show its.toArray ++ its2.toArray = (its ++ its2).toArray from by simp]
  exact ⟨.ref _, _, I.lnew (t' := s.toks) (r.append r2) (by rw [List.length_append]; exact hz), rfl, q _ I.fresh (big I)⟩
end
end Shw
/-! repr of data without dicts, where nothing is being shown. -/
namespace ShN
open PySem PySem.Spec PyProof.Rows L2
structure FitN (d : PyData) : Prop where
  sh : PyData.showable d = true
  dp : d.depth ≤ 60
  sz : d.shown.length ≤ sizeLine
  nd : d.hasDict = false
def rShN (K : PySem.W.Frag) : List V → Hp → VK → Prop := fun xs H Q => ∃ x d, xs = [x] ∧ Dp K H x d ∧ FitN d ∧ Q (.str d.shown) H
theorem call_shN {X : Cx} (hg : X.A.guards = some []) (hu : X.A.units + 64 < cLine) : CallR X (.builtin "repr") (rShN X.K) := by
  intro pins s σ H xs us Q I r h
  obtain ⟨x, d, rfl, hd, ft, q⟩ := h
  obtain ⟨u, rfl, ru⟩ : ∃ u, us = [u] ∧ RelV x u := by
    cases r with
    | cons a r =>
      cases r
      exact ⟨_, rfl, a⟩
  obtain ⟨as, rd⟩ := Dp.reads I d x u hd ru
  cases hd with
  | non => cases ru; exact PySem.P.repr_of_none ⟨.str _, H, I.tok _, ⟨_, rfl⟩, q⟩
  | bl b => cases ru; exact PySem.P.repr_of_bool ⟨.str _, H, I.tok _, ⟨_, rfl⟩, q⟩
  | int i => obtain ⟨t, rfl⟩ := ru; exact PySem.P.repr_of_int (of_decide_eq_true ft.sh) ⟨.str _, H, I.tok _, ⟨_, rfl⟩, q⟩
  | str y => obtain ⟨t, rfl⟩ := ru; exact PySem.P.repr_of_str ⟨.str _, H, I.tok _, ⟨_, rfl⟩, q⟩ ft.sz
  | lst q1 q2 => cases ru; exact PySem.repr_of_reads' rd ft.sh (PyData.noDict_hsm ft.nd) hg (by have := ft.dp; omega) (fun _ _ e => e) (fun h' u tk hk => ⟨.str _, H, I.kept (t' := tk) hk, ⟨_, rfl⟩, q⟩) ft.sz
  | tup q1 q2 => cases ru; exact PySem.repr_of_reads' rd ft.sh (PyData.noDict_hsm ft.nd) hg (by have := ft.dp; omega) (fun _ _ e => e) (fun h' u tk hk => ⟨.str _, H, I.kept (t' := tk) hk, ⟨_, rfl⟩, q⟩) ft.sz
end ShN
namespace Exg
open PySem PySem.Spec PyProof.Rows L2 Sup Grd Shw
open NdefX (NF NScope ncx envF startF CellsAt inv_startN nscope_by)
section
variable {P : Program} {w : World} {K : PySem.W.Frag} {mg : Str → Option Value} {base : Heap} {CX : CXT} {x qual : Str} {st : Stmt} {f c cc D : Addr} {fd : FuncData} {N ps : List Str} {k : Nat} {sp : Sp}
theorem fn_superG (F : FunS P K x qual st f fd c cc D) (S : NScope N ps ["__class__"] (defScope st)) (len : ∀ vs H Q E, sp vs H Q E → vs.length = ps.length)
    (hbody : ∀ (A : Around) (outer : List Env) (s : Shared) (H : Hp) (vs : List V) (Q : VK) (E : XK), A.guards = some [] → Room k (A.deeper (envF (nf x qual st c cc) f s.heap.objs.size)) → sp vs H Q E → ∀ s1,
      Inv (ncx CX P w K mg base N (nf x qual st c cc) f A outer s H E) [] (startF N vs [some (.ref D)]) H s1 →
      PySem.wpAt (model P w) (A.deeper (envF (nf x qual st c cc) f s.heap.objs.size)) (.func (defBody st) (envF (nf x qual st c cc) f s.heap.objs.size)) (execs (defBody st) (envF (nf x qual st c cc) f s.heap.objs.size))
        (SP (ncx CX P w K mg base N (nf x qual st c cc) f A outer s H E) [] { nx := fun _ H' => Q .non H', rt := Q }) (ncx CX P w K mg base N (nf x qual st c cc) f A outer s H E).xe s1) :
    FnG P w K mg base CX (k + 1) f fd ps sp := by
  obtain ⟨oc, od, kV, doc, pm, an, ct, osl, rfl, lk⟩ := F.ex
  obtain ⟨cl, cld, csl, lc⟩ := F.cell
  refine ⟨len, fun A outer s H args us vs Q E hgu hr e0 hb r hsp => ?_⟩
  have hl := len _ _ _ _ hsp
  have KX : K.In s.heap := e0.mod.kin.keeps fun b o e => (e0.bs b o e).1
  have lim : s.heap.NoLimit := e0.mod.nolimit.keeps fun b o e => (e0.bs b o e).1
  have hcc : s.heap.get? cc = some ⟨cl, cld, .cell (some (.ref D)), csl⟩ := KX _ _ lc
  have C : CellsAt (nf x qual st c cc).cl ["__class__"] [some (V.ref D)] s.heap H := by
    refine ⟨rfl, fun y b e => ?_, fun a b q h1 h2 => ?_, fun i y hy => ?_⟩
    · have e : (if y == "__class__" then some cc else none) = some b := by
        have q : List.lookup y [(("__class__" : Str), cc)] = some b := e
        rw [List.lookup_cons] at q
        cases z : y == ("__class__" : Str) with
        | true => rw [z] at q; rw [if_pos rfl]; exact q
        | false => rw [z] at q; cases q
      split at e
      · cases e
        exact ⟨(e0.bs _ _ (e0.mod.kin _ _ lc)).2, _, _, hcc, rfl⟩
      · cases e
    · have key : ∀ {y : Str} {b : Addr}, List.lookup y [(("__class__" : Str), cc)] = some b → y = "__class__" := fun {y b} q => by
        rw [List.lookup_cons] at q
        cases z : y == ("__class__" : Str) with
        | true => exact eq_of_beq z
        | false => rw [z] at q; cases q
      exact (key h1).trans (key h2).symm
    · match i, hy with
      | 0, hy =>
        have e : (("__class__" : Str)) = y := Option.some.inj hy
        subst e
        refine ⟨cc, by show List.lookup _ [(("__class__" : Str), cc)] = some cc; rw [List.lookup_cons, beq_self_eq_true], fun v hv => ?_⟩
        have e : V.ref D = v := Option.some.inj (Option.some.inj hv)
        subst e
        exact ⟨_, rfl, _, hcc, rfl⟩
  refine ks_codeAny_call_defAt (fd := PySem.W.fnX x qual (defArgs st) (defBody st) (defScope st) [("__class__", cc)] .none kV doc pm an (.ref c) ct) (body := defBody st) (binds := ps.zip us) hr.depth (KX _ _ lk) rfl lim (PySem.W.codeRec_of KX F.cd) rfl hb
    S.nocell (fun ⟨n, _⟩ hy => S.par n (List.of_mem_zip hy).1) (fun h₁ hns kp => ?_) S.co S.gen S.kind
  have I : Inv (ncx CX P w K mg base N (nf x qual st c cc) f A outer s H E) [] (startF N vs [some (.ref D)]) H { s with heap := h₁, toks := s.toks + (ps.zip us).length } := inv_startN S hr.hd e0 hl r C hns kp
  refine ks_wpAt_mono (hbody A outer s H vs Q E hgu (hr.deeper _) hsp _ I) (fun fl s' hs => ?_) fun e s' hs => hs
  have fin : ∀ {σ' : L2.St} {H' : Hp} {v : V} {u : Value}, Inv (ncx CX P w K mg base N (nf x qual st c cc) f A outer s H E) [] σ' H' s' → L2.RelV v u → Q v H' → CE outer P w H s Q u s' :=
    fun {σ' H' v u} J rv q => ⟨v, H', J.os, J.bare, J.base, J.hok, rv, q⟩
  cases fl with
  | ret u =>
    obtain ⟨v, σ', H', J, rv, q⟩ := hs
    exact fin J rv q
  | next =>
    obtain ⟨σ', H', J, q⟩ := hs
    exact fin (v := V.non) (u := Value.none) J rfl q
  | brk =>
    obtain ⟨_, _, _, q⟩ := hs
    exact False.elim q
  | cont =>
    obtain ⟨_, _, _, q⟩ := hs
    exact False.elim q
end
/-- what is kept, small enough to be told in a message -/
structure Smalls (d : PyData) : Prop where
  fit : Fit d
  sz : d.shown.length ≤ 1000
def spOne (K : PySem.W.Frag) (C : Addr) (x : Str) : Sp := fun vs H Q _ => ∃ (a : Addr) (v : V) (d : PyData), vs = [.ref a, v] ∧ Dq K H v d ∧ Smalls d ∧ H a = some (exo a C none) ∧
  ∀ (dx : Addr), H dx = none → dx ≠ a → Q .non (upd (upd H dx (exd dx [(x, v)])) a (exo a C (some dx)))
def spTwo (K : PySem.W.Frag) (C : Addr) (x y : Str) : Sp := fun vs H Q _ => ∃ (a : Addr) (v u : V) (d e : PyData), vs = [.ref a, v, u] ∧ Dq K H v d ∧ Dq K H u e ∧ Smalls d ∧ Smalls e ∧ H a = some (exo a C none) ∧
  ∀ (dx : Addr) (H' : Hp), H dx = none → dx ≠ a → H' a = some (exo a C (some dx)) → H' dx = some (exd dx [(y, u), (x, v)]) → (∀ b o, b ≠ a → H b = some o → H' b = some o) → Q .non H'
/-- a class's facts that its __init__ asks -/
structure ErrT (P : Program) (K : PySem.W.Frag) (mg : Str → Option Value) (B newId initId : String) (tl : List Value) (C : Addr) : Prop where
  sup : SupT P K mg C
  oex : Oex K C B newId tl
  hm : PySem.W.ks_superIn K C C "__init__" = some (some (.builtin initId))
  hs : PySem.W.mroIn K C (.ref C) = some true
section
variable {P : Program} {w : World} {K : PySem.W.Frag} {mg : Str → Option Value} {base : Heap} {q x y pre pre2 : Str} {st : Stmt} {f c cc C : Addr} {fd : FuncData} {B newId initId : String} {tl : List Value} {p0 p1 p2 p3 p4 p5 p6 p7 p8 p9 p10 p11 p12 p13 p14 p15 p16 p17 p18 p19 : Pos} {j j2 : Nat}
theorem len0 (a : Str) : (Str.empty ++ a).length = a.length := by rw [strLen_append]; exact Nat.zero_add _
theorem ok_one (b : BaseE B newId initId tl) (F : FunS P K "__init__" q st f fd c cc C) (T : ErrT P K mg B newId initId tl C) (S : NScope ["self", x, "__class__"] ["self", x] ["__class__"] (defScope st))
    (hb : defBody st = [.Expr (.Call (.Attribute (.Call (.Name "super" p0) [] [] p1) "__init__" p2) [.JoinedStr [.Constant (.str pre) j p5, .FormattedValue (.Name x p6) 114 none p7] p8] [] p3) p4, .Assign [.Attribute (.Name "self" p9) x p10] (.Name x p11) p12])
    (hp : pre.length ≤ 100) (hsu : (defScope st).names.lookup ("super" : Str) = some .globalImplicit) (hcl : (defScope st).names.lookup ("__class__" : Str) = some .free) (hme : (defScope st).names.lookup ("self" : Str) = some .local) (hx : (defScope st).names.lookup x = some .local)
    (hd : (x == ("__debug__" : Str)) = false) (hcd : (x == ("__classdict__" : Str)) = false) (har : ∃ ar, ((defArgs st).posonlyargs ++ (defArgs st).args).head? = some ar ∧ ar.arg = "self") (hno : PySem.W.findIn K (.ref C) x = some none) (hk : (defScope st).kind = .function)
    (hin : ∀ env : Env, env.scope = defScope st → interactive env = false) (hev : ∀ env : Env, eval (.Call (.Attribute (.Call (.Name "super" p0) [] [] p1) "__init__" p2) [.JoinedStr [.Constant (.str pre) j p5, .FormattedValue (.Name x p6) 114 none p7] p8] [] p3) env = (do
      let ov ← attributeBase (.Call (.Name "super" p0) [] [] p1) "__init__" env (eval (.Call (.Name "super" p0) [] [] p1) env)
      standAt p2.atName
      let (f, first) ← holding [ov] (getMethod ov "__init__" (pure false))
      callWith p3 f first (backTo p3 (starEach [.JoinedStr [.Constant (.str pre) j p5, .FormattedValue (.Name x p6) 114 none p7] p8] env)) [])) :
    FnG P w K mg base CX0 1 f fd ["self", x] (spOne K C x) := by
  refine fn_superG F S (fun vs H Q E h => ?_) (fun A outer s H vs Q E hgu hr h s1 I => ?_)
  · obtain ⟨a, v, d, rfl, _⟩ := h
    rfl
  · obtain ⟨a, v, d, rfl, hv, sm, ha, k⟩ := h
    have hvx : Vis (ncx CX0 P w K mg base ["self", x, "__class__"] (nf "__init__" q st c cc) f A outer s H E).env.scope x := Or.inl hx
    have hvs : Vis (ncx CX0 P w K mg base ["self", x, "__class__"] (nf "__init__" q st c cc) f A outer s H E).env.scope "self" := Or.inl hme
    rw [hb]
    refine sup_exc (me := "self") (x := a) (C := C) b (atS_of F hk hsu hcl hme har) T.sup T.oex rfl T.hm T.hs
      (pa_cons (pe_joined (.cons pe_str (.cons (pe_showR hgu hr.units (pv 1 (hv := hvx) (hd := hd) (hcd := hcd))) .nil))) pa_nil) (pss_one (ps_put b (pv 0 (hv := hvs)) (pv 1 (hv := hvx) (hd := hd) (hcd := hcd)))) I rfl ha ?_ (hin _ rfl) rfl (hev _) rfl rfl
    refine ⟨_, rfl, (by rw [len0]; exact Nat.le_trans hp (by decide)), _, rfl, d, hv, sm.fit, _, rfl, ?_, (by show 1 ≤ 1000; decide), ha, _, rfl, _, rfl, a, C, rfl, T.oex, hno, .inl ⟨ha, k⟩⟩
    rw [strLen_append, len0]
    exact Nat.le_trans (Nat.add_le_add hp sm.sz) (by decide)
theorem ok_two (b : BaseE B newId initId tl) (F : FunS P K "__init__" q st f fd c cc C) (T : ErrT P K mg B newId initId tl C) (S : NScope ["self", x, y, "__class__"] ["self", x, y] ["__class__"] (defScope st))
    (hb : defBody st = [.Expr (.Call (.Attribute (.Call (.Name "super" p0) [] [] p1) "__init__" p2) [.JoinedStr [.Constant (.str pre) j p5, .FormattedValue (.Name x p6) 114 none p7, .Constant (.str pre2) j2 p13, .FormattedValue (.Name y p14) 114 none p15] p8] [] p3) p4,
      .Assign [.Attribute (.Name "self" p9) x p10] (.Name x p11) p12, .Assign [.Attribute (.Name "self" p16) y p17] (.Name y p18) p19])
    (hp : pre.length ≤ 100) (hp2 : pre2.length ≤ 100) (hsu : (defScope st).names.lookup ("super" : Str) = some .globalImplicit) (hcl : (defScope st).names.lookup ("__class__" : Str) = some .free) (hme : (defScope st).names.lookup ("self" : Str) = some .local)
    (hx : (defScope st).names.lookup x = some .local) (hy : (defScope st).names.lookup y = some .local) (hd : (x == ("__debug__" : Str)) = false) (hcd : (x == ("__classdict__" : Str)) = false) (hd2 : (y == ("__debug__" : Str)) = false) (hcd2 : (y == ("__classdict__" : Str)) = false)
    (har : ∃ ar, ((defArgs st).posonlyargs ++ (defArgs st).args).head? = some ar ∧ ar.arg = "self") (hno : PySem.W.findIn K (.ref C) x = some none) (hno2 : PySem.W.findIn K (.ref C) y = some none) (hk : (defScope st).kind = .function)
    (hin : ∀ env : Env, env.scope = defScope st → interactive env = false) (hev : ∀ env : Env, eval (.Call (.Attribute (.Call (.Name "super" p0) [] [] p1) "__init__" p2) [.JoinedStr [.Constant (.str pre) j p5, .FormattedValue (.Name x p6) 114 none p7, .Constant (.str pre2) j2 p13, .FormattedValue (.Name y p14) 114 none p15] p8] [] p3) env = (do
      let ov ← attributeBase (.Call (.Name "super" p0) [] [] p1) "__init__" env (eval (.Call (.Name "super" p0) [] [] p1) env)
      standAt p2.atName
      let (f, first) ← holding [ov] (getMethod ov "__init__" (pure false))
      callWith p3 f first (backTo p3 (starEach [.JoinedStr [.Constant (.str pre) j p5, .FormattedValue (.Name x p6) 114 none p7, .Constant (.str pre2) j2 p13, .FormattedValue (.Name y p14) 114 none p15] p8] env)) [])) :
    FnG P w K mg base CX0 1 f fd ["self", x, y] (spTwo K C x y) := by
  refine fn_superG F S (fun vs H Q E h => ?_) (fun A outer s H vs Q E hgu hr h s1 I => ?_)
  · obtain ⟨a, v, u, d, e, rfl, _⟩ := h
    rfl
  · obtain ⟨a, v, u, d, e, rfl, hv, hu, sm, sm2, ha, k⟩ := h
    have hvx : Vis (ncx CX0 P w K mg base ["self", x, y, "__class__"] (nf "__init__" q st c cc) f A outer s H E).env.scope x := Or.inl hx
    have hvy : Vis (ncx CX0 P w K mg base ["self", x, y, "__class__"] (nf "__init__" q st c cc) f A outer s H E).env.scope y := Or.inl hy
    have hvs : Vis (ncx CX0 P w K mg base ["self", x, y, "__class__"] (nf "__init__" q st c cc) f A outer s H E).env.scope "self" := Or.inl hme
    rw [hb]
    refine sup_exc (me := "self") (x := a) (C := C) b (atS_of F hk hsu hcl hme har) T.sup T.oex rfl T.hm T.hs
      (pa_cons (pe_joined (.cons pe_str (.cons (pe_showR hgu hr.units (pv 1 (hv := hvx) (hd := hd) (hcd := hcd))) (.cons pe_str (.cons (pe_showR hgu hr.units (pv 2 (hv := hvy) (hd := hd2) (hcd := hcd2))) .nil))))) pa_nil)
      (pss_cons (ps_put b (pv 0 (hv := hvs)) (pv 1 (hv := hvx) (hd := hd) (hcd := hcd))) (pss_one (ps_put b (pv 0 (hv := hvs)) (pv 2 (hv := hvy) (hd := hd2) (hcd := hcd2))))) I rfl ha ?_ (hin _ rfl) rfl (hev _) rfl rfl
    refine ⟨_, rfl, (by rw [len0]; exact Nat.le_trans hp (by decide)), _, rfl, d, hv, sm.fit, _, rfl, ?_, _, rfl, ?_, _, rfl, e, hu, sm2.fit, _, rfl, ?_, (by show 1 ≤ 1000; decide), ha, _, rfl, _, rfl, a, C, rfl, T.oex, hno, .inl ⟨ha, fun dx hdx hne => ?_⟩⟩
    · rw [strLen_append, len0]
      exact Nat.le_trans (Nat.add_le_add hp sm.sz) (by decide)
    · rw [strLen_append, strLen_append, len0]
      exact Nat.le_trans (Nat.add_le_add (Nat.add_le_add hp sm.sz) hp2) (by decide)
    · rw [strLen_append, strLen_append, strLen_append, len0]
      exact Nat.le_trans (Nat.add_le_add (Nat.add_le_add (Nat.add_le_add hp sm.sz) hp2) sm2.sz) (by decide)
    · have e1 : upd (upd H dx (exd dx [(x, v)])) a (exo a C (some dx)) dx = some (exd dx [(x, v)]) := by rw [upd_ne hne, upd_same]
      refine ⟨_, rfl, _, rfl, a, C, rfl, T.oex, hno2, .inr ⟨dx, [(x, v)], upd_same, e1, (by show 1 ≤ 900; decide), k dx _ hdx hne ?_ upd_same fun z o hz hzo => ?_⟩⟩
      · rw [upd_ne hne.symm]; exact upd_same
      · rw [upd_ne (ne_of_none hzo hdx), upd_ne hz, upd_ne (ne_of_none hzo hdx)]; exact hzo
end
end Exg
/-! raise C(e): an own error over any built-in base, whose __init__ shows what it is given -/
namespace Exg
open PySem PySem.Spec PyProof.Rows L2 Sup Grd Shw
def tMkR (C : Addr) (sp : Sp) (ta : TA) : L2.St → Hp → XK → Prop := fun σ H Q => ta σ H fun vs H1 => vs.length ≤ 1000 ∧ ∀ a, H1 a = none → sp (.ref a :: vs) (upd H1 a (exo a C none)) (fun v H2 => v = .non ∧ ∃ (d : Addr) (fs : List (Str × V)), H2 a = some (exo a C (some d)) ∧ H2 d = some (exd d fs) ∧ H1 d = none ∧ Q (.ref C) (some d) (upd (del H2 a) d (.xd fs))) E0
section
variable {B newId initId : String} {tl : List Value} {X : Cx} {C fI : Addr} {k : Nat} {fd : FuncData} {ps : List Str} {sp : Sp} {x : Str} {e : Expr} {es : List Expr} {ta : TA} {p pos : Pos}
theorem pmk_e (b : BaseE B newId initId tl) (T : Oex X.K C B newId tl) (iC : PySem.W.findIn X.K (.ref C) "__init__" = some (some (.ref fI))) (tI : PySem.W.typeIn X.K (.ref fI) = some (.type "function"))
    (F : FnG X.prog X.w X.K X.mg X.base CX0 k fI fd ps sp) (hG : X.A.guards = some []) (hr : Room (k + 1) X.A) (hb : Binds X.K fd ps []) (hg : Gl X x) (hm : X.mg x = some (.ref C)) (ha : PA X (e :: es) ta)
    (hdb : (x == ("__debug__" : Str)) = false := by decide) (hs : starEach (e :: es) X.env = (false, eval e X.env) :: starEach es X.env := by rfl) (hp : (backTo pos (starEach es X.env)).any (·.1) = false := by rfl) :
    PMk X (.Call (.Name x p) (e :: es) [] pos) (tMkR C sp ta) := by
  intro pins s σ H Q I h
  obtain ⟨nm, N, q, bs, bm, hdct, sn, sub, ab, col, dd, k0, k1, k2, k3, k5, hC, hbm⟩ := PySem.W.excInit_of I.kIn T.ini
  refine wpAny_Call_Name_kw (ld_glob I hg hm (PySem.W.callWith_K (h₀ := X.base) I.ok.mod.kin T.kC (thn (ha.run pos pins s σ H _ I h) fun us s1 ⟨vs, H1, I1, r, hl, q1⟩ => ⟨I1.kIn, ?_⟩) hs hp) hdb)
  obtain ⟨nm, N, q, bs, bm, hdct, sn, sub, ab, col, dd, k0, k1, k2, k3, k5, hC, hbm⟩ := PySem.W.excInit_of I1.kIn T.ini
  show wpAny _ _ (call (.ref C) us) _ _ _
  obtain ⟨hp, g, dr, tk, os⟩ := s1
  have hsz : hp.objs.size ≤ hp.objs.size + 1 := Nat.le_succ _
  have hn : H1 (hp.objs.size + 1) = none := I1.hok.fresh hsz
  have hq := q1 _ hn
  have kk : ∀ b o, hp.get? b = some o → ((hp.push (PySem.W.kdv_tup us)).push (PySem.HandSPX.excO C hp.objs.size)).get? b = some o := fun c o z => Heap.get?_push_of_some _ (Heap.get?_push_of_some _ z)
  have hget : ((hp.push (PySem.W.kdv_tup us)).push (PySem.HandSPX.excO C hp.objs.size)).get? (hp.objs.size + 1) = some (PySem.HandSPX.excO C hp.objs.size) := by heap_get
  have I2 : Inv X pins σ (upd H1 (hp.objs.size + 1) (exo (hp.objs.size + 1) C none)) ⟨(hp.push (PySem.W.kdv_tup us)).push (PySem.HandSPX.excO C hp.objs.size), g, dr, tk, os⟩ := I1.laid (t' := tk) kk hsz (exo_ok hget)
  have r2 : Vals (V.ref (hp.objs.size + 1) :: vs) (Value.ref (hp.objs.size + 1) :: us) := .cons rfl r
  have hlen : (Value.ref (hp.objs.size + 1) :: us ++ []).length = ps.length := by
    rw [List.append_nil, ← r2.length]
    exact F.len _ _ _ _ hq
  have hB := hb ⟨(hp.push (PySem.W.kdv_tup us)).push (PySem.HandSPX.excO C hp.objs.size), g, dr, tk, os⟩ (Value.ref (hp.objs.size + 1) :: us) I2.kIn hlen
  rw [List.append_nil] at hB
  refine wpAny_call (PySem.HandSPX.call_own b.F hbm hC (PySem.W.looks_findIn I1.kIn iC) (fun self => PySem.W.bind_fn I1.kIn self tI) (by rw [← r.length]; exact Nat.le_trans hl (by decide))
    (codeAny_mono (F.run _ X.stack _ _ ⟨Value.ref (hp.objs.size + 1) :: us, []⟩ _ _ _ E0 (guards_make hG C us []) (hr.make C us []) (I2.env0.make C us []) hB r2 hq) fun res s' z => ?_))
  match res, z with
  | .error e, z => exact z.elim
  | .ok (.ret u), z =>
    obtain ⟨v, H2, os2, bare2, un2, hok2, rv, ev, d, fs, ea, ed, hd1, q2⟩ := z
    subst ev
    obtain ⟨h2, g2, d2, t2, os'⟩ := s'
    exact ⟨rv, mk_end (raises_own T.exC T.tyC) I1 hsz kk un2 hok2 os2 bare2 ea ed hd1 q2⟩
end
/-- an error with one field that shows it, raised -/
theorem raise_one {K : PySem.W.Frag} {C : Addr} {x : Str} {v : V} {d : PyData} {σ : L2.St} {H H1 : Hp} {te : TE} {Q : XK} (hte : ∀ Q' : VK, Q' v H1 → te σ H1 Q') (hv : Dq K H1 v d) (hs : Smalls d) (s1 : Same H H1)
    (hd : ∀ a, H1 a = none → Dq K (upd H1 a (exo a C none)) v d) (k : ∀ e H', H e = none → H' e = some (.xd [(x, v)]) → Same H H' → Q (.ref C) (some e) H') : tMkR C (spOne K C x) (tCons te tNil) σ H1 Q := by
  refine hte _ ⟨by show 1 ≤ 1000; decide, fun a ha => ⟨a, v, d, rfl, hd a ha, hs, upd_same, fun dx hdx hne => ⟨rfl, dx, [(x, v)], upd_same, ?_, ?_, ?_⟩⟩⟩
  · rw [upd_ne hne, upd_same]
  · rw [upd_ne hne] at hdx
    exact hdx
  · rw [upd_ne hne] at hdx
    refine k dx _ (s1.free hdx) upd_same fun b o e => ?_
    have e1 := s1 _ _ e
    have nbd : b ≠ dx := ne_of_none e1 hdx
    have nba : b ≠ a := ne_of_none e1 ha
    rw [upd_ne nbd, del_ne nba, upd_ne nba, upd_ne nbd, upd_ne nba]
    exact e1
end Exg
/-! tuple(d), tuple(d.values()) of a dict whose keys are ints or texts -/
namespace TupD
open PySem PySem.Spec PyProof.Rows L2
section
variable {prog : Program} {w : World} {A : Around} {E : Value → Shared → Prop} {s : Shared} {T : String} {r d : Addr} {n : Nat} {P : Nat → Value → Prop} {OK : Heap → Prop}
/-- what the new tuple is wanted for -/
abbrev Wants (Q : Value → Shared → Prop) (s : Shared) (P : Nat → Value → Prop) (n : Nat) : Prop := ∀ (h' : Heap) (tk : Nat) (acc : Array Value), (∀ b o, s.heap.get? b = some o → h'.get? b = some o) → ItemsOf P acc n → Q (.ref h'.objs.size) { s with heap := h'.push { cls := .type "tuple", data := .seq acc }, toks := tk }
theorem new_src {Q₁ : Value → Shared → Prop} (hT : T = "dict" ∨ T = "dict_values") (K : PySem.W.KdlSrc prog w T r d n P OK) (hh : A.handled = none) (hok : OK s.heap) (hn : n ≤ sizeLine) (h : Wants Q₁ s P n) :
    codeAny (model prog w) A (.call (.builtin "tuple.__new__") ⟨[.type "tuple", .ref r], []⟩) (wants Q₁ E) s := by
  refine codeAny_of_tree (show wpAny _ A.in1 (do checkBuiltinCall "tuple.__new__" ⟨[.type "tuple", .ref r], []⟩; again (.builtin "tuple.__new__" ⟨[.type "tuple", .ref r], []⟩)) _ _ s from ?_)
  refine wpAny_bind (wpAny_of_eq (F.newCall_tuple_1 _) (wpAny_pure ⟨plainId_quiet F.plain_tuple_new _, codeAny_builtin F.entry_tuple_new ?_⟩))
  rw [Around.under_plainId F.plain_tuple_new _]
  have k1 := sub_tuple_self
  have k2 := init_tuple_lookup
  have k3 := madeHere_tuple
  have hTI : s.TypeIs (.ref r) T := K.type s hok
  have hh1 : A.in1.handled = none := hh
  have fin : ∀ h' tk acc, (∀ b o, s.heap.get? b = some o → h'.get? b = some o) → ItemsOf P acc n → wpAny (model prog w) A.in1 (Builtin.Tuple.tupleExact acc.toList.toArray >>= fun v => ret v) (fun fin s' => match fin with | .done f => wants Q₁ E (.ok f) s' | .again c' => c'.quiet = true ∧ codeAny (model prog w) A c' (wants Q₁ E) s') (fun e s' => wants Q₁ E (.error e) s') { s with heap := h', toks := tk } := by
    intro h' tk acc hk hacc
    have e : acc.toList.toArray = acc := by simp
    unfold Builtin.Tuple.tupleExact
    refine wpAny_bind (wpAny_newObj_type ?_ (by rw [e]; show acc.size ≤ sizeLine; rw [hacc.1]; exact hn))
    rw [e]
    exact wpAny_pure (h h' tk acc hk hacc)
  rcases hT with rfl | rfl
  · wp_walk using wpAny_typeOf hTI, PySem.W.kdu_collect (A := A.in1) K hh1 hok hn
    exact fin
  · wp_walk using wpAny_typeOf hTI, PySem.W.kdu_collect (A := A.in1) K hh1 hok hn
    exact fin
theorem call_src {Q : Value → Shared → Prop} (hT : T = "dict" ∨ T = "dict_values") (K : PySem.W.KdlSrc prog w T r d n P OK) (hh : A.handled = none) (hok : OK s.heap) (hn : n ≤ sizeLine) (hQ : Wants Q s P n) :
    wpAny (model prog w) A (call (.type "tuple") [.ref r]) Q E s := by
  refine callType_codes (Q₁ := fun v s₁ => s₁.TypeIs v "tuple" ∧ Q v s₁) F.called_tuple (F.typeCall_tuple_1 _) F.entry_object_init
    (new_src (A := A.in1) hT K hh hok hn fun h' tk acc hk hacc => ⟨⟨_, Heap.get?_push_size _ rfl, rfl⟩, hQ h' tk acc hk hacc⟩) fun v s₁ q => ?_
  exact ⟨q.1, F.args_object_init_2 v _, object_init_meets F.called_tuple.init.lookup F.called_tuple.made (by decide) prog w A.in1 _ s₁ ⟨q.1, rfl, q.2⟩⟩
end
/-- tuple(d) -/
def rTupD : List V → Hp → VK → Prop := fun xs H Q => ∃ p kvs, xs = [.ref p] ∧ H p = some (.dK kvs) ∧ ∀ q, H q = none → Q (.ref q) (upd H q (.tup (kvs.map fun kv => kV kv.1)))
theorem call_tup_dK {X : Cx} (hc : X.calm = true) : CallR X (.type "tuple") rTupD := by
  intro pins s σ H xs us Q I r h
  obtain ⟨p, kvs, rfl, hk, q⟩ := h
  obtain ⟨u, rfl, rx⟩ := vals1 r
  obtain rfl : u = Value.ref p := rx
  obtain ⟨z, lo, vs, rk, hd⟩ := (show ObjOk X.prog X.w H s.heap p (.dK kvs) from I.hok p _ hk)
  obtain ⟨ep, hat⟩ := hd.dictAt
  have hl : kvs.length = vs.length := Paired.length rk
  refine call_src (.inl rfl) (PySem.W.kdl_dict (knd := mixKind X.prog X.w) (kvs := vs) (ep := ep) lo) (I.ok.hd hc) hat (by rw [← hl]; exact z) fun h' tk acc hkeep hacc => ?_
  have I2 : Inv X pins σ H { s with heap := h', toks := tk } := I.kept hkeep
  refine ⟨.ref h'.objs.size, upd H h'.objs.size (.tup (kvs.map fun kv => kV kv.1)), I2.laid (t' := tk) (fun c o e => Heap.get?_push_of_some _ e) (Nat.le_refl _) (show ObjOk X.prog X.w _ _ _ (.tup (kvs.map fun kv => kV kv.1)) from ⟨?_, acc.toList, ?_, ?_⟩), rfl, q _ (I2.hok.fresh (Nat.le_refl _))⟩
  · rw [List.length_map]; exact z
  · have el : acc.toList.length = acc.size := by simp
    refine vals_of_at (by rw [List.length_map, el, hacc.1, hl]) fun j x u h1 h2 => ?_
    obtain ⟨k, y, hky, hi⟩ := hacc.2 j u (by rw [← Array.getElem?_toList]; exact h2)
    have e1 : (kvs.map (·.1))[j]? = some k := by
      rw [KV.keys rk, List.getElem?_map, hky]; rfl
    have e2 : (kvs.map fun kv => kV kv.1)[j]? = some (kV k) := by
      rw [show (kvs.map fun kv => kV kv.1) = (kvs.map (·.1)).map kV by rw [List.map_map]; rfl, List.getElem?_map, e1]; rfl
    rw [e2] at h1
    cases h1
    exact keyIs_rel hi
  · rw [Array.toArray_toList]; exact IsTup.new _ _
theorem kv_vals : ∀ {kvs : List (Key × V)} {vs : List (Key × Value)}, KV kvs vs → Vals (kvs.map (·.2)) (vs.map (·.2))
  | [], [], _ => .nil
  | _ :: _, _ :: _, .cons h t => .cons h.2 (kv_vals t)
section
variable {X : Cx} {e : Expr} {td : TE} {apos cpos p pos : Pos}
/-- tuple(d.values()) -/
def tTupVals (td : TE) : TE := fun σ H Q => td σ H fun x H1 => ∃ d kvs, x = .ref d ∧ H1 d = some (.dK kvs) ∧ ∀ q, H1 q = none → Q (.ref q) (upd H1 q (.tup (kvs.map (·.2))))
theorem pe_tup_vals (hc : X.calm = true) (hg : Gl X "tuple") (hm : X.mg "tuple" = none) (he : PE X e td) (hbase : attributeBase e "values" X.env (eval e X.env) = eval e X.env := by rfl) (hline : (apos.endLine == cpos.line) = true := by rfl)
    (na : starEach [Expr.Call (.Attribute e "values" apos) [] [] cpos] X.env = (false, eval (Expr.Call (.Attribute e "values" apos) [] [] cpos) X.env) :: starEach [] X.env := by rfl) :
    PE X (.Call (.Name "tuple" p) [.Call (.Attribute e "values" apos) [] [] cpos] [] pos) (tTupVals td) := by
  refine ⟨fun pins s σ H Q I h => ?_⟩
  refine Call_ (ld_blt I hg hm boot_tuple (PyProof.Rows.callWith_type1 (args_cons ?_ na) na))
  refine wpAny_Call_method (T := "dict") (id := "dict.values") hbase rfl hline F.plainAttrs_dict F.slot_dict_values F.type_dict_values (thn (he.run pins s σ H _ I h) fun u s1 ⟨x, H1, I1, rx, d, kvs, ex, hk, q⟩ => ?_)
  subst ex
  obtain rfl : u = Value.ref d := rx
  obtain ⟨z, lo, vs, rk, hd⟩ := (show ObjOk X.prog X.w H1 s1.heap d (.dK kvs) from I1.hok d _ hk)
  obtain ⟨ep, hat⟩ := hd.dictAt
  have hl : kvs.length = vs.length := Paired.length rk
  refine ⟨hat.dictOf.typeIs, hat.dictOf.mapOf.noDict, ?_⟩
  refine method_meetsIn F.slot_dict_values F.entry_dict_values rfl (PySem.evalArgs_none ⟨rfl, hat.dictOf.typeIs, F.args_dict_values_1 _, _, meets_dict_values (mixKind X.prog X.w) d lo, ⟨vs, hat.dictOf⟩, ?_⟩)
  refine args_nil ?_
  have I2 : Inv X pins σ H1 { s1 with heap := s1.heap.push { cls := .type "dict_values", data := .fields #[.ref d] } } := I1.kept (t' := s1.toks) fun b ob q => Heap.get?_push_of_some _ q
  refine call_src (.inr rfl) (PySem.W.kdl_values (knd := mixKind X.prog X.w) (kvs := vs) (ep := ep) (r := s1.heap.objs.size) (d := d)) (I2.ok.hd hc) ⟨⟨_, Heap.get?_push_size _ rfl, rfl, rfl⟩, hat.push _⟩ (by rw [← hl]; exact z) fun h' tk acc hkeep hacc => ?_
  have I3 := I2.kept (t' := tk) hkeep
  refine ⟨.ref h'.objs.size, upd H1 h'.objs.size (.tup (kvs.map (·.2))), I3.laid (t' := tk) (fun c o e => Heap.get?_push_of_some _ e) (Nat.le_refl _) (show ObjOk X.prog X.w _ _ _ (.tup (kvs.map (·.2))) from ⟨?_, acc.toList, ?_, ?_⟩), rfl, q _ (I3.hok.fresh (Nat.le_refl _))⟩
  · rw [List.length_map]; exact z
  · have el : acc.toList = vs.map (·.2) := PySem.W.kdl_vals_eq acc.toList (by rw [Array.length_toList]; exact hacc.1) fun j v e => hacc.2 j v (by rw [← Array.getElem?_toList]; exact e)
    rw [el]
    exact kv_vals rk
  · rw [Array.toArray_toList]; exact IsTup.new _ _
end
end TupD
/-! == of two dicts whose values are instances with an __eq__ of their own -/
namespace Own
open PySem PySem.Spec PyProof.Rows L2 Sup
/-- what == asks of the class at C, n levels below -/
structure EqN (P : Program) (w : World) (K : PySem.W.Frag) (mg : Str → Option Value) (base : Heap) (n : Nat) (C : Addr) (sp : Sp) : Prop where
  ex : ∃ (g : Addr) (fd : FuncData), PySem.W.findIn K (.ref C) "__eq__" = some (some (.ref g)) ∧ PySem.W.isFn K (.ref g) = true ∧ FnOk P w K mg base CX0 n g fd ["self", "other"] sp ∧ Binds K fd ["self", "other"] []
  ne : PySem.W.findIn K (.ref C) "__ne__" = some (some (.builtin "object.__ne__"))
  ob : PySem.W.mroIn K C (.type "object") = some true
theorem EqN.eqC {X : Cx} {n : Nat} {C : Addr} {sp : Sp} (T : EqN X.prog X.w X.K X.mg X.base n C sp) (hr : Room (n + 1) X.A) : EqC X C sp := by
  obtain ⟨⟨g, fd, h1, h2, h3, h4⟩, h5, h6⟩ := T
  exact ⟨⟨g, fd, n, h1, h2, h3, hr, h4⟩, h5, h6⟩
section
variable {X : Cx} {pins : List (Addr × Obj)} {σ : L2.St} {H : Hp} {s : Shared} {n : Nat}
/-- x == y under any around -/
theorem rc_ownN {op : CmpOp} (hop : op = .Eq ∨ op = .NotEq) {S : Addr → Prop} {spE : Addr → Sp} (T : ∀ C, S C → EqN X.prog X.w X.K X.mg X.base n C (spE C)) {A : Around} (hr : Room (n + 1) A) (I : Inv X pins σ H s) (e0 : Env0 X.prog X.w X.K X.mg X.base A X.stack s H)
    {x y : V} {v u : Value} {Q : VK} {E' : Value → Shared → Prop} (rx : RelV x v) (ry : RelV y u) (h : rOwnE X.K op S spE x y H Q) : wpAny (model X.prog X.w) A (richCompare op v u) (EP X pins σ Q) E' s := by
  obtain ⟨a, C, dx, fs, rfl, ha, hS, h⟩ := h
  obtain rfl : v = Value.ref a := rx
  obtain ⟨mA, O, _⟩ := ins_get I.hok ha
  obtain ⟨od, J, _⟩ := O.look
  have KX := I.kIn
  rcases h with ⟨t, ht, hn, q⟩ | ⟨b, D, dy, gs, rfl, hb, hSD, hne, hsub, q⟩
  · obtain ⟨⟨g, fd, h1, h2, GF, hbd⟩, h3, h4⟩ := T C hS
    obtain ⟨P, KP, hP, _⟩ := kit_of I ry ht
    refine rc_own_left hop hr.units0 KX J (KP.ty _ _ KX hP) hn (R := fun k s' => ∃ H', Inv X pins σ H' s' ∧ Q (.bl (ansOf op k)) H') (try_own hop KX J h1 h2 h3 h4 (Room.in1 hr).units0 fun A' hA => ?_) fun k s' ⟨H', I', qq⟩ => ⟨.bl (ansOf op k), H', I', rfl, qq⟩
    rcases hA with rfl | rfl
    · exact gives_own GF (hr.mono (Nat.le_succ _)) hbd e0 I ry q
    · exact gives_own GF (Room.in1 hr) hbd e0.in1 I ry q
  · obtain rfl : u = Value.ref b := ry
    obtain ⟨⟨g, fd, h1, h2, GF, hbd⟩, h3, h4⟩ := T D hSD
    obtain ⟨mB, O', _⟩ := ins_get I.hok hb
    obtain ⟨od', J', _⟩ := O'.look
    refine rc_own_right hop hr.units0 KX J J' hne hsub (R := fun k s' => ∃ H', Inv X pins σ H' s' ∧ Q (.bl (ansOf op k)) H') (try_own hop KX J' h1 h2 h3 h4 (Room.in1 hr).units0 fun A' hA => ?_) fun k s' ⟨H', I', qq⟩ => ⟨.bl (ansOf op k), H', I', rfl, qq⟩
    rcases hA with rfl | rfl
    · exact gives_own GF (hr.mono (Nat.le_succ _)) hbd e0 I (y := .ref a) rfl q
    · exact gives_own GF (Room.in1 hr) hbd e0.in1 I (y := .ref a) rfl q
end
section
variable {prog : Program} {w : World} {κ : Type} [DecidableEq κ] {knd : KeyKind prog w κ} {A : Around} {E : Value → Shared → Prop} {s : Shared}
/-- the pairs one after another; J holds all along, and the two dicts stand still -/
theorem pairs_own {nm : String} {a b : Addr} {ka kb : List (κ × Value)} {oa ob : Obj} {J : Shared → Prop} {ok : κ → Bool} {Q : Bool → Shared → Prop} (ha : (a == sysModules) = false) (hb : (b == sysModules) = false)
    (still : ∀ s', J s' → s'.heap.get? a = some oa ∧ s'.heap.get? b = some ob) (da : s.heap.DictOf knd a ka) (db : s.heap.DictOf knd b kb) (hJ : J s)
    (turn : ∀ k v, (k, v) ∈ ka → (valueAt kb k = none ∧ ok k = false) ∨ ∃ y, valueAt kb k = some y ∧ ∀ s', J s' → wpAny (model prog w) A (eqBool v y) (fun r s'' => r = ok k ∧ J s'') E s')
    (h : ∀ s', J s' → Q (ka.length == kb.length && ka.all fun p => ok p.1) s') : wpAny (model prog w) A (Builtin.Dict.samePairs nm a b) Q E s := by
  obtain ⟨oa', es, ep, hoa, _, hda, hka, hpa, _⟩ := da
  obtain ⟨ob', es', ep', hob, _, hdb, hkb, hpb, _⟩ := db
  obtain rfl : oa' = oa := Option.some.inj (hoa.symm.trans (still s hJ).1)
  obtain rfl : ob' = ob := Option.some.inj (hob.symm.trans (still s hJ).2)
  have hla : ka.length = es.size := by rw [← hpa.length, Array.length_toList]
  have hlb : kb.length = es'.size := by rw [← hpb.length, Array.length_toList]
  have hfind : ∀ k, findBy knd.is es' k = valueAt kb k := fun k => by
    rw [← hpb.find k]
    clear hlb hpb hkb hdb hob h turn still
    obtain ⟨l⟩ := es'
    simp [findBy]
  unfold Builtin.Dict.samePairs Builtin.Dict.showsAll
  rw [if_neg (by rw [ha]; exact Bool.false_ne_true), if_neg (by rw [hb]; exact Bool.false_ne_true)]
  refine wpAny_bind (wpAny_pure (wpAny_bind (wpAny_pure (wpAny_bind (wpAny_dictEntries hoa hda ?_)))))
  dsimp only
  refine wpAny_bind (wpAny_dictEntries hob hdb ?_)
  by_cases hsz : es.size = es'.size
  case neg =>
    have h' := h s hJ
    rw [if_pos (by simpa using hsz)]
    rw [show (ka.length == kb.length) = false by rw [hla, hlb]; simpa using hsz, Bool.false_and] at h'
    exact wpAny_bind (wpAny_rule (wpAny_pure h'))
  case pos =>
    have h' : ∀ s', J s' → Q (ka.all fun p => ok p.1) s' := fun s' hs => by
      have q := h s' hs
      rwa [show (ka.length == kb.length) = true by rw [hla, hlb]; simpa using hsz, Bool.true_and] at q
    rw [if_neg (by rw [hsz]; simp)]
    refine wpAny_bind (wpAny_dictEpoch hoa hda (wpAny_bind ?_))
    rw [Std.Legacy.Range.forIn_eq_forIn_range']
    simp only [Std.Legacy.Range.size, Nat.sub_zero, Nat.add_sub_cancel, Nat.div_one]
    refine wpAny_forIn_list _ (fun rest q s' => J s' ∧ q = (none, ()) ∧ ∃ i, rest = List.range' i (es.size - i) ∧ i ≤ es.size ∧ (ka.all fun p => ok p.1) = ((ka.drop i).all fun p => ok p.1)) _ ?_ ?_ _ _ ⟨hJ, rfl, 0, by simp, Nat.zero_le _, rfl⟩
    · rintro x rest q s1 ⟨hJ1, rfl, i, hr, hi, hall⟩
      obtain ⟨hoa1, hob1⟩ := still s1 hJ1
      have hlt : i < es.size := by
        rcases Nat.lt_or_ge i es.size with z | z
        · exact z
        · rw [Nat.sub_eq_zero_of_le z] at hr
          simp at hr
      obtain ⟨rfl, hrest⟩ : x = i ∧ rest = List.range' (i + 1) (es.size - (i + 1)) := by
        rw [show es.size - i = (es.size - (i + 1)) + 1 by omega, List.range'_succ] at hr
        injection hr with h1 h2
        exact ⟨h1, h2⟩
      refine wpAny_bind (wpAny_dictEntries hoa1 hda ?_)
      rw [Array.getElem?_eq_getElem hlt]
      have hlt' : x < ka.length := by omega
      obtain ⟨k, v, hkv⟩ : ∃ k v, ka[x] = (k, v) := ⟨_, _, rfl⟩
      have hmem : (k, v) ∈ ka := by rw [← hkv]; exact List.getElem_mem hlt'
      have hdrop : ka.drop x = (k, v) :: ka.drop (x + 1) := by rw [← hkv]; exact List.drop_eq_getElem_cons hlt'
      obtain ⟨hkey, hval⟩ := hpa.get? (i := x) (e := es[x]) (k := k) (v := v) (by rw [Array.getElem?_toList]; exact Array.getElem?_eq_getElem hlt) (by rw [List.getElem?_eq_getElem hlt', hkv])
      obtain ⟨k', hk', hh⟩ := hka es[x] (Array.getElem_mem hlt)
      rw [knd.inj _ _ _ hk' hkey] at hh
      rw [hdrop, List.all_cons] at hall
      dsimp only at hall
      show wpAny _ _ (holding [es[x].key, es[x].val] _ >>= _) _ _ _
      rw [hh]
      refine wpAny_bind (wpAny_holding (wpAny_bind (wpAny_dictFind_of hkey hob1 hdb hkb ?_)))
      cases hj : es'.findIdx? fun e => knd.is k e.key with
      | none =>
        have hn : valueAt kb k = none := by rw [← hfind k, findBy_of_findIdx?, hj]
        rcases turn k v hmem with ⟨_, er⟩ | ⟨y, hy, _⟩
        · rw [er, Bool.false_and] at hall
          have q := h' s1 hJ1
          rw [hall] at q
          refine wpAny_pure (show wpAny _ _ (if (!false) = true then _ else _) _ _ _ from ?_)
          rw [if_pos (by decide)]
          exact wpAny_pure (wpAny_pure q)
        · rw [hn] at hy
          cases hy
      | some j =>
        obtain ⟨hjlt, _, _⟩ := Array.findIdx?_eq_some_iff_getElem.mp hj
        have hv' : valueAt kb k = some es'[j].val := by
          rw [← hfind k, findBy_of_findIdx?, hj]
          simp [Array.getElem?_eq_getElem hjlt]
        refine wpAny_bind (wpAny_dictEntries hob1 hdb ?_)
        rw [Array.getElem?_eq_getElem hjlt]
        rcases turn k v hmem with ⟨hn, _⟩ | ⟨y, hy, he⟩
        · rw [hv'] at hn
          cases hn
        · rw [← Option.some.inj (hv'.symm.trans hy), ← hval] at he
          refine wpAny_holding (wpAny_mono (he s1 hJ1) (fun r s2 ⟨er, hJ2⟩ => ?_) fun _ _ z => z)
          cases r with
          | false =>
            rw [← er, Bool.false_and] at hall
            have q := h' s2 hJ2
            rw [hall] at q
            show wpAny _ _ (if (!false) = true then _ else _) _ _ _
            rw [if_pos (by decide)]
            exact wpAny_pure (wpAny_pure q)
          | true =>
            rw [← er, Bool.true_and] at hall
            show wpAny _ _ (if (!true) = true then _ else _) _ _ _
            rw [if_neg (by decide)]
            refine wpAny_bind (wpAny_dictEpoch (still s2 hJ2).1 hda ?_)
            rw [if_neg (by simp)]
            exact wpAny_pure ⟨hJ2, rfl, x + 1, hrest, hlt, hall⟩
    · rintro q s1 ⟨hJ1, rfl, i, hr, hi, hall⟩
      have hin : i = es.size := by
        rcases Nat.lt_or_ge i es.size with z | z
        · rw [show es.size - i = (es.size - (i + 1)) + 1 by omega, List.range'_succ] at hr
          cases hr
        · exact Nat.le_antisymm hi z
      rw [hin, ← hla, List.drop_length] at hall
      have q := h' s1 hJ1
      rw [hall] at q
      exact wpAny_pure q
theorem rc_dict_own {a b : Addr} {ka kb : List (κ × Value)} {oa ob : Obj} {J : Shared → Prop} {ok : κ → Bool} {Q : Value → Shared → Prop} (ha : (a == sysModules) = false) (hb : (b == sysModules) = false)
    (still : ∀ s', J s' → s'.heap.get? a = some oa ∧ s'.heap.get? b = some ob) (da : s.heap.DictOf knd a ka) (db : s.heap.DictOf knd b kb) (hJ : J s) (hu : A.units < cLine)
    (turn : ∀ k v, (k, v) ∈ ka → (valueAt kb k = none ∧ ok k = false) ∨ ∃ y, valueAt kb k = some y ∧ ∀ s', J s' → wpAny (model prog w) A.in1 (eqBool v y) (fun r s'' => r = ok k ∧ J s'') E s')
    (h : ∀ s', J s' → Q (.bool (ka.length == kb.length && ka.all fun p => ok p.1)) s') : wpAny (model prog w) A (richCompare .Eq (.ref a) (.ref b)) Q E s := by
  refine wpAny_richCompare_same_room (op := .Eq) da.typeIs db.typeIs PySem.F.slot_dict_eq (wpAny_call_entry PySem.F.slot_dict_eq da.typeIs PySem.F.entry_dict_eq (show wpAny _ _ (Builtin.Dict.dictSlotArgs "__eq__" ⟨[.ref a, .ref b], []⟩ >>= _) _ _ s from ?_) (PySem.F.args_dict_eq_2 _ _)) hu
  refine wpAny_bind ?_
  unfold Builtin.Dict.dictSlotArgs
  refine wpAny_bind (wpAny_notOrdered_dict da.typeIs (show wpAny _ _ (pure (Value.ref a, Value.ref b)) _ _ s from wpAny_pure ?_))
  refine wpAny_bind (wpAny_isInstance (T := "dict") db.typeIs PySem.F.sub_dict_dict ?_)
  simp only [Bool.not_true, Bool.false_eq_true, if_false]
  refine wpAny_bind (wpAny_pure (wpAny_bind (wpAny_pure (wpAny_bind (pairs_own ha hb still da db hJ turn fun s1 hJ1 => ?_)))))
  refine wpAny_pure ⟨_, rfl, (fun x => nomatch x), ?_⟩
  simpa using h s1 hJ1
end
theorem kv_mem : ∀ {ks : List (Key × V)} {vs : List (Key × Value)}, KV ks vs → ∀ {k : Key} {u : Value}, (k, u) ∈ vs → ∃ x, (k, x) ∈ ks ∧ RelV x u
  | [], [], .nil, k, u, hm => by cases hm
  | _ :: _, _ :: _, .cons h t, k, u, hm => by
    rcases List.mem_cons.mp hm with e | hm
    · refine ⟨_, List.mem_cons.mpr (.inl (Prod.ext_iff.mpr ⟨?_, rfl⟩)), ?_⟩
      · rw [h.1, ← e]
      · have := h.2
        rw [← e] at this
        exact this
    · obtain ⟨x, hx, r⟩ := kv_mem t hm
      exact ⟨x, List.mem_cons_of_mem _ hx, r⟩
theorem kv_all {ks : List (Key × V)} {vs : List (Key × Value)} (r : KV ks vs) (f : Key → Bool) : (vs.all fun p => f p.1) = ks.all fun p => f p.1 := by
  have e := KV.keys r
  rw [show (vs.all fun p => f p.1) = (vs.map (·.1)).all f by rw [List.all_map]; rfl, ← e, List.all_map]
  rfl
/-- what stands beside the two dicts -/
def Beside (a b : Addr) (H H' : Hp) : Prop := ∀ c o, H c = some o → c ≠ a → c ≠ b → H' c = some o
def rEqD (K : PySem.W.Frag) (S : Addr → Prop) (spE : Addr → Sp) : R2 := fun x y H Q => ∃ (a b : Addr) (ks ls : List (Key × V)) (ok : Key → Bool), x = .ref a ∧ y = .ref b ∧ H a = some (.dK ks) ∧ H b = some (.dK ls) ∧
  (∀ k v, (k, v) ∈ ks → (valV ls k = none ∧ ok k = false) ∨ ∃ p q, v = .ref p ∧ valV ls k = some (.ref q) ∧ ((p = q ∧ ok k = true) ∨ (p ≠ q ∧ ∀ H', Beside a b H H' → rOwnE K .Eq S spE (.ref p) (.ref q) H' fun z H'' => z = .bl (ok k) ∧ Same H' H''))) ∧
  ∀ H', Same H H' → Q (.bl (ks.length == ls.length && ks.all fun p => ok p.1)) H'
theorem op_eqOwnD {X : Cx} {n : Nat} {S : Addr → Prop} {spE : Addr → Sp} (T : ∀ C, S C → EqN X.prog X.w X.K X.mg X.base n C (spE C)) (hr : Room (n + 2) X.A) : OpR X (compareOp .Eq) (rEqD X.K S spE) := by
  intro pins s σ H x y v u Q I rx ry h
  obtain ⟨a, b, ks, ls, ok, rfl, rfl, hka, hkb, turn, fin⟩ := h
  obtain rfl : v = Value.ref a := rx
  obtain rfl : u = Value.ref b := ry
  show wpAny _ _ (richCompare .Eq (.ref a) (.ref b)) _ _ s
  -- both are locked
  obtain ⟨HL, IL, oa, ob, ha1, hb1, hbes, hun⟩ : ∃ HL, Inv X pins σ HL s ∧ ∃ oa ob, HL a = some (.frz oa (.dK ks)) ∧ HL b = some (.frz ob (.dK ls)) ∧ Beside a b H HL ∧ ∀ H' s', Inv X pins σ H' s' → Same HL H' → ∃ H3, Inv X pins σ H3 s' ∧ Same H H3 := by
    obtain ⟨oa, I1⟩ := I.lock hka trivial
    by_cases e : a = b
    · subst e
      obtain rfl : ks = ls := by
        rw [hka] at hkb
        injection hkb with z
        injection z
      refine ⟨_, I1, oa, oa, upd_same, upd_same, fun c o hc n1 _ => by rw [upd_ne n1]; exact hc, fun H' s' I' s1 => ⟨_, I'.unlock (s1 _ _ upd_same) (I.nofrz hka trivial), fun c o hc => ?_⟩⟩
      by_cases z : c = a
      · rw [z] at hc ⊢
        rw [upd_same, ← hc, hka]
      · rw [upd_ne z]
        exact s1 _ _ (by rw [upd_ne z]; exact hc)
    · have hb2 : (upd H a (.frz oa (.dK ks))) b = some (.dK ls) := by rw [upd_ne (Ne.symm e)]; exact hkb
      obtain ⟨ob, I2⟩ := I1.lock hb2 trivial
      refine ⟨_, I2, oa, ob, by rw [upd_ne e, upd_same], upd_same, fun c o hc n1 n2 => by rw [upd_ne n2, upd_ne n1]; exact hc, fun H' s' I' s1 => ?_⟩
      have hbq : H' b = some (.frz ob (.dK ls)) := s1 _ _ upd_same
      have haq : H' a = some (.frz oa (.dK ks)) := s1 _ _ (by rw [upd_ne e, upd_same])
      have I3 := I'.unlock hbq (I.nofrz hkb trivial)
      refine ⟨_, I3.unlock (by rw [upd_ne e]; exact haq) (I.nofrz hka trivial), fun c o hc => ?_⟩
      by_cases z : c = a
      · rw [z] at hc ⊢
        rw [upd_same, ← hc, hka]
      · rw [upd_ne z]
        by_cases z2 : c = b
        · rw [z2] at hc ⊢
          rw [upd_same, ← hc, hkb]
        · rw [upd_ne z2]
          exact s1 _ _ (by rw [upd_ne z2, upd_ne z]; exact hc)
  obtain ⟨sa, ga, xa, esa, epa, va, dta, sza, kva, hma⟩ := IL.frzK ha1
  obtain ⟨sb, gb, xb, esb, epb, vb, dtb, szb, kvb, hmb⟩ := IL.frzK hb1
  refine rc_dict_own (knd := mixKind X.prog X.w) (ok := ok) (J := fun s' => ∃ H', Inv X pins σ H' s' ∧ Same HL H') sa sb (fun s' ⟨H', I', s1⟩ => ⟨(I'.frzK (s1 _ _ ha1)).2.1, (I'.frzK (s1 _ _ hb1)).2.1⟩) hma.dictOf hmb.dictOf ⟨HL, IL, Same.refl HL⟩ hr.units0 (fun k u hm => ?_) fun s1 ⟨H1, I1, s01⟩ => ?_
  · obtain ⟨x, hx, rxu⟩ := kv_mem kva hm
    have rb := KV.val kvb k
    rcases turn k x hx with ⟨e1, e2⟩ | ⟨p, q, rfl, e1, e2⟩
    · rw [e1] at rb
      refine .inl ⟨?_, e2⟩
      cases hv : valueAt vb k with
      | none => rfl
      | some z => rw [hv] at rb; exact False.elim rb
    · rw [e1] at rb
      obtain rfl : u = Value.ref p := rxu
      cases hv : valueAt vb k with
      | none => rw [hv] at rb; exact False.elim rb
      | some z =>
        rw [hv] at rb
        obtain rfl : z = Value.ref q := rb
        refine .inr ⟨_, rfl, fun s1 ⟨H1, I1, s01⟩ => ?_⟩
        rcases e2 with ⟨rfl, e3⟩ | ⟨hpq, e3⟩
        · unfold eqBool
          refine wpAny_holding ?_
          rw [if_pos (by simp)]
          exact wpAny_bind (wpAny_rule (wpAny_pure ⟨e3.symm, H1, I1, s01⟩))
        · refine GQ.eqBool_refG hpq (wpAny_mono (rc_ownN (.inl rfl) T (Room.in1 hr) I1 I1.env0.in1 (x := .ref p) (y := .ref q) rfl rfl (e3 H1 fun c o hc n1 n2 => s01 _ _ (hbes c o hc n1 n2))) (fun v s2 ⟨z, H2, I2, rv, ez, s12⟩ => ?_) fun _ _ z => z)
          subst ez
          exact ⟨ok k, rv, rfl, H2, I2, s01.trans s12⟩
  · obtain ⟨H3, I3, s3⟩ := hun H1 s1 I1 s01
    refine ⟨_, H3, I3, ?_, fin H3 s3⟩
    have e1 : va.length = ks.length := (Paired.length kva).symm
    have e2 : vb.length = ls.length := (Paired.length kvb).symm
    rw [kv_all kva ok, e1, e2]
    rfl
end Own
/-! len(o), x in o, o[x] of an instance with such methods of its own; o in (None, "a", (..)) by its __eq__ -/
namespace Own
open PySem PySem.Spec PyProof.Rows L2 Sup Grd
section
variable {X : Cx} {CX : CXT} {pins : List (Addr × Obj)} {σ : L2.St} {H : Hp} {s : Shared} {k : Nat} {C f : Addr} {fd : FuncData} {ps : List Str} {sp : Sp} {E : XK}
/-- the method runs, under any around -/
theorem run_at {A : Around} {Q : VK} {us : List Value} {vs : List V} {E' : Value → Shared → Prop} (F : FnG X.prog X.w X.K X.mg X.base CX k f fd ps sp) (hG : A.guards = some []) (hr : Room k A) (hb : Binds X.K fd ps []) (e0 : Env0 X.prog X.w X.K X.mg X.base A X.stack s H)
    (hx : ∀ e s', CX X.stack H s E e s' → E' e s') (I : Inv X pins σ H s) (r : Vals vs us) (h : sp vs H Q E) : wpAny (model X.prog X.w) A (call (.ref f) us) (EP X pins σ Q) E' s := by
  have hl : (us ++ []).length = ps.length := by rw [List.append_nil, ← r.length]; exact F.len _ _ _ _ h
  have hB := hb s us I.kIn hl
  rw [List.append_nil] at hB
  refine wpAny_call (codeAny_mono (F.run A X.stack s H ⟨us, []⟩ us vs Q E hG hr e0 hB r h) fun res s' hq => ?_)
  match res, hq with
  | .error e, hq => exact hx e s' hq
  | .ok (.ret u), hq => exact I.after hq
/-- a method of the class that is a def: where it stands -/
structure MetG (P : Program) (w : World) (K : PySem.W.Frag) (mg : Str → Option Value) (base : Heap) (CX : CXT) (n : Nat) (C : Addr) (name : Str) (ps : List Str) (sp : Sp) : Prop where
  ex : ∃ (f : Addr) (fd : FuncData), PySem.W.findIn K (.ref C) name = some (some (.ref f)) ∧ PySem.W.isFn K (.ref f) = true ∧ PySem.W.fnIn K f = true ∧ FnG P w K mg base CX n f fd ps sp ∧ Binds K fd ps []
theorem guards_in1 {A : Around} (h : A.guards = some []) : A.in1.guards = some [] := h
/-- len(o) -/
def rLenO (C : Addr) (sp : Sp) : List V → Hp → VK → Prop := fun xs H Q => ∃ a dx fs, xs = [.ref a] ∧ H a = some (.ins C dx fs) ∧ sp [.ref a] H (fun z H' => ∃ n : Nat, z = .int n ∧ n < 2 ^ 62 ∧ Q (.int n) H') E0
theorem call_lenO {ps : List Str} (M : MetG X.prog X.w X.K X.mg X.base CX0 k C "__len__" ps sp) (hG : X.A.guards = some []) (hr : Room (k + 1) X.A) : CallR X (.builtin "len") (rLenO C sp) := by
  obtain ⟨f, fd, h1, h2, _, F, hb⟩ := M
  intro pins s σ H xs us Q I r h
  obtain ⟨a, dx, fs, rfl, ha, h⟩ := h
  obtain ⟨u, rfl, rx⟩ := vals1 r
  obtain rfl : u = Value.ref a := rx
  obtain ⟨mA, O, _⟩ := ins_get I.hok ha
  obtain ⟨od, J, _⟩ := O.look
  obtain ⟨m, Fr⟩ := I.fr
  refine PySem.W.len_K Fr I.mod.kin J h1 h2 (wpAny_mono (run_at (vs := [.ref a]) F (guards_in1 hG) hr.in1 hb I.env0.in1 (E' := X.xe) (fun e s' z => False.elim z) I (.cons rfl .nil) h) (fun v s1 ⟨z, H1, I1, rv, n, ez, hn, q⟩ => ?_) fun _ _ z => z)
  subst ez
  obtain ⟨t, rfl⟩ := rv
  exact ⟨⟨by omega, by omega⟩, .int n, H1, I1.tok _, ⟨_, rfl⟩, q⟩
/-- x in o, x not in o -/
def rInO (C : Addr) (neg : Bool) (sp : Sp) : R2 := fun x y H Q => ∃ a dx fs, y = .ref a ∧ H a = some (.ins C dx fs) ∧ sp [.ref a, x] H (fun z H' => ∃ b : Bool, z = .bl b ∧ Q (.bl (if neg then !b else b)) H') E0
theorem op_inO {ps : List Str} (M : MetG X.prog X.w X.K X.mg X.base CX0 k C "__contains__" ps sp) (hG : X.A.guards = some []) (hr : Room k X.A) : OpR X (compareOp .In) (rInO C false sp) := by
  obtain ⟨f, fd, h1, h2, _, F, hb⟩ := M
  intro pins s σ H x y v u Q I rx ry h
  obtain ⟨a, dx, fs, rfl, ha, h⟩ := h
  obtain rfl : u = Value.ref a := ry
  obtain ⟨mA, O, _⟩ := ins_get I.hok ha
  obtain ⟨od, J, _⟩ := O.look
  obtain ⟨m, Fr⟩ := I.fr
  refine PySem.W.in_K Fr I.mod.kin J h1 h2 (wpAny_mono (run_at (vs := [.ref a, x]) F hG hr hb I.env0 (E' := X.xe) (fun e s' z => False.elim z) I (.cons rfl (.cons rx .nil)) h) (fun v s1 ⟨z, H1, I1, rv, b, ez, q⟩ => ?_) fun _ _ z => z)
  subst ez
  obtain rfl : v = Value.bool b := rv
  exact wpAny_truthy_bool ⟨.bl b, H1, I1, rfl, q⟩
theorem op_notInO {ps : List Str} (M : MetG X.prog X.w X.K X.mg X.base CX0 k C "__contains__" ps sp) (hG : X.A.guards = some []) (hr : Room k X.A) : OpR X (compareOp .NotIn) (rInO C true sp) := by
  obtain ⟨f, fd, h1, h2, _, F, hb⟩ := M
  intro pins s σ H x y v u Q I rx ry h
  obtain ⟨a, dx, fs, rfl, ha, h⟩ := h
  obtain rfl : u = Value.ref a := ry
  obtain ⟨mA, O, _⟩ := ins_get I.hok ha
  obtain ⟨od, J, _⟩ := O.look
  obtain ⟨m, Fr⟩ := I.fr
  refine PySem.W.notIn_K Fr I.mod.kin J h1 h2 (wpAny_mono (run_at (vs := [.ref a, x]) F hG hr hb I.env0 (E' := X.xe) (fun e s' z => False.elim z) I (.cons rfl (.cons rx .nil)) h) (fun v s1 ⟨z, H1, I1, rv, b, ez, q⟩ => ?_) fun _ _ z => z)
  subst ez
  obtain rfl : v = Value.bool b := rv
  exact wpAny_truthy_bool ⟨.bl (!b), H1, I1, rfl, q⟩
/-- o[x], which may raise -/
def tItO (C : Addr) (sp : Sp) (E : XK) (ta tb : TE) : TE := fun σ H Q => ta σ H fun y H1 => tb σ H1 fun x H2 => ∃ a dx fs, y = .ref a ∧ H2 a = some (.ins C dx fs) ∧ sp [.ref a, x] H2 Q E
theorem pe_itO {ps : List Str} {e1 e2 : Expr} {ta tb : TE} {pos : Pos} (M : MetG X.prog X.w X.K X.mg X.base CX k C "__getitem__" ps sp) (hG : X.A.guards = some []) (hr : Room (k + 1) X.A) (hx : Passes CX X E) (ha : PE X e1 ta) (hb' : PE X e2 tb)
    (hsl : ∀ v u, subscripted e2 true v u = runValue (.builtin "lifetime.subscript" ⟨[v, u], []⟩) := by intros; with_unfolding_all rfl) : PE X (.Subscript e1 e2 pos) (tItO C sp E ta tb) := by
  obtain ⟨f, fd, h1, h2, h3, F, hb⟩ := M
  refine ⟨fun pins s σ H Q I h => ?_⟩
  refine Subscript_ (binT ha hb' I (R := fun y x H2 => ∃ a dx fs, y = .ref a ∧ H2 a = some (.ins C dx fs) ∧ sp [.ref a, x] H2 Q E) h fun v u s2 y x H2 I2 ry rx ⟨a, dx, fs, ey, hz, q⟩ => ?_)
  subst ey
  obtain rfl : v = Value.ref a := ry
  obtain ⟨mA, O, _⟩ := ins_get I2.hok hz
  obtain ⟨od, J, _⟩ := O.look
  obtain ⟨m, Fr⟩ := I2.fr
  exact PySem.W.sub_K Fr I2.mod.kin J h1 h3 h2 (run_at (vs := [.ref a, x]) F (guards_in1 hG) hr.in1 hb I2.env0.in1 (E' := X.xe) (fun e s' z => hx pins σ H2 s2 e s' I2 z) I2 (.cons rfl (.cons rx .nil)) q) (hsl _ _)
end
/-! ### o in (None, "a", (..)) -/
section
variable {prog : Program} {w : World} {A : Around} {E : Value → Shared → Prop} {s : Shared} {K : PySem.W.Frag} {a C : Addr} {oa : Obj} {od : Option Obj}
/-- a thing of Python's own on the left declines, the instance is asked -/
theorem rc_refl {T id : String} {v : Value} {Q : Value → Shared → Prop} {R : Bool → Shared → Prop} (hu : A.units < cLine) (X : K.In s.heap) (hT : s.TypeIs v T) (slot : Slot T (cmpInfo .Eq).2.1 id) (J : PySem.W.InstAt s.heap a oa C od) (hsub : PySem.W.subIn K (.ref C) (.type T) = some false)
    (dec : ∀ Q' : Value → Shared → Prop, Q' .notImplemented s → wpAny (model prog w) A (call (.builtin id) [v, .ref a]) Q' E s)
    (own : wpAny (model prog w) A (tryCompare (.ref a) (cmpInfo .Eq).2.1 v) (fun r s' => ∃ k, r = some (.bool (ansOf .Eq k)) ∧ R k s') E s) (h : ∀ k s', R k s' → Q (.bool k) s') : wpAny (model prog w) A (richCompare .Eq v (.ref a)) Q E s := by
  have hr : (cmpInfo .Eq).2.2 = (cmpInfo .Eq).2.1 := rfl
  unfold richCompare
  simp only [hT.oneThing_none]
  refine wpAny_holding (wpAny_bind (wpAny_cRoomFor hu ?_))
  refine wpAny_bind (wpAny_typeOf hT (wpAny_bind (J.type.here ?_)))
  rw [if_pos (show (Value.type T != Value.ref C) = true by simp)]
  refine wpAny_bind ((PySem.W.looks_subIn X hsub).here ?_)
  simp only [Bool.false_eq_true, if_false, Bool.not_false, if_true]
  refine wpAny_bind (m := tryCompare v _ _) (wpAny_tryCompare_declines hT slot (dec _ ⟨rfl, ?_⟩))
  dsimp only
  rw [hr]
  refine wpAny_bind (wpAny_mono own (fun r s' z => ?_) fun _ _ e => e)
  obtain ⟨k, rfl, hq⟩ := z
  exact wpAny_pure (h _ _ hq)
/-- none of the items is equal -/
theorem none_in {l : Addr} {items : Array Value} {x : Value} {J : Shared → Prop} {Q : Value → Shared → Prop} (hl : s.heap.IsTuple l items) (hJ : J s)
    (turn : ∀ y ∈ items, ∀ s', J s' → wpAny (model prog w) A.in1 (eqBool y x) (fun r s'' => r = false ∧ J s'') E s') (h : ∀ s', J s' → Q (.bool false) s') : wpAny (model prog w) A (compareOp .In x (.ref l)) Q E s := by
  obtain ⟨⟨cls, dd, data, sl⟩, ho, hc, n, hd⟩ := id hl
  simp only at hc hd
  subst hc hd
  have hT : s.TypeIs (.ref l) "tuple" := ⟨_, ho, rfl⟩
  show wpAny _ A (do return .bool (← contains (.ref l) x)) Q E s
  refine wpAny_bind (wpAny_contains_slot hT F.slot_tuple_contains (wpAny_call_entry F.slot_tuple_contains hT F.entry_tuple_contains ?_ (F.args_tuple_contains_2 _ _)))
  have fin : ∀ s', J s' → wpAny (model prog w) A (truthy (.bool false)) (fun b s' => wpAny (model prog w) A (pure (Value.bool b)) Q E s') E s' := fun s' hs => wpAny_truthy_bool (wpAny_pure (h s' hs))
  obtain ⟨hp, g, d, tk, os⟩ := s
  wp_walk using AutoSeq1.wpAny_loadPart' ho, MeetsSeq2.wpAny_forIn_array _ (fun rest b s' => b.1 = none ∧ J s' ∧ ∀ y, y ∈ rest → y ∈ items) _
  case turn =>
    rintro y rest b s' ⟨hb, hs, hmem⟩
    refine wpAny_bind (wpAny_mono (turn y (hmem y List.mem_cons_self) s' hs) (fun r s2 ⟨er, hs2⟩ => ?_) fun _ _ z => z)
    subst er
    wp_walk
    exact ⟨rfl, hs2, fun z hz => hmem z (List.mem_cons_of_mem _ hz)⟩
  case fin =>
    rintro ⟨b1, b2⟩ s' ⟨hb, hs, -⟩
    simp only at hb
    subst hb
    wp_walk
    exact ⟨_, rfl, fin s' hs⟩
  case h => exact ⟨rfl, hJ, fun y hy => by simpa using hy⟩
end
/-- None or a tuple -/
inductive OddL (K : PySem.W.Frag) (H : Hp) : V → Prop
  | non : OddL K H .non
  | tup {t : Addr} {xs : List V} : SqT K H t xs → OddL K H (.ref t)
theorem OddL.same {K : PySem.W.Frag} {H H' : Hp} {x : V} (h : OddL K H x) (s : Same H H') : OddL K H' x := by
  cases h with
  | non => exact .non
  | tup q => exact .tup (SqT.ext q s)
def rInOdd (K : PySem.W.Frag) (S : Addr → Prop) (spE : Addr → Sp) : R2 := fun x y H Q => ∃ (a C dx : Addr) (fs : List (Str × V)) (t : Addr) (ys : List V), x = .ref a ∧ y = .ref t ∧ H a = some (.ins C dx fs) ∧ S C ∧ SqT K H t ys ∧ PySem.W.subIn K (.ref C) (.type "NoneType") = some false ∧ PySem.W.subIn K (.ref C) (.type "tuple") = some false ∧
  (∀ z ∈ ys, OddL K H z ∧ ∀ H', Same H H' → spE C [x, z] H' (fun r H'' => ∃ k, r = .bl k ∧ k = false ∧ Same H' H'') E0) ∧ ∀ H', Same H H' → Q (.bl false) H'
theorem op_inOdd {X : Cx} {n : Nat} {S : Addr → Prop} {spE : Addr → Sp} (T : ∀ C, S C → EqN X.prog X.w X.K X.mg X.base n C (spE C)) (hr : Room (n + 2) X.A) : OpR X (compareOp .In) (rInOdd X.K S spE) := by
  intro pins s σ H x y v u Q I rx ry h
  obtain ⟨a, C, dx, fs, t, ys, rfl, rfl, ha, hS, ht, hsN, hsT, turn, fin⟩ := h
  obtain rfl : v = Value.ref a := rx
  obtain rfl : u = Value.ref t := ry
  obtain ⟨its, r, pl, hz⟩ := I.tuple ht
  refine none_in (J := fun s' => ∃ H', Inv X pins σ H' s' ∧ Same H H') pl ⟨H, I, Same.refl H⟩ (fun u hu s1 ⟨H1, I1, s01⟩ => ?_) fun s1 ⟨H1, I1, s01⟩ => ⟨.bl false, H1, I1, rfl, fin H1 s01⟩
  obtain ⟨z, hz1, rz⟩ : ∃ z ∈ ys, RelV z u := by
    have hu' : u ∈ its := by simpa using hu
    obtain ⟨i, hi, e⟩ := List.getElem_of_mem hu'
    have hl := r.length
    obtain ⟨u', h1, h2⟩ := r.get (i := i) (x := ys[i]'(by omega)) (List.getElem?_eq_getElem (by omega))
    rw [List.getElem?_eq_getElem hi, e] at h1
    exact ⟨_, List.getElem_mem (by omega), Option.some.inj h1 ▸ h2⟩
  obtain ⟨hodd, hsp⟩ := turn z hz1
  obtain ⟨⟨g, fd, h1, h2, GF, hbd⟩, h3, h4⟩ := T C hS
  have ha1 := s01 _ _ ha
  obtain ⟨mA, O, _⟩ := ins_get I1.hok ha1
  obtain ⟨od, J, _⟩ := O.look
  have hr1 := Room.in1 hr
  have own : ∀ E' : Value → Shared → Prop, wpAny (model X.prog X.w) X.A.in1 (tryCompare (.ref a) (cmpInfo .Eq).2.1 u) (fun r s' => ∃ k, r = some (.bool (ansOf .Eq k)) ∧ (∃ H', Inv X pins σ H' s' ∧ k = false ∧ Same H1 H')) E' s1 := fun E' => by
    refine try_own (.inl rfl) I1.kIn J h1 h2 h3 h4 (Room.in1 hr1).units0 fun A' hA => ?_
    rcases hA with rfl | rfl
    · exact gives_own GF (hr1.mono (Nat.le_succ _)) hbd I1.env0.in1 I1 rz (hsp H1 s01)
    · exact gives_own GF (Room.in1 hr1) hbd I1.env0.in1.in1 I1 rz (hsp H1 s01)
  have fin2 : ∀ k s', (∃ H', Inv X pins σ H' s' ∧ k = false ∧ Same H1 H') → wpAny (model X.prog X.w) X.A.in1 (truthy (.bool k)) (fun r s'' => r = false ∧ ∃ H', Inv X pins σ H' s'' ∧ Same H H') X.xe s' := fun k s' ⟨H2, I2, e, s12⟩ => wpAny_truthy_bool ⟨e, H2, I2, s01.trans s12⟩
  cases hodd with
  | non =>
    obtain rfl : u = Value.none := rz
    unfold eqBool
    refine wpAny_holding (wpAny_ite_split (fun z => by simp at z) fun _ => ?_)
    refine wpAny_bind (rc_refl (T := "NoneType") hr1.units0 I1.kIn rfl F.slot_NoneType_eq J hsN (fun Q' hq => call_gives F.slot_NoneType_eq rfl F.entry_NoneType_eq (F.args_NoneType_eq_2 _ _) (SeqAt.NoneType___eq___none_ref_0 a) hq) (own _) fin2)
  | tup q =>
    rename_i t2 xs2
    obtain rfl : u = Value.ref t2 := rz
    obtain ⟨its2, r2, pl2, hz2⟩ := I1.tuple (SqT.ext q s01)
    obtain ⟨⟨cls, dd, data, sl⟩, ho, hc, n2, hd⟩ := id pl2
    simp only at hc hd
    subst hc hd
    have hT2 : s1.TypeIs (.ref t2) "tuple" := ⟨_, ho, rfl⟩
    have hne : t2 ≠ a := fun z => by
      have e1 := J.at_
      rw [← z, ho] at e1
      have e2 := J.cls
      rw [← Option.some.inj e1] at e2
      cases e2
    refine GQ.eqBool_refG hne (rc_refl (T := "tuple") hr1.units0 I1.kIn hT2 F.slot_tuple_eq J hsT (fun Q' hq => ?_) (own _) fun k s' ⟨H2, I2, e, s12⟩ => ⟨k, rfl, e, H2, I2, s01.trans s12⟩)
    refine wpAny_call_entry F.slot_tuple_eq hT2 F.entry_tuple_eq ?_ (F.args_tuple_eq_2 _ _)
    have isi : ∀ (A : Around) (E : Value → Shared → Prop) (R : Bool → Shared → Prop), R false s1 → wpAny (model X.prog X.w) A (isInstance (.ref a) (.type "tuple")) R E s1 := fun A E R hR => by
      unfold isInstance
      exact wpAny_bind (J.type.here ((PySem.W.looks_subIn I1.kIn hsT).here hR))
    obtain ⟨hp, gg, d, tk, os⟩ := s1
    wp_walk using AutoSeq1.wpAny_loadPart' ho, isi
    exact ⟨_, rfl, hq⟩
end Own
/-! e.f, a property, of an instance of one of some classes -/
namespace Own
open PySem PySem.Spec PyProof.Rows L2 Sup Grd
structure PropN (P : Program) (w : World) (K : PySem.W.Frag) (mg : Str → Option Value) (base : Heap) (n : Nat) (C : Addr) (f : Str) (sp : Sp) : Prop where
  cl : Cls K C
  ex : ∃ (p g : Addr) (fd : FuncData), PropOf K C f p g ∧ FnOk P w K mg base CX0 n g fd ["self"] sp ∧ Binds K fd ["self"] []
def tPropS (S : Addr → Prop) (spP : Addr → Sp) (ta : TE) : TE := fun σ H Q => ta σ H fun x H1 => ∃ a C dx fs, x = .ref a ∧ H1 a = some (.ins C dx fs) ∧ S C ∧ spP C [.ref a] H1 Q E0
theorem pe_propS {X : Cx} {n : Nat} {S : Addr → Prop} {spP : Addr → Sp} {f : Str} {e : Expr} {ta : TE} {pos : Pos} (he : PE X e ta) (T : ∀ C, S C → PropN X.prog X.w X.K X.mg X.base n C f (spP C)) (hr : Room (n + 1) X.A)
    (hab : attributeBase e f X.env (eval e X.env) = eval e X.env := by rfl) : PE X (.Attribute e f pos) (tPropS S spP ta) := by
  refine ⟨fun pins s σ H Q I h => ?_⟩
  refine attr_of hab (thn (he.run pins s σ H _ I h) fun u s1 ⟨x, H1, I1, rx, a, C, dx, fs, ex, ea, hS, q⟩ => ?_)
  subst ex
  obtain rfl : u = Value.ref a := rx
  obtain ⟨cl, p, g, fd, hp, F, hb⟩ := T C hS
  exact getprop_ok I1 ea cl hp F hr hb .nil pass0 q
end Own
/-! sorted(t) of a tuple of texts (fewer than 64) -/
namespace SortT
open PySem PySem.Spec PyProof.Rows L2
def rSortT (K : PySem.W.Frag) : List V → Hp → VK → Prop := fun xs H Q => ∃ (a : Addr) (zs : List Str), xs = [.ref a] ∧ SqT K H a (zs.map V.str) ∧ zs.length < 64 ∧ ∀ ys p, ys.Perm zs → sortedS ys = true → H p = none → Q (.ref p) (upd H p (.lst (ys.map V.str)))
theorem call_sortT {X : Cx} : CallR X (.builtin "sorted") (rSortT X.K) := by
  intro pins s σ H xs us Q I r h
  obtain ⟨a, zs, rfl, hs, h64, q⟩ := h
  obtain ⟨u, rfl, rx⟩ := vals1 r
  obtain rfl : u = Value.ref a := rx
  obtain ⟨its, rv, pl, hz⟩ := I.tuple hs
  have hS : StrsAre its zs := rv.strs
  have hal : its.length = zs.length := by
    have := rv.length
    rw [List.length_map] at this
    exact this.symm
  obtain ⟨⟨cls, dd, data, sl⟩, ho, hc, n, hd⟩ := id pl
  simp only at hc hd
  subst hc hd
  refine Calls.call_function_entry kind_sorted plain_sorted entry_sorted (args_sorted1 _) ?_
  unfold Builtin.«sorted»
  refine wpAny_bind (m := checkCount "sorted" 1 1 _) (wpAny_pure (wpAny_bind (wpAny_collect_seq (A := X.A.in1) a (.inr rfl) ho rfl rfl (fun h' hk => ?_) (by rw [List.size_toArray]; rw [← rv.length]; exact hz))))
  rw [List.toList_toArray]
  have I1 : Inv X pins σ H { s with heap := h' } := I.kept (t' := s.toks) hk
  refine wpAny_bind (wpAny_newList ?_ (by rw [hal, sizeLine_eq]; omega))
  have hoL : (h'.push (seqObj "list" its.toArray 0)).get? h'.objs.size = some (seqObj "list" its.toArray 0) := Heap.get?_push_size _ rfl
  show wpAny _ _ _ _ _ { s with heap := h'.push (seqObj "list" its.toArray 0) }
  refine wpAny_bind (wpAny_holding (wpAny_call_entry slot_list_sort ⟨_, hoL, rfl⟩ entry_list_sort
    (list_sort_treeK strKind_oneLt (s := { s with heap := h'.push (seqObj "list" its.toArray 0) }) hoL hS.keysOf (fun v₁ v₂ rest e => keyKind_strs (by rw [← e]; exact hS)) (by rw [hal]; exact h64) fun st' hp hs => ⟨_, rfl, ?_⟩) (args_list_sort _)))
  obtain ⟨ys, g1, g2, g3⟩ := sorted_out_str hS hp hs
  obtain ⟨e', he'⟩ := sortedHeap_at (vs := its) (out := (arrOf st').map (·.2)) hoL
  have hlen : (ys.map V.str).length ≤ sizeLine := by
    rw [List.length_map, g2.length_eq]
    exact Nat.le_trans (Nat.le_of_lt h64) (by decide)
  refine wpAny_pure ⟨_, rfl, .ref h'.objs.size, upd H h'.objs.size (.lst (ys.map V.str)), I1.laid (t' := s.toks) (fun b u e => ?_) (Nat.le_refl _) (show ObjOk X.prog X.w _ _ _ (.lst (ys.map V.str)) from ⟨hlen, ((arrOf st').map (·.2)).toList, e', vals_of_strs g1, by rw [Array.toArray_toList]; exact he'⟩), rfl, q ys _ g2 g3 (I1.hok.fresh (Nat.le_refl _))⟩
  have hb : b < h'.objs.size := Heap.lt_size e
  rw [sortedHeap_old (Nat.ne_of_lt hb) (by rw [size_push']; exact Nat.lt_succ_of_lt hb)]
  exact Heap.get?_push_of_some _ e
end SortT
/-! texts in order: of one multitude there is one order -/
namespace OrdS
open PySem PySem.Spec PyProof.Rows
theorem lt_anti : ∀ a b : List Nat, ltCps a b = false → ltCps b a = false → a = b
  | [], [], _, _ => rfl
  | [], _ :: _, h, _ => by cases h
  | _ :: _, [], _, h => by cases h
  | x :: a, y :: b, h, g => by
    have h1 : (decide (x < y) || (x == y && ltCps a b)) = false := h
    have g1 : (decide (y < x) || (y == x && ltCps b a)) = false := g
    rw [Bool.or_eq_false_iff, decide_eq_false_iff_not] at h1 g1
    have e : x = y := by omega
    subst e
    rw [beq_self_eq_true, Bool.true_and] at h1 g1
    rw [lt_anti a b h1.2 g1.2]
theorem le_trans : ∀ a b c : List Nat, ltCps b a = false → ltCps c b = false → ltCps c a = false
  | [], _, [], _, _ => rfl
  | [], [], _ :: _, _, _ => rfl
  | [], _ :: _, _ :: _, _, _ => rfl
  | _ :: _, [], _, h, _ => by cases h
  | _ :: _, _ :: _, [], _, h => by cases h
  | x :: a, y :: b, z :: c, h, g => by
    have h1 : (decide (y < x) || (y == x && ltCps b a)) = false := h
    have g1 : (decide (z < y) || (z == y && ltCps c b)) = false := g
    show (decide (z < x) || (z == x && ltCps c a)) = false
    rw [Bool.or_eq_false_iff, decide_eq_false_iff_not] at h1 g1 ⊢
    refine ⟨by omega, ?_⟩
    by_cases e : z = x
    · have e2 : y = x := by omega
      subst e2
      subst e
      rw [beq_self_eq_true, Bool.true_and] at h1 g1 ⊢
      exact le_trans a b c h1.2 g1.2
    · rw [beq_eq_false_iff_ne.mpr e, Bool.false_and]
def Le (a b : Str) : Prop := ltCps b.cps.toList a.cps.toList = false
theorem Le.anti {a b : Str} (h : Le a b) (g : Le b a) : a = b := by
  have e := lt_anti _ _ g h
  cases a
  cases b
  congr 1
  exact Array.ext' e
theorem Le.trans {a b c : Str} (h : Le a b) (g : Le b c) : Le a c := le_trans _ _ _ h g
theorem rising_pw : ∀ (l : List Str) (p : Str), risingS p l = true → (p :: l).Pairwise Le
  | [], p, _ => List.pairwise_singleton _ _
  | x :: r, p, h => by
    have h1 : (!ltCps x.cps.toList p.cps.toList && risingS x r) = true := h
    rw [Bool.and_eq_true, Bool.not_eq_true'] at h1
    have ih := rising_pw r x h1.2
    refine List.pairwise_cons.mpr ⟨fun y hy => ?_, ih⟩
    rcases List.mem_cons.mp hy with rfl | hy
    · exact h1.1
    · exact Le.trans h1.1 ((List.pairwise_cons.mp ih).1 y hy)
theorem sorted_pw : ∀ {l : List Str}, sortedS l = true → l.Pairwise Le
  | [], _ => .nil
  | x :: r, h => rising_pw r x h
theorem pw_sorted {l : List Str} (h : l.Pairwise Le) : sortedS l = true := sortedS_of_pairwise l h
theorem pw_uniq : ∀ {ys zs : List Str}, ys.Perm zs → ys.Pairwise Le → zs.Pairwise Le → ys = zs
  | [], zs, hp, _, _ => (List.Perm.eq_nil hp.symm).symm
  | y :: ys, [], hp, _, _ => by cases List.Perm.eq_nil hp
  | y :: ys, z :: zs, hp, hy, hz => by
    have hy' := List.pairwise_cons.mp hy
    have hz' := List.pairwise_cons.mp hz
    have m1 : y ∈ z :: zs := hp.mem_iff.mp List.mem_cons_self
    have m2 : z ∈ y :: ys := hp.mem_iff.mpr List.mem_cons_self
    have e : y = z := by
      rcases List.mem_cons.mp m1 with e | m1
      · exact e
      · rcases List.mem_cons.mp m2 with e | m2
        · exact e.symm
        · exact (hy'.1 z m2).anti (hz'.1 y m1)
    subst e
    rw [pw_uniq hp.cons_inv hy'.2 hz'.2]
theorem uniq {ys zs : List Str} (hp : ys.Perm zs) (hy : sortedS ys = true) (hz : sortedS zs = true) : ys = zs := pw_uniq hp (sorted_pw hy) (sorted_pw hz)
end OrdS
/-! C(), C.m(k = v, ..) by a promise with keywords; lists of the same things under != -/
namespace StK
open PySem PySem.Spec PyProof PyProof.Rows L2
section
variable {X : Cx} {CX : CXT} {k n i : Nat} {f C : Addr} {ks : List Str} {sp : List V → List V → Hp → VK → XK → Prop} {E : XK} {x m : Str} {p pos sp_ apos : Pos} {e o : Expr} {es : List Expr} {kws : List Keyword} {te ta : TE} {t tk : TA} {mc : Value} {q g : Addr}
/-- C(k = v, ..) -/
theorem pe_makeS0 (M : Mk X.K C f) (F : FnK X.prog X.w X.K X.mg X.base CX k f ks sp) (hr : Room (k + 1) X.A) (hg : Gl X x) (hm : X.mg x = some (.ref C)) (hx : Passes CX X E) (hkw : PK X kws tk)
    (hall : (backToKw pos (keywordEach kws X.env)).all (·.1.isSome) = true := by rfl) (hks : (backToKw pos (keywordEach kws X.env)).filterMap (·.1) = ks := by rfl) (hdb : (x == ("__debug__" : Str)) = false := by decide)
    (hpl : ((backTo pos (starEach [] X.env)).any (·.1) || (backToKw pos (keywordEach kws X.env)).any (·.1.isNone)) = false := by rfl) :
    PE X (.Call (.Name x p) [] kws pos) (tMakeS C ks.length sp E tNil tk) := by
  refine ⟨fun pins s σ H Q I h => ?_⟩
  refine wpAny_Call_Name_kw (ld_glob I hg hm ?_ hdb)
  refine PySem.W.callWith_KW0 (h₀ := X.base) I.ok.mod.kin M.kp hall ?_ hpl
  refine thn (hkw.run pos pins s σ H _ I h) fun ws s2 ⟨zs, H2, I2, rz, l2, q2⟩ => ⟨I2.kIn, ?_⟩
  rw [hks]
  exact run_makeK (us := []) (vs := []) M F hr hx I2 .nil rz l2 q2
/-- C.m(k = v, ..), m a classmethod of C -/
theorem pe_cmethK0 {pl : Sem Bool} (he : PE X o ta) (r : ClX.CRead X.K C mc) (c : ClX.CMet X.K C mc m q g) (F : FnK X.prog X.w X.K X.mg X.base CX k g ks sp) (hr : Room k X.A) (hx : Passes CX X E) (hkw : PK X kws tk)
    (hall : (backToKw pos (keywordEach kws X.env)).all (·.1.isSome) = true := by rfl) (hks : (backToKw pos (keywordEach kws X.env)).filterMap (·.1) = ks := by rfl)
    (hpl : ((backTo pos (starEach [] X.env)).any (·.1) || (backToKw pos (keywordEach kws X.env)).any (·.1.isNone)) = false := by rfl)
    (ht : eval (.Call (.Attribute o m apos) [] kws pos) X.env = (do
      let ov ← eval o X.env
      standAt apos.atName
      let (f, first) ← holding [ov] (getMethod ov m pl)
      callWith pos f first (backTo pos (starEach [] X.env)) (backToKw pos (keywordEach kws X.env))) := by rfl) :
    PE X (.Call (.Attribute o m apos) [] kws pos) (tCMethK C ks.length sp E ta tNil tk) := by
  refine ⟨fun pins s σ H Q I h => ?_⟩
  refine PySem.W.methodCall_KW (pl := pl) (thn (he.run pins s σ H _ I h) fun u s1 ⟨x, H1, I1, rx, ex, q1⟩ => ?_) ht
  subst ex
  obtain rfl : u = Value.ref C := rx
  refine ClX.getmethcm_ok I1 r c fun s2 I2 => ?_
  refine PySem.W.callWith_of (P := PySem.W.MethP X.K _ g (.ref C)) hpl (PySem.W.keeps_M c.fi) ?_
  refine evalArgs_kw2_nil hall ?_
  refine thn (hkw.run pos _ s2 σ H1 _ I2 q1) fun ws s4 ⟨zs, H3, I4, rz, l2, q3⟩ => ⟨⟨ClX.pin_at I4, I4.kIn⟩, ?_⟩
  rw [hks]
  exact run_cmK (us := []) (vs := []) F hr hx I4 .nil rz l2 q3
/-- two lists of the same things -/
def rNeSame : R2 := fun x y H Q => ∃ (a b : Addr) (as : List Addr), x = .ref a ∧ y = .ref b ∧ H a = some (.lst (as.map V.ref)) ∧ H b = some (.lst (as.map V.ref)) ∧ Q (.bl false) H
theorem vals_refs : ∀ {as : List Addr} {us : List Value}, Vals (as.map V.ref) us → us = as.map Value.ref
  | [], [], .nil => rfl
  | a :: as, u :: us, .cons r t => by
    obtain rfl : u = Value.ref a := r
    rw [vals_refs t] <;> rfl
theorem op_neSame {X : Cx} (hu : X.A.units + 64 < cLine) : OpR X (compareOp .NotEq) rNeSame := by
  intro pins s σ H x y v u Q I rx ry h
  obtain ⟨a, b, as, rfl, rfl, ha, hb, q⟩ := h
  obtain rfl : v = Value.ref a := rx
  obtain rfl : u = Value.ref b := ry
  obtain ⟨its, r1, p1, _⟩ := I.list (SqL.of ha)
  obtain ⟨it2, r2, p2, _⟩ := I.list (SqL.of hb)
  obtain rfl := vals_refs r1
  obtain rfl := vals_refs r2
  have z := SeqAt.RcNeAt.lists (A := X.A) (e := fun _ => true) p1.isList p2.isList rfl (Nat.lt_of_le_of_lt (Nat.le_add_right _ _) hu) fun j _ _ => SeqAt.EqAt.same _
  rw [show (!((List.range (as.map Value.ref).toArray.size).all fun _ => true)) = false by rw [List.all_eq_true.mpr fun _ _ => rfl] <;> rfl] at z
  exact z _ _ _ _ ⟨.bl false, H, I, rfl, q⟩
end
end StK
/-! C(*xs, e, k = v) -/
namespace StK
open PySem PySem.Spec PyProof PyProof.Rows L2
section
variable {M : Model} {A : Around} {E : Value → Shared → Prop} {s : Shared}
theorem evk2 {f : Value} {a b : Bool × Sem Value} {rest : List (Bool × Sem Value)} {keywords : List (Option Str × Sem Value)} {Q : Args → Shared → Prop} (hall : keywords.all (·.1.isSome) = true)
    (h : wpAny M A (spliced (a :: b :: rest)) (fun vs s₁ => wpAny M A (evalAll (keywords.map (·.2))) (fun ks s₂ => Q ⟨vs, (keywords.filterMap (·.1)).zip ks⟩ s₂) E s₁) E s) : wpAny M A (evalArgs f true (a :: b :: rest) keywords) Q E s := by
  obtain ⟨a1, a2⟩ := a
  unfold evalArgs
  cases a1
  all_goals
    refine (show wpAny M A (spliced ((_, a2) :: b :: rest) >>= _) Q E s from ?_)
    refine wpAny_bind (thn h fun vs s₁ h₁ => ?_)
    try refine wpAny_bind (wpAny_pure ?_)
    refine wpAny_holding ?_
    simp only [hall, if_true]
    refine wpAny_bind (wpAny_mono h₁ (fun ks s₂ h₂ => ?_) fun _ _ x => x)
    exact wpAny_bind (wpAny_pure (wpAny_pure h₂))
end
section
variable {X : Cx} {CX : CXT} {k : Nat} {f C : Addr} {ks : List Str} {sp : List V → List V → Hp → VK → XK → Prop} {E : XK} {x : Str} {p pos sp_ : Pos} {e e2 : Expr} {es : List Expr} {kws : List Keyword} {t tk : TA}
/-- C(*e, e2, .., k = v) -/
theorem pe_makeSt (M : Mk X.K C f) (F : FnK X.prog X.w X.K X.mg X.base CX k f ks sp) (hr : Room (k + 1) X.A) (hg : Gl X x) (hm : X.mg x = some (.ref C)) (hx : Passes CX X E) (ha : PA X (.Starred e sp_ :: e2 :: es) t) (hkw : PK X kws tk)
    (hall : (backToKw pos (keywordEach kws X.env)).all (·.1.isSome) = true := by rfl) (hks : (backToKw pos (keywordEach kws X.env)).filterMap (·.1) = ks := by rfl) (hdb : (x == ("__debug__" : Str)) = false := by decide)
    (hst : (backTo pos (starEach (.Starred e sp_ :: e2 :: es) X.env)).any (·.1) = true := by rfl) (he : ∃ a b r, backTo pos (starEach (.Starred e sp_ :: e2 :: es) X.env) = a :: b :: r := by exact ⟨_, _, _, rfl⟩) :
    PE X (.Call (.Name x p) (.Starred e sp_ :: e2 :: es) kws pos) (tMakeS C ks.length sp E t tk) := by
  refine ⟨fun pins s σ H Q I h => ?_⟩
  refine wpAny_Call_Name_kw (ld_glob I hg hm ?_ hdb)
  refine sk_call (P := X.K.In) hst (PySem.W.keeps_K M.kp) ?_
  have z := ha.run pos pins s σ H _ I h
  obtain ⟨a, b, r, eq⟩ := he
  rw [eq] at z ⊢
  refine evk2 hall (thn z fun us s1 ⟨vs, H1, I1, rv, q⟩ => ?_)
  refine thn (hkw.run pos pins s1 σ H1 _ I1 q) fun ws s2 ⟨zs, H2, I2, rz, l2, q2⟩ => ⟨I2.kIn, ?_⟩
  rw [hks]
  exact run_makeK M F hr hx I2 rv rz l2 q2
end
end StK
/-! def f(a, .., **d), called with keywords; c(e, .., k = v), c a name that holds a class -/
namespace StK
open PySem PySem.Spec PyProof.Rows L2
open StX
section
variable {prog : Program} {w : World} {A : Around} {E : Value → Shared → Prop} {d : Addr}
open PySem.W (dictOf kwEs putL)
theorem kd_nsSet {s : Shared} {es : List DictEntry} {n : Nat} {k : Str} {v : Value} {Q : Unit → Shared → Prop} (D : s.heap.get? d = some (dictOf es n))
    (hs : ∀ e ∈ es, e.key.isStr k = false) (hr : ∀ e ∈ es, e.refKey = false)
    (h : ∀ h' : Heap, h'.get? d = some (dictOf (es ++ [⟨PyData.keyHash w.params k, .str k s.toks, v⟩]) (n + 1)) → Heap.SameBut d s.heap h' → Q () { s with heap := h', toks := s.toks + 1 }) :
    wpAny (model prog w) A (nsSet d k v) Q E s := by
  have e1 : es.any (·.key.isStr k) = false := by
    cases q : es.any (·.key.isStr k) with
    | false => rfl
    | true => obtain ⟨e, he, z⟩ := List.any_eq_true.mp q; rw [hs e he] at z; cases z
  have e2 : es.any (·.refKey) = false := by
    cases q : es.any (·.refKey) with
    | false => rfl
    | true => obtain ⟨e, he, z⟩ := List.any_eq_true.mp q; rw [hr e he] at z; cases z
  have e : Obj.putName k (PyData.keyHash w.params k) (.str k s.toks) v (dictOf es n) = dictOf (es ++ [⟨PyData.keyHash w.params k, .str k s.toks, v⟩]) (n + 1) := by
    rw [PySem.W.putName_dict, PySem.W.putL_new hs]
    show dictOf _ (if es.any (·.key.isStr k) then n else n + 1) = _
    rw [e1, if_neg Bool.false_ne_true]
  have c : aRefKeyMayBeTheName k es.toArray = false := by
    rw [aRefKeyMayBeTheName_at, ← Array.any_toList, ← Array.any_toList]
    show (!es.any (·.key.isStr k) && es.any (·.refKey)) = false
    rw [e2, Bool.and_false]
  unfold nsSet
  refine wpAny_bind (wpAny_bind (wpAny_askSetting (wpAny_pure (wpAny_bind (wpAny_mkText (wpAny_bind (wpAny_loadPart D ?_)))))))
  dsimp only
  rw [c]
  refine wpAny_updatePart D (h _ ?_ (Heap.SameBut.update _ _ _))
  have e3 : (s.heap.update d (Obj.putName k (PyData.keyHash w.params k) (.str k s.toks) v)).get? d = some (Obj.putName k (PyData.keyHash w.params k) (.str k s.toks) v (dictOf es n)) := Heap.get?_update_self _ D (by rw [e]; rfl)
  rw [e] at e3
  exact e3
theorem kd_fill {Q : PUnit → Shared → Prop} : ∀ (ex : List (Str × Value)) (s : Shared) (es : List DictEntry) (n : Nat), s.heap.get? d = some (dictOf es n) →
    (∀ e ∈ es, ∀ x ∈ ex, e.key.isStr x.1 = false) → (∀ e ∈ es, e.refKey = false) → (ex.map (·.1)).Nodup →
    (∀ h' : Heap, h'.get? d = some (dictOf (es ++ kwEs w.params s.toks ex) (n + ex.length)) → Heap.SameBut d s.heap h' → Q ⟨⟩ { s with heap := h', toks := s.toks + ex.length }) →
    wpAny (model prog w) A (forIn ex PUnit.unit fun x _ => (nsSet d x.1 x.2 >>= fun _ => pure (ForInStep.yield PUnit.unit))) Q E s
  | [], s, es, n, D, _, _, _, h => by
    rw [List.forIn_nil]
    refine wpAny_pure (h s.heap ?_ (Heap.SameBut.refl _ _))
    show s.heap.get? d = some (dictOf (es ++ []) n)
    rw [List.append_nil]
    exact D
  | x :: r, s, es, n, D, hs, hr, hn, h => by
    obtain ⟨hn1, hn2⟩ := List.nodup_cons.mp (show (x.1 :: r.map (·.1)).Nodup from hn)
    rw [List.forIn_cons]
    refine wpAny_bind (wpAny_bind (kd_nsSet D (fun e he => hs e he x (.head _)) hr fun h' D' b' => wpAny_pure ?_))
    show wpAny (model prog w) A (forIn r PUnit.unit fun x _ => (nsSet d x.1 x.2 >>= fun _ => pure (ForInStep.yield PUnit.unit))) Q E { s with heap := h', toks := s.toks + 1 }
    refine kd_fill r { s with heap := h', toks := s.toks + 1 } _ _ D' (fun e he y hy => ?_) (fun e he => ?_) hn2 fun h'' D'' b'' => ?_
    · rcases List.mem_append.mp he with he | he
      · exact hs e he y (.tail _ hy)
      · obtain rfl := List.mem_singleton.mp he
        show (x.1 == y.1) = false
        exact beq_eq_false_iff_ne.mpr fun q => hn1 (by rw [q]; exact List.mem_map_of_mem hy)
    · rcases List.mem_append.mp he with he | he
      · exact hr e he
      · obtain rfl := List.mem_singleton.mp he
        rfl
    · have t1 : s.toks + 1 + r.length = s.toks + (r.length + 1) := by omega
      have t2 : n + 1 + r.length = n + (r.length + 1) := by omega
      show Q ⟨⟩ { s with heap := h'', toks := s.toks + 1 + r.length }
      rw [t1]
      refine h h'' ?_ (b'.trans b'')
      rw [t2, List.append_assoc] at D''
      exact D''
def mixRow (x : Str × Value) : Key × Value := (Sum.inr x.1, x.2)
theorem kd_pairs : ∀ (ex : List (Str × Value)) (t : Tok), Pairs (mixKind prog w) (kwEs w.params t ex) (ex.map mixRow)
  | [], _ => Pairs.nil
  | x :: r, t => Pairs.cons (keyIs_str x.1 t) rfl (kd_pairs r (t + 1))
theorem kd_dict {h : Heap} {ex : List (Str × Value)} {t : Tok} {n : Nat} (hn : (ex.map (·.1)).Nodup) (e : h.get? d = some (dictOf (kwEs w.params t ex) n)) : h.DictOf (mixKind prog w) d (ex.map mixRow) :=
  ⟨_, (kwEs w.params t ex).toArray, n, e, ⟨rfl, rfl, rfl⟩, rfl, fun e he => by
    obtain ⟨k, u, hk, hh⟩ := PySem.W.kwEs_key ex t e (List.mem_toArray.mp he)
    exact ⟨Sum.inr k, by rw [hk]; exact keyIs_str k u, hh.trans rfl⟩, kd_pairs ex t, by
    rw [List.map_map]
    have e2 : (((fun x : Key × Value => x.1) ∘ mixRow) : Str × Value → Key) = (fun z : Str => (Sum.inr z : Key)) ∘ fun x : Str × Value => x.1 := rfl
    rw [e2, ← List.map_map]
    exact List.Pairwise.map _ (fun a b ne z => ne (Sum.inr.inj z)) hn⟩
end
/-- the rows of the dict that the keywords make -/
def kwRows (ks : List Str) (zs : List V) : List (Key × V) := (ks.zip zs).map fun p => (Sum.inr p.1, p.2)
theorem kwRows_kv : ∀ {ks : List Str} {zs : List V} {ws : List Value}, Vals zs ws → KV (kwRows ks zs) ((ks.zip ws).map mixRow)
  | [], _, _, _ => .nil
  | _ :: _, [], _, .nil => .nil
  | k :: ks, z :: zs, _, .cons r t => .cons ⟨rfl, r⟩ (kwRows_kv (ks := ks) t)
section
variable {P : Program} {w : World} {K : PySem.W.Frag} {mg : Str → Option Value} {base : Heap} {A : Around} {outer : List Env} {s : Shared} {H : Hp}
/-- a new object laid and tracked ahead of a def's body, in some steps -/
theorem env0_laidN {h' : Heap} {tk : Tok} {u : HO} (e0 : Env0 P w K mg base A outer s H) (kp : ∀ b x, s.heap.get? b = some x → h'.get? b = some x) (sz : s.heap.objs.size ≤ h'.objs.size) (new : ObjOk P w (upd H s.heap.objs.size u) h' s.heap.objs.size u) :
    Env0 P w K mg base A outer { s with heap := h', toks := tk } (upd H s.heap.objs.size u) := by
  refine ⟨e0.frames, e0.mod, fun b x e => ⟨kp b x (e0.bs b x e).1, ?_⟩, Nat.le_trans e0.bsz sz, Heap.FunFrames.of_keeps (fun b x e _ => ⟨x, kp b x e, rfl⟩) e0.funs, fun b hb => ?_, e0.hok.laid kp (Nat.le_refl _) new, e0.bare⟩
  · rw [upd_ne (Nat.ne_of_lt (Heap.lt_size (e0.bs b x e).1))]
    exact (e0.bs b x e).2
  · obtain ⟨_, x, hx, _⟩ := e0.funs.mem hb
    rw [upd_ne (Nat.ne_of_lt (Heap.lt_size hx))]
    exact e0.frf b hb
end
/-- what a def with **d is promised of: the values, a new dict of the keywords -/
def spKw (n : Nat) (ks : List Str) (sp : Sp) : List V → List V → Hp → VK → XK → Prop := fun vs zs H Q E => vs.length = n ∧ ∀ p, H p = Option.none → sp (vs ++ [V.ref p]) (upd H p (.dK (kwRows ks zs))) Q E
section
variable {CX : CXT} {P : Program} {w : World} {K : PySem.W.Frag} {mg : Str → Option Value} {base : Heap} {k : Nat} {f : Addr} {x qual : Str} {st : Stmt} {fd : FuncData} {N ps : List Str} {sp : Sp}
/-- def f(a, .., **d) called with the keywords ks, none of them a parameter -/
theorem fn_kwD {pd : Str} (F : Fun K x qual st f fd) (S : FnScope N (ps ++ [pd]) (defScope st)) (hCX : CXUp CX) (ks : List Str) (hks : ks.Nodup) (hkl : ks.length ≤ 1000)
    (hb : ∀ (kV doc pm : Value) (an : Option Addr) (cdv ct : Value) (us ws : List Value), us.length = ps.length → ws.length = ks.length →
      bindArgs (PySem.W.fnOf x qual (defArgs st) (defBody st) (defScope st) .none kV doc pm an cdv ct) ⟨us, ks.zip ws⟩ =
        ((alloc ({ cls := .type "dict", data := .dict #[] } : Obj) : Sem Addr) >>= fun d => (forIn (ks.zip ws) PUnit.unit fun x _ => (nsSet d x.1 x.2 >>= fun _ => pure (ForInStep.yield PUnit.unit))) >>= fun _ => pure (ps.zip us ++ [(pd, Value.ref d)])))
    (hbody : ∀ (cdv : Value) (A : Around) (outer : List Env) (s : Shared) (H : Hp) (vs : List V) (Q : VK) (E : XK), Room k (A.deeper (envOfC qual (defScope st) s.heap.objs.size f cdv)) → sp vs H Q E →
      ∃ t, PSs (cxOf CX P w K mg base N qual (defScope st) f cdv A outer s H E) (defBody st) t ∧ t { nx := fun _ H' => Q .non H', rt := Q } (start N vs) H) :
    FnK P w K mg base CX (k + 1) f ks (spKw ps.length ks sp) := by
  obtain ⟨oc, od, kV, doc, pm, an, cdv, ct, osl, rfl, lk, hcd⟩ := F.ex
  intro A outer s H us ws vs zs Q E hr e0 r rz hzl hsp
  obtain ⟨hvl, hsp⟩ := hsp
  have hn : H s.heap.objs.size = Option.none := e0.hok.fresh (Nat.le_refl _)
  have hl1 : us.length = ps.length := by rw [← r.length]; exact hvl
  have hl2 : ws.length = ks.length := by rw [← rz.length]; exact hzl
  refine run_bnd lk hcd S hr e0 (G := fun xs H2 => ∃ p, H p = Option.none ∧ xs = vs ++ [V.ref p] ∧ H2 = upd H p (.dK (kwRows ks zs))) (fun A' Ex Q' h => ?_) fun s2 H2 xs ⟨p, hp, ex, eH⟩ hr' => ?_
  · rw [hb kV doc pm an cdv ct us ws hl1 hl2]
    refine wpAny_bind (wpAny_alloc ?_)
    have hD : (s.heap.push ({ cls := .type "dict", data := .dict #[] } : Obj)).get? s.heap.objs.size = some (PySem.W.dictOf [] 0) := Heap.get?_push_size _ rfl
    have hnd : ((ks.zip ws).map (·.1)).Nodup := by
      rw [List.map_fst_zip (by rw [hl2]; exact Nat.le_refl _)]
      exact hks
    refine wpAny_bind (kd_fill (ks.zip ws) _ [] 0 hD (fun _ he => nomatch he) (fun _ he => nomatch he) hnd fun h' D' b' => wpAny_pure ?_)
    have kp : ∀ b x, s.heap.get? b = some x → h'.get? b = some x := fun b x e => by
      rw [b'.2 b (Nat.ne_of_lt (Heap.lt_size e))]
      exact Heap.get?_push_of_some _ e
    have sz : s.heap.objs.size ≤ h'.objs.size := by
      rw [b'.1]
      show _ ≤ (s.heap.push _).objs.size
      rw [Heap.size_push]
      exact Nat.le_succ _
    have rows : (kwRows ks zs).length ≤ 1000 := by
      unfold kwRows
      rw [List.length_map, List.length_zip]
      exact Nat.le_trans (Nat.min_le_left _ _) hkl
    have big := env0_big e0
    have new : ObjOk P w (upd H s.heap.objs.size (.dK (kwRows ks zs))) h' s.heap.objs.size (.dK (kwRows ks zs)) :=
      ⟨Nat.le_trans rows (by decide), beq_eq_false_iff_ne.mpr fun z => by rw [z] at big; exact Nat.lt_irrefl _ big, _, kwRows_kv rz, kd_dict hnd (by rw [List.nil_append] at D'; exact D')⟩
    have un : Un (frs outer) [] H (upd H s.heap.objs.size (.dK (kwRows ks zs))) s.heap h' := Un.laid kp (Nat.le_refl _) hn
    have z := h _ _ (vs ++ [V.ref s.heap.objs.size]) (us ++ [Value.ref s.heap.objs.size]) (env0_laidN (tk := s.toks + (ks.zip ws).length) e0 kp sz new) un rfl (fun e s' => hCX outer s H _ _ E e s' un kp rfl) (r.append (.cons rfl .nil))
      (by rw [List.length_append, List.length_append, hvl] <;> rfl) ⟨_, hn, rfl, rfl⟩
    rw [List.zip_append hl1.symm] at z
    exact z
  · subst ex eH
    exact hbody cdv A outer s2 _ _ Q E hr' (hsp p hp)
end
section
variable {X : Cx} {CX : CXT} {k n i : Nat} {f C : Addr} {ks : List Str} {sp : List V → List V → Hp → VK → XK → Prop} {E : XK} {x m : Str} {p pos sp_ apos : Pos} {e o : Expr} {es : List Expr} {kws : List Keyword} {te ta : TE} {t tk : TA} {mc : Value} {q g : Addr}
/-- c(e, .., k = v, ..), c a name whose value is the class at C -/
def tMakeC (C : Addr) (m : Nat) (sp : List V → List V → Hp → VK → XK → Prop) (E : XK) (tf : TE) (t tk : TA) : TE := fun σ H Q => tf σ H fun c H0 => c = .ref C ∧ t σ H0 fun vs H1 => tk σ H1 fun zs H2 => zs.length = m ∧ spMk C sp E vs zs H2 Q
theorem pe_makeC {tf : TE} (M : Mk X.K C f) (F : FnK X.prog X.w X.K X.mg X.base CX k f ks sp) (hr : Room (k + 1) X.A) (hx : Passes CX X E) (hf : PE X (.Name x p) tf) (ha : PA X (e :: es) t) (hkw : PK X kws tk)
    (hall : (backToKw pos (keywordEach kws X.env)).all (·.1.isSome) = true := by rfl) (hks : (backToKw pos (keywordEach kws X.env)).filterMap (·.1) = ks := by rfl)
    (he : starEach (e :: es) X.env = (false, eval e X.env) :: starEach es X.env := by rfl) (hpl : ((backTo pos (starEach (e :: es) X.env)).any (·.1) || (backToKw pos (keywordEach kws X.env)).any (·.1.isNone)) = false := by rfl) :
    PE X (.Call (.Name x p) (e :: es) kws pos) (tMakeC C ks.length sp E tf t tk) := by
  refine ⟨fun pins s σ H Q I h => ?_⟩
  refine wpAny_Call_Name_kw (thn (hf.run pins s σ H _ I h) fun u s1 ⟨c, H1, I1, rc, ec, q1⟩ => ?_)
  subst ec
  obtain rfl : u = Value.ref C := rc
  refine PySem.W.callWith_KW (h₀ := X.base) I.ok.mod.kin M.kp hall (thn (ha.run pos pins s1 σ H1 _ I1 q1) fun us s1 ⟨vs, H1, I1, r, q⟩ => ?_) hpl he
  refine thn (hkw.run pos pins s1 σ H1 _ I1 q) fun ws s2 ⟨zs, H2, I2, rz, l2, q2⟩ => ⟨I2.kIn, ?_⟩
  rw [hks]
  exact run_makeK M F hr hx I2 r rz l2 q2
end
end StK
/-! o + x, o - x by an operator of o's own class -/
namespace Own
open PySem PySem.Spec PySem.W PyProof.Rows L2 Sup Grd
def isN (o : Option (Option Value)) : Bool := match o with
  | some none => true
  | _ => false
theorem isN_eq {o : Option (Option Value)} (h : isN o = true) : o = some none := by
  match o, h with
  | some none, _ => rfl
/-- neither the class at D nor what it comes from has such an operator -/
def noBin (K : Frag) (D : Addr) (nm : String) : Bool := match clsIn K D with
  | some cd => cd.mro.all fun c => isN (findIn K c (PySem.dunder nm)) && isN (findIn K c (dunderR nm))
  | none => false
theorem fills_not {K : Frag} {M : Model} {h : Heap} {D : Addr} {nm : String} (X : K.In h) (hD : noBin K D nm = true) : Looks M h (fillsNumberSlot (.ref D) nm) false := by
  intro A Q E s k q
  unfold noBin at hD
  cases e : clsIn K D with
  | none => rw [e] at hD; cases hD
  | some cd =>
    rw [e] at hD
    have LM := (looks_clsIn (M := M) X e).andThen (f := fun z => (pure z.mro : Sem (List Value))) .now
    have X' := X.keeps k
    have go : ∀ l : List Value, (l.all fun c => isN (findIn K c (PySem.dunder nm)) && isN (findIn K c (dunderR nm))) = true → ∀ f : Value → Sem Bool, (∀ c, findIn K c (PySem.dunder nm) = some none → findIn K c (dunderR nm) = some none → ∀ Q' : Bool → Shared → Prop, Q' false s → wpAny M A (f c) Q' E s) → wpAny M A (l.anyM f) Q E s := by
      intro l
      induction l with
      | nil => intro _ f _; exact wpAny_pure q
      | cons c l ih =>
        intro hl f hf
        rw [List.all_cons, Bool.and_eq_true, Bool.and_eq_true] at hl
        rw [List.anyM_cons]
        refine wpAny_bind (hf c (isN_eq hl.1.1) (isN_eq hl.1.2) _ ?_)
        simp only [Bool.false_eq_true, if_false]
        exact ih hl.2 f hf
    unfold fillsNumberSlot
    refine wpAny_bind (LM A _ E s k ?_)
    refine go cd.mro hD _ fun c h1 h2 Q' q' => ?_
    have L1 : Looks M s.heap (typeLookup c (PySem.dunder nm)) none := looks_findIn X' h1
    have L2 : Looks M s.heap (typeLookup c (dunderR nm)) none := looks_findIn X' h2
    have two : wpAny M A ([PySem.dunder nm, dunderR nm].anyM fun name => do
        let some x ← typeLookup c name | return false
        if !ownNameWrapper x name then return true
        return !(← inheritsSeqSlot c name)) Q' E s := by
      rw [List.anyM_cons]
      refine wpAny_bind (wpAny_bind (L1.here ?_))
      refine wpAny_pure ?_
      simp only [Bool.false_eq_true, if_false]
      rw [List.anyM_cons]
      refine wpAny_bind (wpAny_bind (L2.here ?_))
      refine wpAny_pure ?_
      simp only [Bool.false_eq_true, if_false]
      exact wpAny_pure q'
    cases c
    case type T =>
      refine wpAny_bind (L1.here (wpAny_bind (L2.here ?_)))
      exact wpAny_pure q'
    all_goals exact two
/-- what the value on the right asks -/
inductive RightT (K : Frag) (C : Addr) (nm : String) : Value → Prop
  | own {D : Addr} (h : noBin K D nm = true) (ne : D ≠ C) : RightT K C nm (.ref D)
  | py {T : String} {fo ro rc : Option Value} (h1 : findIn K (.type T) (PySem.dunder nm) = some fo) (h2 : findIn K (.type T) (dunderR nm) = some ro) (hs : subIn K (.type T) (.ref C) = some false) (hr : findIn K (.ref C) (dunderR nm) = some rc) (hp : rc = none ∨ ∃ g : Addr, rc = some (.ref g)) : RightT K C nm (.type T)
theorem own_bin {prog : Program} {w : World} {A : Around} {E : Value → Shared → Prop} {s : Shared} {K : Frag} {x C f : Addr} {ox : Obj} {od : Option Obj} {op : Operator} {b tb : Value} {Q : Value → Shared → Prop} (X : K.In s.heap) (I : InstAt s.heap x ox C od) (hb : Looks (model prog w) s.heap (typeOf b) tb) (hc : selfFirst K C = true)
    (hs : findIn K (.ref C) (PySem.dunder op.info.2) = some (some (.ref f))) (hf : isFn K (.ref f) = true) (hR : RightT K C op.info.2 tb)
    (h : wpAny (model prog w) A (call (.ref f) [.ref x, b]) (PySem.W.CmpBack Q) E s) : wpAny (model prog w) A (binaryOp op (.ref x) b) Q E s := by
  obtain ⟨cd, rest, hcd, hm⟩ := ksp_first hc
  rcases hi : op.info with ⟨sym, nm⟩
  rw [hi] at hs hR
  dsimp only at hs hR
  have one := ksp_try X I hs hf h
  have F1 : Looks (model prog w) s.heap (fillsNumberSlot (.ref C) nm) true := fills_K X hcd hm hs
  have T1 : Looks (model prog w) s.heap (typeOf (.ref x)) (.ref C) := I.type
  have hne : (Value.ref C == tb) = false := by
    cases hR with
    | own h ne => exact Bool.eq_false_iff.mpr fun q => ne (by cases beq_iff_eq.mp q; rfl)
    | py => exact Bool.eq_false_iff.mpr fun q => by cases beq_iff_eq.mp q
  obtain ⟨r, F2, more⟩ : ∃ r, Looks (model prog w) s.heap (fillsNumberSlot tb nm) r ∧ (r = true → ∃ T ro, tb = .type T ∧ Looks (model prog w) s.heap (isSubtype tb (.ref C)) false ∧ Looks (model prog w) s.heap (numberSlotInPython (.ref C) nm) true ∧ Looks (model prog w) s.heap (typeLookup tb (dunderR nm)) ro) := by
    cases hR with
    | own h ne => exact ⟨false, fills_not X h, fun z => nomatch z⟩
    | py h1 h2 h3 h4 h5 => exact ⟨_, ksp_fillsT X h1 h2, fun _ => ⟨_, _, rfl, looks_subIn X h3, ksp_inPy X hs h4 h5, looks_findIn X h2⟩⟩
  simp only [binaryOp, hi]
  refine wpAny_holding (wpAny_bind ?_)
  unfold binaryOp1
  refine wpAny_bind (T1.here (wpAny_bind (hb.here (wpAny_bind (F1.here ?_)))))
  simp only [hne, Bool.false_eq_true, if_false]
  have fin : ∀ {R : Option Value → Shared → Prop}, (∀ v s', Q v s' → R (some v) s') → wpAny (model prog w) A (tryMethod (.ref x) (PySem.dunder nm) b) R E s := fun hR' => wpAny_mono one (fun r s' ⟨v, e, q⟩ => by subst e; exact hR' v s' q) fun _ _ e => e
  cases r with
  | false =>
    refine wpAny_bind (F2.here ?_)
    simp only [Bool.and_false, Bool.false_eq_true, if_false, Bool.false_and]
    refine wpAny_bind (wpAny_pure ?_)
    simp only [Bool.false_eq_true, if_false, if_true]
    refine wpAny_bind (fin fun v s' q => ?_)
    exact wpAny_pure (wpAny_pure q)
  | true =>
    obtain ⟨T, ro, rfl, L5, L6, L8⟩ := more rfl
    have L7 : Looks (model prog w) s.heap (numberSlotInPython (.type T) nm) false := Looks.of_pure rfl
    refine wpAny_bind (F2.here ?_)
    simp only [Bool.and_self, if_true]
    refine wpAny_bind (L5.here ?_)
    simp only [Bool.false_eq_true, if_false, Bool.not_false, Bool.and_self, if_true]
    refine wpAny_bind (L6.here ?_)
    simp only [if_true]
    refine wpAny_bind (L7.here ?_)
    simp only [Bool.not_false, if_true]
    refine wpAny_bind (L8.here ?_)
    refine wpAny_bind (fin fun v s' q => ?_)
    exact wpAny_pure (wpAny_pure q)
/-- the class at C has this operator -/
structure BinG (P : Program) (w : World) (K : Frag) (mg : Str → Option Value) (base : Heap) (CX : CXT) (n : Nat) (C : Addr) (nm : String) (ps : List Str) (sp : Sp) : Prop where
  ex : ∃ (f : Addr) (fd : FuncData), findIn K (.ref C) (PySem.dunder nm) = some (some (.ref f)) ∧ isFn K (.ref f) = true ∧ FnG P w K mg base CX n f fd ps sp ∧ Binds K fd ps []
  sf : selfFirst K C = true
/-- o + x, which may raise into a try around -/
def tBinS (K : Frag) (C : Addr) (nm : String) (sp : Sp) (E : L2.St → XK) (ta tb : TE) : TE := fun σ H Q => ta σ H fun y H1 => tb σ H1 fun x H2 => ∃ a dx fs t, y = .ref a ∧ H2 a = some (.ins C dx fs) ∧ TyX K H2 x t ∧ (RightT K C nm t ∨ t = .ref C) ∧ sp [.ref a, x] H2 (fun z H3 => ∃ r : Addr, z = .ref r ∧ Q z H3) (E σ)
theorem pe_binS {X : Cx} {CX : CXT} {k : Nat} {C : Addr} {op : Operator} {sp : Sp} {E : L2.St → XK} {ps : List Str} {e1 e2 : Expr} {ta tb : TE} {pos : Pos} (M : BinG X.prog X.w X.K X.mg X.base CX k C op.info.2 ps sp) (hG : X.A.guards = some []) (hr : Room k X.A) (hx : ∀ σ, PassesAt CX X σ (E σ)) (ha : PE X e1 ta) (hb' : PE X e2 tb) :
    PE X (.BinOp e1 op e2 pos) (tBinS X.K C op.info.2 sp E ta tb) := by
  obtain ⟨⟨f, fd, h1, h2, F, hb⟩, sf⟩ := M
  refine ⟨fun pins s σ H Q I h => ?_⟩
  refine wpAny_BinOp (binT ha hb' I (R := fun y x H2 => ∃ a dx fs t, y = .ref a ∧ H2 a = some (.ins C dx fs) ∧ TyX X.K H2 x t ∧ (RightT X.K C op.info.2 t ∨ t = .ref C) ∧ sp [.ref a, x] H2 (fun z H3 => ∃ r : Addr, z = .ref r ∧ Q z H3) (E σ)) h fun v u s2 y x H2 I2 ry rx ⟨a, dx, fs, t, ey, hz, ty, hR, q⟩ => ?_)
  subst ey
  obtain rfl : v = Value.ref a := ry
  obtain ⟨mA, O, _⟩ := ins_get I2.hok hz
  obtain ⟨od, J, _⟩ := O.look
  obtain ⟨P, KP, hP, _⟩ := kit_of I2 rx ty
  have L : Looks (model X.prog X.w) s2.heap (typeOf u) t := KP.ty _ _ I2.kIn hP
  obtain ⟨m, Fr⟩ := I2.fr
  have run : wpAny (model X.prog X.w) X.A (call (.ref f) [.ref a, u]) (PySem.W.CmpBack (EP X pins σ Q)) X.xe s2 := by
    refine thn (run_at (vs := [.ref a, x]) F hG hr hb I2.env0 (E' := X.xe) (fun e s' z => hx σ pins H2 s2 e s' I2 z) I2 (.cons rfl (.cons rx .nil)) q) fun z s3 ⟨zz, H3, I3, rz, r, ez, qz⟩ => ?_
    subst ez
    obtain rfl : z = Value.ref r := rz
    exact ⟨.ref r, H3, I3, rfl, qz⟩
  rcases hR with hR | rfl
  · exact own_bin I2.kIn J L sf h1 h2 hR run
  · exact binop_K Fr I2.mod.kin J L sf h1 h2 run
end Own
/-! {o} in an f-string, o an instance with its own __str__ -/
namespace Sup
open PySem PySem.Spec PyProof.Rows L2
section
variable {X : Cx}
def tFmtO (S : Addr → Prop) (spS : Addr → Sp) (te : TE) : TE := fun σ H Q => te σ H fun x H1 => rStrOwn S spS [x] H1 Q
theorem pe_fmtO {S : Addr → Prop} {spS : Addr → Sp} {e : Expr} {te : TE} {pos : Pos} (T : ∀ C, S C → StrC X C "__str__" (spS C)) (Tf : ∀ C, S C → PySem.W.findIn X.K (.ref C) "__format__" = some (some (.builtin "object.__format__")) ∧ PySem.W.mroIn X.K C (.type "object") = some true)
    (he : PE X e te) : PE X (.FormattedValue e (-1) none pos) (tFmtO S spS te) := by
  refine ⟨fun pins s σ H Q I h => ?_⟩
  refine wpAny_FormattedValue_plain (thn (he.run pins s σ H _ I h) fun v s1 hv => ?_)
  obtain ⟨x, H1, I1, r1, a, C, dx, fs, ex, ha, hS, q⟩ := hv
  obtain rfl : x = V.ref a := by simpa using ex
  obtain rfl : v = Value.ref a := r1
  obtain ⟨g, fd, k, h1, h2, GF, hr, hb⟩ := T C hS
  obtain ⟨f1, f2⟩ := Tf C hS
  obtain ⟨mA, O, _⟩ := ins_get I1.hok ha
  obtain ⟨od, J, _⟩ := O.look
  have hr2 : Room k X.A.in1 := (show Room (k + 1) X.A from hr.mono (by omega)).in1
  exact PySem.W.kfo_fieldS hr2.units0 I1.kIn J f1 f2 h1 h2 (gives_str GF hr2 hb (I1.tok _).env0.in1 (I1.tok _) q)
end
end Sup
/-! bool(t), t a tuple; bool(o), o an instance with its own __bool__ -/
namespace Sup
open PySem PySem.Spec PyProof.Rows L2
section
variable {prog : Program} {w : World} {A : Around} {E : Value → Shared → Prop} {s : Shared}
theorem call_boolX {x : Value} {Q : Value → Shared → Prop} (h : wpAny (model prog w) A.in1.in1 (truthy x) (fun b s' => Q (.bool b) s') E s) : wpAny (model prog w) A (call (.type "bool") [x]) Q E s := by
  refine callType_codes (T := "bool") (Bi := Builtin.«object.__init__») (Q₁ := fun r s₁ => ∃ b, r = .bool b ∧ Q r s₁) PySem.F.called_bool (PySem.F.typeCall_bool_1 _) PySem.F.entry_object_init ?_ ?_
  · refine codeAny_of_tree ?_
    show wpAny _ A.in1.in1 (do checkBuiltinCall "bool.__new__" ⟨[.type "bool", x], []⟩; again (.builtin "bool.__new__" ⟨[.type "bool", x], []⟩)) _ _ s
    refine wpAny_bind (wpAny_of_eq (PySem.F.newCall_bool_1 _) (wpAny_pure ⟨plainId_quiet (by decide +kernel) _, codeAny_builtin PySem.F.entry_bool_new ?_⟩))
    rw [Around.under_plainId (by decide +kernel) _]
    unfold Builtin.«bool.__new__»
    have f1 := PySem.F.conv_sub_bool
    obtain ⟨hp, g, d, tk, os⟩ := s
    repeat (any_goals (first | (with_reducible refine wpAny_bind (wpAny_mono h (fun b s' hq => ?_) fun _ _ z => z)) | wp_step))
    exact ⟨_, rfl, hq⟩
  · rintro obj s₁ ⟨b, rfl, hq⟩
    exact ⟨rfl, PySem.F.args_object_init_2 _ _, object_init_meets PySem.F.called_bool.init.lookup PySem.F.called_bool.made PySem.F.newNe_bool prog w A.in1 _ s₁ ⟨rfl, rfl, hq⟩⟩
end
section
variable {X : Cx}
/-- bool(a tuple) -/
theorem call_boolT : CallR X (.type "bool") (fun xs H Q => ∃ (a : Addr) (zs : List V), xs = [.ref a] ∧ SqT X.K H a zs ∧ Q (.bl (!zs.isEmpty)) H) := by
  intro pins s σ H xs us Q I r h
  obtain ⟨a, zs, rfl, hq, q⟩ := h
  obtain rfl := Vals.ref1 r
  obtain ⟨its, rv, pl, hz⟩ := I.tuple hq
  have hl := line63
  have hlen := rv.length
  exact call_boolX (truthy_tuple pl (by simp only [List.size_toArray]; omega) ⟨.bl (!zs.isEmpty), H, I.tok _, by rw [isEmpty_of rv]; rfl, q⟩)
/-- a class's own __bool__ -/
structure BoolC (X : Cx) (C : Addr) (sp : Sp) : Prop where
  ex : ∃ (g : Addr) (fd : FuncData) (k : Nat), PySem.W.findIn X.K (.ref C) "__bool__" = some (some (.ref g)) ∧ PySem.W.isFn X.K (.ref g) = true ∧ FnOk X.prog X.w X.K X.mg X.base CX0 k g fd ["self"] sp ∧ Room (k + 3) X.A ∧ Binds X.K fd ["self"] []
def rBoolOwn (S : Addr → Prop) (spS : Addr → Sp) : List V → Hp → VK → Prop := fun xs H Q => ∃ a C dx fs, xs = [.ref a] ∧ H a = some (.ins C dx fs) ∧ S C ∧ spS C [.ref a] H (fun z H' => ∃ b : Bool, z = .bl b ∧ Q (.bl b) H') E0
theorem call_boolOwn {S : Addr → Prop} {spS : Addr → Sp} (T : ∀ C, S C → BoolC X C (spS C)) : CallR X (.type "bool") (rBoolOwn S spS) := by
  intro pins s σ H xs us Q I r h
  obtain ⟨a, C, dx, fs, rfl, ha, hS, q⟩ := h
  obtain ⟨u, rfl, ru⟩ := r.one
  obtain rfl : u = Value.ref a := ru
  obtain ⟨g, fd, k, h1, h2, GF, hr, hb⟩ := T C hS
  obtain ⟨mA, O, _⟩ := ins_get I.hok ha
  obtain ⟨od, J, _⟩ := O.look
  obtain ⟨m, Fr⟩ := I.fr
  have hr2 : Room k X.A.in1.in1 := ((show Room (k + 2) X.A from hr.mono (by omega)).in1).in1
  refine call_boolX (PySem.W.truthy_K Fr I.mod.kin J h1 h2 ?_)
  refine wpAny_call (codeAny_mono (GF.run X.A.in1.in1 X.stack s H ⟨[.ref a], []⟩ [.ref a] [.ref a] _ E0 hr2 I.env0.in1.in1 (by simpa using hb s [.ref a] I.kIn rfl) (.cons rfl .nil) q) fun r s' hq => ?_)
  cases r with
  | error e => exact False.elim hq
  | ok fl =>
    cases fl with
    | ret u =>
      obtain ⟨v, H', I', rv, y, ev, q⟩ := I.after hq
      subst ev
      obtain rfl : u = Value.bool y := rv
      exact ⟨.bl y, H', I', rfl, q⟩
    | next => exact False.elim hq
    | brk => exact False.elim hq
    | cont => exact False.elim hq
end
end Sup
/-! o in (None, "a", (..), {..}) by its __eq__ -/
namespace Own
open PySem PySem.Spec PyProof.Rows L2 Sup Grd
/-- None, a text, a tuple, a dict -/
inductive OddM (K : PySem.W.Frag) (H : Hp) : V → Prop
  | non : OddM K H .non
  | tup {t : Addr} {xs : List V} : SqT K H t xs → OddM K H (.ref t)
  | str (z : Str) : OddM K H (.str z)
  | dic {t : Addr} {kvs : List (Key × V)} : H t = some (.dK kvs) → OddM K H (.ref t)
theorem OddM.same {K : PySem.W.Frag} {H H' : Hp} {x : V} (h : OddM K H x) (s : Same H H') : OddM K H' x := by
  cases h with
  | non => exact .non
  | tup q => exact .tup (SqT.ext q s)
  | str z => exact .str z
  | dic q => exact .dic (s _ _ q)
def rInOddM (K : PySem.W.Frag) (S : Addr → Prop) (spE : Addr → Sp) : R2 := fun x y H Q => ∃ (a C dx : Addr) (fs : List (Str × V)) (t : Addr) (ys : List V), x = .ref a ∧ y = .ref t ∧ H a = some (.ins C dx fs) ∧ S C ∧ SqT K H t ys ∧ PySem.W.subIn K (.ref C) (.type "NoneType") = some false ∧ PySem.W.subIn K (.ref C) (.type "tuple") = some false ∧ PySem.W.subIn K (.ref C) (.type "str") = some false ∧ PySem.W.subIn K (.ref C) (.type "dict") = some false ∧
  (∀ z ∈ ys, OddM K H z ∧ ∀ H', Same H H' → spE C [x, z] H' (fun r H'' => ∃ k, r = .bl k ∧ k = false ∧ Same H' H'') E0) ∧ ∀ H', Same H H' → Q (.bl false) H'
theorem op_inOddM {X : Cx} {n : Nat} {S : Addr → Prop} {spE : Addr → Sp} (T : ∀ C, S C → EqN X.prog X.w X.K X.mg X.base n C (spE C)) (hr : Room (n + 2) X.A) : OpR X (compareOp .In) (rInOddM X.K S spE) := by
  intro pins s σ H x y v u Q I rx ry h
  obtain ⟨a, C, dx, fs, t, ys, rfl, rfl, ha, hS, ht, hsN, hsT, hsS, hsD, turn, fin⟩ := h
  obtain rfl : v = Value.ref a := rx
  obtain rfl : u = Value.ref t := ry
  obtain ⟨its, r, pl, hz⟩ := I.tuple ht
  refine none_in (J := fun s' => ∃ H', Inv X pins σ H' s' ∧ Same H H') pl ⟨H, I, Same.refl H⟩ (fun u hu s1 ⟨H1, I1, s01⟩ => ?_) fun s1 ⟨H1, I1, s01⟩ => ⟨.bl false, H1, I1, rfl, fin H1 s01⟩
  obtain ⟨z, hz1, rz⟩ : ∃ z ∈ ys, RelV z u := by
    have hu' : u ∈ its := by simpa using hu
    obtain ⟨i, hi, e⟩ := List.getElem_of_mem hu'
    have hl := r.length
    obtain ⟨u', h1, h2⟩ := r.get (i := i) (x := ys[i]'(by omega)) (List.getElem?_eq_getElem (by omega))
    rw [List.getElem?_eq_getElem hi, e] at h1
    exact ⟨_, List.getElem_mem (by omega), Option.some.inj h1 ▸ h2⟩
  obtain ⟨hodd, hsp⟩ := turn z hz1
  obtain ⟨⟨g, fd, h1, h2, GF, hbd⟩, h3, h4⟩ := T C hS
  have ha1 := s01 _ _ ha
  obtain ⟨mA, O, _⟩ := ins_get I1.hok ha1
  obtain ⟨od, J, _⟩ := O.look
  have hr1 := Room.in1 hr
  have own : ∀ E' : Value → Shared → Prop, wpAny (model X.prog X.w) X.A.in1 (tryCompare (.ref a) (cmpInfo .Eq).2.1 u) (fun r s' => ∃ k, r = some (.bool (ansOf .Eq k)) ∧ (∃ H', Inv X pins σ H' s' ∧ k = false ∧ Same H1 H')) E' s1 := fun E' => by
    refine try_own (.inl rfl) I1.kIn J h1 h2 h3 h4 (Room.in1 hr1).units0 fun A' hA => ?_
    rcases hA with rfl | rfl
    · exact gives_own GF (hr1.mono (Nat.le_succ _)) hbd I1.env0.in1 I1 rz (hsp H1 s01)
    · exact gives_own GF (Room.in1 hr1) hbd I1.env0.in1.in1 I1 rz (hsp H1 s01)
  have fin2 : ∀ k s', (∃ H', Inv X pins σ H' s' ∧ k = false ∧ Same H1 H') → wpAny (model X.prog X.w) X.A.in1 (truthy (.bool k)) (fun r s'' => r = false ∧ ∃ H', Inv X pins σ H' s'' ∧ Same H H') X.xe s' := fun k s' ⟨H2, I2, e, s12⟩ => wpAny_truthy_bool ⟨e, H2, I2, s01.trans s12⟩
  cases hodd with
  | non =>
    obtain rfl : u = Value.none := rz
    unfold eqBool
    refine wpAny_holding (wpAny_ite_split (fun z => by simp at z) fun _ => ?_)
    refine wpAny_bind (rc_refl (T := "NoneType") hr1.units0 I1.kIn rfl F.slot_NoneType_eq J hsN (fun Q' hq => call_gives F.slot_NoneType_eq rfl F.entry_NoneType_eq (F.args_NoneType_eq_2 _ _) (SeqAt.NoneType___eq___none_ref_0 a) hq) (own _) fin2)
  | tup q =>
    rename_i t2 xs2
    obtain rfl : u = Value.ref t2 := rz
    obtain ⟨its2, r2, pl2, hz2⟩ := I1.tuple (SqT.ext q s01)
    obtain ⟨⟨cls, dd, data, sl⟩, ho, hc, n2, hd⟩ := id pl2
    simp only at hc hd
    subst hc hd
    have hT2 : s1.TypeIs (.ref t2) "tuple" := ⟨_, ho, rfl⟩
    have hne : t2 ≠ a := fun z => by
      have e1 := J.at_
      rw [← z, ho] at e1
      have e2 := J.cls
      rw [← Option.some.inj e1] at e2
      cases e2
    refine GQ.eqBool_refG hne (rc_refl (T := "tuple") hr1.units0 I1.kIn hT2 F.slot_tuple_eq J hsT (fun Q' hq => ?_) (own _) fun k s' ⟨H2, I2, e, s12⟩ => ⟨k, rfl, e, H2, I2, s01.trans s12⟩)
    refine wpAny_call_entry F.slot_tuple_eq hT2 F.entry_tuple_eq ?_ (F.args_tuple_eq_2 _ _)
    have isi : ∀ (A : Around) (E : Value → Shared → Prop) (R : Bool → Shared → Prop), R false s1 → wpAny (model X.prog X.w) A (isInstance (.ref a) (.type "tuple")) R E s1 := fun A E R hR => by
      unfold isInstance
      exact wpAny_bind (J.type.here ((PySem.W.looks_subIn I1.kIn hsT).here hR))
    obtain ⟨hp, gg, d, tk, os⟩ := s1
    wp_walk using AutoSeq1.wpAny_loadPart' ho, isi
    exact ⟨_, rfl, hq⟩
  | str z =>
    obtain ⟨tz, rfl⟩ := rz
    unfold eqBool
    refine wpAny_holding (wpAny_ite_split (fun z => by simp at z) fun _ => ?_)
    refine wpAny_bind (rc_refl (T := "str") hr1.units0 I1.kIn rfl F.slot_str_eq J hsS (fun Q' hq => ?_) (own _) fin2)
    refine wpAny_call_entry F.slot_str_eq (typeIs_str _ _ _) F.entry_str_eq ?_ (F.args_str_eq_2 _ _)
    have at_ := J.at_
    have isn : ∀ (A : Around) (E : Value → Shared → Prop) (R : Option Str → Shared → Prop), R none s1 → wpAny (model X.prog X.w) A (asStr? (.ref a)) R E s1 := fun A E R hR => by
      unfold asStr?
      exact wpAny_bind (wpAny_load at_ (wpAny_pure hR))
    obtain ⟨hp, gg, d, tk, os⟩ := s1
    wp_walk using isn
    exact ⟨_, rfl, hq⟩
  | dic q =>
    rename_i t2 kvs2
    obtain rfl : u = Value.ref t2 := rz
    have q1 := s01 _ _ q
    obtain ⟨z2, hd2, vs2, rel2, dd2⟩ := dk_of I1.hok q1
    have hT2 : s1.TypeIs (.ref t2) "dict" := dd2.mapOf.typeIs
    have hne : t2 ≠ a := ne_of q1 ha1 (by intro z; cases z)
    refine GQ.eqBool_refG hne (rc_refl (T := "dict") hr1.units0 I1.kIn hT2 F.slot_dict_eq J hsD (fun Q' hq => ?_) (own _) fun k s' ⟨H2, I2, e, s12⟩ => ⟨k, rfl, e, H2, I2, s01.trans s12⟩)
    refine wpAny_call_entry F.slot_dict_eq hT2 F.entry_dict_eq ?_ (F.args_dict_eq_2 _ _)
    have isi : ∀ (A : Around) (E : Value → Shared → Prop) (R : Bool → Shared → Prop), R false s1 → wpAny (model X.prog X.w) A (isInstance (.ref a) (.type "dict")) R E s1 := fun A E R hR => by
      unfold isInstance
      exact wpAny_bind (J.type.here ((PySem.W.looks_subIn I1.kIn hsD).here hR))
    obtain ⟨hp, gg, d, tk, os⟩ := s1
    wp_walk using isi
    exact ⟨_, rfl, hq⟩
end Own
/-! == of two dicts of ints with the same keys -/
namespace Own
open PySem PySem.Spec PyProof.Rows L2 Sup
def rowI (p : Str × Int) : Key × V := (Sum.inr p.1, .int p.2)
def rEqZ : R2 := fun x y H Q => ∃ (a b : Addr) (zs : List Str) (f g : Str → Int), x = .ref a ∧ y = .ref b ∧ H a = some (.dK (zs.map fun z => rowI (z, f z))) ∧ H b = some (.dK (zs.map fun z => rowI (z, g z))) ∧ Q (.bl (zs.all fun z => decide (f z = g z))) H
theorem valV_rowI (f : Str → Int) : ∀ (zs : List Str) (z : Str), z ∈ zs → valV (zs.map fun z => rowI (z, f z)) (Sum.inr z) = some (.int (f z))
  | y :: zs, z, h => by
    by_cases e : y = z
    · rw [List.map_cons, valV_pos (show (rowI (y, f y)).1 = Sum.inr z by rw [← e]; rfl), e]
      rfl
    · rw [List.map_cons, valV_neg (fun q : (rowI (y, f y)).1 = Sum.inr z => e (Sum.inr.inj q))]
      exact valV_rowI f zs z ((List.mem_cons.mp h).resolve_left fun q => e q.symm)
theorem op_eqZ {X : Cx} (hu : X.A.units < cLine) : OpR X (compareOp .Eq) rEqZ := by
  intro pins s σ H x y v u Q I rx ry h
  obtain ⟨a, b, zs, f, g, rfl, rfl, ea, eb, q⟩ := h
  obtain rfl : v = Value.ref a := rx
  obtain rfl : u = Value.ref b := ry
  obtain ⟨_, ya, va, ra, da⟩ := (show ObjOk X.prog X.w H s.heap a (.dK _) from I.hok a _ ea)
  obtain ⟨_, yb, vb, rb, db⟩ := (show ObjOk X.prog X.w H s.heap b (.dK _) from I.hok b _ eb)
  show wpAny _ _ (richCompare .Eq (.ref a) (.ref b)) _ _ s
  obtain ⟨oa, eoa⟩ : ∃ oa, s.heap.get? a = some oa := let ⟨o, _, _, e, _⟩ := da; ⟨o, e⟩
  obtain ⟨ob, eob⟩ : ∃ ob, s.heap.get? b = some ob := let ⟨o, _, _, e, _⟩ := db; ⟨o, e⟩
  have la : va.length = zs.length := by rw [← ra.length, List.length_map]
  have lb : vb.length = zs.length := by rw [← rb.length, List.length_map]
  refine rc_dict_own (knd := mixKind X.prog X.w) (J := fun s' => s' = s) (oa := oa) (ob := ob) (ok := fun k => match k with | .inr z => decide (f z = g z) | .inl _ => true) ya yb (fun s' e => by rw [e]; exact ⟨eoa, eob⟩) da db rfl hu (fun k v hm => ?_) fun s' e => ?_
  · obtain ⟨x, hx, rx⟩ := kv_mem ra hm
    obtain ⟨z, hz, ez⟩ := List.mem_map.mp hx
    obtain ⟨rfl, rfl⟩ : Sum.inr z = k ∧ V.int (f z) = x := ⟨congrArg Prod.fst ez, congrArg Prod.snd ez⟩
    obtain ⟨t, rfl⟩ := rx
    have e2 := rb.val (Sum.inr z)
    rw [valV_rowI g zs z hz] at e2
    obtain ⟨y, hy, ry⟩ := e2.some_of
    obtain ⟨t2, rfl⟩ := ry
    refine .inr ⟨_, hy, fun s' e => ?_⟩
    refine wpAny_eqBool_int ⟨?_, e⟩
    exact Bool.eq_iff_iff.mpr (by rw [beq_iff_eq, decide_eq_true_eq])
  · subst e
    have e3 : ((va.length == vb.length) && va.all fun p => (match p.1 with | .inr z => decide (f z = g z) | .inl _ => true)) = zs.all fun z => decide (f z = g z) := by
      rw [la, lb, beq_self_eq_true, Bool.true_and, kv_all ra (fun k => match k with | .inr z => decide (f z = g z) | .inl _ => true), List.all_map]
      rfl
    rw [e3]
    exact ⟨.bl _, H, I, rfl, q⟩
end Own
/-! x not in (texts), x a text, or flat, or a list, a tuple, a dict -/
namespace Own
open PySem PySem.Spec PyProof.Rows L2 Sup
section
variable {prog : Program} {w : World} {A : Around} {s : Shared}
theorem rc_str_dict {b : Str} {u : Tok} {a : Addr} {o : Obj} {es : Array DictEntry} {ep : Nat} (ho : s.heap.get? a = some o) (hx : o.ExactDict) (hd : o.data = .dict es ep) (hu : A.units < cLine) {E : Value → Shared → Prop} {Q : Value → Shared → Prop} (h : Q (.bool false) s) :
    wpAny (model prog w) A (richCompare .Eq (.str b u) (.ref a)) Q E s := by
  obtain ⟨cls, dd, data, sl⟩ := o
  obtain ⟨hc, hdd, hsl⟩ := hx
  simp only at hc hdd hsl hd
  subst hc hdd hsl hd
  have hT : s.TypeIs (.ref a) "dict" := ⟨_, ho, rfl⟩
  refine SeqAt.rc_eq_decline_or (k := false) (typeIs_str s b u) hT (by decide) F.sub_dict_str F.slot_str_eq F.slot_dict_eq_refl (fun Q' hq => ?_) (fun Q' hq => ?_) (fun _ hq => wpAny_of_eq (rfl : isSame (.str b u) (.ref a) = pure false) hq) (.inr hu) h
  · refine wpAny_call_entry F.slot_str_eq (typeIs_str _ _ _) F.entry_str_eq ?_ (F.args_str_eq_2 _ _)
    have isn : ∀ (A : Around) (E : Value → Shared → Prop) (R : Option Str → Shared → Prop), R none s → wpAny (model prog w) A (asStr? (.ref a)) R E s := fun A E R hR => by
      unfold asStr?
      exact wpAny_bind (wpAny_load ho (wpAny_pure hR))
    obtain ⟨hp, gg, d, tk, os⟩ := s
    wp_walk using isn
    exact ⟨_, rfl, hq⟩
  · refine wpAny_call_entry F.slot_dict_eq_refl hT F.entry_dict_eq (show wpAny _ _ (Builtin.Dict.dictSlotArgs "__eq__" ⟨[.ref a, .str b u], []⟩ >>= _) _ _ s from ?_) (F.args_dict_eq_2 _ _)
    refine wpAny_bind ?_
    unfold Builtin.Dict.dictSlotArgs
    refine wpAny_bind (wpAny_notOrdered_dict hT (show wpAny _ _ (pure (Value.ref a, Value.str b u)) _ _ s from wpAny_pure ?_))
    refine wpAny_bind (wpAny_isInstance (T := "str") (b := false) (typeIs_str _ _ _) F.sub_str_dict ?_)
    first
      | exact wpAny_bind (wpAny_rule (wpAny_pure ⟨_, rfl, (fun x => nomatch x), hq⟩))
      | (obtain ⟨hp, gg, d, tk, os⟩ := s
         wp_walk
         exact ⟨_, rfl, hq⟩)
theorem eqAt_str_dict {b : Str} {u : Tok} {a : Addr} {o : Obj} {es : Array DictEntry} {ep : Nat} (ho : s.heap.get? a = some o) (hx : o.ExactDict) (hd : o.data = .dict es ep) (hu : A.units < cLine) : SeqAt.EqAt A s (.str b u) (.ref a) false := fun prog w E Q h => by
  unfold eqBool
  refine wpAny_holding ?_
  refine wpAny_ite_split (fun hab => absurd (eq_of_beq hab) nofun) (fun _ => ?_)
  exact wpAny_bind (rc_str_dict ho hx hd hu (wpAny_truthy_bool h))
end
/-- what may be asked for among texts, and whether it is there -/
inductive InS (K : PySem.W.Frag) (H : Hp) (zs : List Str) : V → Bool → Prop
  | str (z : Str) : InS K H zs (.str z) (decide (z ∈ zs))
  | non : InS K H zs .non false
  | bl (b : Bool) : InS K H zs (.bl b) false
  | int (i : Int) : InS K H zs (.int i) false
  | lst {a : Addr} {xs : List V} : SqL K H a xs → InS K H zs (.ref a) false
  | tup {a : Addr} {xs : List V} : SqT K H a xs → InS K H zs (.ref a) false
  | dic {a : Addr} {kvs : List (Key × V)} : H a = some (.dK kvs) → InS K H zs (.ref a) false
def rNotInS (K : PySem.W.Frag) : R2 := fun x y H Q => ∃ (t : Addr) (zs : List Str) (b : Bool), y = .ref t ∧ SqT K H t (zs.map V.str) ∧ InS K H zs x b ∧ Q (.bl (!b)) H
theorem strs_of : ∀ {zs : List Str} {its : List Value}, Vals (zs.map V.str) its → ∀ u ∈ its, ∃ z ∈ zs, ∃ t, u = .str z t
  | [], _, .nil, u, hu => by cases hu
  | z :: zs, _, .cons r t, u, hu => by
    rcases List.mem_cons.mp hu with rfl | hu
    · obtain ⟨tk, rfl⟩ := r
      exact ⟨z, List.mem_cons_self, tk, rfl⟩
    · obtain ⟨y, hy, e⟩ := strs_of t u hu
      exact ⟨y, List.mem_cons_of_mem _ hy, e⟩
theorem any_strs : ∀ {zs : List Str} {its : List Value} (z : Str), Vals (zs.map V.str) its → (its.any fun u => match u with | .str y _ => y == z | _ => false) = decide (z ∈ zs)
  | [], _, _, .nil => by simp
  | y :: zs, _, z, .cons r t => by
    obtain ⟨tk, rfl⟩ := r
    rw [List.any_cons, any_strs z t]
    refine Bool.eq_iff_iff.mpr ?_
    rw [Bool.or_eq_true, decide_eq_true_eq, decide_eq_true_eq, List.mem_cons]
    dsimp only
    rw [beq_iff_eq]
    exact ⟨fun h => h.imp Eq.symm id, fun h => h.imp Eq.symm id⟩
theorem op_notInS {X : Cx} (hu : X.A.in1.units < cLine) : OpR X (compareOp .NotIn) (rNotInS X.K) := by
  intro pins s σ H x y v u Q I rx ry h
  obtain ⟨t, zs, b, rfl, ht, hb, q⟩ := h
  obtain rfl : u = Value.ref t := ry
  obtain ⟨its, r, pl, hz⟩ := I.tuple ht
  have fin : ∀ (e : Value → Bool), its.toArray.any e = b → (∀ y ∈ its, SeqAt.EqAt X.A.in1 s y v (e y)) → wpAny (model X.prog X.w) X.A (compareOp .NotIn v (.ref t)) (EP X pins σ Q) X.xe s := fun e he hq => by
    refine SeqAt.notIn_tupleAt e pl (fun y hy => hq y (by simpa using hy)) ?_
    rw [he]
    exact ⟨.bl (!b), H, I, rfl, q⟩
  have no : b = false → (∀ z tk, SeqAt.EqAt X.A.in1 s (.str z tk) v false) → wpAny (model X.prog X.w) X.A (compareOp .NotIn v (.ref t)) (EP X pins σ Q) X.xe s := fun eb hq => by
    refine fin (fun _ => false) ?_ fun y hy => ?_
    · rw [eb]
      simp
    · obtain ⟨z, _, tk, rfl⟩ := strs_of r y hy
      exact hq z tk
  cases hb with
  | str z =>
    obtain ⟨tz, rfl⟩ := rx
    refine fin (fun u => match u with | .str y _ => y == z | _ => false) ?_ fun y hy => ?_
    · rw [← any_strs z r]
      simp
    · obtain ⟨y, _, tk, rfl⟩ := strs_of r y hy
      exact SeqAt.EqAt.str_str _ _ _ _
  | non =>
    obtain rfl : v = Value.none := rx
    exact no rfl fun z tk => SeqAt.EqAt.str_none _ _
  | bl c =>
    obtain rfl : v = Value.bool c := rx
    exact no rfl fun z tk => SeqAt.EqAt.str_bool _ _ _
  | int i =>
    obtain ⟨ti, rfl⟩ := rx
    exact no rfl fun z tk => SeqAt.EqAt.str_int _ _ _ _
  | lst hq =>
    rename_i a xs
    obtain rfl : v = Value.ref a := rx
    obtain ⟨it2, _, p2, _⟩ := I.list hq
    exact no rfl fun z tk => SeqAt.EqAt.str_list _ _ p2.isList hu
  | tup hq =>
    rename_i a xs
    obtain rfl : v = Value.ref a := rx
    obtain ⟨it2, _, p2, _⟩ := I.tuple hq
    exact no rfl fun z tk => SeqAt.EqAt.str_tuple _ _ p2 hu
  | dic hq =>
    rename_i a kvs
    obtain rfl : v = Value.ref a := rx
    obtain ⟨_, _, vs, _, o, es, ep, ho, hx, hd, _⟩ := dk_of I.hok hq
    exact no rfl fun z tk => eqAt_str_dict ho hx hd hu
end Own
/-! The law's def, proved for the one place where the row calls it (so that what is shown around is known: nothing). -/
namespace Sup
open PySem PySem.Spec PyProof.Rows L2
abbrev Sp1 := V → Hp → VK → Prop
/-- called there with one value, the def keeps its promise -/
def AtCall (P : Program) (w : World) (K : PySem.W.Frag) (mg : Str → Option Value) (base : Heap) (f : Addr) (sp : Sp1) : Prop :=
  ∀ (s : Shared) (H : Hp) (u : Value) (v : V) (Q : VK), Env0 P w K mg base callerA [] s H → RelV v u → sp v H Q → codeAny (model P w) callerA (.call (.ref f) ⟨[u], []⟩) (CR CX0 [] P w H s Q E0) s
section
variable {P : Program} {w : World} {K : PySem.W.Frag} {mg mb : Str → Option Value} {base : Heap}
theorem at_call {nm q x : Str} {st : Stmt} {f : Addr} {fd : FuncData} {N : List Str} {k : Nat} {sp : Sp1} (F : Fun K nm q st f fd) (S : FnScope N [x] (defScope st)) (room : Room (k + 1) callerA) (hb : ∀ (s : Shared) (u : Value), BindsTo s fd ⟨[u], []⟩ [(x, u)])
    (body : ∀ (cdv : Value) (s : Shared) (H : Hp) (v : V) (Q : VK), Room k (callerA.deeper (envOfC q (defScope st) s.heap.objs.size f cdv)) → sp v H Q →
      ∃ t, PSs (cxOf CX0 P w K mg base N q (defScope st) f cdv callerA [] s H E0).nox (defBody st) t ∧ t { nx := fun _ H' => Q .non H', rt := Q } (start N [v]) H) : AtCall P w K mg base f sp := by
  obtain ⟨oc, od, kV, doc, pm, an, cdv, ct, osl, rfl, lk, hcd⟩ := F.ex
  intro s H u v Q env0 ru hsp
  have stand : ∀ b o, base.get? b = some o → s.heap.get? b = some o := fun b o z => (env0.bs b o z).1
  have inK := env0.mod.kin.keeps stand
  have kinds : ∀ y ∈ [x].zip [u], (defScope st).names.lookup y.1 = some .local ∨ ((defScope st).names.lookup y.1 = some .cell ∧ ((cellsFrom (s.heap.objs.size + 1) (defScope st).names []).lookup y.1).isSome = true) := by
    intro y hy
    have ey : y = (x, u) := by simpa using hy
    subst ey
    exact (S.par x (by simp)).imp id fun c => ⟨c, PySem.W.cellsFrom_some _ _ _ (.inl c)⟩
  apply codeAny_call_function room.depth (inK _ _ lk) rfl S.co S.gen rfl (PySem.W.codeRec_of inK hcd)
  apply hb s u
  apply wpAny_newFunctionEnv_cells S.kind kinds
  intro env he s1 inC
  subst he
  constructor
  · exact (env0.mod.nolimit.keeps stand).keeps inC.toInCall.keep
  · obtain ⟨t, ht, hq⟩ := body cdv s H v Q (room.deeper _) hsp
    have J := inv_start (CX := CX0) (E := E0) (P := P) (w := w) (us := [u]) (vs := [v]) S room.hd env0 rfl (.cons ru .nil) inC
    apply codeAny_func
    apply wpAny_mono (ht.nox.run [] s1 (start N [v]) H _ J hq) _ (fun _ _ z => z)
    intro fl s' hs
    have done : ∀ {σ' : L2.St} {H' : Hp} {y : V} {z : Value}, Inv (cxOf CX0 P w K mg base N q (defScope st) f cdv callerA [] s H E0) [] σ' H' s' → L2.RelV y z → Q y H' → CE [] P w H s Q z s' := by
      intro σ' H' y z I ry qy
      exact ⟨y, H', I.os, I.bare, I.base, I.hok, ry, qy⟩
    match fl, hs with
    | .ret _, ⟨_, _, _, I, ry, qy⟩ => exact done I ry qy
    | .next, ⟨_, _, I, qy⟩ => exact done (y := V.non) (z := Value.none) I rfl qy
    | .brk, ⟨_, _, _, z⟩ => exact z.elim
    | .cont, ⟨_, _, _, z⟩ => exact z.elim
/-- behind the top, from the script alone -/
theorem law_runs {f a : Addr} {sp : Sp1} {s1 : Shared} {vs : List Value} {ns : List Int} (inK : K.In s1.heap) (gl : s1.heap.Ns mainGlobals mg) (bl : s1.heap.Ns builtinsNs mb) (bb : ∀ x : Str, x ≠ "__name__" → mb x = bootBuiltins x) (lim : s1.heap.NoLimit)
    (nogen : s1.gens = #[]) (ha : s1.heap.get? a = some { cls := .type "list", data := .seq vs.toArray }) (hi : IntsAre vs ns) (hl : ns.length ≤ sizeLine)
    (go : ∀ base : Heap, K.In base → base.Ns mainGlobals mg → AtCall P w K mg base f sp) (want : ∀ H : Hp, SqL K H a (ns.map V.int) → sp (.ref a) H fun v _ => v = .bl true) :
    codeAny (model P w) callerA (.call (.ref f) ⟨[.ref a], []⟩) (fun r s' => r = .ok (.ret (.bool true)) ∧ OldK s1.heap s'.heap ∧ s'.os = s1.os ∧ AllBare s'.gens) s1 := by
  have rel := vals_ints hi
  have szV : vs.length ≤ sizeLine := hi.length ▸ hl
  -- H tracks at most the script, as a thing that is known
  have main : ∀ H : Hp, (∀ b u, H b = some u → b = a ∧ K.lookup a = none ∧ ∃ o xs, u = .frz o (.lst xs)) → SqL K H a (ns.map V.int) → HOk P w H s1.heap → codeAny (model P w) callerA (.call (.ref f) ⟨[.ref a], []⟩)
      (fun r s' => r = .ok (.ret (.bool true)) ∧ OldK s1.heap s'.heap ∧ s'.os = s1.os ∧ AllBare s'.gens) s1 := by
    intro H only hS hok
    have keepB : ∀ {b : Addr} {o : Obj}, s1.heap.get? b = some o → (∀ xs n, o.data ≠ .seq xs n) → (hidT s1.heap H).get? b = some o := by
      intro b o e no
      apply hidT_get e
      cases z : H b with
      | none => rfl
      | some u =>
        obtain ⟨eb, _⟩ := only b u z
        rw [eb, ha] at e
        exact absurd rfl (by cases e; exact no _ _)
    have keepK : K.In (hidT s1.heap H) := by
      intro b o e
      apply hidT_get (inK b o e)
      cases z : H b with
      | none => rfl
      | some u =>
        obtain ⟨eb, nk, _⟩ := only b u z
        rw [eb, nk] at e
        cases e
    have keepN : ∀ {b : Addr} {m : Str → Option Value}, s1.heap.Ns b m → (hidT s1.heap H).Ns b m := by
      rintro b m ⟨o, es, ep, e, d, r⟩
      have nl : ∀ xs n, o.data ≠ .seq xs n := fun xs n z => by
        rw [d] at z
        cases z
      exact ⟨o, es, ep, keepB e nl, d, r⟩
    have mod : Mod K mg (hidT s1.heap H) := by
      refine ⟨keepK, keepN gl, ⟨mb, keepN bl, bb⟩, ?_⟩
      obtain ⟨mc, n1, n2⟩ := lim
      exact ⟨mc, keepN n1, n2⟩
    have env : Env0 P w K mg (hidT s1.heap H) callerA [] s1 H := by
      refine ⟨rfl, mod, fun b o e => of_hidT e, Nat.le_of_eq (hidT_size _ _), trivial, ?_, hok, .of_eq nogen⟩
      intro b hb
      cases hb
    apply codeAny_mono (go _ keepK (keepN gl) s1 H (.ref a) (.ref a) _ env rfl (want H hS))
    intro r s' h
    match r, h with
    | .ok (.ret u), ⟨v, H', os, bare, un, hok', ru, q⟩ =>
      have ev : v = .bl true := q
      subst ev
      obtain rfl : u = Value.bool true := ru
      refine ⟨rfl, OldK.of_keep ?_, os, bare⟩
      intro b o e
      cases z : H b with
      | none => exact un.keep b o e z (fun k => by cases k) (fun k => by cases k)
      | some u =>
        obtain ⟨_, _, ob, xs, eu⟩ := only b u z
        subst eu
        have here := (hok b _ z).1
        have there := (hok' b _ (un.frzs b ob _ z)).1
        rw [e] at here
        cases here
        exact there
  cases known : K.lookup a with
  | some o =>
    have eo := inK a o known
    rw [ha] at eo
    cases eo
    apply main (fun _ => none) (fun b u z => by cases z)
    · exact .inr ⟨_, vs.toArray, _, known, rfl, rfl, rfl, by simpa using szV, by simpa using rel⟩
    · intro b u z
      cases z
  | none =>
    apply main (fun b => if b = a then some (.frz { cls := .type "list", data := .seq vs.toArray } (.lst (ns.map V.int))) else none)
    · intro b u z
      by_cases hb : b = a
      · rw [if_pos hb] at z
        cases z
        exact ⟨hb, known, _, _, rfl⟩
      · rw [if_neg hb] at z
        cases z
    · exact .inl (.inr ⟨{ cls := .type "list", data := .seq vs.toArray }, if_pos rfl⟩)
    · intro b u z
      dsimp only at z
      by_cases hb : b = a
      · rw [if_pos hb] at z
        cases z
        subst hb
        exact ⟨ha, by rw [List.length_map]; exact hl, vs, _, rel, ha⟩
      · rw [if_neg hb] at z
        cases z
/-- the goal that k_head leaves, from AtCall -/
theorem walk_at {l : PySem.W.OpenLaw} {n : Nat} {q : Program} {loose : List Str} {XP : (Str → Option Value) → Heap → Prop} {YP : World → Heap → Prop} {d : DefRec} {K : Params → PySem.W.Frag} {sp : PySem.W.Frag → Sp1}
    (hn : l.most = some n) (hz : n ≤ sizeLine) (hdf : d.params.defaults = []) (hY : ∀ (w : World) (h : Heap), YP w h → (K w.params).In h)
    (go : ∀ (w : World) (mg : Str → Option Value) (f : Addr) (h : Heap), (K w.params).In h → h.Ns mainGlobals mg → mg d.name = some (.ref f) →
      ∀ base : Heap, (K w.params).In base → base.Ns mainGlobals mg → AtCall l.prog w (K w.params) mg base f (sp (K w.params)))
    (want : ∀ (K : PySem.W.Frag) (H : Hp) (a : Addr) (ns : List Int), ns.length ≤ n → SqL K H a (ns.map V.int) → sp K (.ref a) H fun v _ => v = .bl true) :
    PySem.W.WalkO q loose XP YP l.row.toRowW d [] (fun f vs => PySem.call f vs) := by
  apply Att.attach_call hn hdf
  intro w _ s1 mg mb f _ _ _ _ a vs ns G Y _ _ _ hmg hobj hints hlen hg
  have inK := hY w _ Y
  exact law_runs inK G.T.g G.T.b G.T.builtins G.T.nolimit hg hobj hints (Nat.le_trans hlen hz) (go w mg f _ inK G.T.g hmg) fun H hS => want _ H a ns hlen hS
end
end Sup
namespace Sj
open PySem L2
open C8 (pss_cut tCut)
def top (i : Nat) : Stmt := PySem.Challenge.pw_strayjoins_k08_whole_words_held_together.main.body.getD i (.Pass ⟨0, 0, 0, 0⟩)
abbrev sPen : Stmt := top 27
abbrev sDraw : Stmt := top 28
abbrev sPick : Stmt := top 29

/-! ### the pen: its cells, the next place, what is left of a great one -/
def penO (l : Addr) (i g : Int) : HO := .lst [.ref l, .int i, .int g]
def Pen (H : Hp) (p l : Addr) (cs : List Int) (n : Nat) : Prop :=
  ∃ i g : Int, H p = some (penO l i g) ∧ H l = some (.lst (cs.map V.int)) ∧ cs.length ≤ 63 ∧ 0 ≤ i ∧ i ≤ n
/-- all that stood but at p stands as it was -/
def But (H H' : Hp) (p : Addr) : Prop := ∀ b o, b ≠ p → H b = some o → H' b = some o
theorem But.upd (H : Hp) (p : Addr) (o : HO) : But H (upd H p o) p := fun b _ h e => by rw [upd_ne h]; exact e
theorem But.trans {H H1 H2 : Hp} {p : Addr} (a : But H H1 p) (b : But H1 H2 p) : But H H2 p := fun c o h e => b c o h (a c o h e)
theorem But.put {H H1 : Hp} {p : Addr} (a : But H H1 p) (o : HO) : But H (L2.upd H1 p o) p := a.trans (.upd _ _ _)
theorem But.new {H H1 : Hp} {p q : Addr} (a : But H H1 p) (hq : H1 q = none) (o : HO) : But H (L2.upd H1 q o) p := fun b _ h e => by
  have e1 := a b _ h e
  rw [upd_ne (ne_of_none e1 hq)]
  exact e1
def spDraw : Sp := fun vs H Q _ => ∃ (p l : Addr) (cs : List Int) (n : Nat) (m : Int), vs = [.ref p, .int m] ∧ Pen H p l cs n ∧ 0 < m ∧ m < 1073741824 ∧ n < 1000000 ∧
  ∀ (d i g : Int) (H' : Hp), 0 ≤ d → d < m → 0 ≤ i → i ≤ n + 1 → H' p = some (penO l i g) → But H H' p → Q (.int d) H'
structure Bi (mg : Str → Option Value) : Prop where
  int : mg "int" = none
  len : mg "len" = none
  abs : mg "abs" = none
theorem dp_ints {K : PySem.W.Frag} {H : Hp} : ∀ cs : List Int, DpAll K H (cs.map V.int) (cs.map PyData.int)
  | [] => .nil
  | c :: cs => .cons (.int c) (dp_ints cs)
theorem shaped_ints (cs : List Int) : SeqAt.shaped (.list (cs.map PyData.int)) = true := by
  unfold SeqAt.shaped
  rw [Bool.and_eq_true]
  refine ⟨?_, decide_eq_true ?_⟩
  · show PyData.canLayAll0 (cs.map PyData.int) = true
    induction cs with
    | nil => rfl
    | cons c cs ih => exact Bool.and_eq_true_iff.mpr ⟨rfl, ih⟩
  · have e : PyData.depthAll (cs.map PyData.int) ≤ 1 := by
      induction cs with
      | nil => exact Nat.zero_le _
      | cons c cs ih => exact Nat.max_le.mpr ⟨(show (0 : Nat) ≤ 1 by decide), ih⟩
    show PyData.depthAll (cs.map PyData.int) + 1 ≤ 64
    omega
theorem small1 {b c i m : Int} {n : Nat} {x : Int} (i0 : 0 ≤ i) (i1 : i ≤ n) (n1 : n < 1000000) (hm : 0 < m ∧ m < 4294967296 := by decide) (hb : 0 ≤ b ∧ b < 100000 := by decide) (hc : 0 ≤ c ∧ c < 100000 := by decide) :
    (x % m + b * i + c).natAbs < 2 ^ 64 := by
  have h1 := Int.emod_nonneg x (show m ≠ 0 by omega)
  have h2 := Int.emod_lt_of_pos x hm.1
  have h3 : 0 ≤ b * i := Int.mul_nonneg hb.1 i0
  have h4 : b * i ≤ 100000 * 1000000 := Int.mul_le_mul (by omega) (by omega) i0 (by decide)
  have h5 : (2 : Nat) ^ 64 = 18446744073709551616 := by decide
  omega
theorem small3 {b i : Int} (i0 : 0 ≤ i) (hb : 0 ≤ b ∧ b < 100000 := by decide) : -(2 ^ 64) < b * i := by
  have h3 : 0 ≤ b * i := Int.mul_nonneg hb.1 i0
  have h5 : (2 : Int) ^ 64 = 18446744073709551616 := by decide
  omega
theorem small4 {b i : Int} {n : Nat} (i1 : i ≤ n) (n1 : n < 1000000) (hb : 0 ≤ b ∧ b < 100000 := by decide) : b * i < 2 ^ 64 := by
  have h4 : b * i ≤ b * 1000000 := Int.mul_le_mul_of_nonneg_left (by omega) hb.1
  have h5 : (2 : Int) ^ 64 = 18446744073709551616 := by decide
  omega
theorem small2 {a b c e i y : Int} {n : Nat} (i0 : 0 ≤ i) (i1 : i ≤ n) (n1 : n < 1000000) (y0 : 0 ≤ y) (y1 : y < 2147483648) (ha : 0 ≤ a ∧ a < 10 := by decide) (hb : 0 ≤ b ∧ b < 100000 := by decide)
    (hc : 0 ≤ c ∧ c < 100000 := by decide) (he : 0 ≤ e ∧ e < 100000 := by decide) : (y * (a * i + b) + c * i * i + e).natAbs < 2 ^ 64 := by
  have h3 : 0 ≤ a * i := Int.mul_nonneg ha.1 i0
  have h4 : a * i ≤ 10 * 1000000 := Int.mul_le_mul (by omega) (by omega) i0 (by decide)
  have h6 : 0 ≤ y * (a * i + b) := Int.mul_nonneg y0 (by omega)
  have h7 : y * (a * i + b) ≤ 2147483648 * 20000000 := Int.mul_le_mul (by omega) (by omega) (by omega) (by decide)
  have h8 : 0 ≤ c * i := Int.mul_nonneg hc.1 i0
  have h9 : c * i ≤ 100000 * 1000000 := Int.mul_le_mul (by omega) (by omega) i0 (by decide)
  have h10 : 0 ≤ c * i * i := Int.mul_nonneg h8 i0
  have h11 : c * i * i ≤ (100000 * 1000000) * 1000000 := Int.mul_le_mul h9 (by omega) i0 (by decide)
  have h5 : (2 : Nat) ^ 64 = 18446744073709551616 := by decide
  omega
theorem cut_ints (ns : List Int) (a b : Option Int) : ∃ cs : List Int, cutV (ns.map V.int) a b = cs.map V.int ∧ cs.length ≤ ns.length := by
  unfold cutV
  rw [← List.map_drop, ← List.map_take]
  exact ⟨_, rfl, by rw [List.length_take, List.length_drop]; omega⟩
theorem cell_at {cs : List Int} {i : Int} (h0 : 0 ≤ i) (hn : cs ≠ []) : ∃ v : Int, atI (cs.map V.int) (i % ((cs.map V.int).length : Nat)) = some (.int v) := by
  have hl : 0 < cs.length := List.length_pos_iff.mpr hn
  have e : (cs.map V.int).length = cs.length := List.length_map _
  have hb := Int.emod_lt_of_pos i (show (0 : Int) < (cs.length : Int) by omega)
  have hp := Int.emod_nonneg i (show (cs.length : Int) ≠ 0 by omega)
  obtain ⟨j, hj⟩ : ∃ j : Nat, i % (cs.length : Int) = (j : Int) := ⟨(i % (cs.length : Int)).toNat, by omega⟩
  have hjl : j < cs.length := by omega
  refine ⟨cs[j], ?_⟩
  rw [e, hj]
  exact atI_nat (by simp [hjl])

section
variable {P : Program} {w : World} {K : PySem.W.Frag} {mg : Str → Option Value} {base : Heap}
theorem scDraw : FnScope ["_law_pen_here", "_law_many", "_law_digit", "_law_at", "_law_cell", "_law_great", "_law_mixed"] ["_law_pen_here", "_law_many"] (defScope sDraw) :=
  ⟨rfl, rfl, rfl, by decide +kernel, rfl, by decide +kernel, by decide +kernel⟩
theorem ok_draw {f : Addr} {fd : FuncData} (F : Fun K "_law_draw" "_law_draw" sDraw f fd) (B : Bi mg) : FnOk P w K mg base CX0 1 f fd ["_law_pen_here", "_law_many"] spDraw := by
  refine F.ok scDraw (fun vs H Q E h => ?_) (fun cdv A outer s H vs Q E hr h => ?_)
  · obtain ⟨p, l, cs, n, m, rfl, _⟩ := h
    rfl
  · obtain ⟨p, l, cs, n, m, rfl, ⟨i, g, hp, hl, hz, i0, i1⟩, m0, m1, n1, k⟩ := h
    have npl : p ≠ l := fun q => by
      subst q
      rw [hp] at hl
      have e := List.map_eq_cons_iff.mp (HO.lst.inj (Option.some.inj hl)).symm
      obtain ⟨_, _, _, h1, _⟩ := e
      cases h1
    refine ⟨_, pss_cut
        (ps_if (pt_cmpR op_gt (pe_ix ix_list (pv 0) pe_int (fun _ _ => rfl)) pe_int (nomark _))
          (pss_cons (ps_set (i := 2) scDraw.nd rfl (Or.inl rfl) (pe_op op_mod (pe_callTy call_int1 (by rfl) B.int (by decide +kernel) (pa_cons (pe_ix ix_list (pv 0) pe_int (fun _ _ => rfl)) pa_nil)) (pv 1)))
          (pss_cons (ps_asg (pe_op op_fdiv (pe_callTy call_int1 (by rfl) B.int (by decide +kernel) (pa_cons (pe_ix ix_list (pv 0) pe_int (fun _ _ => rfl)) pa_nil)) (pv 1)) (pg_sub (pv 0) pe_int set_list))
          (pss_one (ps_ret (pv 2)))))
          pss_nil)
      (pss_cons (ps_set (i := 3) scDraw.nd rfl (Or.inl rfl) (pe_ix ix_list (pv 0) pe_int (fun _ _ => rfl)))
      (pss_cons (ps_asg (pe_op op_add (pv 3) pe_int) (pg_sub (pv 0) pe_int set_list))
      (pss_cons (ps_set (i := 4) scDraw.nd rfl (Or.inl rfl) (pe_op op_add (pe_op op_mul pe_int (pv 3)) pe_int))
      (pss_cut (ps_if (pt_cmpR (op_neD hr.units) (pe_ix ix_list (pv 0) pe_int (fun _ _ => rfl)) (pe_lst pa_nil) (nomark _))
          (pss_one (ps_set (i := 4) scDraw.nd rfl (Or.inl rfl) (pe_ix ix_list (pe_ix ix_list (pv 0) pe_int (fun _ _ => rfl))
            (pe_op op_mod (pe_callTy call_int1 (by rfl) B.int (by decide +kernel) (pa_cons (pv 3) pa_nil)) (pe_callB call_len_seq (by rfl) B.len PySem.boot_len (pa_cons (pe_ix ix_list (pv 0) pe_int (fun _ _ => rfl)) pa_nil))) (fun _ _ => rfl))))
          pss_nil)
      (pss_cut (ps_if (PW.pt (pw_and (pt_cmpR op_lt (pv 3) (pe_callB call_len_seq (by rfl) B.len PySem.boot_len (pa_cons (pe_ix ix_list (pv 0) pe_int (fun _ _ => rfl)) pa_nil)) (nomark _))
            (pw_and1 (pt_cmpR op_ge (pe_callB call_abs (by rfl) B.abs (by decide +kernel) (pa_cons (pv 4) pa_nil)) (pe_op op_pow pe_int pe_int) (nomark _)))))
          (pss_cons (ps_set (i := 5) scDraw.nd rfl (Or.inl rfl) (pe_op op_add (pe_op op_mul pe_int (pe_callB call_abs (by rfl) B.abs (by decide +kernel) (pa_cons (pv 4) pa_nil)))
              (pe_callTy call_int1 (by rfl) B.int (by decide +kernel) (pa_cons (pe_cmpR op_lt (pv 4) pe_int (nomark _)) pa_nil))))
          (pss_cons (ps_asg (pe_op op_fdiv (pe_callTy call_int1 (by rfl) B.int (by decide +kernel) (pa_cons (pv 5) pa_nil)) (pv 1)) (pg_sub (pv 0) pe_int set_list))
          (pss_one (ps_ret (pe_op op_mod (pe_callTy call_int1 (by rfl) B.int (by decide +kernel) (pa_cons (pv 5) pa_nil)) (pv 1))))))
          pss_nil)
      (pss_cut (ps_set (i := 6) scDraw.nd rfl (Or.inl rfl) (pe_op op_mod (pe_op op_pow (pe_callTy call_int1 (by rfl) B.int (by decide +kernel) (pa_cons
          (pe_op op_add (pe_op op_add (pe_op op_mod (pe_callTy call_int1 (by rfl) B.int (by decide +kernel) (pa_cons (pv 4) pa_nil)) pe_int) (pe_op op_mul pe_int (pv 3))) pe_int) pa_nil)) pe_int) pe_int))
      (pss_cut (ps_set (i := 6) scDraw.nd rfl (Or.inl rfl) (pe_op op_mod (pe_op op_pow (pe_callTy call_int1 (by rfl) B.int (by decide +kernel) (pa_cons
          (pe_op op_add (pe_op op_add (pe_op op_mul (pv 6) (pe_op op_add (pe_op op_mul pe_int (pv 3)) pe_int)) (pe_op op_mul (pe_op op_mul pe_int (pv 3)) (pv 3))) pe_int) pa_nil)) pe_int) pe_int))
      (pss_one (ps_ret (pe_op op_mod (pe_callTy call_int1 (by rfl) B.int (by decide +kernel) (pa_cons (pe_op op_fdiv (pv 6) pe_int) pa_nil)) (pv 1))))))))))), ?_⟩
    refine ⟨fun σ' H' => σ' = start ["_law_pen_here", "_law_many", "_law_digit", "_law_at", "_law_cell", "_law_great", "_law_mixed"] [.ref p, .int m] ∧ H' = H,
      ⟨_, rfl, p, _, _, .int g, rfl, rfl, SqL.of hp, rfl, _, _, rfl, rfl, _, rfl, ite2 (fun _ => ?_) (fun _ => ⟨rfl, rfl⟩)⟩, ?_⟩
    · refine ⟨_, rfl, p, _, _, .int g, rfl, rfl, SqL.of hp, rfl, .inl ⟨_, rfl, _, rfl, _, _, rfl, rfl, m0, ?_⟩⟩
      refine ⟨_, rfl, p, _, _, .int g, rfl, rfl, SqL.of hp, rfl, .inl ⟨_, rfl, _, rfl, _, _, rfl, rfl, ⟨m0, m1⟩, ?_⟩⟩
      refine ⟨_, rfl, p, _, _, 2, rfl, rfl, hp, rfl, ?_⟩
      refine ⟨_, rfl, ?_⟩
      exact k _ _ _ _ (Int.emod_nonneg _ (by omega)) (Int.emod_lt_of_pos _ m0) i0 (by omega) upd_same (.upd _ _ _)
    · rintro σ' H' ⟨rfl, rfl⟩
      refine ⟨_, rfl, p, _, _, .int i, rfl, rfl, SqL.of hp, rfl, ?_⟩
      refine ⟨_, rfl, _, _, rfl, rfl, _, rfl, p, _, _, 1, rfl, rfl, hp, rfl, ?_⟩
      have b1 : But H' (upd H' p (penO l (i + 1) g)) p := .upd _ _ _
      have hp1 : upd H' p (penO l (i + 1) g) p = some (penO l (i + 1) g) := upd_same
      have hl1 : upd H' p (penO l (i + 1) g) l = some (.lst (cs.map V.int)) := b1 _ _ npl.symm hl
      refine ⟨_, rfl, _, _, rfl, rfl, .inl ⟨by decide, by decide⟩, _, _, rfl, rfl, ?_⟩
      refine ⟨fun σ2 H2 => ∃ c : Int, σ2 = [some (.ref p), some (.int m), none, some (.int i), some (.int c), none, none] ∧ H2 p = some (penO l (i + 1) g) ∧ H2 l = some (.lst (cs.map V.int)) ∧ But H' H2 p, ?_, ?_⟩
      · refine ⟨_, rfl, p, _, _, .ref l, rfl, rfl, SqL.of hp1, rfl, Nat.zero_le _, fun q hq => ?_⟩
        have npq : p ≠ q := ne_of_none hp1 hq
        have nlq : l ≠ q := ne_of_none hl1 hq
        have hp2 : upd (upd H' p (penO l (i + 1) g)) q (.lst []) p = some (penO l (i + 1) g) := by rw [upd_ne npq]; exact hp1
        have hl2 : upd (upd H' p (penO l (i + 1) g)) q (.lst []) l = some (.lst (cs.map V.int)) := by rw [upd_ne nlq]; exact hl1
        have b2 := b1.new hq (.lst [])
        refine ⟨.list (cs.map PyData.int), .list [], .lst (SqL.of hl2) (dp_ints cs), .lst (SqL.of upd_same) .nil, shaped_ints cs, rfl, _, rfl, ?_⟩
        cases cs with
        | nil => exact ⟨_, rfl, hp2, hl2, b2⟩
        | cons c cs =>
          refine iteT ?_
          obtain ⟨v, hv⟩ := cell_at (cs := c :: cs) i0 (by simp)
          refine ⟨_, rfl, p, _, _, .ref l, rfl, rfl, SqL.of hp2, rfl, _, rfl, .inl ⟨_, rfl, _, rfl, p, _, _, .ref l, rfl, rfl, SqL.of hp2, rfl, l, _, rfl, .inl (SqL.of hl2), _, _, rfl, rfl, ?_, ?_⟩⟩
          · show (0 : Int) < (((c :: cs).map V.int).length : Nat)
            simp
          · exact ⟨l, _, _, .int v, rfl, rfl, SqL.of hl2, hv, v, rfl, hp2, hl2, b2⟩
      · rintro σ2 H2 ⟨c, rfl, hp2, hl2, b2⟩
        have len63 : (cs.map V.int).length = cs.length := List.length_map _
        refine ⟨fun σ3 H3 => σ3 = [some (.ref p), some (.int m), none, some (.int i), some (.int c), none, none] ∧ H3 = H2, ?_, ?_⟩
        · refine ⟨_, rfl, _, rfl, p, _, _, .ref l, rfl, rfl, SqL.of hp2, rfl, l, _, rfl, .inl (SqL.of hl2), _, _, rfl, rfl, _, rfl, ite2 (fun _ => ?_) (fun _ => ⟨rfl, rfl⟩)⟩
          refine ⟨_, rfl, _, rfl, _, _, rfl, rfl, ⟨by decide, by decide, by decide⟩, _, _, rfl, rfl, _, rfl, ite2 (fun _ => ?_) (fun _ => ⟨rfl, rfl⟩)⟩
          refine ⟨_, rfl, _, rfl, _, _, rfl, rfl, .inl ⟨by decide, by decide⟩, _, rfl, _, _, rfl, rfl, .inr ⟨_, rfl, _, _, rfl, rfl, ?_⟩⟩
          refine ⟨_, rfl, .inl ⟨_, rfl, _, rfl, _, _, rfl, rfl, ⟨m0, m1⟩, _, rfl, p, _, _, 2, rfl, rfl, hp2, rfl, ?_⟩⟩
          refine ⟨_, rfl, .inl ⟨_, rfl, _, rfl, _, _, rfl, rfl, m0, ?_⟩⟩
          exact k _ _ _ _ (Int.emod_nonneg _ (by omega)) (Int.emod_lt_of_pos _ m0) (by omega) (by omega) upd_same (b2.put _)
        · rintro σ3 H3 ⟨rfl, rfl⟩
          refine ⟨fun σ4 H4 => ∃ y : Int, 0 ≤ y ∧ y < 2147483648 ∧ σ4 = [some (.ref p), some (.int m), none, some (.int i), some (.int c), none, some (.int y)] ∧ H4 = H3, ?_, ?_⟩
          · refine ⟨_, rfl, .inl ⟨_, rfl, _, _, rfl, rfl, (by show (0 : Int) < 2147483563; decide), _, rfl, _, _, rfl, rfl, .inl ⟨by decide, by decide⟩, _, _, rfl, rfl, _, _, rfl, rfl, .inl ⟨_, rfl, _, _, rfl, rfl,
              ⟨by decide, by decide, ?_⟩, _, _, rfl, rfl, (by show (0 : Int) < 2147483579; decide), _, Int.emod_nonneg _ (by decide), Int.lt_trans (Int.emod_lt_of_pos _ (by decide)) (by decide), rfl, rfl⟩⟩⟩
            exact small1 i0 i1 n1
          · rintro σ4 H4 ⟨y, y0, y1, rfl, rfl⟩
            refine ⟨fun σ5 H5 => ∃ y : Int, 0 ≤ y ∧ y < 2147483648 ∧ σ5 = [some (.ref p), some (.int m), none, some (.int i), some (.int c), none, some (.int y)] ∧ H5 = H4, ?_, ?_⟩
            · refine ⟨_, rfl, _, rfl, _, _, rfl, rfl, .inl ⟨by decide, by decide⟩, _, _, rfl, rfl, _, _, rfl, rfl, .inl ⟨?_, ?_⟩, _, rfl, _, _, rfl, rfl, .inl ⟨by decide, by decide⟩, _, rfl, _, _, rfl, rfl, .inl ⟨?_, ?_⟩,
                _, _, rfl, rfl, _, _, rfl, rfl, .inl ⟨_, rfl, _, _, rfl, rfl, ⟨by decide, by decide, ?_⟩, _, _, rfl, rfl, (by show (0 : Int) < 2147483629; decide), _, Int.emod_nonneg _ (by decide), Int.lt_trans (Int.emod_lt_of_pos _ (by decide)) (by decide), rfl, rfl⟩⟩
              · exact Int.lt_of_lt_of_le (by decide) y0
              · exact Int.lt_trans y1 (by decide)
              · exact small3 i0
              · exact small4 i1 n1
              · exact small2 i0 i1 n1 y0 y1
            · rintro σ5 H5 ⟨y, y0, y1, rfl, rfl⟩
              refine ⟨_, rfl, _, _, rfl, rfl, ⟨by decide, by decide⟩, .inl ⟨_, rfl, _, rfl, _, _, rfl, rfl, m0, ?_⟩⟩
              exact k _ _ _ _ (Int.emod_nonneg _ (by omega)) (Int.emod_lt_of_pos _ m0) (by omega) (by omega) hp2 b2
theorem scPick : FnScope ["_law_pen_here", "_law_some"] ["_law_pen_here", "_law_some"] (defScope sPick) := ⟨rfl, rfl, rfl, by decide +kernel, rfl, by decide +kernel, by decide +kernel⟩
def spPick : Sp := fun vs H Q _ => ∃ (p l q : Addr) (cs : List Int) (n : Nat) (xs : List V), vs = [.ref p, .ref q] ∧ Pen H p l cs n ∧ H q = some (.lst xs) ∧ q ≠ p ∧ 0 < xs.length ∧ xs.length < 1000 ∧ n < 1000000 ∧
  ∀ (j : Nat) (x : V) (H' : Hp), xs[j]? = some x → Pen H' p l cs (n + 1) → But H H' p → Q x H'
theorem Pen.next {H H' : Hp} {p l : Addr} {cs : List Int} {n : Nat} {i g : Int} (h : Pen H p l cs n) (i0 : 0 ≤ i) (i1 : i ≤ n + 1) (hp : H' p = some (penO l i g)) (b : But H H' p) : Pen H' p l cs (n + 1) := by
  obtain ⟨i', g', h1, h2, h3, h4, h5⟩ := h
  refine ⟨i, g, hp, b _ _ ?_ h2, h3, i0, by omega⟩
  intro e
  subst e
  rw [h1] at h2
  have e := List.map_eq_cons_iff.mp (HO.lst.inj (Option.some.inj h2)).symm
  obtain ⟨_, _, _, q, _⟩ := e
  cases q
theorem ok_pick {f fD : Addr} {fd fdD : FuncData} (F : Fun K "_law_pick" "_law_pick" sPick f fd) (B : Bi mg) (FD : Fun K "_law_draw" "_law_draw" sDraw fD fdD) (bD : Binds K fdD ["_law_pen_here", "_law_many"] []) (mD : mg "_law_draw" = some (.ref fD)) :
    FnOk P w K mg base CX0 2 f fd ["_law_pen_here", "_law_some"] spPick := by
  have GD : FnOk P w K mg base CX0 1 fD fdD ["_law_pen_here", "_law_many"] spDraw := ok_draw FD B
  refine F.ok scPick (fun vs H Q E h => ?_) (fun cdv A outer s H vs Q E hr h => ?_)
  · obtain ⟨p, l, q, cs, n, xs, rfl, _⟩ := h
    rfl
  · obtain ⟨p, l, q, cs, n, xs, rfl, hP, hq, nqp, x0, x1, n1, k⟩ := h
    refine ⟨_, pss_one (ps_ret (pe_ix ix_list (pv 1) (pe_call GD hr rfl mD FD.kp bD .nil pass0 (pa_cons (pv 0) (pa_cons (pe_callB call_len_seq (by rfl) B.len PySem.boot_len (pa_cons (pv 1) pa_nil)) pa_nil))) (fun _ _ => rfl))), ?_⟩
    refine ⟨_, rfl, _, rfl, _, rfl, q, _, rfl, .inl (SqL.of hq), p, l, cs, n, _, rfl, hP, by omega, by omega, n1, fun d i g H' d0 d1 i0 i1 hp b => ?_⟩
    obtain ⟨j, rfl⟩ : ∃ j : Nat, d = j := ⟨d.toNat, by omega⟩
    have hj : j < xs.length := by omega
    exact ⟨q, xs, _, xs[j], rfl, rfl, SqL.of (b _ _ nqp hq), atI_nat (by simp [hj]), k j _ _ (by simp [hj]) (hP.next i0 i1 hp b) b⟩
theorem scPen : FnScope ["_law_script"] ["_law_script"] (defScope sPen) := ⟨rfl, rfl, rfl, by decide +kernel, rfl, by decide +kernel, by decide +kernel⟩
def spPen (K : PySem.W.Frag) : Sp := fun vs H Q _ => ∃ (a : Addr) (ns : List Int), vs = [.ref a] ∧ SqL K H a (ns.map V.int) ∧ ns.length ≤ 63 ∧ ∀ (p l : Addr) (cs : List Int) (H' : Hp), Pen H' p l cs 0 → Same H H' → Q (.ref p) H'
theorem ok_pen {f : Addr} {fd : FuncData} (F : Fun K "_law_pen" "_law_pen" sPen f fd) (mL : mg "list" = none) : FnOk P w K mg base CX0 1 f fd ["_law_script"] (spPen K) := by
  refine F.ok scPen (fun vs H Q E h => ?_) (fun cdv A outer s H vs Q E hr h => ?_)
  · obtain ⟨a, ns, rfl, _⟩ := h
    rfl
  · obtain ⟨a, ns, rfl, hS, hz, k⟩ := h
    refine ⟨_, pss_one (ps_ret (pe_lst (pa_cons (pe_callTy call_list_of (by rfl) mL (by decide +kernel) (pa_cons (pe_slice sl_list (pv 0) po_none (po_some pe_int)) pa_nil)) (pa_cons pe_int (pa_cons pe_int pa_nil))))), ?_⟩
    refine ⟨_, rfl, _, rfl, a, _, rfl, hS, fun q hq => ?_⟩
    refine ⟨q, _, rfl, .inl (SqL.of upd_same), fun l hl => ⟨(by show 3 ≤ sizeLine; decide), fun p hp => ?_⟩⟩
    have nql : q ≠ l := ne_of_none upd_same hl
    have nlp : l ≠ p := ne_of_none upd_same hp
    have hHl : H l = none := by rw [upd_ne nql.symm] at hl; exact hl
    have hHp : H p = none := by
      have h1 : p ≠ l := nlp.symm
      rw [upd_ne h1] at hp
      have h2 : p ≠ q := fun e => by rw [e, upd_same] at hp; cases hp
      rw [upd_ne h2] at hp
      exact hp
    refine k p l _ _ ⟨0, 0, upd_same, Eq.trans (upd_ne nlp) (Eq.trans upd_same (congrArg (fun z => some (HO.lst z)) (cut_ints ns none (some 63)).choose_spec.1)), Nat.le_trans (cut_ints ns none (some 63)).choose_spec.2 hz, Int.le_refl _, Int.le_refl _⟩ fun b o e => ?_
    rw [upd_ne (ne_of_none e hHp), upd_ne (ne_of_none e hHl), upd_ne (ne_of_none e hq)]
    exact e
end
end Sj
namespace Sj
open PySem L2 Sup
open NdefX (NF NScope ncx envF startF nscope_by)
abbrev sInv : Stmt := inClass (top 3) 0
abbrev sIsName : Stmt := top 13
abbrev sLegI : Stmt := inClass (top 15) 1
abbrev sDrvI : Stmt := inClass (top 16) 1
abbrev sLisI : Stmt := inClass (top 17) 1
theorem strLen (a b : Str) : (a ++ b).length = a.length + b.length := by
  exact strLen_append a b
section
variable {P : Program} {w : World} {K : PySem.W.Frag} {mg : Str → Option Value} {base : Heap}
theorem scInv : NScope ["self", "reason", "__class__"] ["self", "reason"] ["__class__"] (defScope sInv) := nscope_by (by decide +kernel)
/-- InvalidFrame(reason), reason a text -/
def spInv (K : PySem.W.Frag) (C : Addr) : Sp := fun vs H Q _ => ∃ (a : Addr) (z : Str), vs = [.ref a, .str z] ∧ (reprText z).length ≤ 1000 ∧ H a = some (exo a C none) ∧
  ∀ (dx : Addr), H dx = none → dx ≠ a → Q .non (upd (upd H dx (exd dx [("reason", .str z)])) a (exo a C (some dx)))
structure ExT (P : Program) (K : PySem.W.Frag) (mg : Str → Option Value) (C : Addr) (fld : Str) : Prop where
  sup : SupT P K mg C
  oex : OexC K C
  hm : PySem.W.ks_superIn K C C "__init__" = some (some (.builtin "ValueError.__init__"))
  hB : PySem.W.subIn K (.ref C) (.type "ValueError") = some true
  hs : PySem.W.mroIn K C (.ref C) = some true
  no : PySem.W.findIn K (.ref C) fld = some none
theorem ok_inv {f c cc C : Addr} {fd : FuncData} (F : FunS P K "__init__" "InvalidFrame.__init__" sInv f fd c cc C) (T : ExT P K mg C "reason") : FnOk P w K mg base CX0 1 f fd ["self", "reason"] (spInv K C) := by
  refine fn_super F scInv (fun vs H Q E h => ?_) (fun A outer s H vs Q E hr h s1 I => ?_)
  · obtain ⟨a, z, rfl, _⟩ := h
    rfl
  · obtain ⟨a, z, rfl, hz, ha, k⟩ := h
    refine super_exc (me := "self") (x := a) (C := C) (atS_of F rfl rfl rfl rfl ⟨_, rfl, rfl⟩) T.sup T.oex rfl T.hm T.hB T.hs
      (pa_cons (pe_joined (.cons pe_str (.cons (pe_fmtR (pv 1)) .nil))) pa_nil) (pss_one (ps_ost (pv 0) (pv 1))) I rfl ha ?_ rfl rfl rfl rfl rfl
    refine ⟨_, rfl, by decide +kernel, _, rfl, .inl ⟨z, rfl, Nat.le_trans hz (by decide), _, rfl, ?_, by show 1 ≤ 1000; decide, ha, ?_⟩⟩
    · have e1 : ((Str.empty ++ ("invalid frame: " : Str)) ++ reprText z).length ≤ 15 + (reprText z).length := by
        rw [strLen]
        exact Nat.add_le_add_right (by decide +kernel) _
      exact Nat.le_trans e1 (Nat.le_trans (Nat.add_le_add_left hz 15) (by decide))
    · exact ⟨_, rfl, _, rfl, a, C, rfl, T.oex, T.no, .inl ⟨ha, fun dx hd hne => k dx hd hne⟩⟩
end
end Sj
namespace Sj
open PySem L2 Sup
open NdefX (NF NScope ncx envF startF nscope_by)
open C8 (pss_cut tCut)
def lettersS : Str := "abcdefghijklmnopqrstuvwxyz"
def reservedV : List V := [.str "ground", .str "power", .str "nothing"]
/-- whether a text is a name -/
def isName (z : Str) : Bool := decide ((1 : Int) ≤ z.length) && decide ((z.length : Int) ≤ 8) && !inV (.str z) reservedV && z.cps.toList.all fun c => decide (c ∈ lettersS.cps.toList)
structure NmT (K : PySem.W.Frag) (mg : Str → Option Value) : Prop where
  isi : mg "isinstance" = none
  str : mg "str" = none
  len : mg "len" = none
  all : mg "all" = none
  letters : ∃ t, mg "LETTERS" = some (.str lettersS t)
  longest : ∃ t, mg "LONGEST" = some (.int 8 t)
  reserved : ∃ a, mg "RESERVED" = some (.ref a) ∧ ∀ H, SqT K H a reservedV
def spIsName (K : PySem.W.Frag) : Sp := fun vs H Q _ => ∃ x : V, vs = [x] ∧
  ((∃ z : Str, x = .str z ∧ z.length ≤ 1000 ∧ ∀ H', Same H H' → Q (.bl (isName z)) H') ∨
   ∃ t : String, TyX K H x (.type t) ∧ kitB t "str" = some false ∧ Q (.bl false) H)
section
variable {P : Program} {w : World} {K : PySem.W.Frag} {mg : Str → Option Value} {base : Heap}
theorem scIsName : FnScope ["value", "sign"] ["value"] (defScope sIsName) := ⟨rfl, rfl, rfl, by decide +kernel, rfl, by decide +kernel, by decide +kernel⟩
theorem ok_isname {f : Addr} {fd : FuncData} (F : Fun K "is_name" "is_name" sIsName f fd) (T : NmT K mg) : FnOk P w K mg base CX0 1 f fd ["value"] (spIsName K) := by
  obtain ⟨tL, gL⟩ := T.letters
  obtain ⟨tN, gN⟩ := T.longest
  obtain ⟨aR, gR, hR⟩ := T.reserved
  refine F.ok scIsName (fun vs H Q E h => ?_) (fun cdv A outer s H vs Q E hr h => ?_)
  · obtain ⟨x, rfl, _⟩ := h
    rfl
  · obtain ⟨x, rfl, h⟩ := h
    refine ⟨_, pss_cons
      (ps_if (PW.pt (pw_or (pt_not (pt_val (pe_callB call_isi (by rfl) T.isi (by decide +kernel) (pa_cons (pv 0) (pa_cons (pe_bltn (by rfl) T.str (by decide +kernel) (v := .ty "str") rfl) pa_nil)))))
          (pw_or1 (pt_not (pt_chain op_le op_le pe_int (pe_callB call_len_str (by rfl) T.len PySem.boot_len (pa_cons (pv 0) pa_nil)) (pe_glob rfl gN (v := .int 8) ⟨_, rfl⟩))))))
        (pss_one (ps_ret pe_bl)) pss_nil)
      (pss_one (ps_ret (pe_and (pe_cmpR op_notIn_seq (pv 0) (pe_glob rfl gR (v := .ref aR) rfl) (by rfl))
        (pe_one (pe_callB (cr_all rfl) (by rfl) T.all (by decide +kernel) (pa_cons
          (pe_lc (own := [("sign", 1)]) (g := gName 1) (tt := tYes) rfl scIsName.nd (pi_str (pv 0)) (blkOk_by (N := ["value", "sign"]) (sc := defScope sIsName) (by decide +kernel))
            (fun _ _ _ _ _ => pg_name (i := 1) scIsName.nd rfl (Or.inl rfl)) (fun _ _ _ _ _ => pts_nil) (fun _ _ _ _ _ => pe_cmpR op_in_sign (pv 1) (pe_glob rfl gL (v := .str lettersS) ⟨_, rfl⟩) (by rfl))) pa_nil)))))), ?_⟩
    rcases h with ⟨z, rfl, hz, k⟩ | ⟨t, ht, hk, k⟩
    · have hzl : z.length ≤ sizeLine := small1000 hz |> Nat.le_of_lt
      refine ⟨_, rfl, _, _, .type "str", .type "str", true, rfl, .ty _, .base (.str _), kit_ty (by decide +kernel), _, rfl, iteF ?_⟩
      refine ⟨_, rfl, _, rfl, hzl, _, _, rfl, rfl, _, rfl, ?_⟩
      have e0 : isName z = (decide ((1 : Int) ≤ z.length) && decide ((z.length : Int) ≤ 8) && !inV (.str z) reservedV && z.cps.toList.all fun c => decide (c ∈ lettersS.cps.toList)) := rfl
      by_cases h1 : (1 : Int) ≤ z.length
      · rw [decide_eq_true h1]
        refine iteT ⟨_, _, rfl, rfl, _, rfl, ?_⟩
        by_cases h2 : (z.length : Int) ≤ 8
        · rw [decide_eq_true h2]
          refine iteF ⟨_, rfl, aR, _, rfl, .inr (hR _), rfl, rfl, _, rfl, ?_⟩
          rw [decide_eq_true h1, decide_eq_true h2] at e0
          cases h3 : inV (.str z) reservedV with
          | true =>
            rw [h3] at e0
            refine iteF ?_
            rw [show isName z = false from e0] at k
            exact k _ (Same.refl _)
          | false =>
            rw [h3] at e0
            refine iteT ?_
            refine ⟨_, rfl, z, rfl, fun D hD => lc_it walk_str (fun i H' => Same H H' ∧ H' D = some (.lst (((z.cps.toList.take i).map fun c => decide (c ∈ lettersS.cps.toList)).map V.bl))) ⟨?_, ?_⟩ (fun _ _ _ _ => True.intro) ?_ ?_⟩
            · exact fun b o e => by rw [upd_ne (ne_of_none e hD)]; exact e
            · rw [upd_same]; rfl
            · rintro i x H1 H2 hi ⟨s1, d1⟩ ⟨rfl, c, hc, rfl⟩
              refine ⟨rfl, ?_⟩
              unfold tYes
              dsimp only
              rw [if_pos rfl]
              refine ⟨_, rfl, c, lettersS, rfl, rfl, _, d1, ?_, ?_, ?_⟩
              · rw [List.length_map, List.length_map, List.length_take]
                exact Nat.lt_of_le_of_lt (Nat.min_le_right _ _) (Nat.lt_of_le_of_lt (show z.cps.toList.length ≤ 1000 from hz) (by decide))
              · exact fun b o e => by rw [upd_ne (ne_of_none e hD)]; exact s1 _ _ e
              · rw [upd_same]
                have hc' : z.cps.toList[i]? = some c := by rw [Array.getElem?_toList]; exact hc
                rw [List.take_add_one, hc', List.map_append, List.map_append]
                rfl
            · rintro H1 ⟨s1, d1⟩
              refine ⟨D, (z.cps.toList.take z.cps.size).map (fun c => decide (c ∈ lettersS.cps.toList)), rfl, SqL.of d1, ?_⟩
              have e2 : (z.cps.toList.take z.cps.size) = z.cps.toList := List.take_of_length_le (by rw [Array.length_toList]; exact Nat.le_refl _)
              have e1 : List.all ((z.cps.toList.take z.cps.size).map (fun c => decide (c ∈ lettersS.cps.toList))) id = z.cps.toList.all fun c => decide (c ∈ lettersS.cps.toList) := by
                rw [e2, List.all_map]; rfl
              have e3 : isName z = List.all ((z.cps.toList.take z.cps.size).map (fun c => decide (c ∈ lettersS.cps.toList))) id := by
                rw [e0, e1]; simp
              show Q (.bl (List.all _ id)) H1
              rw [← e3]
              exact k _ s1
        · rw [decide_eq_false h2]
          rw [decide_eq_false h2, Bool.and_false] at e0
          rw [show isName z = false from by rw [e0]; rfl] at k
          exact iteT (k _ (Same.refl _))
      · rw [decide_eq_false h1] at e0 ⊢
        rw [show isName z = false from e0] at k
        exact iteF ⟨_, rfl, iteT (k _ (Same.refl _))⟩
    · refine ⟨_, rfl, _, _, .type t, .type "str", false, rfl, .ty _, ht, kit_ty hk, _, rfl, iteT ?_⟩
      exact iteT k
end
end Sj
namespace Sj
open PySem L2 Sup
open NdefX (NF NScope ncx envF startF nscope_by)
open C8 (pss_cut tCut)
/-- a leg's attributes -/
def legF (z : Str) : List (Str × V) := putF "name" (.str z) []
theorem legF_name (z : Str) : (legF z).lookup ("name" : Str) = some (.str z) := by
  unfold legF
  rw [lookup_putF, if_pos rfl]
theorem legF_no (z : Str) {m : Str} (h : ¬ m = "name") : (legF z).lookup m = none := by
  unfold legF
  rw [lookup_putF, if_neg h]
  rfl
def errH (H H' : Hp) (d : Addr) (fld : Str) (v : V) : Prop := H d = none ∧ H' d = some (.xd [(fld, v)]) ∧ Same H H'
/-- X.__init__(self, name) of a leg's class: the wish of an error -/
def spLegI (K : PySem.W.Frag) (CI C : Addr) : Sp := fun vs H Q E => ∃ (p dx : Addr) (x : V), vs = [.ref p, x] ∧ H p = some (.ins C dx []) ∧
  ((∃ z : Str, x = .str z ∧ z.length ≤ 1000 ∧ (isName z = true → ∀ H', H' p = some (.ins C dx (legF z)) → But H H' p → Q .non H') ∧
      (isName z = false → ∀ d H', errH H H' d "reason" (.str "name") → E (.ref CI) (some d) H')) ∨
   ∃ t : String, TyX K H x (.type t) ∧ kitB t "str" = some false ∧ ∀ d H', errH H H' d "reason" (.str "name") → E (.ref CI) (some d) H')
structure LgT (P : Program) (K : PySem.W.Frag) (mg : Str → Option Value) (CI fI f n : Addr) : Prop where
  ex : ExT P K mg CI "reason"
  iC : PySem.W.findIn K (.ref CI) "__init__" = some (some (.ref fI))
  tI : PySem.W.typeIn K (.ref fI) = some (.type "function")
  mI : mg "InvalidFrame" = some (.ref CI)
  mN : mg "is_name" = some (.ref n)
structure LegC (K : PySem.W.Frag) (C : Addr) : Prop where
  cl : Cls K C
  nN : NoAttr K C "name"
section
variable {P : Program} {w : World} {K : PySem.W.Frag} {mg : Str → Option Value} {base : Heap}
theorem scLegI : FnScope ["self", "name"] ["self", "name"] (defScope sLegI) := ⟨rfl, rfl, rfl, by decide +kernel, rfl, by decide +kernel, by decide +kernel⟩
theorem ok_legI {f fI fN CI C c cc : Addr} {fd fdI fdN : FuncData} (F : Fun K "__init__" "Leg.__init__" sLegI f fd) (T : LgT P K mg CI fI f fN) (NT : NmT K mg) (LC : LegC K C)
    (FN : Fun K "is_name" "is_name" sIsName fN fdN) (bN : Binds K fdN ["value"] []) (FI : FunS P K "__init__" "InvalidFrame.__init__" sInv fI fdI c cc CI) (bI : Binds K fdI ["self", "reason"] []) :
    FnOk P w K mg base (L2.CX P w) 3 f fd ["self", "name"] (spLegI K CI C) := by
  have GN : FnOk P w K mg base CX0 1 fN fdN ["value"] (spIsName K) := ok_isname FN NT
  have GI : FnOk P w K mg base CX0 1 fI fdI ["self", "reason"] (spInv K CI) := ok_inv FI T.ex
  refine F.okX scLegI (fun vs H Q E h => ?_) (fun cdv A outer s H vs Q E hr h => ?_)
  · obtain ⟨p, dx, x, rfl, _⟩ := h
    rfl
  · obtain ⟨p, dx, x, rfl, hp, h⟩ := h
    have hr1 : Room 1 _ := hr.mono (by decide)
    refine ⟨_, pss_cons (ps_if (pt_not (pt_val (pe_call GN hr1 rfl T.mN FN.kp bN .nil pass0 (pa_cons (pv 1) pa_nil))))
        (pss_one (ps_raise rfl (takes_of rfl rfl rfl rfl) (pmk_oex T.ex.oex T.iC T.tI GI hr bI .nil pass0 rfl T.mI (pa_cons pe_str pa_nil)))) pss_nil)
      (pss_one (ps_fld (pv 0) (pv 1) rfl)), ?_⟩
    have fin : ∀ H1, Same H H1 → (∀ d H', errH H H' d "reason" (.str "name") → E (.ref CI) (some d) H') →
        tMkO CI (spInv K CI) [] (tCons (tC (.str "name")) tNil) (start ["self", "name"] [.ref p, x]) H1 fun cls d H' => E cls d H' := fun H1 s1 k => by
      refine ⟨by show 1 ≤ 1000; decide, fun a ha => ⟨a, "name", rfl, by decide +kernel, upd_same, fun d hd hda => ⟨rfl, d, [("reason", .str "name")], upd_same, ?_, ?_, ?_⟩⟩⟩
      · rw [upd_ne hda, upd_same]
      · rw [upd_ne hda] at hd
        exact hd
      · refine k d _ ⟨?_, upd_same, fun b o e => ?_⟩
        · rw [upd_ne hda] at hd
          exact s1.free hd
        · rw [upd_ne hda] at hd
          have e1 := s1 _ _ e
          have nbd : b ≠ d := ne_of_none e1 hd
          have nba : b ≠ a := ne_of_none e1 ha
          rw [upd_ne nbd, del_ne nba, upd_ne nba, upd_ne nbd, upd_ne nba]
          exact e1
    rcases h with ⟨z, rfl, hz, k1, k2⟩ | ⟨t, ht, hk, k2⟩
    · refine ⟨_, rfl, _, rfl, .inl ⟨z, rfl, hz, fun H1 s1 => ⟨_, rfl, ?_⟩⟩⟩
      cases hn : isName z with
      | true =>
        refine iteF ⟨_, rfl, _, rfl, p, C, dx, _, rfl, s1 _ _ hp, LC.cl, LC.nN, by show 0 < 1000; decide, ?_⟩
        exact k1 hn _ upd_same fun b o hb e => by rw [upd_ne hb]; exact s1 _ _ e
      | false => exact iteT (fin H1 s1 (k2 hn))
    · refine ⟨_, rfl, _, rfl, .inr ⟨t, ht, hk, ⟨_, rfl, ?_⟩⟩⟩
      exact iteT (fin H (Same.refl _) k2)
end
end Sj
namespace Sj
open PySem L2 Sup
open NdefX (NF NScope ncx envF startF nscope_by)
open C8 (pss_cut tCut)
structure SubT (P : Program) (K : PySem.W.Frag) (mg : Str → Option Value) (C f : Addr) : Prop where
  sup : SupT P K mg C
  hm : PySem.W.ks_superIn K C C "__init__" = some (some (.ref f))
  tf : PySem.W.typeIn K (.ref f) = some (.type "function")
  ff : PySem.W.fnIn K f = true
  hs : PySem.W.mroIn K C (.ref C) = some true
section
variable {P : Program} {w : World} {K : PySem.W.Frag} {mg : Str → Option Value} {base : Heap}
theorem scDrvI : NScope ["self", "name", "__class__"] ["self", "name"] ["__class__"] (defScope sDrvI) := nscope_by (by decide +kernel)
theorem scLisI : NScope ["self", "name", "__class__"] ["self", "name"] ["__class__"] (defScope sLisI) := nscope_by (by decide +kernel)
theorem ok_drvI {fL f CI C c cc : Addr} {fd fdL : FuncData} (F : FunS P K "__init__" "Driver.__init__" sDrvI f fd c cc C) (T : SubT P K mg C fL) (bL : Binds K fdL ["self", "name"] [])
    (GL : FnOk P w K mg base (L2.CX P w) 3 fL fdL ["self", "name"] (spLegI K CI C)) : FnOk P w K mg base (L2.CX P w) 4 f fd ["self", "name"] (spLegI K CI C) := by
  refine fn_super F scDrvI (fun vs H Q E h => ?_) (fun A outer s H vs Q E hr h s1 I => ?_)
  · obtain ⟨p, dx, x, rfl, _⟩ := h
    rfl
  · obtain ⟨p, dx, x, rfl, hp, h⟩ := h
    refine super_own (me := "self") (x := p) (C := C) (E := E) (atS_of F rfl rfl rfl rfl ⟨_, rfl, rfl⟩) T.sup GL hr bL .nil (passes_call (takes_of rfl rfl rfl rfl) fun _ _ _ _ h => h) rfl T.hm T.tf T.ff T.hs (by decide)
      (pa_cons (pv 1) pa_nil) pss_nil I rfl (ins_obj I hp) ?_ rfl rfl rfl rfl rfl
    exact ⟨_, rfl, p, dx, x, rfl, hp, h⟩
theorem ok_lisI {fL f CI C c cc : Addr} {fd fdL : FuncData} (F : FunS P K "__init__" "Listener.__init__" sLisI f fd c cc C) (T : SubT P K mg C fL) (bL : Binds K fdL ["self", "name"] [])
    (GL : FnOk P w K mg base (L2.CX P w) 3 fL fdL ["self", "name"] (spLegI K CI C)) : FnOk P w K mg base (L2.CX P w) 4 f fd ["self", "name"] (spLegI K CI C) := by
  refine fn_super F scLisI (fun vs H Q E h => ?_) (fun A outer s H vs Q E hr h s1 I => ?_)
  · obtain ⟨p, dx, x, rfl, _⟩ := h
    rfl
  · obtain ⟨p, dx, x, rfl, hp, h⟩ := h
    refine super_own (me := "self") (x := p) (C := C) (E := E) (atS_of F rfl rfl rfl rfl ⟨_, rfl, rfl⟩) T.sup GL hr bL .nil (passes_call (takes_of rfl rfl rfl rfl) fun _ _ _ _ h => h) rfl T.hm T.tf T.ff T.hs (by decide)
      (pa_cons (pv 1) pa_nil) pss_nil I rfl (ins_obj I hp) ?_ rfl rfl rfl rfl rfl
    exact ⟨_, rfl, p, dx, x, rfl, hp, h⟩
end
end Sj
namespace Sj
open PySem L2 Sup
open NdefX (NF NScope ncx envF startF nscope_by)
open C8 (pss_cut tCut)
abbrev sLeg (i : Nat) : Stmt := inClass (top 15) i
abbrev sDrv (i : Nat) : Stmt := inClass (top 16) i
abbrev sLis (i : Nat) : Stmt := inClass (top 17) i
/-- a leg of the class at C with the name z stands at a -/
def LegAt (H : Hp) (a C : Addr) (z : Str) : Prop := ∃ dx, H a = some (.ins C dx (legF z))
theorem LegAt.same {H H' : Hp} {a C : Addr} {z : Str} (h : LegAt H a C z) (s : Same H H') : LegAt H' a C z := h.imp fun _ e => s _ _ e
def spDr (C : Addr) (b : Bool) : Sp := fun vs H Q _ => ∃ a z, vs = [.ref a] ∧ LegAt H a C z ∧ Q (.bl b) H
/-- the facts of a class that isinstance asks -/
structure IsiC (K : PySem.W.Frag) (C : Addr) : Prop where
  cl : Cls K C
  ca : PySem.W.findIn K (.ref C) "__class__" = some (some (.builtin "object.__class__"))
  cn : PySem.W.specialIn K (.builtin "object.__class__") "__get__" = some (some (.builtin "getset_descriptor.__get__"))
  ct : PySem.W.takesIn K (.builtin "object.__class__") = some true
  cm : PySem.W.mroIn K C (.type "object") = some true
theorem LegAt.ty {K : PySem.W.Frag} {H : Hp} {a C : Addr} {z : Str} (h : LegAt H a C z) (c : IsiC K C) : TyX K H (.ref a) (.ref C) := by
  obtain ⟨dx, e⟩ := h
  exact .base (.ins e c.cl c.ca c.cn c.ct c.cm)
/-- C's __eq__: a leg of the class at C itself, or a value that is no C -/
def spEq (K : PySem.W.Frag) (C : Addr) : Sp := fun vs H Q _ => ∃ a z y, vs = [.ref a, y] ∧ LegAt H a C z ∧
  ((∃ b z', y = .ref b ∧ LegAt H b C z' ∧ Q (.bl (decide (z = z'))) H) ∨ ∃ t, TyX K H y t ∧ PySem.W.kitOne K t (.ref C) = some false ∧ Q (.bl false) H)
def spStr (C : Addr) (pre post : Str) : Sp := fun vs H Q _ => ∃ a z, vs = [.ref a] ∧ LegAt H a C z ∧ z.length ≤ 1000 ∧ Q (.str (pre ++ z ++ post)) H
def spStr1 (C : Addr) (pre : Str) : Sp := fun vs H Q _ => ∃ a z, vs = [.ref a] ∧ LegAt H a C z ∧ z.length ≤ 1000 ∧ Q (.str (pre ++ z)) H
structure EqT (K : PySem.W.Frag) (mg : Str → Option Value) (C : Addr) (nm : Str) : Prop where
  isi : mg "isinstance" = none
  mC : mg nm = some (.ref C)
  ic : IsiC K C
  self : PySem.W.kitOne K (.ref C) (.ref C) = some true
  nN : NoAttr K C "name"
section
variable {P : Program} {w : World} {K : PySem.W.Frag} {mg : Str → Option Value} {base : Heap}
theorem scS1 {st : Stmt} (h : defScope st = defScope (sLeg 2)) : FnScope ["self"] ["self"] (defScope st) := by
  rw [h]
  exact ⟨rfl, rfl, rfl, by decide +kernel, rfl, by decide +kernel, by decide +kernel⟩
theorem ok_drives {f C : Addr} {fd : FuncData} {st : Stmt} {q : Str} {b : Bool} {p1 p2 : Pos} {i1 : Nat} (F : Fun K "drives" q st f fd) (hs : defScope st = defScope (sLeg 2)) (hb : defBody st = [.Return (some (.Constant (.bool b) i1 p1)) p2]) :
    FnOk P w K mg base CX0 1 f fd ["self"] (spDr C b) := by
  refine F.ok (scS1 hs) (fun vs H Q E h => ?_) (fun cdv A outer s H vs Q E hr h => ?_)
  · obtain ⟨a, z, rfl, _⟩ := h
    rfl
  · obtain ⟨a, z, rfl, _, k⟩ := h
    rw [hb]
    exact ⟨_, pss_one (ps_ret pe_bl), k⟩
theorem scEqL : FnScope ["self", "other"] ["self", "other"] (defScope (sLeg 3)) := ⟨rfl, rfl, rfl, by decide +kernel, rfl, by decide +kernel, by decide +kernel⟩
theorem scEqD : FnScope ["self", "other"] ["self", "other"] (defScope (sDrv 3)) := ⟨rfl, rfl, rfl, by decide +kernel, rfl, by decide +kernel, by decide +kernel⟩
theorem scEqI : FnScope ["self", "other"] ["self", "other"] (defScope (sLis 3)) := ⟨rfl, rfl, rfl, by decide +kernel, rfl, by decide +kernel, by decide +kernel⟩
theorem str_eq (z z' : Str) : decide (V.str z = V.str z') = decide (z = z') := by
  by_cases h : z = z'
  · rw [decide_eq_true h, h]; exact decide_eq_true rfl
  · rw [decide_eq_false h]; exact decide_eq_false fun e => h (V.str.inj e)
theorem ok_eqD {f C : Addr} {fd : FuncData} (F : Fun K "__eq__" "Driver.__eq__" (sDrv 3) f fd) (T : EqT K mg C "Driver") : FnOk P w K mg base CX0 1 f fd ["self", "other"] (spEq K C) := by
  refine F.ok scEqD (fun vs H Q E h => ?_) (fun cdv A outer s H vs Q E hr h => ?_)
  · obtain ⟨a, z, y, rfl, _⟩ := h
    rfl
  · obtain ⟨a, z, y, rfl, ha, h⟩ := h
    refine ⟨_, pss_one (ps_ret (pe_and (pe_callB call_isi (by rfl) T.isi (by decide +kernel) (pa_cons (pv 1) (pa_cons (pe_glob rfl T.mC (v := .ref C) rfl) pa_nil)))
      (pe_one (pe_cmpR op_eq (pe_fld (pv 0) rfl) (pe_fld (pv 1) rfl) (nomark _))))), ?_⟩
    rcases h with ⟨b, z', rfl, hb, k⟩ | ⟨t, ht, hk, k⟩
    · obtain ⟨dx, ea⟩ := id ha
      obtain ⟨dy, eb⟩ := id hb
      refine ⟨_, rfl, _, _, .ref C, .ref C, true, rfl, .own _, hb.ty T.ic, T.self, _, rfl, iteT ?_⟩
      refine ⟨_, rfl, a, C, dx, _, _, rfl, ea, T.ic.cl, T.nN, legF_name _, _, rfl, b, C, dy, _, _, rfl, eb, T.ic.cl, T.nN, legF_name _, rfl, ?_⟩
      show Q (.bl (decide (V.str z = V.str z'))) H
      rw [str_eq]
      exact k
    · exact ⟨_, rfl, _, _, t, .ref C, false, rfl, .own _, ht, hk, _, rfl, iteF k⟩
theorem ok_eqI {f C : Addr} {fd : FuncData} (F : Fun K "__eq__" "Listener.__eq__" (sLis 3) f fd) (T : EqT K mg C "Listener") : FnOk P w K mg base CX0 1 f fd ["self", "other"] (spEq K C) := by
  refine F.ok scEqI (fun vs H Q E h => ?_) (fun cdv A outer s H vs Q E hr h => ?_)
  · obtain ⟨a, z, y, rfl, _⟩ := h
    rfl
  · obtain ⟨a, z, y, rfl, ha, h⟩ := h
    refine ⟨_, pss_one (ps_ret (pe_and (pe_callB call_isi (by rfl) T.isi (by decide +kernel) (pa_cons (pv 1) (pa_cons (pe_glob rfl T.mC (v := .ref C) rfl) pa_nil)))
      (pe_one (pe_cmpR op_eq (pe_fld (pv 0) rfl) (pe_fld (pv 1) rfl) (nomark _))))), ?_⟩
    rcases h with ⟨b, z', rfl, hb, k⟩ | ⟨t, ht, hk, k⟩
    · obtain ⟨dx, ea⟩ := id ha
      obtain ⟨dy, eb⟩ := id hb
      refine ⟨_, rfl, _, _, .ref C, .ref C, true, rfl, .own _, hb.ty T.ic, T.self, _, rfl, iteT ?_⟩
      refine ⟨_, rfl, a, C, dx, _, _, rfl, ea, T.ic.cl, T.nN, legF_name _, _, rfl, b, C, dy, _, _, rfl, eb, T.ic.cl, T.nN, legF_name _, rfl, ?_⟩
      show Q (.bl (decide (V.str z = V.str z'))) H
      rw [str_eq]
      exact k
    · exact ⟨_, rfl, _, _, t, .ref C, false, rfl, .own _, ht, hk, _, rfl, iteF k⟩
theorem ok_eqL {f C : Addr} {fd : FuncData} {uK : Value} (F : Fun K "__eq__" "Leg.__eq__" (sLeg 3) f fd) (T : EqT K mg C "Leg") (hK : Con K C "KIND" (.str "leg") uK) : FnOk P w K mg base CX0 1 f fd ["self", "other"] (spEq K C) := by
  refine F.ok scEqL (fun vs H Q E h => ?_) (fun cdv A outer s H vs Q E hr h => ?_)
  · obtain ⟨a, z, y, rfl, _⟩ := h
    rfl
  · obtain ⟨a, z, y, rfl, ha, h⟩ := h
    refine ⟨_, pss_one (ps_ret (pe_and (pe_callB call_isi (by rfl) T.isi (by decide +kernel) (pa_cons (pv 1) (pa_cons (pe_glob rfl T.mC (v := .ref C) rfl) pa_nil)))
      (pe_and (pe_cmpR op_eq (pe_con (pv 0) rfl) (pe_con (pv 1) rfl) (nomark _)) (pe_one (pe_cmpR op_eq (pe_fld (pv 0) rfl) (pe_fld (pv 1) rfl) (nomark _)))))), ?_⟩
    rcases h with ⟨b, z', rfl, hb, k⟩ | ⟨t, ht, hk, k⟩
    · obtain ⟨dx, ea⟩ := id ha
      obtain ⟨dy, eb⟩ := id hb
      have nk : (legF z).lookup ("KIND" : Str) = none := legF_no _ (by decide +kernel)
      have nk' : (legF z').lookup ("KIND" : Str) = none := legF_no _ (by decide +kernel)
      refine ⟨_, rfl, _, _, .ref C, .ref C, true, rfl, .own _, hb.ty T.ic, T.self, _, rfl, iteT ?_⟩
      refine ⟨_, rfl, a, C, dx, _, _, _, rfl, ea, T.ic.cl, hK, nk, _, rfl, b, C, dy, _, _, _, rfl, eb, T.ic.cl, hK, nk', rfl, _, rfl, ?_⟩
      rw [show decide (V.str "leg" = V.str "leg") = true from decide_eq_true rfl]
      refine iteT ⟨_, rfl, a, C, dx, _, _, rfl, ea, T.ic.cl, T.nN, legF_name _, _, rfl, b, C, dy, _, _, rfl, eb, T.ic.cl, T.nN, legF_name _, rfl, ?_⟩
      show Q (.bl (decide (V.str z = V.str z'))) H
      rw [str_eq]
      exact k
    · exact ⟨_, rfl, _, _, t, .ref C, false, rfl, .own _, ht, hk, _, rfl, iteF k⟩
end
end Sj
namespace Sj
open PySem L2 Sup
open NdefX (NF NScope ncx envF startF nscope_by)
open C8 (pss_cut tCut)
abbrev sTags : Stmt := top 30
def poolA : List Str := ["a", "frame", "b", "rest", "self", "c", "zzzzzzzz", "word", "d"]
def poolB : List Str := ["e", "reads", "leg", "x", "grounds", "q", "cls"]
def poolS : List Str := poolA ++ poolB
def spTags : Sp := fun vs H Q _ => ∃ (p l : Addr) (cs : List Int) (n m : Nat), vs = [.ref p, .int m] ∧ Pen H p l cs n ∧ m ≤ 16 ∧ n < 100000 ∧
  ∀ (H' : Hp) (q : Addr) (xs rest : List Str), H q = none → H' q = some (.lst (xs.map V.str)) → xs.length = m → (xs ++ rest).Perm poolS → Pen H' p l cs (n + m) → But H H' p → Q (.ref q) H'
section
variable {P : Program} {w : World} {K : PySem.W.Frag} {mg : Str → Option Value} {base : Heap}
theorem scTags : FnScope ["_law_pen_here", "_law_many", "_law_pool", "_law_turn"] ["_law_pen_here", "_law_many"] (defScope sTags) := ⟨rfl, rfl, rfl, by decide +kernel, rfl, by decide +kernel, by decide +kernel⟩
theorem map_erase {α β : Type} (f : α → β) : ∀ (xs : List α) (k : Nat), (xs.map f).eraseIdx k = (xs.eraseIdx k).map f
  | [], _ => by simp
  | x :: xs, 0 => rfl
  | x :: xs, k + 1 => by
    show f x :: (xs.map f).eraseIdx k = f x :: (xs.eraseIdx k).map f
    rw [map_erase f xs k]
theorem perm_erase {α : Type} : ∀ (xs : List α) (k : Nat) (h : k < xs.length), ([xs[k]] ++ xs.eraseIdx k).Perm xs
  | x :: xs, 0, _ => List.Perm.refl _
  | x :: xs, k + 1, h => by
    have hk : k < xs.length := Nat.lt_of_succ_lt_succ h
    have q := perm_erase xs k hk
    exact (List.Perm.swap x xs[k] (xs.eraseIdx k)).trans (List.Perm.cons x q)
theorem Pen.same {H H' : Hp} {p l : Addr} {cs : List Int} {n : Nat} (h : Pen H p l cs n) (s : Same H H') : Pen H' p l cs n := by
  obtain ⟨i, g, h1, h2, h3⟩ := h
  exact ⟨i, g, s _ _ h1, s _ _ h2, h3⟩
/-- the reading of _law_pool.pop(_law_draw(_law_pen_here, len(_law_pool))) -/
def rLenQ (K : PySem.W.Frag) : List V → Hp → VK → Prop := fun xs H Q => ∃ p ys, xs = [.ref p] ∧ (SqL K H p ys ∨ SqT K H p ys) ∧ Q (.int ys.length) H
def rPopQ : V → List V → Hp → VK → Prop := fun x ys H Q => ∃ l xs i k y, x = .ref l ∧ ys = [.int i] ∧ H l = some (.lst xs) ∧ -(2 ^ 63) ≤ i ∧ i < 2 ^ 63 ∧ seqIndex? i xs.length = some k ∧ xs[k]? = some y ∧ Q y (upd H l (.lst (xs.eraseIdx k)))
def tePop (K : PySem.W.Frag) : TE := tBM K "list" rPopQ (tVar 2) (tCons (tCall spDraw [] E0 (tCons (tVar 0) (tCons (tCB (rLenQ K) (tCons (tVar 2) tNil)) tNil))) tNil)
theorem ok_tags {f fD : Addr} {fd fdD : FuncData} (F : Fun K "_law_tags" "_law_tags" sTags f fd) (B : Bi mg) (mR : mg "range" = none) (FD : Fun K "_law_draw" "_law_draw" sDraw fD fdD) (bD : Binds K fdD ["_law_pen_here", "_law_many"] []) (mD : mg "_law_draw" = some (.ref fD)) :
    FnOk P w K mg base CX0 2 f fd ["_law_pen_here", "_law_many"] spTags := by
  have GD : FnOk P w K mg base CX0 1 fD fdD ["_law_pen_here", "_law_many"] spDraw := ok_draw FD B
  refine F.ok scTags (fun vs H Q E h => ?_) (fun cdv A outer s H vs Q E hr h => ?_)
  · obtain ⟨p, l, cs, n, m, rfl, _⟩ := h
    rfl
  · obtain ⟨p, l, cs, n, m, rfl, hP, hm, hn, k⟩ := h
    refine ⟨_, pss_cons (ps_set (i := 2) scTags.nd rfl (Or.inr rfl) (pe_lst (pa_cons pe_str (pa_cons pe_str (pa_cons pe_str (pa_cons pe_str (pa_cons pe_str (pa_cons pe_str (pa_cons pe_str (pa_cons pe_str (pa_cons pe_str pa_nil)))))))))))
      (pss_cons (ps_set (i := 2) scTags.nd rfl (Or.inr rfl) (pe_op op_cat (pv 2) (pe_lst (pa_cons pe_str (pa_cons pe_str (pa_cons pe_str (pa_cons pe_str (pa_cons pe_str (pa_cons pe_str (pa_cons pe_str pa_nil))))))))))
      (pss_one (ps_ret (pe_lc (te := tePop K) (own := [("_law_turn", 3)]) (g := gName 3) (tt := tYes) rfl scTags.nd (pi_range1 rfl mR (pa_cons (pv 1) pa_nil))
        (blkOk_by (N := ["_law_pen_here", "_law_many", "_law_pool", "_law_turn"]) (sc := defScope sTags) (by decide +kernel)) (fun _ _ _ _ _ => pg_name (i := 3) scTags.nd rfl (Or.inl rfl)) (fun _ _ _ _ _ => pts_nil)
        (fun s0 H0 C0 cl0 fp0 => by
          refine pe_bm PySem.F.plainAttrs_list PySem.F.slot_list_pop PySem.F.type_list_pop mt_popAt ?o ?a
          case o => exact pv 2
          case a =>
            refine pa_cons ?b pa_nil
            refine pe_call GD hr ?g mD FD.kp bD .nil pass0 ?c
            case g => rfl
            case c => exact pa_cons (pv 0) (pa_cons (pe_callB call_len_seq (by rfl) B.len PySem.boot_len (pa_cons (pv 2) pa_nil)) pa_nil)))))), ?_⟩
    refine ⟨(by show 9 ≤ sizeLine; decide), fun q1 h1 => ?_⟩
    refine ⟨_, rfl, (by show 7 ≤ sizeLine; decide), fun q2 h2 => ?_⟩
    have n12 : q1 ≠ q2 := ne_of_none upd_same h2
    refine ⟨q1, q2, _, _, rfl, rfl, (by rw [upd_ne n12]; exact upd_same), upd_same, (by show 9 + 7 ≤ sizeLine; decide), fun q3 h3 => ?_⟩
    have hHq1 : H q1 = none := h1
    have hHq2 : H q2 = none := by rw [upd_ne n12.symm] at h2; exact h2
    have n23 : q2 ≠ q3 := ne_of_none upd_same h3
    have n13 : q1 ≠ q3 := ne_of_none (by rw [upd_ne n12]; exact upd_same) h3
    have hHq3 : H q3 = none := by rw [upd_ne n23.symm, upd_ne n13.symm] at h3; exact h3
    have s3 : Same H (upd (upd (upd H q1 (.lst (poolA.map V.str))) q2 (.lst (poolB.map V.str))) q3 (.lst (poolS.map V.str))) := fun b o e => by
      rw [upd_ne (ne_of_none e hHq3), upd_ne (ne_of_none e hHq2), upd_ne (ne_of_none e hHq1)]
      exact e
    have key : ∀ D, upd (upd (upd H q1 (.lst (poolA.map V.str))) q2 (.lst (poolB.map V.str))) q3 (.lst (poolS.map V.str)) D = none → upd (upd (upd H q1 (.lst (poolA.map V.str))) q2 (.lst (poolB.map V.str))) q3 (.lst (poolS.map V.str)) D = none := fun _ z => z
    obtain ⟨i0', g0', hp0, hl0, hz0, hi0, hi1⟩ := id hP
    refine ⟨_, rfl, m, rfl, by omega, by omega, fun D hD0 => have hD := key D hD0; lc_range (n := m) (fun i H' => ∃ xs rest : List Str, xs.length = i ∧ (xs ++ rest).Perm poolS ∧ H' q3 = some (.lst (rest.map V.str)) ∧ H' D = some (.lst (xs.map V.str)) ∧ Pen H' p l cs (n + i) ∧ But H H' p) ?_ ?_ ?_⟩
    · have n3D : q3 ≠ D := ne_of_none upd_same hD
      have s4 : Same H (upd (upd (upd (upd H q1 (.lst (poolA.map V.str))) q2 (.lst (poolB.map V.str))) q3 (.lst (poolS.map V.str))) D (.lst [])) := fun b o e => by
        rw [upd_ne (ne_of_none (s3 _ _ e) hD)]
        exact s3 _ _ e
      exact ⟨[], poolS, rfl, List.Perm.refl _, Eq.trans (upd_ne n3D) upd_same, upd_same, hP.same s4, fun b o _ e => s4 _ _ e⟩
    · rintro i H' hi ⟨xs, rest, hx, hperm, hq, hD', hP', hB⟩
      have hlen : xs.length + rest.length = 16 := by
        have q := hperm.length_eq
        rw [List.length_append] at q
        exact q
      have n3p : q3 ≠ p := fun e => by rw [e, hp0] at hHq3; cases hHq3
      have nDp : D ≠ p := fun e => by rw [e, s3 _ _ hp0] at hD; cases hD
      have nD3 : D ≠ q3 := fun e => by rw [e, upd_same] at hD; cases hD
      refine ⟨rfl, ?_⟩
      unfold tYes
      dsimp only
      rw [if_pos rfl]
      refine ⟨_, rfl, .inl ⟨rfl, _, SqL.of hq⟩, _, rfl, _, rfl, q3, _, rfl, .inl (SqL.of hq), p, l, cs, n + i, _, rfl, hP', ?_, ?_, by omega, fun d iz g H2 d0 d1 i0 i1 hp2 b2 => ?_⟩
      · rw [List.length_map]; omega
      · rw [List.length_map]; omega
      · rw [List.length_map] at d1
        have hq2 : H2 q3 = some (.lst (rest.map V.str)) := b2 _ _ n3p hq
        have hD2 : H2 D = some (.lst (xs.map V.str)) := b2 _ _ nDp hD'
        have hk : d.toNat < rest.length := by omega
        refine ⟨q3, rest.map V.str, d, d.toNat, .str rest[d.toNat], rfl, rfl, hq2, by omega, by omega, seqIndex_of d0 (by rw [List.length_map]; omega), by simp [hk], xs.map V.str, ?_, ?_, ?_⟩
        · exact Eq.trans (upd_ne nD3) hD2
        · rw [List.length_map]; exact Nat.lt_of_le_of_lt (show xs.length ≤ 16 by omega) (by decide)
        · refine ⟨xs ++ [rest[d.toNat]], rest.eraseIdx d.toNat, by rw [List.length_append, hx]; rfl, ?_, ?_, ?_, ?_, ?_⟩
          · refine List.Perm.trans ?_ hperm
            rw [List.append_assoc]
            exact List.Perm.append_left _ (perm_erase rest _ hk)
          · rw [upd_ne nD3.symm, upd_same]
            congr 2
            exact (map_erase V.str rest d.toNat)
          · rw [upd_same, List.map_append]
            rfl
          · have hl' : ∃ i g, H' p = some (penO l i g) ∧ H' l = some (.lst (cs.map V.int)) := by
              obtain ⟨a, b, c, d, _⟩ := hP'
              exact ⟨a, b, c, d⟩
            obtain ⟨ia, ga, hpa, hla⟩ := hl'
            have n3l : q3 ≠ l := fun e => by rw [e, hl0] at hHq3; cases hHq3
            have nDl : D ≠ l := fun e => by rw [e, s3 _ _ hl0] at hD; cases hD
            have npl : l ≠ p := fun e => by
              subst e
              rw [hp0] at hl0
              have z := List.map_eq_cons_iff.mp (HO.lst.inj (Option.some.inj hl0)).symm
              obtain ⟨_, _, _, w1, _⟩ := z
              cases w1
            refine ⟨iz, g, ?_, ?_, hz0, i0, by omega⟩
            · rw [upd_ne nDp.symm, upd_ne n3p.symm]; exact hp2
            · rw [upd_ne nDl.symm, upd_ne n3l.symm]; exact b2 _ _ npl hla
          · intro b o hb e
            have e1 := hB b o hb e
            have nb3 : b ≠ q3 := ne_of_none e hHq3
            have nbD : b ≠ D := fun z => by rw [z] at e; rw [s3 _ _ e] at hD; cases hD
            rw [upd_ne nbD, upd_ne nb3]
            exact b2 _ _ hb e1
    · rintro H' ⟨xs, rest, hx, hperm, hq, hD', hP', hB⟩
      have hHD : H D = none := by
        cases e : H D with
        | none => rfl
        | some o => rw [s3 _ _ e] at hD; cases hD
      exact k H' D xs rest hHD hD' hx hperm hP' hB
end
end Sj
namespace Sj
open PySem L2 Sup
open NdefX (NF NScope ncx envF startF nscope_by)
open C8 (pss_cut tCut)
abbrev sIsInt : Stmt := top 11
abbrev sBetw : Stmt := top 12
abbrev sWrong : Stmt := top 20
theorem tyx_same {K : PySem.W.Frag} {H H' : Hp} {x : V} {t : Value} (h : TyX K H x t) (s : Same H H') : TyX K H' x t := by
  cases h with
  | base b =>
    refine .base ?_
    cases b with
    | non => exact .non
    | bl x => exact .bl x
    | int i => exact .int i
    | str x => exact .str x
    | flt x => exact .flt x
    | lst e => exact .lst (s _ _ e)
    | frz e => exact .frz (s _ _ e)
    | tup e => exact .tup (s _ _ e)
    | dK e => exact .dK (s _ _ e)
    | dT e => exact .dT (s _ _ e)
    | ins e c h1 h2 h3 h4 => exact .ins (s _ _ e) c h1 h2 h3 h4
  | byt b => exact .byt b
  | set e => exact .set (s _ _ e)
  | kList e c => exact .kList e c
  | kTuple e c => exact .kTuple e c
  | kDict e c => exact .kDict e c
  | fTuple e => exact .fTuple (s _ _ e)
  | fDict e => exact .fDict (s _ _ e)
/-- the three classes of legs -/
structure Kinds where
  drv : Addr
  lis : Addr
  leg : Addr
/-- isinstance(x, (Driver, Listener)) -/
def IsL (K : PySem.W.Frag) (ks : Kinds) (H : Hp) (x : V) (b : Bool) : Prop := ∃ t, TyX K H x t ∧ PySem.W.kitAny K t [.ref ks.drv, .ref ks.lis] = some b
theorem IsL.same {K : PySem.W.Frag} {ks : Kinds} {H H' : Hp} {x : V} {b : Bool} (h : IsL K ks H x b) (s : Same H H') : IsL K ks H' x b := h.imp fun _ ⟨a, e⟩ => ⟨tyx_same a s, e⟩
/-- a driver or a listener -/
structure LegR where
  a : Addr
  C : Addr
  z : Str
def LegR.ok (ks : Kinds) (H : Hp) (r : LegR) : Prop := (r.C = ks.drv ∨ r.C = ks.lis) ∧ LegAt H r.a r.C r.z
theorem LegR.ok.same {ks : Kinds} {H H' : Hp} {r : LegR} (h : r.ok ks H) (s : Same H H') : r.ok ks H' := ⟨h.1, h.2.same s⟩
def refs (rs : List LegR) : List V := rs.map fun r => .ref r.a
def names (rs : List LegR) : List Str := rs.map (·.z)
/-- an integer from 1 to 3 -/
def TopIs (K : PySem.W.Frag) (H : Hp) (T : V) (b : Bool) : Prop := (∃ i : Int, T = .int i ∧ b = (decide (1 ≤ i) && decide (i ≤ 3))) ∨ ∃ (t : String) (m c : Bool), TyX K H T (.type t) ∧ kitB t "int" = some m ∧ kitB t "bool" = some c ∧ (m && !c) = false ∧ b = false
def RailIs (K : PySem.W.Frag) (H : Hp) (G : V) (b : Bool) : Prop := ∃ t : String, TyX K H G (.type t) ∧ kitB t "bool" = some b
theorem TopIs.same {K : PySem.W.Frag} {H H' : Hp} {T : V} {b : Bool} (h : TopIs K H T b) (s : Same H H') : TopIs K H' T b := h.imp id fun ⟨t, m, c, a, r⟩ => ⟨t, m, c, tyx_same a s, r⟩
theorem RailIs.same {K : PySem.W.Frag} {H H' : Hp} {T : V} {b : Bool} (h : RailIs K H T b) (s : Same H H') : RailIs K H' T b := h.imp fun _ ⟨a, r⟩ => ⟨tyx_same a s, r⟩
def spIsInt (K : PySem.W.Frag) : Sp := fun vs H Q _ => ∃ (x : V) (t : String) (b c : Bool), vs = [x] ∧ TyX K H x (.type t) ∧ kitB t "int" = some b ∧ kitB t "bool" = some c ∧ Q (.bl (b && !c)) H
def spBetw (K : PySem.W.Frag) : Sp := fun vs H Q _ => ∃ (T : V) (b : Bool), vs = [T, .int 1, .int 3] ∧ TopIs K H T b ∧ Q (.bl b) H
section
variable {P : Program} {w : World} {K : PySem.W.Frag} {mg : Str → Option Value} {base : Heap}
theorem scIsInt : FnScope ["value"] ["value"] (defScope sIsInt) := ⟨rfl, rfl, rfl, by decide +kernel, rfl, by decide +kernel, by decide +kernel⟩
theorem scBetw : FnScope ["value", "least", "most"] ["value", "least", "most"] (defScope sBetw) := ⟨rfl, rfl, rfl, by decide +kernel, rfl, by decide +kernel, by decide +kernel⟩
theorem ok_isint {f : Addr} {fd : FuncData} (F : Fun K "is_integer" "is_integer" sIsInt f fd) (mi : mg "isinstance" = none) (mn : mg "int" = none) (mb : mg "bool" = none) : FnOk P w K mg base CX0 1 f fd ["value"] (spIsInt K) := by
  refine F.ok scIsInt (fun vs H Q E h => ?_) (fun cdv A outer s H vs Q E hr h => ?_)
  · obtain ⟨x, t, b, c, rfl, _⟩ := h
    rfl
  · obtain ⟨x, t, b, c, rfl, ht, hb, hc, k⟩ := h
    refine ⟨_, pss_one (ps_ret (pe_and (pe_callB call_isi (by rfl) mi (by decide +kernel) (pa_cons (pv 0) (pa_cons (pe_bltn (by rfl) mn (by decide +kernel) (v := .ty "int") rfl) pa_nil)))
      (pe_one (pe_not (pe_callB call_isi (by rfl) mi (by decide +kernel) (pa_cons (pv 0) (pa_cons (pe_bltn (by rfl) mb (by decide +kernel) (v := .ty "bool") rfl) pa_nil))))))), ?_⟩
    refine ⟨_, rfl, _, _, _, _, b, rfl, .ty _, ht, kit_ty hb, _, rfl, ?_⟩
    cases b with
    | false => exact iteF k
    | true => exact iteT ⟨_, rfl, _, _, _, _, c, rfl, .ty _, ht, kit_ty hc, _, rfl, k⟩
theorem ok_betw {f fI : Addr} {fd fdI : FuncData} (F : Fun K "is_between" "is_between" sBetw f fd) (FI : FnOk P w K mg base CX0 1 fI fdI ["value"] (spIsInt K)) (mI : mg "is_integer" = some (.ref fI)) (kI : PySem.W.keepIn K (.ref fI) = true) (bI : Binds K fdI ["value"] []) :
    FnOk P w K mg base CX0 2 f fd ["value", "least", "most"] (spBetw K) := by
  refine F.ok scBetw (fun vs H Q E h => ?_) (fun cdv A outer s H vs Q E hr h => ?_)
  · obtain ⟨T, b, rfl, _⟩ := h
    rfl
  · obtain ⟨T, b, rfl, ht, k⟩ := h
    refine ⟨_, pss_one (ps_ret (pe_and (pe_call FI hr rfl mI kI bI .nil pass0 (pa_cons (pv 0) pa_nil)) (pe_one (pe_chain op_le op_le (pv 1) (pv 0) (pv 2))))), ?_⟩
    rcases ht with ⟨i, rfl, rfl⟩ | ⟨t, m, c, ht, hm, hc, e, rfl⟩
    · refine ⟨_, rfl, _, _, _, _, rfl, .base (.int i), (by decide +kernel : kitB "int" "int" = some true), (by decide +kernel : kitB "int" "bool" = some false), _, rfl, ?_⟩
      refine iteT ⟨_, rfl, _, rfl, _, _, rfl, rfl, _, rfl, ?_⟩
      by_cases h1 : (1 : Int) ≤ i
      · rw [decide_eq_true h1] at k ⊢
        exact iteT ⟨_, rfl, _, _, rfl, rfl, k⟩
      · rw [decide_eq_false h1] at k ⊢
        exact iteF k
    · refine ⟨_, rfl, _, _, _, _, rfl, ht, hm, hc, _, rfl, ?_⟩
      rw [e]
      exact iteF k
end
end Sj
namespace Sj
open PySem L2 Sup
open NdefX (NF NScope ncx envF startF nscope_by)
open C8 (pss_cut tCut)
/-- the first reason, the legs being right -/
def due (zs : List Str) (tb rb : Bool) : V := if 40 < zs.length then .str "many" else if zs.Nodup then (if tb = false then .str "top" else if rb = false then .str "rails" else .non) else .str "name"
/-- wrong_frame(legs, top, ground, power) -/
def spWrong (K : PySem.W.Frag) (ks : Kinds) : Sp := fun vs H Q _ => ∃ (t : Addr) (xs : List V) (T G R : V) (tb gb pb : Bool), vs = [.ref t, T, G, R] ∧ H t = some (.tup xs) ∧ xs.length ≤ 1000 ∧ TopIs K H T tb ∧ RailIs K H G gb ∧ RailIs K H R pb ∧
  ((∃ bs : List Bool, bs.length = xs.length ∧ bs.all id = false ∧ (∀ (i : Nat) (x : V) (b : Bool), xs[i]? = some x → bs[i]? = some b → IsL K ks H x b) ∧ ∀ H', Same H H' → Q (.str "legs") H') ∨
   ∃ rs : List LegR, xs = refs rs ∧ (∀ r ∈ rs, r.ok ks H) ∧ ∀ H', Same H H' → Q (due (names rs) tb (gb && pb)) H')
/-- what the text gives -/
structure WrT (P : Program) (w : World) (K : PySem.W.Frag) (mg : Str → Option Value) (base : Heap) (ks : Kinds) (CF : Addr) : Prop where
  isi : mg "isinstance" = none
  all : mg "all" = none
  len : mg "len" = none
  bool : mg "bool" = none
  mD : mg "Driver" = some (.ref ks.drv)
  mI : mg "Listener" = some (.ref ks.lis)
  mF : mg "Frame" = some (.ref CF)
  most : ∃ mc u, ClX.CRead K CF mc ∧ ClX.CVal K CF mc "MOST" (.int 40) u
  icD : IsiC K ks.drv
  icI : IsiC K ks.lis
  nD : NoAttr K ks.drv "name"
  nI : NoAttr K ks.lis "name"
  dd : PySem.W.kitAny K (.ref ks.drv) [.ref ks.drv, .ref ks.lis] = some true
  ii : PySem.W.kitAny K (.ref ks.lis) [.ref ks.drv, .ref ks.lis] = some true
  betw : ∃ fB fdB, mg "is_between" = some (.ref fB) ∧ PySem.W.keepIn K (.ref fB) = true ∧ Binds K fdB ["value", "least", "most"] [] ∧ FnOk P w K mg base CX0 2 fB fdB ["value", "least", "most"] (spBetw K)
theorem LegR.ok.isl {P : Program} {w : World} {K : PySem.W.Frag} {mg : Str → Option Value} {base : Heap} {ks : Kinds} {CF : Addr} {H : Hp} {r : LegR} (h : r.ok ks H) (T : WrT P w K mg base ks CF) : IsL K ks H (.ref r.a) true := by
  obtain ⟨hc, hl⟩ := h
  rcases hc with e | e
  · rw [e] at hl
    exact ⟨_, hl.ty T.icD, T.dd⟩
  · rw [e] at hl
    exact ⟨_, hl.ty T.icI, T.ii⟩
/-- the reading of isinstance(leg, (Driver, Listener)) -/
def teIsL (K : PySem.W.Frag) (ks : Kinds) : TE := tCB (rIsiT K) (tCons (tVar 4) (tCons (tTup (tCons (tC (.ref ks.drv)) (tCons (tC (.ref ks.lis)) tNil))) tNil))
def teNm (K : PySem.W.Frag) : TE := tFld K (tVar 4) "name"
theorem isl_rd {K : PySem.W.Frag} {ks : Kinds} {σ : L2.St} {H : Hp} {x : V} {b : Bool} {Q : VK} (hx : σ[4]? = some (some x)) (h : IsL K ks H x b) (k : ∀ H', Same H H' → Q (.bl b) H') : teIsL K ks σ H Q := by
  obtain ⟨t, ty, e⟩ := h
  refine ⟨x, hx, by show 2 ≤ sizeLine; decide, fun p hp => ?_⟩
  have s1 : Same H (upd H p (.tup [.ref ks.drv, .ref ks.lis])) := fun b o e => by rw [upd_ne (ne_of_none e hp)]; exact e
  refine ⟨x, p, [.ref ks.drv, .ref ks.lis], t, [.ref ks.drv, .ref ks.lis], b, rfl, upd_same, .cons (.own _) (.cons (.own _) .nil), tyx_same ty s1, e, k _ s1⟩
abbrev stW (t : Addr) (T G R : V) : L2.St := L2.start ["legs", "top", "ground", "power", "leg"] [.ref t, T, G, R]
theorem isl_walk {K : PySem.W.Frag} {ks : Kinds} {t D : Addr} {T G R : V} {xs : List V} {bs : List Bool} {H : Hp} {Qd : Hp → Prop} (ht : H t = some (.tup xs)) (hD : H D = none) (hl : bs.length = xs.length) (hx : xs.length ≤ 1000)
    (hb : ∀ (i : Nat) (x : V) (b : Bool), xs[i]? = some x → bs[i]? = some b → IsL K ks H x b) (hd : ∀ H', Same H H' → H' D = some (.lst (bs.map V.bl)) → Qd H') :
    ∃ W : Nat → Nat → Hp → Prop, (∃ m, W 0 m (upd H D (.lst []))) ∧ ∀ i m H, W i m H →
      ((Itt K t).stop i H ∧ Qd H) ∨ ((Itt K t).go i H ∧ ∃ Nx : Hp → Prop, (∀ H', Nx H' → ∃ m', m' < m ∧ W (i + 1) m' H') ∧ ∀ x H', (Itt K t).yld i H x H' → gName 4 x (wipe (stW t T G R) [4]) H' fun σ2 H2 => wipe σ2 [4] = wipe (stW t T G R) [4] ∧ tYes σ2 H2 fun b H3 =>
        if b = true then teIsL K ks σ2 H3 fun y H4 => ∃ acc, H4 D = some (.lst acc) ∧ acc.length < sizeLine ∧ Nx (upd H4 D (.lst (acc ++ [y]))) else Nx H3) := by
  have sD : ∀ (o : HO), Same H (upd H D o) := fun o b u e => by rw [upd_ne (ne_of_none e hD)]; exact e
  refine lc_it (walk_tup (K := K) (a := t) (xs := xs)) (fun i H' => Same H H' ∧ H' D = some (.lst ((bs.take i).map V.bl))) ⟨sD _, by rw [upd_same]; rfl⟩ (fun i H' _ p => .inl (.inl (p.1 _ _ ht))) ?_ ?_
  · rintro i x H1 H2 hi ⟨s1, d1⟩ ⟨rfl, hx1⟩
    refine ⟨rfl, ?_⟩
    have hi' : i < bs.length := by omega
    have hb1 : bs[i]? = some bs[i] := List.getElem?_eq_getElem hi'
    unfold tYes
    dsimp only
    rw [if_pos rfl]
    refine isl_rd rfl ((hb i x _ hx1 hb1).same s1) fun H3 s3 => ⟨_, s3 _ _ d1, ?_, ?_, ?_⟩
    · rw [List.length_map, List.length_take]
      exact Nat.lt_of_le_of_lt (Nat.min_le_right _ _) (Nat.lt_of_le_of_lt (show bs.length ≤ 1000 by omega) (by decide))
    · exact fun b o e => by
        rw [upd_ne (ne_of_none e hD)]
        exact s3 _ _ (s1 _ _ e)
    · rw [upd_same, List.take_add_one, hb1, List.map_append]
      rfl
  · rintro H1 ⟨s1, d1⟩
    rw [← hl, List.take_length] at d1
    exact hd H1 s1 d1
/-- the set of the names -/
theorem names_walk {P : Program} {w : World} {K : PySem.W.Frag} {ks : Kinds} {t D : Addr} {T G R : V} {rs : List LegR} {H : Hp} {Qd : Hp → Prop} (ht : H t = some (.tup (refs rs))) (hD : H D = none) (hx : rs.length ≤ 1000) (hr : ∀ r ∈ rs, r.ok ks H)
    (cD : Cls K ks.drv) (cI : Cls K ks.lis) (nD : NoAttr K ks.drv "name") (nI : NoAttr K ks.lis "name") (hd : ∀ H' S, Same H H' → H' D = some (SetK P w D S (SetT.nd (names rs).reverse)) → Qd H') :
    ∃ W : Nat → Nat → Hp → Prop, (∃ m, W 0 m (upd H D (SetT.zeroK P w D))) ∧ SetT.loopT P w D (Itt K t) (gName 4) tYes (teNm K) [4] (stW t T G R) W Qd := by
  have sD : ∀ (o : HO), Same H (upd H D o) := fun o b u e => by rw [upd_ne (ne_of_none e hD)]; exact e
  have hlen : (refs rs).length = rs.length := by unfold refs; rw [List.length_map]
  refine SetT.set_it (walk_tup (K := K) (a := t) (xs := refs rs)) (fun i H' => Same H H' ∧ H' D = some (SetK P w D (fun j : Key => (names (rs.take i)).any fun z => decide (j = Sum.inr z)) (SetT.nd (names (rs.take i)).reverse))) ⟨sD _, ?_⟩ (fun i H' _ p => .inl (.inl (p.1 _ _ ht))) ?_ ?_
  · rw [upd_same]
    rfl
  · rintro i x H1 H2 hi ⟨s1, d1⟩ ⟨rfl, hx1⟩
    rw [hlen] at hi
    have e1 : (refs rs)[i]? = some (.ref rs[i].a) := by unfold refs; rw [List.getElem?_map, List.getElem?_eq_getElem hi]; rfl
    rw [e1] at hx1
    obtain rfl := Option.some.inj hx1
    obtain ⟨hc, dx, ea⟩ := (hr _ (List.getElem_mem hi)).same s1
    have fld : ∃ C, H2 rs[i].a = some (.ins C dx (legF rs[i].z)) ∧ Cls K C ∧ NoAttr K C "name" := by
      refine ⟨_, ea, ?_⟩
      rcases hc with e | e <;> rw [e]
      · exact ⟨cD, nD⟩
      · exact ⟨cI, nI⟩
    obtain ⟨C, ea', cl, nn⟩ := fld
    unfold SetT.turnT tYes
    refine ⟨rfl, ?_⟩
    dsimp only
    rw [if_pos rfl]
    refine ⟨_, rfl, _, C, dx, _, _, rfl, ea', cl, nn, legF_name _, ?_⟩
    have et : names (rs.take (i + 1)) = names (rs.take i) ++ [rs[i].z] := by
      unfold names
      rw [List.take_add_one, List.getElem?_eq_getElem hi, List.map_append]
      rfl
    refine ⟨Sum.inr rs[i].z, _, _, rfl, d1, ?_, ?_, ?_⟩
    · have h1 := SetT.nd_le (names (rs.take i)).reverse
      rw [List.length_reverse] at h1
      have h2 : (names (rs.take i)).length ≤ 1000 := by
        unfold names
        rw [List.length_map, List.length_take]
        omega
      exact Nat.lt_of_le_of_lt (show _ ≤ 1001 by omega) (by decide)
    · exact fun b o e => by
        rw [upd_ne (ne_of_none e hD)]
        exact s1 _ _ e
    · rw [upd_same, et]
      congr 2
      · funext j
        rw [List.any_append]
        simp
      · rw [List.reverse_append]
        show _ = if rs[i].z ∈ (names (rs.take i)).reverse then SetT.nd (names (rs.take i)).reverse else SetT.nd (names (rs.take i)).reverse + 1
        have e9 : ((names (rs.take i)).any fun z => decide ((Sum.inr rs[i].z : Key) = Sum.inr z)) = true ↔ rs[i].z ∈ (names (rs.take i)).reverse := by
          rw [List.any_eq_true, List.mem_reverse]
          constructor
          · rintro ⟨z, hz, e⟩
            have e := of_decide_eq_true e
            injection e with e
            rw [e]
            exact hz
          · exact fun h => ⟨_, h, decide_eq_true rfl⟩
        by_cases h9 : rs[i].z ∈ (names (rs.take i)).reverse
        · rw [if_pos h9, if_pos (e9.mpr h9)]
        · rw [if_neg h9, if_neg fun z => h9 (e9.mp z)]
  · rintro H1 ⟨s1, d1⟩
    rw [hlen, List.take_length] at d1
    exact hd H1 _ s1 d1
section
variable {P : Program} {w : World} {K : PySem.W.Frag} {mg : Str → Option Value} {base : Heap}
theorem scWrong : FnScope ["legs", "top", "ground", "power", "leg"] ["legs", "top", "ground", "power"] (defScope sWrong) := ⟨rfl, rfl, rfl, by decide +kernel, rfl, by decide +kernel, by decide +kernel⟩
theorem ok_wrong {f CF : Addr} {fd : FuncData} {ks : Kinds} (F : Fun K "wrong_frame" "wrong_frame" sWrong f fd) (T : WrT P w K mg base ks CF) : FnOk P w K mg base CX0 3 f fd ["legs", "top", "ground", "power"] (spWrong K ks) := by
  obtain ⟨fB, fdB, mB, kB, bB, GB⟩ := T.betw
  obtain ⟨mc, u, cr, cv⟩ := T.most
  refine F.ok scWrong (fun vs H Q E h => ?_) (fun cdv A outer s H vs Q E hr h => ?_)
  · obtain ⟨t, xs, T, G, R, tb, gb, pb, rfl, _⟩ := h
    rfl
  · obtain ⟨t, xs, TT, G, R, tb, gb, pb, rfl, ht, hlen, hT, hG, hR, h⟩ := h
    refine ⟨_, pss_cons (ps_if (pt_not (pt_val (pe_callB (cr_all rfl) (by rfl) T.all (by decide +kernel) (pa_cons
          (pe_lc (te := teIsL K ks) (own := [("leg", 4)]) (g := gName 4) (tt := tYes) rfl scWrong.nd (pi_tup (pv 0)) (blkOk_by (N := ["legs", "top", "ground", "power", "leg"]) (sc := defScope sWrong) (by decide +kernel))
            (fun _ _ _ _ _ => pg_name (i := 4) scWrong.nd rfl (Or.inl rfl)) (fun _ _ _ _ _ => pts_nil) (fun _ _ _ _ _ => pe_callB call_isiT (by rfl) T.isi (by decide +kernel) (pa_cons (pv 4) (pa_cons (pe_tup (pa_cons (pe_glob rfl T.mD (v := .ref ks.drv) rfl) (pa_cons (pe_glob rfl T.mI (v := .ref ks.lis) rfl) pa_nil))) pa_nil)))) pa_nil))))
        (pss_one (ps_ret pe_str)) pss_nil)
      (pss_cons (ps_if (pt_cmpR op_gt (pe_callB call_len_seq (by rfl) T.len PySem.boot_len (pa_cons (pv 0) pa_nil)) (ClX.pe_cval (pe_glob rfl T.mF (v := .ref CF) rfl)) (nomark _)) (pss_one (ps_ret pe_str)) pss_nil)
      (pss_cons (ps_if (pt_cmpR op_lt (pe_callB SetT.call_len_setK (by rfl) T.len PySem.boot_len (pa_cons
          (SetT.pe_set (te := teNm K) (own := [("leg", 4)]) (g := gName 4) (tt := tYes) rfl scWrong.nd (pi_tup (pv 0)) (blkOk_by (N := ["legs", "top", "ground", "power", "leg"]) (sc := defScope sWrong) (by decide +kernel))
            (fun _ _ _ _ _ => pg_name (i := 4) scWrong.nd rfl (Or.inl rfl)) (fun _ _ _ _ _ => pts_nil) (fun _ _ _ _ _ => pe_fld (pv 4) rfl)) pa_nil)) (pe_callB call_len_seq (by rfl) T.len PySem.boot_len (pa_cons (pv 0) pa_nil)) (nomark _)) (pss_one (ps_ret pe_str)) pss_nil)
      (pss_cons (ps_if (pt_not (pt_val (pe_call GB (hr.mono (by decide)) rfl mB kB bB .nil pass0 (pa_cons (pv 1) (pa_cons pe_int (pa_cons pe_int pa_nil)))))) (pss_one (ps_ret pe_str)) pss_nil)
      (pss_cons (ps_if (PW.pt (pw_or (pt_not (pt_val (pe_callB call_isi (by rfl) T.isi (by decide +kernel) (pa_cons (pv 2) (pa_cons (pe_bltn (by rfl) T.bool (by decide +kernel) (v := .ty "bool") rfl) pa_nil)))))
          (pw_or1 (pt_not (pt_val (pe_callB call_isi (by rfl) T.isi (by decide +kernel) (pa_cons (pv 3) (pa_cons (pe_bltn (by rfl) T.bool (by decide +kernel) (v := .ty "bool") rfl) pa_nil)))))))) (pss_one (ps_ret pe_str)) pss_nil)
      (pss_one (ps_ret pe_non)))))), ?_⟩
    have sz : ∀ H' : Hp, Same H H' → ((SqL K H' t xs ∨ SqT K H' t xs)) := fun H' s1 => .inr (SqT.of (s1 _ _ ht))
    refine ⟨_, rfl, t, rfl, ⟨xs, SqT.of ht⟩, fun D hD => ?_⟩
    rcases h with ⟨bs, hbl, hall, hb, k⟩ | ⟨rs, rfl, hrs, k⟩
    · refine isl_walk ht hD hbl hlen hb fun H1 s1 d1 => ⟨D, bs, rfl, SqL.of d1, _, rfl, ?_⟩
      rw [hall]
      exact iteT (k H1 s1)
    · have hlr : (refs rs).length = rs.length := by unfold refs; rw [List.length_map]
      have hnl : (names rs).length = rs.length := by unfold names; rw [List.length_map]
      refine isl_walk (bs := List.replicate rs.length true) ht hD (by rw [List.length_replicate, hlr]) hlen (fun i x b hx hb => ?_) fun H1 s1 d1 => ⟨D, _, rfl, SqL.of d1, _, rfl, ?_⟩
      · have hi : i < rs.length := by
          have := (List.getElem?_eq_some_iff.mp hx).1
          rw [hlr] at this
          exact this
        have e1 : (refs rs)[i]? = some (.ref rs[i].a) := by unfold refs; rw [List.getElem?_map, List.getElem?_eq_getElem hi]; rfl
        rw [e1] at hx
        obtain rfl := Option.some.inj hx
        have e2 := (List.getElem?_replicate (n := rs.length) (a := true) (i := i)).symm.trans hb
        rw [if_pos hi] at e2
        obtain rfl := Option.some.inj e2
        exact (hrs _ (List.getElem_mem hi)).isl T
      · have ea : (List.replicate rs.length true).all id = true := by
          rw [List.all_eq_true]
          intro b hb
          rw [List.eq_of_mem_replicate hb]
          rfl
        rw [ea]
        refine iteF ⟨_, rfl, t, _, rfl, sz _ s1, CF, mc, _, u, rfl, cr, cv, _, _, rfl, rfl, _, rfl, ?_⟩
        have hdue : ∀ b : V, due (names rs) tb (gb && pb) = b → ∀ H', Same H H' → Q b H' := fun b e H' s => by rw [← e]; exact k H' s
        clear k
        by_cases h40 : 40 < rs.length
        · rw [decide_eq_true (show (40 : Int) < (refs rs).length by rw [hlr]; omega)]
          refine iteT (hdue _ ?_ _ s1)
          unfold due
          rw [hnl, if_pos h40]
        · rw [decide_eq_false (show ¬ (40 : Int) < (refs rs).length by rw [hlr]; omega)]
          refine iteF ⟨_, rfl, t, rfl, ⟨refs rs, SqT.of (s1 _ _ ht)⟩, fun D2 hD2 => ?_⟩
          refine names_walk (s1 _ _ ht) hD2 (by omega) (fun r hr => (hrs r hr).same s1) T.icD.cl T.icI.cl T.nD T.nI fun H2 S s2 d2 => ?_
          have s02 := s1.trans s2
          refine ⟨D2, S, _, rfl, d2, _, rfl, t, _, rfl, sz _ s02, _, _, rfl, rfl, _, rfl, ?_⟩
          have hnd := SetT.nd_iff (names rs).reverse
          rw [List.length_reverse, hnl, (List.reverse_perm (names rs)).nodup_iff] at hnd
          by_cases hno : (names rs).Nodup
          · rw [decide_eq_false (show ¬ ((SetT.nd (names rs).reverse : Int)) < (refs rs).length by rw [hlr]; exact fun z => hnd.mp (by omega) hno)]
            refine iteF ⟨_, rfl, _, _, rfl, hT.same s02, _, rfl, ?_⟩
            have hd2 : due (names rs) tb (gb && pb) = if tb = false then .str "top" else if (gb && pb) = false then .str "rails" else .non := by
              unfold due
              rw [hnl, if_neg h40, if_pos hno]
            rw [hd2] at hdue
            cases tb with
            | false => exact iteT (hdue _ rfl _ s02)
            | true =>
              obtain ⟨tg, tyg, eg⟩ := hG.same s02
              obtain ⟨tp, typ, ep⟩ := hR.same s02
              refine iteF ⟨_, rfl, _, _, _, _, gb, rfl, .ty _, tyg, kit_ty eg, _, rfl, ?_⟩
              cases gb with
              | false => exact iteT (hdue _ rfl _ s02)
              | true =>
                refine iteF ⟨_, rfl, _, _, _, _, pb, rfl, .ty _, typ, kit_ty ep, _, rfl, ?_⟩
                cases pb with
                | false => exact iteT (hdue _ rfl _ s02)
                | true => exact iteF (hdue _ rfl _ s02)
          · rw [decide_eq_true (show ((SetT.nd (names rs).reverse : Int)) < (refs rs).length by rw [hlr]; have := hnd.mpr hno; omega)]
            refine iteT (hdue _ ?_ _ s02)
            unfold due
            rw [hnl, if_neg h40, if_neg hno]
end
end Sj
namespace Sj
open PySem L2 Sup
open NdefX (NF NScope ncx envF startF nscope_by)
open C8 (pss_cut tCut)
abbrev sFrI : Stmt := inClass (top 19) 1
/-- raise InvalidFrame(e), e a short text -/
theorem raise_inv {K : PySem.W.Frag} {CI : Addr} {z : Str} {σ : L2.St} {H H1 : Hp} {te : TE} {Q : XK} (hte : ∀ Q' : VK, Q' (.str z) H1 → te σ H1 Q') (hz : (reprText z).length ≤ 1000) (s1 : Same H H1)
    (k : ∀ d H', errH H H' d "reason" (.str z) → Q (.ref CI) (some d) H') : tMkO CI (spInv K CI) [] (tCons te tNil) σ H1 Q := by
  refine hte _ ⟨by show 1 ≤ 1000; decide, fun a ha => ⟨a, z, rfl, hz, upd_same, fun d hd hda => ⟨rfl, d, [("reason", .str z)], upd_same, ?_, ?_, ?_⟩⟩⟩
  · rw [upd_ne hda, upd_same]
  · rw [upd_ne hda] at hd
    exact hd
  · refine k d _ ⟨?_, upd_same, fun b o e => ?_⟩
    · rw [upd_ne hda] at hd
      exact s1.free hd
    · rw [upd_ne hda] at hd
      have e1 := s1 _ _ e
      have nbd : b ≠ d := ne_of_none e1 hd
      have nba : b ≠ a := ne_of_none e1 ha
      rw [upd_ne nbd, del_ne nba, upd_ne nba, upd_ne nbd, upd_ne nba]
      exact e1
/-- a frame's attributes -/
def frF (D : Addr) (T G R : V) : List (Str × V) := putF "power" R (putF "ground" G (putF "top" T (putF "_legs" (.ref D) [])))
def legRow (r : LegR) : Key × V := (Sum.inr r.z, .ref r.a)
/-- a frame stands at a: its legs, sorted by name -/
def FrAt (H : Hp) (a C : Addr) (ys : List LegR) (T G R : V) : Prop := ∃ dx D, H a = some (.ins C dx (frF D T G R)) ∧ H D = some (.dK (ys.map legRow)) ∧ D ≠ a
theorem FrAt.same {H H' : Hp} {a C : Addr} {ys : List LegR} {T G R : V} (h : FrAt H a C ys T G R) (s : Same H H') : FrAt H' a C ys T G R := by
  obtain ⟨dx, D, h1, h2, h3⟩ := h
  exact ⟨dx, D, s _ _ h1, s _ _ h2, h3⟩
/-- rows put in order -/
def Ordd (rs ys : List LegR) : Prop := ys.Perm rs ∧ PyProof.Rows.sortedS (names ys) = true
/-- Frame.__init__ -/
def spFrI (K : PySem.W.Frag) (ks : Kinds) (CI CF : Addr) : Sp := fun vs H Q E => ∃ (a dx t : Addr) (xs : List V) (T G R : V) (tb gb pb : Bool), vs = [.ref a, T, G, R, .ref t] ∧ H a = some (.ins CF dx []) ∧ H t = some (.tup xs) ∧ xs.length ≤ 1000 ∧ TopIs K H T tb ∧ RailIs K H G gb ∧ RailIs K H R pb ∧
  ((∃ bs : List Bool, bs.length = xs.length ∧ bs.all id = false ∧ (∀ (i : Nat) (x : V) (b : Bool), xs[i]? = some x → bs[i]? = some b → IsL K ks H x b) ∧ ∀ d H', errH H H' d "reason" (.str "legs") → E (.ref CI) (some d) H') ∨
   ∃ rs : List LegR, xs = refs rs ∧ (∀ r ∈ rs, r.ok ks H) ∧ (∀ z, due (names rs) tb (gb && pb) = .str z → ∀ d H', errH H H' d "reason" (.str z) → E (.ref CI) (some d) H') ∧
     (due (names rs) tb (gb && pb) = .non → ∀ H' ys, Ordd rs ys → FrAt H' a CF ys T G R → But H H' a → Q .non H'))
structure FrT (P : Program) (w : World) (K : PySem.W.Frag) (mg : Str → Option Value) (base : Heap) (ks : Kinds) (CI fI CF : Addr) : Prop where
  wr : WrT P w K mg base ks CF
  sorted : mg "sorted" = none
  mI : mg "InvalidFrame" = some (.ref CI)
  ex : ExT P K mg CI "reason"
  iC : PySem.W.findIn K (.ref CI) "__init__" = some (some (.ref fI))
  tI : PySem.W.typeIn K (.ref fI) = some (.type "function")
  inv : ∃ fdI, Binds K fdI ["self", "reason"] [] ∧ FnOk P w K mg base CX0 1 fI fdI ["self", "reason"] (spInv K CI)
  wrong : ∃ f fd, mg "wrong_frame" = some (.ref f) ∧ PySem.W.keepIn K (.ref f) = true ∧ Binds K fd ["legs", "top", "ground", "power"] [] ∧ FnOk P w K mg base CX0 3 f fd ["legs", "top", "ground", "power"] (spWrong K ks)
  cl : Cls K CF
  nL : NoAttr K CF "_legs"
  nT : NoAttr K CF "top"
  nG : NoAttr K CF "ground"
  nP : NoAttr K CF "power"
theorem due_str {zs : List Str} {tb rb : Bool} {z : Str} (h : due zs tb rb = .str z) : (reprText z).length ≤ 1000 := by
  unfold due at h
  have hh : z = "many" ∨ z = "top" ∨ z = "rails" ∨ z = "name" := by
    split at h
    · exact .inl (V.str.inj h).symm
    · split at h
      · split at h
        · exact .inr (.inl (V.str.inj h).symm)
        · split at h
          · exact .inr (.inr (.inl (V.str.inj h).symm))
          · cases h
      · exact .inr (.inr (.inr (V.str.inj h).symm))
  rcases hh with rfl | rfl | rfl | rfl <;> decide +kernel
theorem due_cases (zs : List Str) (tb rb : Bool) : due zs tb rb = .non ∨ ∃ z, due zs tb rb = .str z := by
  unfold due
  split
  · exact .inr ⟨_, rfl⟩
  · split
    · split
      · exact .inr ⟨_, rfl⟩
      · split
        · exact .inr ⟨_, rfl⟩
        · exact .inl rfl
    · exact .inr ⟨_, rfl⟩
theorem due_non {zs : List Str} {tb rb : Bool} (h : due zs tb rb = .non) : zs.length ≤ 40 ∧ zs.Nodup := by
  unfold due at h
  split at h
  · cases h
  · split at h
    · rename_i h1 h2
      exact ⟨by omega, h2⟩
    · cases h
theorem perm_rows : ∀ (ys : List Str) (rs : List LegR), ys.Perm (names rs) → ∃ qs : List LegR, qs.Perm rs ∧ names qs = ys
  | [], rs, h => by
    have e := h.length_eq
    unfold names at e
    rw [List.length_map] at e
    obtain rfl : rs = [] := List.length_eq_zero_iff.mp e.symm
    exact ⟨[], .refl _, rfl⟩
  | y :: ys, rs, h => by
    have hy : y ∈ names rs := h.mem_iff.mp List.mem_cons_self
    obtain ⟨r, hr, e⟩ := List.mem_map.mp hy
    obtain ⟨l1, l2, rfl⟩ := List.append_of_mem hr
    have p1 : (l1 ++ r :: l2).Perm (r :: (l1 ++ l2)) := List.perm_middle
    have h2 : (y :: ys).Perm (y :: names (l1 ++ l2)) := by
      have q := h.trans (p1.map fun r : LegR => r.z)
      rw [List.map_cons, e] at q
      exact q
    obtain ⟨qs, hq, en⟩ := perm_rows ys (l1 ++ l2) h2.cons_inv
    refine ⟨r :: qs, (List.Perm.cons r hq).trans p1.symm, ?_⟩
    show r.z :: names qs = _
    rw [en, e]
theorem valV_rows : ∀ (rs : List LegR) (r : LegR), (names rs).Nodup → r ∈ rs → valV (rs.map legRow) (Sum.inr r.z) = some (.ref r.a)
  | q :: rs, r, hn, hr => by
    unfold names at hn
    rw [List.map_cons, List.nodup_cons] at hn
    rcases List.mem_cons.mp hr with rfl | hr
    · exact valV_pos rfl
    · have ne : ¬ (legRow q).1 = Sum.inr r.z := fun z => by
        injection z with z
        exact hn.1 (List.mem_map.mpr ⟨r, hr, z.symm⟩)
      rw [List.map_cons, valV_neg ne]
      exact valV_rows rs r hn.2 hr
theorem valV_out : ∀ (rs : List LegR) (z : Str), z ∉ names rs → valV (rs.map legRow) (Sum.inr z) = none
  | [], _, _ => rfl
  | q :: rs, z, h => by
    have ne : ¬ (legRow q).1 = Sum.inr z := fun e => by
      injection e with e
      exact h (List.mem_map.mpr ⟨q, List.mem_cons_self, e⟩)
    rw [List.map_cons, valV_neg ne]
    exact valV_out rs z fun hz => h (List.mem_cons_of_mem _ hz)
end Sj
namespace Sj
open PySem L2 Sup
open NdefX (NF NScope ncx envF startF nscope_by)
open C8 (pss_cut tCut)
abbrev nFr : List Str := ["self", "top", "ground", "power", "legs", "reason", "by_name", "leg", "name"]
theorem scFrI : FnScope nFr ["self", "top", "ground", "power", "legs"] (defScope sFrI) := ⟨rfl, rfl, rfl, by decide +kernel, rfl, by decide +kernel, by decide +kernel⟩
def teNm7 (K : PySem.W.Frag) : TE := tFld K (tVar 7) "name"
def teGet : TE := tDGet (tVar 6) (tVar 8)
section
variable {P : Program} {w : World} {K : PySem.W.Frag} {mg : Str → Option Value} {base : Heap}
theorem body_frI {CI fI CF f : Addr} {ks : Kinds} (T : FrT P w K mg base ks CI fI CF) (cdv : Value) (A : Around) (outer : List Env) (s : Shared) (H : Hp) (vs : List V) (Q : VK) (E : XK)
    (hr : Room 3 (A.deeper (PyProof.Rows.envOfC "Frame.__init__" (defScope sFrI) s.heap.objs.size f cdv))) (h : spFrI K ks CI CF vs H Q E) :
    ∃ t, PSs (cxOf (L2.CX P w) P w K mg base nFr "Frame.__init__" (defScope sFrI) f cdv A outer s H E) (defBody sFrI) t ∧ t { nx := fun _ H' => Q .non H', rt := Q } (start nFr vs) H := by
  obtain ⟨fdI, bI, GI⟩ := T.inv
  obtain ⟨fW, fdW, mW, kW, bW, GW⟩ := T.wrong
  have hr1 := hr.mono (show 2 ≤ 3 by decide)
  obtain ⟨a, dx, t, xs, TT, G, R, tb, gb, pb, rfl, ha, ht, hlen, hT, hG, hR, h⟩ := h
  refine ⟨_, pss_cons (ps_set (i := 5) scFrI.nd rfl (Or.inl rfl) (pe_call GW hr rfl mW kW bW .nil pass0 (pa_cons (pv 4) (pa_cons (pv 1) (pa_cons (pv 2) (pa_cons (pv 3) pa_nil))))))
      (pss_cons (ps_if (pt_cmpR op_notN (pv 5) pe_non (nomark _)) (pss_one (ps_raise rfl (takes_of rfl rfl rfl rfl) (pmk_oex T.ex.oex T.iC T.tI GI hr1 bI .nil pass0 rfl T.mI (pa_cons (pv 5) pa_nil)))) pss_nil)
      (pss_cons (ps_set (i := 6) scFrI.nd rfl (Or.inr rfl) (pe_dc (tk := teNm7 K) (tv := tVar 7) (own := [("leg", 7)]) (g := gName 7) (tt := tYes) rfl scFrI.nd (pi_tup (pv 4)) (blkOk_by (N := nFr) (sc := defScope sFrI) (by decide +kernel))
          (fun _ _ _ _ _ => pg_name (i := 7) scFrI.nd rfl (Or.inl rfl)) (fun _ _ _ _ _ => pts_nil) (fun _ _ _ _ _ => pe_fld (pv 7) rfl) (fun _ _ _ _ _ => pv 7)))
      (pss_cons (ps_fld (pv 0) (pe_dc (tk := tVar 8) (tv := teGet) (own := [("name", 8)]) (g := gName 8) (tt := tYes) rfl scFrI.nd (pi_list (pe_callB (call_sortedD rfl) (by rfl) T.sorted (by decide +kernel) (pa_cons (pv 6) pa_nil))) (blkOk_by (N := nFr) (sc := defScope sFrI) (by decide +kernel))
          (fun _ _ _ _ _ => pg_name (i := 8) scFrI.nd rfl (Or.inl rfl)) (fun _ _ _ _ _ => pts_nil) (fun _ _ _ _ _ => pv 8) (fun _ _ _ _ _ => pe_dget (hu_of hr) (pv 6) (pv 8) (fun _ _ => rfl))) rfl)
      (pss_cons (ps_fld (pv 0) (pv 1) rfl) (pss_cons (ps_fld (pv 0) (pv 2) rfl) (pss_one (ps_fld (pv 0) (pv 3) rfl))))))), ?_⟩
  rcases h with ⟨bs, hbl, hall, hb, k⟩ | ⟨rs, rfl, hrs, k1, k2⟩
  · refine ⟨_, rfl, _, rfl, _, rfl, _, rfl, t, xs, TT, G, R, tb, gb, pb, rfl, ht, hlen, hT, hG, hR, .inl ⟨bs, hbl, hall, hb, fun H1 s1 => ?_⟩⟩
    refine ⟨_, rfl, rfl, _, rfl, iteT ?_⟩
    exact raise_inv (fun Q' q => ⟨_, rfl, q⟩) (by decide +kernel) s1 k
  · have hlr : (refs rs).length = rs.length := by unfold refs; rw [List.length_map]
    have hnl : (names rs).length = rs.length := by unfold names; rw [List.length_map]
    refine ⟨_, rfl, _, rfl, _, rfl, _, rfl, t, refs rs, TT, G, R, tb, gb, pb, rfl, ht, hlen, hT, hG, hR, .inr ⟨rs, rfl, hrs, fun H1 s1 => ?_⟩⟩
    rcases due_cases (names rs) tb (gb && pb) with e | ⟨z, e⟩
    · rw [e]
      obtain ⟨h40, hno⟩ := due_non e
      rw [hnl] at h40
      refine ⟨_, rfl, rfl, _, rfl, iteF ⟨_, rfl, t, rfl, ⟨refs rs, SqT.of (s1 _ _ ht)⟩, fun D hD => ?_⟩⟩
      have sD : ∀ (o : HO), Same H1 (upd H1 D o) := fun o b u e => by rw [upd_ne (ne_of_none e hD)]; exact e
      refine SetT.dict_it (walk_tup (K := K) (a := t) (xs := refs rs)) (fun i H' => Same H1 H' ∧ H' D = some (.dK ((rs.take i).map legRow))) ⟨sD _, by rw [upd_same]; rfl⟩ (fun i H' _ p => .inl (.inl (p.1 _ _ (s1 _ _ ht)))) ?_ ?_
      · rintro i x H2 H3 hi ⟨s2, d2⟩ ⟨rfl, hx1⟩
        rw [hlr] at hi
        have e1 : (refs rs)[i]? = some (.ref rs[i].a) := by unfold refs; rw [List.getElem?_map, List.getElem?_eq_getElem hi]; rfl
        rw [e1] at hx1
        obtain rfl := Option.some.inj hx1
        obtain ⟨hc, dy, eb⟩ := (hrs _ (List.getElem_mem hi)).same (s1.trans s2)
        have fld : ∃ C, H3 rs[i].a = some (.ins C dy (legF rs[i].z)) ∧ Cls K C ∧ NoAttr K C "name" := by
          refine ⟨_, eb, ?_⟩
          rcases hc with e | e <;> rw [e]
          · exact ⟨T.wr.icD.cl, T.wr.nD⟩
          · exact ⟨T.wr.icI.cl, T.wr.nI⟩
        obtain ⟨C, eb', cl, nn⟩ := fld
        refine ⟨rfl, ?_⟩
        unfold tYes
        dsimp only
        rw [if_pos rfl]
        have hti : (names (rs.take i)) = (names rs).take i := by unfold names; rw [List.map_take]
        have hout : rs[i].z ∉ names (rs.take i) := by
          have hi' : i < (names rs).length := by rw [hnl]; exact hi
          have ez : (names rs)[i] = rs[i].z := List.getElem_map (fun r : LegR => r.z)
          rw [hti, ← ez]
          intro hm
          obtain ⟨j, hj, ej⟩ := List.getElem_of_mem hm
          rw [List.length_take] at hj
          rw [List.getElem_take] at ej
          have := (List.getElem_inj hno).mp ej
          omega
        refine ⟨_, rfl, _, C, dy, _, _, rfl, eb', cl, nn, legF_name _, _, rfl, _, Sum.inr rs[i].z, rfl, d2, ?_, ?_, ?_⟩
        · rw [List.length_map, List.length_take]
          exact Nat.lt_of_le_of_lt (Nat.min_le_right _ _) (Nat.lt_of_le_of_lt (show rs.length ≤ 1000 by omega) (by decide))
        · exact fun b o e => by
            rw [upd_ne (ne_of_none e hD)]
            exact s2 _ _ e
        · rw [upd_same, putK_new _ (valV_out _ _ hout), List.take_add_one, List.getElem?_eq_getElem hi, List.map_append]
          rfl
      · rintro H2 ⟨s2, d2⟩
        rw [hlr, List.take_length] at d2
        have s02 := s1.trans s2
        clear k1
        refine ⟨_, rfl, D, _, names rs, rfl, .inl d2, ?_, by rw [hnl]; omega, fun ys q hp hs hq => ?_⟩
        · unfold names
          rw [List.map_map, List.map_map]
          rfl
        obtain ⟨qs, hqs, rfl⟩ := perm_rows ys rs hp
        obtain ⟨H3, eH3⟩ : ∃ H3, H3 = upd H2 q (.lst ((names qs).map V.str)) := ⟨_, rfl⟩
        have s3 : Same H2 H3 := fun b o e => by rw [eH3, upd_ne (ne_of_none e hq)]; exact e
        have hq3 : H3 q = some (.lst ((names qs).map V.str)) := by rw [eH3, upd_same]
        rw [← eH3]
        have s03 := s02.trans s3
        have hql : ((names qs).map V.str).length = qs.length := by unfold names; rw [List.length_map, List.length_map]
        have hqr : qs.length = rs.length := hqs.length_eq
        have hnq : (names qs).Nodup := (hqs.map fun r : LegR => r.z).nodup_iff.mpr hno
        refine ⟨q, rfl, ⟨_, SqL.of hq3⟩, fun D2 hD2 => ?_⟩
        have sD2 : ∀ (o : HO), Same H3 (upd H3 D2 o) := fun o b u e => by rw [upd_ne (ne_of_none e hD2)]; exact e
        refine SetT.dict_it (walk_list (K := K) (a := q) (xs := (names qs).map V.str)) (fun i H' => Same H3 H' ∧ H' D2 = some (.dK ((qs.take i).map legRow))) ⟨sD2 _, by rw [upd_same]; rfl⟩ (fun i H' _ p => SqL.of (p.1 _ _ hq3)) ?_ ?_
        · rintro i x H4 H5 hi ⟨s4, d4⟩ ⟨rfl, hx1⟩
          rw [hql] at hi
          have e1 : ((names qs).map V.str)[i]? = some (.str qs[i].z) := by unfold names; rw [List.map_map, List.getElem?_map, List.getElem?_eq_getElem hi]; rfl
          rw [e1] at hx1
          obtain rfl := Option.some.inj hx1
          refine ⟨rfl, ?_⟩
          unfold tYes
          dsimp only
          rw [if_pos rfl]
          have hti : (names (qs.take i)) = (names qs).take i := by unfold names; rw [List.map_take]
          have hout : qs[i].z ∉ names (qs.take i) := by
            have hi' : i < (names qs).length := by unfold names; rw [List.length_map]; exact hi
            have ez : (names qs)[i] = qs[i].z := List.getElem_map (fun r : LegR => r.z)
            rw [hti, ← ez]
            intro hm
            obtain ⟨j, hj, ej⟩ := List.getElem_of_mem hm
            rw [List.length_take] at hj
            rw [List.getElem_take] at ej
            have := (List.getElem_inj hnq).mp ej
            omega
          have hg : DGet H5 D (.str qs[i].z) (some (.ref qs[i].a)) := by
            rw [← valV_rows rs qs[i] hno (hqs.mem_iff.mp (List.getElem_mem hi))]
            exact DGet.k (k := Sum.inr qs[i].z) (s4 _ _ (s3 _ _ d2))
          refine ⟨_, rfl, _, rfl, _, rfl, D, _, rfl, hg, _, Sum.inr qs[i].z, rfl, d4, ?_, ?_, ?_⟩
          · rw [List.length_map, List.length_take]
            exact Nat.lt_of_le_of_lt (Nat.min_le_right _ _) (Nat.lt_of_le_of_lt (show qs.length ≤ 1000 by omega) (by decide))
          · exact fun b o e => by
              rw [upd_ne (ne_of_none e hD2)]
              exact s4 _ _ e
          · rw [upd_same, putK_new _ (valV_out _ _ hout), List.take_add_one, List.getElem?_eq_getElem hi, List.map_append]
            rfl
        · rintro H4 ⟨s4, d4⟩
          rw [hql, List.take_length] at d4
          have s04 := s03.trans s4
          have ha4 := s04 _ _ ha
          have nDa : D2 ≠ a := fun z => by rw [z] at hD2; rw [s03 _ _ ha] at hD2; cases hD2
          refine ⟨_, rfl, a, CF, dx, [], rfl, ha4, T.cl, T.nL, by show 0 < 1000; decide, ?_⟩
          refine ⟨_, rfl, _, rfl, a, CF, dx, _, rfl, upd_same, T.cl, T.nT, by show 1 < 1000; decide, ?_⟩
          refine ⟨_, rfl, _, rfl, a, CF, dx, _, rfl, upd_same, T.cl, T.nG, by show 2 < 1000; decide, ?_⟩
          refine ⟨_, rfl, _, rfl, a, CF, dx, _, rfl, upd_same, T.cl, T.nP, by show 3 < 1000; decide, ?_⟩
          refine k2 e _ qs ⟨hqs, hs⟩ ⟨dx, D2, upd_same, ?_, nDa⟩ fun b o hb eb => ?_
          · rw [upd_ne nDa, upd_ne nDa, upd_ne nDa, upd_ne nDa]
            exact d4
          · rw [upd_ne hb, upd_ne hb, upd_ne hb, upd_ne hb]
            exact s04 _ _ eb
    · rw [e]
      refine ⟨_, rfl, rfl, _, rfl, iteT ?_⟩
      exact raise_inv (fun Q' q => ⟨_, rfl, q⟩) (due_str e) s1 (k1 z e)
end
end Sj
namespace Sj
open PySem L2 Sup StK
open NdefX (NF NScope ncx envF startF nscope_by)
open C8 (pss_cut tCut)
abbrev sOf : Stmt := inClass (top 19) 2
def kwsF : List (Str × V) := [("top", .int 1), ("ground", .bl false), ("power", .bl false)]
abbrev ksA : List Str := ["top"]
abbrev ksB : List Str := ["top", "ground", "power"]
abbrev ksC : List Str := ["power", "ground", "top"]
theorem errH.of {H H1 H' : Hp} {d : Addr} {fld : Str} {v : V} (h : errH H1 H' d fld v) (s : Same H H1) : errH H H' d fld v := ⟨s.free h.1, h.2.1, s.trans h.2.2⟩
section
variable {P : Program} {w : World} {K : PySem.W.Frag} {mg : Str → Option Value} {base : Heap}
theorem fr_kwB {CI fI CF f : Addr} {fd : FuncData} {ks : Kinds} (F : FunD K "__init__" "Frame.__init__" (defArgs sFrI) (defBody sFrI) (defScope sFrI) [] kwsF f fd) (T : FrT P w K mg base ks CI fI CF) :
    FnK P w K mg base (L2.CX P w) 4 f ksB (spStarK 1 (fun vs zs => vs ++ zs) (spFrI K ks CI CF)) :=
  fn_starK (ps := ["self", "top", "ground", "power"]) (pv := "legs") F scFrI StX.cxUp 1 ksB [] (fun us mv ws => us ++ ws) (by decide) (fun q h => nomatch h) (fun r1 _ r3 => r1.append r3)
    (fun us mv ws h1 _ h3 => by rw [List.length_append, h1, h3] <;> rfl)
    (fun D doc pm an cdv ct us rest mv ws h1 h2 h3 => match us, rest, mv, ws, h1, h2, h3 with
      | [a], [], [], [x, y, z], _, _, _ => rfl
      | [a], r :: rs, [], [x, y, z], _, _, _ => rfl)
    (fun cdv A outer s H vs Q E hr h => body_frI T cdv A outer s H vs Q E hr h)
theorem fr_kwA {CI fI CF f : Addr} {fd : FuncData} {ks : Kinds} (F : FunD K "__init__" "Frame.__init__" (defArgs sFrI) (defBody sFrI) (defScope sFrI) [] kwsF f fd) (T : FrT P w K mg base ks CI fI CF) :
    FnK P w K mg base (L2.CX P w) 4 f ksA (spStarK 1 (fun vs zs => vs ++ (zs ++ [.bl false, .bl false])) (spFrI K ks CI CF)) :=
  fn_starK (ps := ["self", "top", "ground", "power"]) (pv := "legs") F scFrI StX.cxUp 1 ksA [("ground", .bl false), ("power", .bl false)] (fun us mv ws => us ++ (ws ++ mv)) (by decide) (fun q h => List.mem_cons_of_mem _ h) (fun r1 r2 r3 => r1.append (r3.append r2))
    (fun us mv ws h1 h2 h3 => by rw [List.length_append, List.length_append, h1, h2, h3] <;> rfl)
    (fun D doc pm an cdv ct us rest mv ws h1 h2 h3 => match us, rest, mv, ws, h1, h2, h3 with
      | [a], [], [p, q], [x], _, _, _ => ⟨_, _, _, _, _, _, rfl, rfl, _, _, _, _, _, _, rfl, rfl, rfl⟩
      | [a], r :: rs, [p, q], [x], _, _, _ => ⟨_, _, _, _, _, _, rfl, rfl, _, _, _, _, _, _, rfl, rfl, rfl⟩)
    (fun cdv A outer s H vs Q E hr h => body_frI T cdv A outer s H vs Q E hr h)
end
end Sj
namespace Sj
open PySem L2 Sup StK
open NdefX (NF NScope ncx envF startF nscope_by)
open C8 (pss_cut tCut)
/-- what is asked of legs xs, with top, rails: the outcomes of the making of a frame, from H on -/
def Outc (K : PySem.W.Frag) (ks : Kinds) (CI CF : Addr) (xs : List V) (T G R : V) (tb rb : Bool) (H : Hp) (Q : VK) (E : XK) : Prop :=
  (∃ bs : List Bool, bs.length = xs.length ∧ bs.all id = false ∧ (∀ (i : Nat) (x : V) (b : Bool), xs[i]? = some x → bs[i]? = some b → IsL K ks H x b) ∧ ∀ d H', errH H H' d "reason" (.str "legs") → E (.ref CI) (some d) H') ∨
   ∃ rs : List LegR, xs = refs rs ∧ (∀ r ∈ rs, r.ok ks H) ∧ (∀ z, due (names rs) tb rb = .str z → ∀ d H', errH H H' d "reason" (.str z) → E (.ref CI) (some d) H') ∧
     (due (names rs) tb rb = .non → ∀ a H' ys, H a = none → Ordd rs ys → FrAt H' a CF ys T G R → Same H H' → Q (.ref a) H')
/-- the making keeps its promise -/
theorem mk_outc {K : PySem.W.Frag} {ks : Kinds} {CI CF : Addr} {xs : List V} {T G R : V} {tb gb pb : Bool} {H0 H : Hp} {Q : VK} {E : XK} {gV : List V → List V → List V} {zs : List V} (hg : ∀ x : Addr, gV [.ref x] zs = [.ref x, T, G, R]) (s0 : Same H0 H) (hlen : xs.length ≤ 1000)
    (hT : TopIs K H0 T tb) (hG : RailIs K H0 G gb) (hR : RailIs K H0 R pb) (o : Outc K ks CI CF xs T G R tb (gb && pb) H0 Q E) : spMk CF (spStarK 1 gV (spFrI K ks CI CF)) E xs zs H Q := by
  intro x dx hx hdx hne
  have s1 : Same H (upd (upd H dx (.own x)) x (.ins CF dx [])) := fun b o e => by
    rw [upd_ne (ne_of_none e hx), upd_ne (ne_of_none e hdx)]
    exact e
  refine ⟨[.ref x], xs, rfl, rfl, Nat.le_trans hlen (by decide), fun p hp => ?_⟩
  obtain ⟨H2, e2⟩ : ∃ H2, H2 = upd (upd (upd H dx (.own x)) x (.ins CF dx [])) p (.tup xs) := ⟨_, rfl⟩
  have hxp : x ≠ p := ne_of_none upd_same hp
  have hx2 : H2 x = some (.ins CF dx []) := by rw [e2, upd_ne hxp, upd_same]
  have hp2 : H2 p = some (.tup xs) := by rw [e2, upd_same]
  have s2 : Same H H2 := fun b o e => by
    rw [e2, upd_ne (ne_of_none (s1 _ _ e) hp)]
    exact s1 _ _ e
  have s02 := s0.trans s2
  rw [hg, ← e2]
  refine ⟨x, dx, p, xs, T, G, R, tb, gb, pb, rfl, hx2, hp2, hlen, hT.same s02, hG.same s02, hR.same s02, ?_⟩
  rcases o with ⟨bs, h1, h2, h3, k⟩ | ⟨rs, h1, h2, k1, k2⟩
  · exact .inl ⟨bs, h1, h2, fun i x b e1 e2 => (h3 i x b e1 e2).same s02, fun d H' e => k d H' (e.of s02)⟩
  · refine .inr ⟨rs, h1, fun r hr => (h2 r hr).same s02, fun z hz d H' e => k1 z hz d H' (e.of s02), fun hd H' ys ho hf hb => ⟨rfl, k2 hd x H' ys (s0.free hx) ho hf fun b o e => ?_⟩⟩
    exact hb b o (ne_of_none e (s0.free hx)) (s02 _ _ e)
/-- Frame.of -/
def spOf (K : PySem.W.Frag) (ks : Kinds) (CI CF : Addr) : Sp := fun vs H Q E => ∃ (x T G R : V) (tb gb pb : Bool), vs = [.ref CF, x, T, G, R] ∧ TopIs K H T tb ∧ RailIs K H G gb ∧ RailIs K H R pb ∧
  ((∃ t, TyX K H x t ∧ PySem.W.kitAny K t [.type "list", .type "tuple"] = some false ∧ ∀ d H', errH H H' d "reason" (.str "legs") → E (.ref CI) (some d) H') ∨
   ∃ (l : Addr) (xs : List V), x = .ref l ∧ (H l = some (.lst xs) ∨ H l = some (.tup xs)) ∧ xs.length ≤ 1000 ∧ Outc K ks CI CF xs T G R tb (gb && pb) H Q E)
structure OfT (P : Program) (w : World) (K : PySem.W.Frag) (mg : Str → Option Value) (base : Heap) (ks : Kinds) (CI fI CF fF : Addr) : Prop where
  isi : mg "isinstance" = none
  list : mg "list" = none
  tuple : mg "tuple" = none
  mI : mg "InvalidFrame" = some (.ref CI)
  ex : ExT P K mg CI "reason"
  iC : PySem.W.findIn K (.ref CI) "__init__" = some (some (.ref fI))
  tI : PySem.W.typeIn K (.ref fI) = some (.type "function")
  inv : ∃ fdI, Binds K fdI ["self", "reason"] [] ∧ FnOk P w K mg base CX0 1 fI fdI ["self", "reason"] (spInv K CI)
  mkc : Mk K CF fF
  kt : PySem.W.kitAny K (.type "list") [.type "list", .type "tuple"] = some true
  kt2 : PySem.W.kitAny K (.type "tuple") [.type "list", .type "tuple"] = some true
section
variable {P : Program} {w : World} {K : PySem.W.Frag} {mg : Str → Option Value} {base : Heap}
theorem scOf : FnScope ["cls", "legs", "top", "ground", "power"] ["cls", "legs", "top", "ground", "power"] (defScope sOf) := ⟨rfl, rfl, rfl, by decide +kernel, rfl, by decide +kernel, by decide +kernel⟩
theorem ok_of {CI fI CF fF f : Addr} {fd : FuncData} {ks : Kinds} (F : FunD K "of" "Frame.of" (defArgs sOf) (defBody sOf) (defScope sOf) [] kwsF f fd) (T : OfT P w K mg base ks CI fI CF fF)
    (GF : FnK P w K mg base (L2.CX P w) 4 fF ksB (spStarK 1 (fun vs zs => vs ++ zs) (spFrI K ks CI CF))) : FnOk P w K mg base (L2.CX P w) 6 f fd ["cls", "legs", "top", "ground", "power"] (spOf K ks CI CF) := by
  obtain ⟨fdI, bI, GI⟩ := T.inv
  refine F.ok scOf (fun vs H Q E h => ?_) (fun cdv A outer s H vs Q E hr h => ?_)
  · obtain ⟨x, T, G, R, tb, gb, pb, rfl, _⟩ := h
    rfl
  · obtain ⟨x, TT, G, R, tb, gb, pb, rfl, hT, hG, hR, h⟩ := h
    refine ⟨_, pss_cons (ps_if (pt_not (pt_val (pe_callB call_isiT (by rfl) T.isi (by decide +kernel) (pa_cons (pv 1) (pa_cons (pe_tup (pa_cons (pe_bltn (by rfl) T.list (by decide +kernel) (v := .ty "list") rfl) (pa_cons (pe_bltn (by rfl) T.tuple (by decide +kernel) (v := .ty "tuple") rfl) pa_nil))) pa_nil)))))
        (pss_one (ps_raise rfl (takes_of rfl rfl rfl rfl) (pmk_oex T.ex.oex T.iC T.tI GI (hr.mono (by decide)) bI .nil pass0 rfl T.mI (pa_cons pe_str pa_nil)))) pss_nil)
      (pss_one (ps_ret (pe_makeT T.mkc GF hr (passes_call (takes_of rfl rfl rfl rfl) fun _ _ _ _ h => h) (pv 0) (pv 1) (pk_cons (pv 2) (pk_cons (pv 3) (pk_cons (pv 4) pk_nil)))))), ?_⟩
    have lay : ∀ (t : Value) (b : Bool) (Q' : VK), TyX K H x t → PySem.W.kitAny K t [.type "list", .type "tuple"] = some b → (∀ H', Same H H' → Q' (.bl b) H') →
        tCB (rIsiT K) (tCons (tVar 1) (tCons (tTup (tCons (tC (.ty "list")) (tCons (tC (.ty "tuple")) tNil))) tNil)) (L2.start ["cls", "legs", "top", "ground", "power"] [.ref CF, x, TT, G, R]) H Q' := by
      intro t b Q' ty e k
      refine ⟨_, rfl, by show 2 ≤ sizeLine; decide, fun p hp => ?_⟩
      have s1 : Same H (upd H p (.tup [.ty "list", .ty "tuple"])) := fun b o e => by rw [upd_ne (ne_of_none e hp)]; exact e
      exact ⟨x, p, [.ty "list", .ty "tuple"], t, [.type "list", .type "tuple"], b, rfl, upd_same, .cons (.ty _) (.cons (.ty _) .nil), tyx_same ty s1, e, k _ s1⟩
    rcases h with ⟨t, ty, e, k⟩ | ⟨l, xs, rfl, hl, hlen, o⟩
    · refine lay t false _ ty e fun H1 s1 => ⟨_, rfl, iteT ?_⟩
      exact raise_inv (fun Q' q => q) (by decide +kernel) s1 k
    · have hty : ∃ t, TyX K H (.ref l) t ∧ PySem.W.kitAny K t [.type "list", .type "tuple"] = some true := by
        rcases hl with h | h
        · exact ⟨_, .base (.lst h), T.kt⟩
        · exact ⟨_, .base (.tup h), T.kt2⟩
      obtain ⟨t, ty, e⟩ := hty
      refine lay t true _ ty e fun H1 s1 => ⟨_, rfl, iteF ?_⟩
      refine ⟨_, rfl, rfl, _, rfl, _, rfl, _, rfl, _, rfl, rfl, l, xs, rfl, ?_, ?_⟩
      · rcases hl with h | h
        · exact .inr (SqL.of (s1 _ _ h))
        · exact .inl (SqT.of (s1 _ _ h))
      · exact mk_outc (fun x => rfl) s1 hlen hT hG hR o
end
end Sj
namespace Sj
open PySem L2 Sup StK
open NdefX (NF NScope ncx envF startF nscope_by)
open C8 (pss_cut tCut)
/-! Frame's own small methods (k03, k05): len, in, legs, names -/
abbrev sFr (i : Nat) : Stmt := inClass (top 19) i
theorem frF_legs (D : Addr) (T G R : V) : (frF D T G R).lookup ("_legs" : Str) = some (.ref D) := by
  unfold frF
  rw [lookup_putF, if_neg (by decide +kernel), lookup_putF, if_neg (by decide +kernel), lookup_putF, if_neg (by decide +kernel), lookup_putF, if_pos rfl]
theorem frF_top (D : Addr) (T G R : V) : (frF D T G R).lookup ("top" : Str) = some T := by
  unfold frF
  rw [lookup_putF, if_neg (by decide +kernel), lookup_putF, if_neg (by decide +kernel), lookup_putF, if_pos rfl]
theorem frF_ground (D : Addr) (T G R : V) : (frF D T G R).lookup ("ground" : Str) = some G := by
  unfold frF
  rw [lookup_putF, if_neg (by decide +kernel), lookup_putF, if_pos rfl]
theorem frF_power (D : Addr) (T G R : V) : (frF D T G R).lookup ("power" : Str) = some R := by
  unfold frF
  rw [lookup_putF, if_pos rfl]
def spFLen (C : Addr) : Sp := fun vs H Q _ => ∃ (a : Addr) (ys : List LegR) (T G R : V), vs = [.ref a] ∧ FrAt H a C ys T G R ∧ Q (.int ys.length) H
def spFIn (K : PySem.W.Frag) (C : Addr) : Sp := fun vs H Q _ => ∃ (a : Addr) (ys : List LegR) (T G R x : V), vs = [.ref a, x] ∧ FrAt H a C ys T G R ∧
  ((∃ z : Str, x = .str z ∧ Q (.bl (decide (z ∈ names ys))) H) ∨ ∃ t : String, TyX K H x (.type t) ∧ kitB t "str" = some false ∧ Q (.bl false) H)
structure FmT (K : PySem.W.Frag) (mg : Str → Option Value) (C : Addr) : Prop where
  cl : Cls K C
  nL : NoAttr K C "_legs"
  len : mg "len" = none
  isi : mg "isinstance" = none
  str : mg "str" = none
theorem valV_in : ∀ (rs : List LegR) (z : Str), (valV (rs.map legRow) (Sum.inr z)).isSome = decide (z ∈ names rs)
  | [], z => rfl
  | q :: rs, z => by
    by_cases e : (legRow q).1 = Sum.inr z
    · rw [List.map_cons, valV_pos e]
      have ez : q.z = z := Sum.inr.inj e
      rw [decide_eq_true (show z ∈ names (q :: rs) by rw [← ez]; exact List.mem_cons_self)]
      rfl
    · rw [List.map_cons, valV_neg e, valV_in rs z]
      have ez : ¬ z = q.z := fun h => e (by rw [h]; rfl)
      have h2 : z ∈ names (q :: rs) ↔ z ∈ names rs := by
        show z ∈ q.z :: names rs ↔ _
        rw [List.mem_cons]
        exact ⟨fun h => h.resolve_left ez, .inr⟩
      exact Bool.eq_iff_iff.mpr (by rw [decide_eq_true_eq, decide_eq_true_eq]; exact h2.symm)
section
variable {P : Program} {w : World} {K : PySem.W.Frag} {mg : Str → Option Value} {base : Heap}
theorem scF1 : FnScope ["self"] ["self"] (defScope (sFr 12)) := ⟨rfl, rfl, rfl, by decide +kernel, rfl, by decide +kernel, by decide +kernel⟩
theorem scFIn : FnScope ["self", "x"] ["self", "x"] (defScope (sFr 9)) := ⟨rfl, rfl, rfl, by decide +kernel, rfl, by decide +kernel, by decide +kernel⟩
theorem ok_flen {f C : Addr} {fd : FuncData} (F : Fun K "__len__" "Frame.__len__" (sFr 12) f fd) (T : FmT K mg C) : FnOk P w K mg base CX0 1 f fd ["self"] (spFLen C) := by
  refine F.ok scF1 (fun vs H Q E h => ?_) (fun cdv A outer s H vs Q E hr h => ?_)
  · obtain ⟨a, ys, _, _, _, rfl, _⟩ := h
    rfl
  · obtain ⟨a, ys, TT, G, R, rfl, ⟨dx, D, ea, eD, _⟩, k⟩ := h
    refine ⟨_, pss_one (ps_ret (pe_callB call_lenD (by rfl) T.len PySem.boot_len (pa_cons (pe_fld (pv 0) rfl) pa_nil))), ?_⟩
    refine ⟨_, rfl, a, C, dx, _, _, rfl, ea, T.cl, T.nL, frF_legs _ _ _ _, D, _, rfl, eD, ?_⟩
    rw [List.length_map]
    exact k
theorem ok_fin {f C : Addr} {fd : FuncData} (F : Fun K "__contains__" "Frame.__contains__" (sFr 9) f fd) (T : FmT K mg C) : FnOk P w K mg base CX0 1 f fd ["self", "x"] (spFIn K C) := by
  refine F.ok scFIn (fun vs H Q E h => ?_) (fun cdv A outer s H vs Q E hr h => ?_)
  · obtain ⟨a, ys, _, _, _, x, rfl, _⟩ := h
    rfl
  · obtain ⟨a, ys, TT, G, R, x, rfl, ⟨dx, D, ea, eD, _⟩, k⟩ := h
    refine ⟨_, pss_one (ps_ret (pe_and (pe_callB call_isi (by rfl) T.isi (by decide +kernel) (pa_cons (pv 1) (pa_cons (pe_bltn (by rfl) T.str (by decide +kernel) (v := .ty "str") rfl) pa_nil)))
      (pe_one (pe_cmp (pc_din (hu_of hr) (pv 1) (pe_fld (pv 0) rfl)) (by rfl))))), ?_⟩
    rcases k with ⟨z, rfl, k⟩ | ⟨t, ty, e, k⟩
    · refine ⟨_, rfl, _, _, _, _, true, rfl, .ty _, .base (.str z), kit_ty (by decide +kernel), _, rfl, iteT ?_⟩
      refine ⟨_, rfl, _, rfl, a, C, dx, _, _, rfl, ea, T.cl, T.nL, frF_legs _ _ _ _, D, _, rfl, DGet.k (k := Sum.inr z) eD, ?_⟩
      rw [valV_in]
      exact k
    · exact ⟨_, rfl, _, _, _, _, false, rfl, .ty _, ty, kit_ty e, _, rfl, iteF k⟩
end
end Sj
namespace Sj
open PySem L2 Sup StK Own
open NdefX (NF NScope ncx envF startF nscope_by)
open C8 (pss_cut tCut)
/-! Frame's properties (k03, k05, ..) -/
theorem same_at {H : Hp} {a : Addr} {o : HO} (h : H a = none) : Same H (upd H a o) := fun b u e => by rw [upd_ne (ne_of_none e h)]; exact e
/-- a frame as data -/
structure FrD where
  ys : List LegR
  t : Int
  g : Bool
  r : Bool
structure FrIs (ks : Kinds) (CF : Addr) (H : Hp) (a : Addr) (d : FrD) : Prop where
  at_ : FrAt H a CF d.ys (.int d.t) (.bl d.g) (.bl d.r)
  ok : ∀ r ∈ d.ys, r.ok ks H
  nd : (names d.ys).Nodup
  le : d.ys.length ≤ 40
  so : PyProof.Rows.sortedS (names d.ys) = true
theorem FrIs.same {ks : Kinds} {CF : Addr} {H H' : Hp} {a : Addr} {d : FrD} (h : FrIs ks CF H a d) (s : Same H H') : FrIs ks CF H' a d := ⟨h.at_.same s, fun r hr => (h.ok r hr).same s, h.nd, h.le, h.so⟩
def strv (zs : List Str) : List V := zs.map V.str
/-- the names of the legs of the kind b -/
def kindZ (ks : Kinds) (b : Bool) (ys : List LegR) : List Str := names (ys.filter fun r => decide (r.C = ks.drv) == b)
def railsZ (g r : Bool) : List Str := (if g then [("ground" : Str)] else []) ++ if r then [("power" : Str)] else []
/-- a getter that makes a new tuple of texts -/
def spTup (ks : Kinds) (CF : Addr) (f : FrD → List Str) : Sp := fun vs H Q _ => ∃ a d, vs = [.ref a] ∧ FrIs ks CF H a d ∧ ∀ p H', H p = none → H' p = some (.tup (strv (f d))) → Same H H' → Q (.ref p) H'
def spLegs (ks : Kinds) (CF : Addr) : Sp := fun vs H Q _ => ∃ a d, vs = [.ref a] ∧ FrIs ks CF H a d ∧ ∀ p H', H p = none → H' p = some (.tup (refs d.ys)) → Same H H' → Q (.ref p) H'
structure FpT (P : Program) (w : World) (K : PySem.W.Frag) (mg : Str → Option Value) (base : Heap) (ks : Kinds) (CF : Addr) : Prop where
  cl : Cls K CF
  nL : NoAttr K CF "_legs"
  nG : NoAttr K CF "ground"
  nP : NoAttr K CF "power"
  tuple : mg "tuple" = none
  sorted : mg "sorted" = none
  dv : ∀ C, (C = ks.drv ∨ C = ks.lis) → PropN P w K mg base 1 C "drives" (spDr C (decide (C = ks.drv)))
def rTupQ (K : PySem.W.Frag) : List V → Hp → VK → Prop := fun xs H Q => ∃ p ys, xs = [.ref p] ∧ ((SqL K H p ys ∧ ∀ l, H l = none → Q (.ref l) (upd H l (.tup ys))) ∨ (SqT K H p ys ∧ Q (.ref p) H))
section
variable {P : Program} {w : World} {K : PySem.W.Frag} {mg : Str → Option Value} {base : Heap}
theorem scFp (i : Nat) (h : defScope (sFr i) = defScope (sFr 3)) : FnScope ["self"] ["self"] (defScope (sFr i)) := by
  rw [h]
  exact ⟨rfl, rfl, rfl, by decide +kernel, rfl, by decide +kernel, by decide +kernel⟩
theorem ok_flegs {f CF : Addr} {fd : FuncData} {ks : Kinds} (F : Fun K "legs" "Frame.legs" (sFr 3) f fd) (T : FpT P w K mg base ks CF) : FnOk P w K mg base CX0 1 f fd ["self"] (spLegs ks CF) := by
  refine F.ok (scFp 3 rfl) (fun vs H Q E h => ?_) (fun cdv A outer s H vs Q E hr h => ?_)
  · obtain ⟨a, d, rfl, _⟩ := h
    rfl
  · obtain ⟨a, d, rfl, hF, k⟩ := h
    obtain ⟨dx, D, ea, eD, _⟩ := hF.at_
    refine ⟨_, pss_one (ps_ret (TupD.pe_tup_vals rfl (by rfl) T.tuple (pe_fld (pv 0) rfl))), ?_⟩
    refine ⟨_, rfl, a, CF, dx, _, _, rfl, ea, T.cl, T.nL, frF_legs _ _ _ _, D, _, rfl, eD, fun q hq => k q _ hq ?_ (same_at hq)⟩
    rw [upd_same, List.map_map]
    rfl
theorem ok_fnames {f CF : Addr} {fd : FuncData} {ks : Kinds} (F : Fun K "names" "Frame.names" (sFr 4) f fd) (T : FpT P w K mg base ks CF) : FnOk P w K mg base CX0 1 f fd ["self"] (spTup ks CF fun d => names d.ys) := by
  refine F.ok (scFp 4 rfl) (fun vs H Q E h => ?_) (fun cdv A outer s H vs Q E hr h => ?_)
  · obtain ⟨a, d, rfl, _⟩ := h
    rfl
  · obtain ⟨a, d, rfl, hF, k⟩ := h
    obtain ⟨dx, D, ea, eD, _⟩ := hF.at_
    refine ⟨_, pss_one (ps_ret (pe_callTy (T := "tuple") (TupD.call_tup_dK rfl) (by rfl) T.tuple (by decide +kernel) (pa_cons (pe_fld (pv 0) rfl) pa_nil))), ?_⟩
    refine ⟨_, rfl, a, CF, dx, _, _, rfl, ea, T.cl, T.nL, frF_legs _ _ _ _, D, _, rfl, eD, fun q hq => k q _ hq ?_ (same_at hq)⟩
    rw [upd_same, List.map_map]
    show _ = some (HO.tup ((d.ys.map _).map _))
    rw [List.map_map]
    rfl
theorem kindZ_take {ks : Kinds} {b : Bool} {ys : List LegR} {i : Nat} (hi : i < ys.length) : kindZ ks b (ys.take (i + 1)) = kindZ ks b (ys.take i) ++ if (decide (ys[i].C = ks.drv) == b) = true then [ys[i].z] else [] := by
  unfold kindZ names
  rw [List.take_add_one, List.getElem?_eq_getElem hi, List.filter_append, List.map_append]
  congr 1
  show List.map _ (List.filter _ [ys[i]]) = _
  rw [List.filter_cons]
  by_cases e : (decide (ys[i].C = ks.drv) == b) = true
  · rw [if_pos e, if_pos e]
    rfl
  · rw [if_neg e, if_neg e]
    rfl
def tePl (ks : Kinds) : TE := tPropS (fun C => C = ks.drv ∨ C = ks.lis) (fun C => spDr C (decide (C = ks.drv))) (tVar 2)
def ttPl (ks : Kinds) (b : Bool) : TT := if b then tB (tePl ks) else tNot (tB (tePl ks))
theorem tePl_rd {ks : Kinds} {σ : L2.St} {H : Hp} {r : LegR} {Q : VK} (hv : σ[2]? = some (some (.ref r.a))) (hr : r.ok ks H) (k : Q (.bl (decide (r.C = ks.drv))) H) : tePl ks σ H Q := by
  obtain ⟨hc, dx, ea⟩ := id hr
  exact ⟨_, hv, r.a, r.C, dx, _, rfl, ea, hc, r.a, r.z, rfl, ⟨dx, ea⟩, k⟩
theorem ttPl_rd {ks : Kinds} {b : Bool} {σ : L2.St} {H : Hp} {r : LegR} {Q : Bool → Hp → Prop} (hv : σ[2]? = some (some (.ref r.a))) (hr : r.ok ks H) (k : Q (decide (r.C = ks.drv) == b) H) : ttPl ks b σ H Q := by
  unfold ttPl
  cases b with
  | true =>
    rw [if_pos rfl]
    refine tePl_rd hv hr ⟨_, rfl, ?_⟩
    rw [beq_true] at k
    exact k
  | false =>
    rw [if_neg Bool.false_ne_true]
    refine tePl_rd hv hr ⟨_, rfl, ?_⟩
    rw [beq_false] at k
    exact k
/-- [name for name, leg in self._legs.items() if .. leg.drives], the dict locked at HL -/
theorem kind_walk {ks : Kinds} {b : Bool} {ys : List LegR} {D Dn : Addr} {od : Obj} {HL : Hp} {σ : L2.St} {Qd : Hp → Prop} (hσ : σ.length = 3) (hD : HL D = some (.frz od (.dK (ys.map legRow)))) (hn : HL Dn = none) (hok : ∀ r ∈ ys, r.ok ks HL) (hl : ys.length ≤ 40)
    (hd : ∀ H', Same HL H' → H' Dn = some (.lst (strv (kindZ ks b ys))) → Qd H') :
    ∃ W : Nat → Nat → Hp → Prop, (∃ m, W 0 m (upd HL Dn (.lst []))) ∧ ∀ i m H, W i m H →
      ((Iti D od (ys.map legRow)).stop i H ∧ Qd H) ∨ ((Iti D od (ys.map legRow)).go i H ∧ ∃ Nx : Hp → Prop, (∀ H', Nx H' → ∃ m', m' < m ∧ W (i + 1) m' H') ∧ ∀ x H', (Iti D od (ys.map legRow)).yld i H x H' → gTup K 2 (gCons (gName 1) (gCons (gName 2) gNil)) x (wipe σ [1, 2]) H' fun σ2 H2 => wipe σ2 [1, 2] = wipe σ [1, 2] ∧ ttPl ks b σ2 H2 fun c H3 =>
        if c = true then tVar 1 σ2 H3 fun y H4 => ∃ acc, H4 Dn = some (.lst acc) ∧ acc.length < sizeLine ∧ Nx (upd H4 Dn (.lst (acc ++ [y]))) else Nx H3) := by
  match σ, hσ with
  | [u0, u1, u2], _ =>
  have hlm : (ys.map legRow).length = ys.length := List.length_map _
  refine lc_it (walk_items (d := D) (o := od) (kvs := ys.map legRow)) (fun i H' => Same HL H' ∧ H' Dn = some (.lst (strv (kindZ ks b (ys.take i))))) ⟨same_at hn, upd_same⟩ (fun i H' _ p => p.1 _ _ hD) ?_ ?_
  · rintro i x H1 H2 hi ⟨s1, d1⟩ ⟨Tp, kx, vx, rfl, hT, rfl, hk, hv⟩
    rw [hlm] at hi
    have e1 : (ys.map legRow)[i]? = some (legRow ys[i]) := by rw [List.getElem?_map, List.getElem?_eq_getElem hi]; rfl
    dsimp only at hk hv
    rw [e1] at hk hv
    obtain rfl : V.str ys[i].z = kx := Option.some.inj hk
    obtain rfl : V.ref ys[i].a = vx := Option.some.inj hv
    have s2 : Same HL (upd H1 Tp (.tup [.str ys[i].z, .ref ys[i].a])) := s1.trans (same_at hT)
    have d2 : upd H1 Tp (.tup [.str ys[i].z, .ref ys[i].a]) Dn = some (.lst (strv (kindZ ks b (ys.take i)))) := by rw [upd_ne (ne_of_none d1 hT)]; exact d1
    refine ⟨Tp, _, rfl, SqT.of upd_same, rfl, _, _, rfl, _, _, rfl, rfl, rfl, ?_⟩
    refine ttPl_rd rfl ((hok _ (List.getElem_mem hi)).same s2) ?_
    have et := kindZ_take (ks := ks) (b := b) hi
    by_cases e : (decide (ys[i].C = ks.drv) == b) = true
    · rw [if_pos e] at et ⊢
      refine ⟨_, rfl, _, d2, ?_, fun c o hc => ?_, ?_⟩
      · have q : (kindZ ks b (ys.take i)).length ≤ 40 := by
          unfold kindZ names
          rw [List.length_map]
          exact Nat.le_trans (List.length_filter_le _ _) (by rw [List.length_take]; omega)
        show (List.map V.str _).length < _
        rw [List.length_map]
        exact Nat.lt_of_le_of_lt q (by decide)
      · rw [upd_ne (ne_of_none hc hn)]
        exact s2 _ _ hc
      · rw [upd_same, et]
        show _ = some (HO.lst (List.map V.str _))
        rw [List.map_append]
        rfl
    · rw [if_neg e] at et ⊢
      rw [List.append_nil] at et
      exact ⟨s2, by rw [et]; exact d2⟩
  · rintro H1 ⟨s1, d1⟩
    rw [hlm, List.take_length] at d1
    exact hd H1 s1 d1
/-- behind the lock -/
theorem same_unlock {H H1 : Hp} {D : Addr} {od : Obj} {u : HO} (hD : H D = some u) (s : Same (upd H D (.frz od u)) H1) : Same H (upd H1 D u) := fun b o e => by
  by_cases z : b = D
  · rw [z] at e ⊢
    rw [upd_same, ← e, hD]
  · rw [upd_ne z]
    exact s _ _ (by rw [upd_ne z]; exact e)
theorem scFk (i : Nat) (h : defScope (sFr i) = defScope (sFr 5)) : FnScope ["self", "name", "leg"] ["self"] (defScope (sFr i)) := by
  rw [h]
  exact ⟨rfl, rfl, rfl, by decide +kernel, rfl, by decide +kernel, by decide +kernel⟩
theorem kind_rd {ks : Kinds} {CF : Addr} {b : Bool} {a : Addr} {d : FrD} {H : Hp} {Q : VK} (cl : Cls K CF) (nL : NoAttr K CF "_legs") (hF : FrIs ks CF H a d) (k : ∀ p H', H p = none → H' p = some (.tup (strv (kindZ ks b d.ys))) → Same H H' → Q (.ref p) H') :
    tLockE (tCB (rTupQ K) (tCons (tLc (iItems (tFld K (tVar 0) "_legs")) (gTup K 2 (gCons (gName 1) (gCons (gName 2) gNil))) (ttPl ks b) (tVar 1) [1, 2]) tNil)) (start ["self", "name", "leg"] [.ref a]) H Q := by
  obtain ⟨dx, D, ea, eD, hne⟩ := hF.at_
  refine ⟨D, _, eD, trivial, fun od => ?_⟩
  obtain ⟨HL, eL⟩ : ∃ HL, HL = upd H D (.frz od (.dK (d.ys.map legRow))) := ⟨_, rfl⟩
  rw [← eL]
  have hDL : HL D = some (.frz od (.dK (d.ys.map legRow))) := by rw [eL, upd_same]
  have haL : HL a = some (.ins CF dx (frF D (.int d.t) (.bl d.g) (.bl d.r))) := by rw [eL, upd_ne (Ne.symm hne)]; exact ea
  have hokL : ∀ r ∈ d.ys, r.ok ks HL := fun r hr => by
    obtain ⟨h1, dy, e⟩ := hF.ok r hr
    exact ⟨h1, dy, by rw [eL, upd_ne (ne_of e eD (by intro z; cases z))]; exact e⟩
  refine ⟨_, rfl, a, CF, dx, _, _, rfl, haL, cl, nL, frF_legs _ _ _ _, D, od, _, rfl, hDL, fun Dn hDn => ?_⟩
  refine kind_walk rfl hDL hDn hokL hF.le fun H1 s1 d1 => ⟨Dn, _, rfl, .inl ⟨SqL.of d1, fun p hp => ⟨?_, ?_⟩⟩⟩
  · rw [upd_ne (ne_of_none (s1 _ _ hDL) hp)]
    exact s1 _ _ hDL
  · have hpD : p ≠ D := fun z => by rw [z, s1 _ _ hDL] at hp; cases hp
    refine k p _ ?_ (by rw [upd_ne hpD, upd_same]) (same_unlock eD (by rw [← eL]; exact s1.trans (same_at hp)))
    cases q : H p with
    | none => rfl
    | some o =>
      have e1 : HL p = some o := by rw [eL, upd_ne hpD]; exact q
      rw [s1 _ _ e1] at hp
      cases hp
theorem ok_fdrv {f CF : Addr} {fd : FuncData} {ks : Kinds} (F : Fun K "drivers" "Frame.drivers" (sFr 5) f fd) (T : FpT P w K mg base ks CF) : FnOk P w K mg base CX0 3 f fd ["self"] (spTup ks CF fun d => kindZ ks true d.ys) := by
  refine F.ok (scFk 5 rfl) (fun vs H Q E h => ?_) (fun cdv A outer s H vs Q E hr h => ?_)
  · obtain ⟨a, d, rfl, _⟩ := h
    rfl
  · obtain ⟨a, d, rfl, hF, k⟩ := h
    refine ⟨_, pss_one (ps_ret (pe_lock (pe_callTy (T := "tuple") call_tuple_of (by rfl) T.tuple (by decide +kernel) (pa_cons (pe_lc (te := tVar 1) (tt := ttPl ks true) (own := [("name", 1), ("leg", 2)]) (g := gTup K 2 (gCons (gName 1) (gCons (gName 2) gNil))) rfl (scFk 5 rfl).nd (pi_items (pe_fld (pv 0) rfl))
      (blkOk_by (N := ["self", "name", "leg"]) (sc := defScope (sFr 5)) (by decide +kernel)) (fun _ _ _ _ _ => pg_tup rfl (pgs_cons (pg_name (i := 1) (scFk 5 rfl).nd rfl (Or.inl rfl)) (pgs_cons (pg_name (i := 2) (scFk 5 rfl).nd rfl (Or.inl rfl)) pgs_nil)))
      (fun _ _ _ _ _ => pts_one (pt_val (pe_propS (pv 2) T.dv hr))) (fun _ _ _ _ _ => pv 1)) pa_nil)))), ?_⟩
    exact kind_rd T.cl T.nL hF k
theorem ok_flis {f CF : Addr} {fd : FuncData} {ks : Kinds} (F : Fun K "listeners" "Frame.listeners" (sFr 6) f fd) (T : FpT P w K mg base ks CF) : FnOk P w K mg base CX0 3 f fd ["self"] (spTup ks CF fun d => kindZ ks false d.ys) := by
  refine F.ok (scFk 6 rfl) (fun vs H Q E h => ?_) (fun cdv A outer s H vs Q E hr h => ?_)
  · obtain ⟨a, d, rfl, _⟩ := h
    rfl
  · obtain ⟨a, d, rfl, hF, k⟩ := h
    refine ⟨_, pss_one (ps_ret (pe_lock (pe_callTy (T := "tuple") call_tuple_of (by rfl) T.tuple (by decide +kernel) (pa_cons (pe_lc (te := tVar 1) (tt := ttPl ks false) (own := [("name", 1), ("leg", 2)]) (g := gTup K 2 (gCons (gName 1) (gCons (gName 2) gNil))) rfl (scFk 6 rfl).nd (pi_items (pe_fld (pv 0) rfl))
      (blkOk_by (N := ["self", "name", "leg"]) (sc := defScope (sFr 6)) (by decide +kernel)) (fun _ _ _ _ _ => pg_tup rfl (pgs_cons (pg_name (i := 1) (scFk 6 rfl).nd rfl (Or.inl rfl)) (pgs_cons (pg_name (i := 2) (scFk 6 rfl).nd rfl (Or.inl rfl)) pgs_nil)))
      (fun _ _ _ _ _ => pts_one (pt_not (pt_val (pe_propS (pv 2) T.dv hr)))) (fun _ _ _ _ _ => pv 1)) pa_nil)))), ?_⟩
    exact kind_rd T.cl T.nL hF k
end
end Sj
namespace Sj
open PySem L2 Sup StK Own Grd Exg Shw
open NdefX (NF NScope ncx envF startF nscope_by)
open C8 (pss_cut tCut)
/-! Frame.rails, members, [] (k03, k05, ..) -/
theorem fun_gX {P : Program} {w : World} {K : PySem.W.Frag} {mg : Str → Option Value} {base : Heap} {k : Nat} {f : Addr} {fd : FuncData} {ps N : List Str} {sp : Sp} {x qual : Str} {st : Stmt} (F : Fun K x qual st f fd) (S : FnScope N ps (defScope st)) (len : ∀ vs H Q E, sp vs H Q E → vs.length = ps.length)
    (hbody : ∀ (cdv : Value) (A : Around) (outer : List Env) (s : Shared) (H : Hp) (vs : List V) (Q : VK) (E : XK), A.guards = some [] → Room k (A.deeper (PyProof.Rows.envOfC qual (defScope st) s.heap.objs.size f cdv)) → sp vs H Q E →
      ∃ t, PSs (cxOf (L2.CX P w) P w K mg base N qual (defScope st) f cdv A outer s H E) (defBody st) t ∧ t { nx := fun _ H' => Q .non H', rt := Q } (start N vs) H) : FnG P w K mg base (L2.CX P w) (k + 1) f fd ps sp := by
  obtain ⟨oc, od, kV, doc, pm, an, cdv, ct, osl, rfl, lk, hcd⟩ := F.ex
  refine ⟨len, fun A outer s H args us vs Q E hg hr e0 hb r hsp => ?_⟩
  refine LamX.run_ofS (CX := L2.CX P w) lk hcd S hr e0 hb r (len _ _ _ _ hsp) fun hr1 => ?_
  obtain ⟨t, ht, hq⟩ := hbody cdv A outer s H vs Q E hg hr1 hsp
  exact ⟨t, ht, hq⟩
def rowsR (g r : Bool) : List (Key × V) := [(Sum.inr "ground", .bl g), (Sum.inr "power", .bl r)]
theorem rowsR_merge (g r : Bool) : mergeK [] (rowsR g r) = rowsR g r := by
  unfold rowsR mergeK putK
  simp +decide
def ttRl : TT := tB (tDGet (tVar 1) (tVar 2))
def railsP (g r : Bool) : Nat → List Str
  | 0 => []
  | 1 => if g then [("ground" : Str)] else []
  | _ => railsZ g r
section
variable {P : Program} {w : World} {K : PySem.W.Frag} {mg : Str → Option Value} {base : Heap}
theorem scFr7 : FnScope ["self", "there", "name"] ["self"] (defScope (sFr 7)) := ⟨rfl, rfl, rfl, by decide +kernel, rfl, by decide +kernel, by decide +kernel⟩
theorem ok_frails {f CF : Addr} {fd : FuncData} {ks : Kinds} (F : Fun K "rails" "Frame.rails" (sFr 7) f fd) (T : FpT P w K mg base ks CF) : FnOk P w K mg base CX0 1 f fd ["self"] (spTup ks CF fun d => railsZ d.g d.r) := by
  refine F.ok scFr7 (fun vs H Q E h => ?_) (fun cdv A outer s H vs Q E hr h => ?_)
  · obtain ⟨a, d, rfl, _⟩ := h
    rfl
  · obtain ⟨a, d, rfl, hF, k⟩ := h
    obtain ⟨dx, D, ea, eD, _⟩ := hF.at_
    refine ⟨_, pss_cons (ps_set (i := 1) scFr7.nd rfl (Or.inr rfl) (pe_disp (pps_cons pe_str (pe_fld (pv 0) rfl) (pps_cons pe_str (pe_fld (pv 0) rfl) pps_nil)) (by rfl) (by rfl) (fun z => by cases z) (by decide)))
      (pss_one (ps_ret (pe_lock (pe_callTy (T := "tuple") call_tuple_of (by rfl) T.tuple (by decide +kernel) (pa_cons (pe_lc (te := tVar 2) (tt := ttRl) (own := [("name", 2)]) (g := gName 2) rfl scFr7.nd (pi_keys (pv 1))
        (blkOk_by (N := ["self", "there", "name"]) (sc := defScope (sFr 7)) (by decide +kernel)) (fun _ _ _ _ _ => pg_name (i := 2) scFr7.nd rfl (Or.inl rfl)) (fun _ _ _ _ _ => pts_one (pt_val (pe_dget (hu_of hr) (pv 1) (pv 2) (fun _ _ => rfl)))) (fun _ _ _ _ _ => pv 2)) pa_nil))))), ?_⟩
    refine fun p hp => ?_
    have hap : a ≠ p := ne_of_none ea hp
    have ea1 : upd H p (.dK []) a = some (.ins CF dx (frF D (.int d.t) (.bl d.g) (.bl d.r))) := by rw [upd_ne hap]; exact ea
    refine ⟨_, rfl, a, CF, dx, _, _, rfl, ea1, T.cl, T.nG, frF_ground _ _ _ _, _, rfl, a, CF, dx, _, _, rfl, ea1, T.cl, T.nP, frF_power _ _ _ _, upd_same, rowsR d.g d.r, rfl, (by show 2 ≤ 15; decide), ?_⟩
    rw [rowsR_merge]
    obtain ⟨H1, e1⟩ : ∃ H1, H1 = upd (upd H p (.dK [])) p (.dK (rowsR d.g d.r)) := ⟨_, rfl⟩
    rw [← e1]
    have hp1 : H1 p = some (.dK (rowsR d.g d.r)) := by rw [e1, upd_same]
    have s1 : Same H H1 := fun b o e => by
      have n := ne_of_none e hp
      rw [e1, upd_ne n, upd_ne n]
      exact e
    refine ⟨p, _, hp1, trivial, fun od => ?_⟩
    obtain ⟨HL, eL⟩ : ∃ HL, HL = upd H1 p (.frz od (.dK (rowsR d.g d.r))) := ⟨_, rfl⟩
    rw [← eL]
    have hpL : HL p = some (.frz od (.dK (rowsR d.g d.r))) := by rw [eL, upd_same]
    refine ⟨_, rfl, p, od, rfl, .inl ⟨_, hpL, fun Dn hDn => ?_⟩⟩
    refine lc_it (walk_keys (d := p) (o := od) (kvs := rowsR d.g d.r)) (fun i H' => Same HL H' ∧ H' Dn = some (.lst (strv (railsP d.g d.r i)))) ⟨same_at hDn, upd_same⟩ (fun i H' _ q => q.1 _ _ hpL) ?_ ?_
    · rintro i x H2 H3 hi ⟨s2, d2⟩ ⟨rfl, kk, vv, hkv, rfl⟩
      refine ⟨rfl, ?_⟩
      have hget : ∀ (z : Str) (v : Bool), valV (rowsR d.g d.r) (Sum.inr z) = some (.bl v) → DGet H3 p (.str z) (some (.bl v)) := fun z v e => .inl ⟨rowsR d.g d.r, Sum.inr z, .inr ⟨od, s2 _ _ hpL⟩, rfl, e.symm⟩
      have go : ∀ (z : Str) (v : Bool) (acc acc' : List Str), valV (rowsR d.g d.r) (Sum.inr z) = some (.bl v) → H3 Dn = some (.lst (strv acc)) → acc.length ≤ 2 → acc' = acc ++ (if v then [z] else []) →
          ttRl [some (.ref a), some (.ref p), some (.str z)] H3 fun b H4 => if b = true then tVar 2 [some (.ref a), some (.ref p), some (.str z)] H4 fun y H5 => ∃ ac, H5 Dn = some (.lst ac) ∧ ac.length < sizeLine ∧ (Same HL (upd H5 Dn (.lst (ac ++ [y]))) ∧ (upd H5 Dn (.lst (ac ++ [y]))) Dn = some (.lst (strv acc'))) else Same HL H4 ∧ H4 Dn = some (.lst (strv acc')) := by
        intro z v acc acc' hv hd hl he
        refine ⟨_, rfl, _, rfl, p, _, rfl, hget z v hv, _, rfl, ?_⟩
        cases v with
        | true =>
          refine ⟨_, rfl, _, hd, ?_, fun c o hc => ?_, ?_⟩
          · show (List.map V.str acc).length < _
            rw [List.length_map]
            exact Nat.lt_of_le_of_lt hl (by decide)
          · rw [upd_ne (ne_of_none hc hDn)]
            exact s2 _ _ hc
          · rw [upd_same, he]
            show _ = some (HO.lst (List.map V.str _))
            rw [List.map_append]
            rfl
        | false =>
          refine ⟨s2, ?_⟩
          rw [he, if_neg Bool.false_ne_true, List.append_nil]
          exact hd
      match i, hi, hkv, d2 with
      | 0, _, hkv, d2 =>
        obtain ⟨rfl, rfl⟩ : Sum.inr ("ground" : Str) = kk ∧ V.bl d.g = vv := by have := Option.some.inj hkv; exact ⟨congrArg Prod.fst this, congrArg Prod.snd this⟩
        exact go "ground" d.g [] (railsP d.g d.r 1) rfl d2 (by decide) rfl
      | 1, _, hkv, d2 =>
        obtain ⟨rfl, rfl⟩ : Sum.inr ("power" : Str) = kk ∧ V.bl d.r = vv := by have := Option.some.inj hkv; exact ⟨congrArg Prod.fst this, congrArg Prod.snd this⟩
        refine go "power" d.r (railsP d.g d.r 1) (railsP d.g d.r 2) rfl d2 ?_ rfl
        show (if d.g then [("ground" : Str)] else []).length ≤ 2
        cases d.g <;> decide
    · rintro H2 ⟨s2, d2⟩
      refine ⟨Dn, _, rfl, .inl ⟨SqL.of d2, fun q hq => ⟨?_, ?_⟩⟩⟩
      · rw [upd_ne (ne_of_none (s2 _ _ hpL) hq)]
        exact s2 _ _ hpL
      · have hqp : q ≠ p := fun z => by rw [z, s2 _ _ hpL] at hq; cases hq
        refine k q _ ?_ (by rw [upd_ne hqp, upd_same]; rfl) (s1.trans (same_unlock hp1 (by rw [← eL]; exact s2.trans (same_at hq))))
        refine s1.free ?_
        cases z : H1 q with
        | none => rfl
        | some o =>
          have e2 : HL q = some o := by rw [eL, upd_ne hqp]; exact z
          rw [s2 _ _ e2] at hq
          cases hq
end
end Sj
namespace Sj
open PySem L2 Sup StK Own Grd Exg Shw
open NdefX (NF NScope ncx envF startF nscope_by)
open C8 (pss_cut tCut)
/-! Frame.members, [], == (k03, k05, ..) -/
theorem FrIs.ins {ks : Kinds} {CF : Addr} {H : Hp} {a : Addr} {d : FrD} (h : FrIs ks CF H a d) : ∃ dx fs, H a = some (.ins CF dx fs) := by
  obtain ⟨dx, D, ea, _⟩ := h.at_
  exact ⟨dx, _, ea⟩
/-- the names of all elements, in order -/
def Mem (d : FrD) (ms : List Str) : Prop := ms.Perm (names d.ys ++ railsZ d.g d.r) ∧ PyProof.Rows.sortedS ms = true
def spMem (ks : Kinds) (CF : Addr) : Sp := fun vs H Q _ => ∃ a d, vs = [.ref a] ∧ FrIs ks CF H a d ∧ ∀ ms p H', Mem d ms → H p = none → H' p = some (.tup (strv ms)) → Same H H' → Q (.ref p) H'
/-- what is no name of a leg -/
def NotLeg (K : PySem.W.Frag) (H : Hp) (x : V) (d : FrD) : Prop := (∃ z : Str, x = .str z ∧ z ∉ names d.ys) ∨ ∃ t : String, TyX K H x (.type t) ∧ kitB t "str" = some false
def spFIs (K : PySem.W.Frag) (ks : Kinds) (CF : Addr) : Sp := fun vs H Q _ => ∃ a d x, vs = [.ref a, x] ∧ FrIs ks CF H a d ∧ ((∃ z : Str, x = .str z ∧ z ∈ names d.ys ∧ Q (.bl true) H) ∨ (NotLeg K H x d ∧ Q (.bl false) H))
/-- self[at] -/
def spFGet (K : PySem.W.Frag) (ks : Kinds) (CF CN : Addr) : Sp := fun vs H Q E => ∃ a d x, vs = [.ref a, x] ∧ FrIs ks CF H a d ∧ ((∃ r ∈ d.ys, x = .str r.z ∧ Q (.ref r.a) H) ∨
  (NotLeg K H x d ∧ ∃ pd, Dq K H x pd ∧ Smalls pd ∧ ∀ e H', H e = none → H' e = some (.xd [("name", x)]) → Same H H' → E (.ref CN) (some e) H'))
/-- what raise NoLeg(x) asks -/
structure NlT (P : Program) (w : World) (K : PySem.W.Frag) (mg : Str → Option Value) (base : Heap) (CN fN : Addr) : Prop where
  oex : Oex K CN "LookupError" "LookupError.__new__" tlL
  iC : PySem.W.findIn K (.ref CN) "__init__" = some (some (.ref fN))
  tI : PySem.W.typeIn K (.ref fN) = some (.type "function")
  init : ∃ fd, FnG P w K mg base CX0 1 fN fd ["self", "name"] (spOne K CN "name") ∧ Binds K fd ["self", "name"] []
  mN : mg "NoLeg" = some (.ref CN)
theorem spFIs_of {K : PySem.W.Frag} {ks : Kinds} {CF : Addr} {vs : List V} {H : Hp} {Q : VK} {E : XK} (h : spFIs K ks CF vs H Q E) : spFIn K CF vs H Q E := by
  obtain ⟨a, d, x, rfl, hF, h⟩ := h
  refine ⟨a, d.ys, _, _, _, x, rfl, hF.at_, ?_⟩
  rcases h with ⟨z, rfl, hz, k⟩ | ⟨hn, k⟩
  · refine .inl ⟨z, rfl, ?_⟩
    rw [decide_eq_true hz]
    exact k
  · rcases hn with ⟨z, rfl, hz⟩ | ⟨t, ty, e⟩
    · refine .inl ⟨z, rfl, ?_⟩
      rw [decide_eq_false hz]
      exact k
    · exact .inr ⟨t, ty, e, k⟩
section
variable {P : Program} {w : World} {K : PySem.W.Frag} {mg : Str → Option Value} {base : Heap}
theorem ok_fget {f CF CN fN : Addr} {fd : FuncData} {ks : Kinds} (F : Fun K "__getitem__" "Frame.__getitem__" (sFr 10) f fd) (cl : Cls K CF) (nL : NoAttr K CF "_legs") (TI : MetG P w K mg base CX0 1 CF "__contains__" ["self", "x"] (spFIs K ks CF)) (T : NlT P w K mg base CN fN) :
    FnG P w K mg base (L2.CX P w) 3 f fd ["self", "at"] (spFGet K ks CF CN) := by
  obtain ⟨fdN, GN, bN⟩ := T.init
  have sc : FnScope ["self", "at"] ["self", "at"] (defScope (sFr 10)) := ⟨rfl, rfl, rfl, by decide +kernel, rfl, by decide +kernel, by decide +kernel⟩
  refine fun_gX F sc (fun vs H Q E h => ?_) (fun cdv A outer s H vs Q E hg hr h => ?_)
  · obtain ⟨a, d, x, rfl, _⟩ := h
    rfl
  · obtain ⟨a, d, x, rfl, hF, h⟩ := h
    obtain ⟨dx, D, ea, eD, _⟩ := hF.at_
    refine ⟨_, pss_cons (ps_if (pt_cmpR (op_notInO TI hg (hr.mono (by decide))) (pv 1) (pv 0) (by rfl)) (pss_one (ps_raise rfl (takes_of rfl rfl rfl rfl) (pmk_e bL T.oex T.iC T.tI GN hg hr bN rfl T.mN (pa_cons (pv 1) pa_nil)))) pss_nil)
      (pss_one (ps_ret (pe_dget (hu_of hr) (pe_fld (pv 0) rfl) (pv 1) (fun _ _ => rfl)))), ?_⟩
    rcases h with ⟨r, hr', rfl, k⟩ | ⟨hn, pd, hpd, sm, k⟩
    · refine ⟨_, rfl, _, rfl, a, dx, _, rfl, ea, a, d, _, rfl, hF, .inl ⟨r.z, rfl, List.mem_map.mpr ⟨r, hr', rfl⟩, true, rfl, _, rfl, ?_⟩⟩
      refine iteF ⟨_, rfl, a, CF, dx, _, _, rfl, ea, cl, nL, frF_legs _ _ _ _, _, rfl, D, _, rfl, ?_, k⟩
      rw [← valV_rows d.ys r hF.nd hr']
      exact DGet.k (k := Sum.inr r.z) eD
    · refine ⟨_, rfl, _, rfl, a, dx, _, rfl, ea, a, d, x, rfl, hF, .inr ⟨hn, false, rfl, _, rfl, ?_⟩⟩
      refine iteT ?_
      exact raise_one (fun Q' q => ⟨_, rfl, q⟩) hpd sm (Same.refl H) (fun b hb => Dq.same (same_at hb) _ _ hpd) k
end
end Sj
namespace Sj
open PySem L2 Sup StK Own Grd Exg Shw
open NdefX (NF NScope ncx envF startF nscope_by)
open C8 (pss_cut tCut)
/-! Frame.__eq__ (k03, k05, ..) -/
/-- alike: name and kind -/
def eqLegs (ys zs : List LegR) : Bool := (ys.length == zs.length) && ys.all fun p => zs.any fun q => decide (q.z = p.z) && decide (q.C = p.C)
def eqFr (d e : FrD) : Bool := decide (d.t = e.t) && (decide (d.g = e.g) && decide (d.r = e.r)) && eqLegs d.ys e.ys
def spFEq (K : PySem.W.Frag) (ks : Kinds) (CF : Addr) : Sp := fun vs H Q _ => ∃ a d y, vs = [.ref a, y] ∧ FrIs ks CF H a d ∧ ((∃ b e, y = .ref b ∧ FrIs ks CF H b e ∧ ∀ H', Same H H' → Q (.bl (eqFr d e)) H') ∨ ∃ t, TyX K H y t ∧ PySem.W.kitOne K t (.ref CF) = some false ∧ ∀ H', Same H H' → Q (.bl false) H')
/-- what == of legs asks -/
structure LqT (P : Program) (w : World) (K : PySem.W.Frag) (mg : Str → Option Value) (base : Heap) (ks : Kinds) : Prop where
  eq : ∀ C, (C = ks.drv ∨ C = ks.lis) → EqN P w K mg base 1 C (spEq K C)
  ic : ∀ C, (C = ks.drv ∨ C = ks.lis) → IsiC K C
  nf : ∀ C D, (C = ks.drv ∨ C = ks.lis) → (D = ks.drv ∨ D = ks.lis) → PySem.W.notFirst K C (.ref D) = true
  un : ∀ C D, (C = ks.drv ∨ C = ks.lis) → (D = ks.drv ∨ D = ks.lis) → C ≠ D → PySem.W.kitOne K (.ref D) (.ref C) = some false
structure FeT (P : Program) (w : World) (K : PySem.W.Frag) (mg : Str → Option Value) (base : Heap) (ks : Kinds) (CF : Addr) : Prop where
  ic : IsiC K CF
  nT : NoAttr K CF "top"
  nL : NoAttr K CF "_legs"
  isi : mg "isinstance" = none
  mF : mg "Frame" = some (.ref CF)
  self : PySem.W.kitOne K (.ref CF) (.ref CF) = some true
  lq : LqT P w K mg base ks
  rails : PropN P w K mg base 1 CF "rails" (spTup ks CF fun d => railsZ d.g d.r)
def railsD (g r : Bool) : PyData := .tuple ((railsZ g r).map .str)
theorem dp_strv {K : PySem.W.Frag} {H : Hp} : ∀ zs : List Str, DpAll K H (strv zs) (zs.map PyData.str)
  | [] => .nil
  | z :: zs => .cons (.str z) (dp_strv zs)
theorem railsD_eq (g r g' r' : Bool) : PyData.eqv (railsD g r) (railsD g' r') = (decide (g = g') && decide (r = r')) := by
  cases g <;> cases r <;> cases g' <;> cases r' <;> decide +kernel
theorem railsD_sh (g r : Bool) : SeqAt.shaped (railsD g r) = true := by
  cases g <;> cases r <;> decide +kernel
theorem find_nd : ∀ {ys : List LegR} {p : LegR}, (names ys).Nodup → p ∈ ys → ys.find? (fun q => decide (q.z = p.z)) = some p
  | q :: ys, p, hn, hp => by
    unfold names at hn
    rw [List.map_cons, List.nodup_cons] at hn
    rcases List.mem_cons.mp hp with rfl | hp
    · rw [List.find?_cons_of_pos]
      exact decide_eq_true rfl
    · rw [List.find?_cons_of_neg]
      · exact find_nd hn.2 hp
      · rw [decide_eq_true_eq]
        exact fun e => hn.1 (e ▸ List.mem_map.mpr ⟨p, hp, rfl⟩)
def okK (ys zs : List LegR) : Key → Bool
  | .inr z => match ys.find? (fun q => decide (q.z = z)) with
    | some p => zs.any fun q => decide (q.z = p.z) && decide (q.C = p.C)
    | none => false
  | _ => false
theorem okK_at {ys zs : List LegR} {p : LegR} (hn : (names ys).Nodup) (hp : p ∈ ys) : okK ys zs (Sum.inr p.z) = zs.any fun q => decide (q.z = p.z) && decide (q.C = p.C) := by
  show (match ys.find? (fun q => decide (q.z = p.z)) with | some p => _ | none => false) = _
  rw [find_nd hn hp]
theorem okK_all {ys zs : List LegR} (hn : (names ys).Nodup) : ((ys.map legRow).length == (zs.map legRow).length && (ys.map legRow).all fun p => okK ys zs p.1) = eqLegs ys zs := by
  unfold eqLegs
  rw [List.length_map, List.length_map, List.all_map]
  congr 1
  have e : ∀ p ∈ ys, ((fun p : Key × V => okK ys zs p.1) ∘ legRow) p = zs.any fun q => decide (q.z = p.z) && decide (q.C = p.C) := fun p hp => okK_at hn hp
  refine Bool.eq_iff_iff.mpr ?_
  rw [List.all_eq_true, List.all_eq_true]
  exact ⟨fun h p hp => (e p hp).symm.trans (h p hp), fun h p hp => (e p hp).trans (h p hp)⟩
section
variable {P : Program} {w : World} {K : PySem.W.Frag} {mg : Str → Option Value} {base : Heap}
theorem ok_feq {f CF : Addr} {fd : FuncData} {ks : Kinds} (F : Fun K "__eq__" "Frame.__eq__" (sFr 13) f fd) (T : FeT P w K mg base ks CF) : FnOk P w K mg base CX0 4 f fd ["self", "other"] (spFEq K ks CF) := by
  have sc : FnScope ["self", "other"] ["self", "other"] (defScope (sFr 13)) := ⟨rfl, rfl, rfl, by decide +kernel, rfl, by decide +kernel, by decide +kernel⟩
  refine F.ok sc (fun vs H Q E h => ?_) (fun cdv A outer s H vs Q E hr h => ?_)
  · obtain ⟨a, d, y, rfl, _⟩ := h
    rfl
  · obtain ⟨a, d, y, rfl, hF, h⟩ := h
    obtain ⟨dx, D, ea, eD, _⟩ := id hF.at_
    refine ⟨_, pss_cons (ps_if (PW.pt (pw_or (pt_not (pt_val (pe_callB call_isi (by rfl) T.isi (by decide +kernel) (pa_cons (pv 1) (pa_cons (pe_glob rfl T.mF (v := .ref CF) rfl) pa_nil))))) (pw_or (pt_cmpR op_ne (pe_fld (pv 0) rfl) (pe_fld (pv 1) rfl) (nomark _))
        (pw_or1 (pt_cmpR (op_neD hr.units) (pe_propS (S := fun C => C = CF) (spP := fun _ => spTup ks CF fun d => railsZ d.g d.r) (pv 0) (fun C e => by rw [e]; exact T.rails) (hr.mono (by decide))) (pe_propS (S := fun C => C = CF) (spP := fun _ => spTup ks CF fun d => railsZ d.g d.r) (pv 1) (fun C e => by rw [e]; exact T.rails) (hr.mono (by decide))) (nomark _))))))
        (pss_one (ps_ret pe_bl)) pss_nil)
      (pss_one (ps_ret (pe_cmpR (op_eqOwnD (S := fun C => C = ks.drv ∨ C = ks.lis) (spE := fun C => spEq K C) T.lq.eq hr) (pe_fld (pv 0) rfl) (pe_fld (pv 1) rfl) (nomark _)))), ?_⟩
    rcases h with ⟨b, e, rfl, hE, k⟩ | ⟨t, ty, hk, k⟩
    · obtain ⟨dy, D', eb, eD', _⟩ := id hE.at_
      have tyb : TyX K H (.ref b) (.ref CF) := .base (.ins eb T.ic.cl T.ic.ca T.ic.cn T.ic.ct T.ic.cm)
      refine ⟨_, rfl, _, _, .ref CF, .ref CF, true, rfl, .own _, tyb, T.self, _, rfl, ?_⟩
      refine iteF ⟨_, rfl, a, CF, dx, _, _, rfl, ea, T.ic.cl, T.nT, frF_top _ _ _ _, _, rfl, b, CF, dy, _, _, rfl, eb, T.ic.cl, T.nT, frF_top _ _ _ _, rfl, _, rfl, ?_⟩
      have keq : ∀ v, eqFr d e = v → ∀ H', Same H H' → Q (.bl v) H' := fun v ev H' s => by rw [← ev]; exact k H' s
      by_cases et : d.t = e.t
      · rw [show (!decide (V.int d.t = V.int e.t)) = false by rw [et, decide_eq_true rfl]; rfl]
        refine iteF ⟨_, rfl, a, CF, dx, _, rfl, ea, rfl, a, d, rfl, hF, fun p1 H1 hp1 hv1 s1 => ?_⟩
        refine ⟨_, rfl, b, CF, dy, _, rfl, s1 _ _ eb, rfl, b, e, rfl, hE.same s1, fun p2 H2 hp2 hv2 s2 => ?_⟩
        refine ⟨railsD d.g d.r, railsD e.g e.r, .tup (SqT.of (s2 _ _ hv1)) (dp_strv _), .tup (SqT.of hv2) (dp_strv _), railsD_sh _ _, railsD_sh _ _, _, rfl, ?_⟩
        rw [railsD_eq]
        have s02 := s1.trans s2
        cases eg : (decide (d.g = e.g) && decide (d.r = e.r)) with
        | false =>
          refine iteT (keq _ ?_ _ s02)
          unfold eqFr
          rw [eg, Bool.and_false, Bool.false_and]
        | true =>
          refine iteF ⟨_, rfl, a, CF, dx, _, _, rfl, s02 _ _ ea, T.ic.cl, T.nL, frF_legs _ _ _ _, _, rfl, b, CF, dy, _, _, rfl, s02 _ _ eb, T.ic.cl, T.nL, frF_legs _ _ _ _, ?_⟩
          have eDs := s02 _ _ eD
          have eDs' := s02 _ _ eD'
          refine ⟨D, D', d.ys.map legRow, e.ys.map legRow, okK d.ys e.ys, rfl, rfl, eDs, eDs', fun kk v hm => ?_, fun H3 s3 => ?_⟩
          · obtain ⟨p, hp, epr⟩ := List.mem_map.mp hm
            obtain ⟨rfl, rfl⟩ : Sum.inr p.z = kk ∧ V.ref p.a = v := ⟨congrArg Prod.fst epr, congrArg Prod.snd epr⟩
            by_cases hz : p.z ∈ names e.ys
            · obtain ⟨q, hq, eqz⟩ := List.mem_map.mp hz
              refine .inr ⟨p.a, q.a, rfl, by rw [← eqz]; exact valV_rows e.ys q hE.nd hq, ?_⟩
              have hokv : okK d.ys e.ys (Sum.inr p.z) = decide (q.C = p.C) := by
                rw [okK_at hF.nd hp]
                refine Bool.eq_iff_iff.mpr ⟨fun h => ?_, fun h => ?_⟩
                · obtain ⟨q', hq', hb⟩ := List.any_eq_true.mp h
                  rw [Bool.and_eq_true, decide_eq_true_eq] at hb
                  have e1 := find_nd hE.nd hq
                  have e2 := find_nd hE.nd hq'
                  rw [hb.1, ← eqz] at e2
                  have : q = q' := Option.some.inj (e1.symm.trans e2)
                  rw [this]
                  exact hb.2
                · refine List.any_eq_true.mpr ⟨q, hq, ?_⟩
                  rw [h, Bool.and_true]
                  exact decide_eq_true eqz
              rw [hokv]
              obtain ⟨hcp, dp, ep⟩ := (hF.ok p hp).same s02
              obtain ⟨hcq, dq, eq⟩ := (hE.ok q hq).same s02
              by_cases epq : p.a = q.a
              · refine .inl ⟨epq, ?_⟩
                rw [epq, eq] at ep
                have := Option.some.inj ep
                injection this with c1
                exact decide_eq_true c1
              · refine .inr ⟨epq, fun H3 hb => ?_⟩
                have np : p.a ≠ D := ne_of ep eDs (by intro z; cases z)
                have np' : p.a ≠ D' := ne_of ep eDs' (by intro z; cases z)
                have nq : q.a ≠ D := ne_of eq eDs (by intro z; cases z)
                have nq' : q.a ≠ D' := ne_of eq eDs' (by intro z; cases z)
                have ep3 := hb _ _ ep np np'
                have eq3 := hb _ _ eq nq nq'
                have lq : LegAt H3 q.a q.C q.z := ⟨dq, eq3⟩
                refine ⟨p.a, p.C, dp, _, rfl, ep3, hcp, .inl ⟨.ref q.C, lq.ty (T.lq.ic _ hcq), T.lq.nf _ _ hcp hcq, p.a, p.z, _, rfl, ⟨dp, ep3⟩, ?_⟩⟩
                by_cases hc : q.C = p.C
                · rw [decide_eq_true hc]
                  refine .inl ⟨q.a, q.z, rfl, by rw [← hc]; exact lq, _, rfl, ?_, Same.refl _⟩
                  show V.bl (decide (p.z = q.z)) = V.bl true
                  rw [decide_eq_true eqz.symm]
                · rw [decide_eq_false hc]
                  exact .inr ⟨.ref q.C, lq.ty (T.lq.ic _ hcq), T.lq.un _ _ hcp hcq (Ne.symm hc), _, rfl, rfl, Same.refl _⟩
            · refine .inl ⟨valV_out _ _ hz, ?_⟩
              rw [okK_at hF.nd hp]
              refine List.any_eq_false.mpr fun q hq h => hz ?_
              rw [Bool.and_eq_true, decide_eq_true_eq] at h
              rw [← h.1]
              exact List.mem_map.mpr ⟨q, hq, rfl⟩
          · rw [okK_all hF.nd]
            refine keq _ ?_ _ (s02.trans s3)
            unfold eqFr
            rw [eg, decide_eq_true et]
            rfl
      · rw [show (!decide (V.int d.t = V.int e.t)) = true by rw [decide_eq_false fun z => et (V.int.inj z)]; rfl]
        refine iteT (keq _ ?_ _ (Same.refl H))
        unfold eqFr
        rw [decide_eq_false et]
        rfl
    · exact ⟨_, rfl, _, _, t, .ref CF, false, rfl, .own _, ty, hk, _, rfl, iteT (k H (Same.refl H))⟩
end
end Sj
namespace Sj
open PySem L2 Sup StK Own
open NdefX (NF NScope ncx envF startF nscope_by)
open C8 (pss_cut tCut)
/-! what the laws of frames share: small things, _law_bare (k03, k05, ..) -/
/-- a class of legs, made by place -/
structure MkL (P : Program) (w : World) (K : PySem.W.Frag) (mg : Str → Option Value) (base : Heap) (CI C : Addr) (nm : Str) : Prop where
  ex : ∃ (f : Addr) (fd : FuncData), Mk K C f ∧ FnOk P w K mg base (L2.CX P w) 4 f fd ["self", "name"] (spLegI K CI C) ∧ Binds K fd ["self", "name"] []
  mg : mg nm = some (.ref C)
theorem passNo {P : Program} {w : World} {X : Cx} (h1 : X.prog = P) (h2 : X.w = w) : Passes (L2.CX P w) X E0 := by
  rintro pins σ H s e s' I ⟨a, B, H', cls, d, _, _, _, _, _, _, _, z⟩
  exact z.elim
abbrev tMk (K : PySem.W.Frag) (CI C : Addr) (te : TE) : TE := tMake C (spLegI K CI C) [] E0 (tCons te tNil)
/-- a leg is made -/
theorem mk_rd {K : PySem.W.Frag} {CI C : Addr} {z : Str} {te : TE} {σ : L2.St} {H : Hp} {Q : VK} (hte : ∀ Q' : VK, Q' (.str z) H → te σ H Q') (hn : isName z = true) (hz : z.length ≤ 1000) (k : ∀ a H', H a = none → LegAt H' a C z → Same H H' → Q (.ref a) H') : tMk K CI C te σ H Q := by
  refine hte _ fun x dx hx hdx hne => ⟨x, dx, .str z, rfl, upd_same, .inl ⟨z, rfl, hz, fun _ H' hp hb => ⟨rfl, k x H' hx ⟨dx, hp⟩ fun b o e => ?_⟩, fun h => absurd hn (by rw [h]; exact Bool.false_ne_true)⟩⟩
  refine hb b o (ne_of_none e hx) ?_
  rw [upd_ne (ne_of_none e hx), upd_ne (ne_of_none e hdx)]
  exact e
theorem Pen.at' {H : Hp} {p l : Addr} {cs : List Int} {n : Nat} (h : Pen H p l cs n) : ∃ xs, H p = some (.lst xs) := by
  obtain ⟨i, g, h1, _⟩ := h
  exact ⟨_, h1⟩
theorem Pen.mono {H : Hp} {p l : Addr} {cs : List Int} {n m : Nat} (h : Pen H p l cs n) (hm : n ≤ m) : Pen H p l cs m := by
  obtain ⟨i, g, h1, h2, h3, h4, h5⟩ := h
  exact ⟨i, g, h1, h2, h3, h4, by omega⟩
theorem But.same {H H1 H2 : Hp} {p : Addr} (a : But H H1 p) (s : Same H1 H2) : But H H2 p := fun b o hb e => s _ _ (a b o hb e)
theorem But.of {H H1 : Hp} {p : Addr} (s : Same H H1) : But H H1 p := fun b o _ e => s _ _ e
/-- what was laid behind the entry is not the pen -/
theorem nep {H0 : Hp} {p l q : Addr} {cs : List Int} {n : Nat} (hP : Pen H0 p l cs n) (h : H0 q = none) : q ≠ p := fun e => by
  obtain ⟨xs, z⟩ := hP.at'
  rw [e, z] at h
  cases h
theorem But.free {H H' : Hp} {p q : Addr} (b : But H H' p) (hp : q ≠ p) (h : H' q = none) : H q = none := by
  cases z : H q with
  | none => rfl
  | some o =>
    rw [b _ _ hp z] at h
    cases h
/-- the pen is a list: what is none of these stays -/
theorem But.keep {H H' : Hp} {p l q : Addr} {cs : List Int} {n : Nat} {o : HO} (b : But H H' p) (hP : Pen H p l cs n) (e : H q = some o) (no : ∀ ys, o ≠ .lst ys) : H' q = some o := by
  obtain ⟨xs, hp⟩ := hP.at'
  exact b _ _ (ne_of e hp (no xs)) e
structure DwT (P : Program) (w : World) (K : PySem.W.Frag) (mg : Str → Option Value) (base : Heap) : Prop where
  bi : Bi mg
  sorted : mg "sorted" = none
  draw : ∃ f fd, mg "_law_draw" = some (.ref f) ∧ PySem.W.keepIn K (.ref f) = true ∧ Binds K fd ["_law_pen_here", "_law_many"] [] ∧ FnOk P w K mg base CX0 1 f fd ["_law_pen_here", "_law_many"] spDraw
  pick : ∃ f fd, mg "_law_pick" = some (.ref f) ∧ PySem.W.keepIn K (.ref f) = true ∧ Binds K fd ["_law_pen_here", "_law_some"] [] ∧ FnOk P w K mg base CX0 2 f fd ["_law_pen_here", "_law_some"] spPick
  tags : ∃ f fd, mg "_law_tags" = some (.ref f) ∧ PySem.W.keepIn K (.ref f) = true ∧ Binds K fd ["_law_pen_here", "_law_many"] [] ∧ FnOk P w K mg base CX0 2 f fd ["_law_pen_here", "_law_many"] spTags
/-- a plain frame as data -/
structure BareD where
  t : Int
  ds : List Str
  ls : List Str
  g : Bool
  r : Bool
structure BareD.ok (d : BareD) : Prop where
  t1 : 1 ≤ d.t
  t3 : d.t ≤ 3
  nd : (d.ds ++ d.ls).Nodup
  po : ∀ z ∈ d.ds ++ d.ls, z ∈ poolS
  sd : d.ds.Pairwise OrdS.Le
  sl : d.ls.Pairwise OrdS.Le
  le : d.ds.length + d.ls.length ≤ 16
def rowsB (t : Int) (dl ll rl : Addr) : List (Key × V) := [(Sum.inr "top", .int t), (Sum.inr "drivers", .ref dl), (Sum.inr "listeners", .ref ll), (Sum.inr "rails", .ref rl)]
def rows3 (t : Int) (dl ll : Addr) : List (Key × V) := [(Sum.inr "top", .int t), (Sum.inr "drivers", .ref dl), (Sum.inr "listeners", .ref ll)]
/-- it stands at b, apart from p -/
structure BareAt (H : Hp) (b : Addr) (d : BareD) (p : Addr) : Prop where
  ex : ∃ dl ll rl, H b = some (.dK (rowsB d.t dl ll rl)) ∧ H dl = some (.lst (strv d.ds)) ∧ H ll = some (.lst (strv d.ls)) ∧ H rl = some (.lst (strv (railsZ d.g d.r))) ∧ dl ≠ p ∧ ll ≠ p ∧ rl ≠ p
theorem BareAt.same {H H' : Hp} {b p : Addr} {d : BareD} (h : BareAt H b d p) (s : Same H H') : BareAt H' b d p := by
  obtain ⟨dl, ll, rl, h1, h2, h3, h4, h5⟩ := h.ex
  exact ⟨dl, ll, rl, s _ _ h1, s _ _ h2, s _ _ h3, s _ _ h4, h5⟩
theorem BareAt.but {H H' : Hp} {b p l : Addr} {cs : List Int} {n : Nat} {d : BareD} (h : BareAt H b d p) (hP : Pen H p l cs n) (s : But H H' p) : BareAt H' b d p := by
  obtain ⟨dl, ll, rl, h1, h2, h3, h4, h5, h6, h7⟩ := h.ex
  exact ⟨dl, ll, rl, s.keep hP h1 (fun ys z => by cases z), s _ _ h5 h2, s _ _ h6 h3, s _ _ h7 h4, h5, h6, h7⟩
theorem pool_ok : ∀ z ∈ poolS, isName z = true ∧ z.length ≤ 8 := by
  have h : (poolS.all fun z => isName z && decide (z.length ≤ 8)) = true := by decide +kernel
  intro z hz
  have e := List.all_eq_true.mp h z hz
  rw [Bool.and_eq_true, decide_eq_true_eq] at e
  exact e
theorem pool_nd : poolS.Nodup := by decide +kernel
abbrev sBare : Stmt := top 31
abbrev nBa : List Str := ["_law_pen_here", "_law_most", "_law_tags_here", "_law_bare_here", "_law_tag", "_law_kind"]
theorem scBa : FnScope nBa ["_law_pen_here", "_law_most"] (defScope sBare) := ⟨rfl, rfl, rfl, by decide +kernel, rfl, by decide +kernel, by decide +kernel⟩
def spBare : Sp := fun vs H Q _ => ∃ (p l : Addr) (cs : List Int) (n m : Nat), vs = [.ref p, .int m] ∧ Pen H p l cs n ∧ m ≤ 15 ∧ n < 90000 ∧ ∀ b d H', d.ok → d.ds.length + d.ls.length ≤ m → H b = none → BareAt H' b d p → Pen H' p l cs (n + 40) → But H H' p → Q (.ref b) H'
/-- where the loop stands -/
structure BaInv (H0 H : Hp) (p l : Addr) (cs : List Int) (n : Nat) (b dl ll sl : Addr) (t : Int) (xs : List Str) (i : Nat) : Prop where
  pen : Pen H p l cs (n + i)
  hb : H b = some (.dK (rows3 t dl ll))
  sl_ : H sl = some (.lst (strv xs))
  ex : ∃ ds ls, H dl = some (.lst (strv ds)) ∧ H ll = some (.lst (strv ls)) ∧ ds.Sublist (xs.take i) ∧ ls.Sublist (xs.take i) ∧ (ds ++ ls).Perm (xs.take i)
  bt : But H0 H p
theorem sub_snoc {α : Type} {ds xs : List α} {i : Nat} (h : ds.Sublist (xs.take i)) (hi : i < xs.length) : (ds ++ [xs[i]]).Sublist (xs.take (i + 1)) := by
  rw [List.take_add_one, List.getElem?_eq_getElem hi]
  exact h.append (List.Sublist.refl _)
theorem sub_keep {α : Type} {ds xs : List α} {i : Nat} (h : ds.Sublist (xs.take i)) (hi : i < xs.length) : ds.Sublist (xs.take (i + 1)) := by
  rw [List.take_add_one]
  exact h.trans (List.sublist_append_left _ _)
end Sj
namespace Sj
open PySem L2 Sup StK Own
open NdefX (NF NScope ncx envF startF nscope_by)
open C8 (pss_cut tCut)
/-! _law_bare -/
theorem rows3_merge (t : Int) (dl ll : Addr) : mergeK [] (rows3 t dl ll) = rows3 t dl ll := by
  unfold rows3 mergeK putK
  simp +decide
theorem rows3_put (t : Int) (dl ll rl : Addr) : putK (rows3 t dl ll) (Sum.inr "rails" : Key) (.ref rl) = rowsB t dl ll rl := by
  unfold rows3 rowsB putK
  simp +decide
section
variable {P : Program} {w : World} {K : PySem.W.Frag} {mg : Str → Option Value} {base : Heap}
theorem ok_bare {f : Addr} {fd : FuncData} (F : Fun K "_law_bare" "_law_bare" sBare f fd) (T : DwT P w K mg base) : FnOk P w K mg base CX0 3 f fd ["_law_pen_here", "_law_most"] spBare := by
  obtain ⟨fd_, fdd, md, kd, bd, Gd⟩ := T.draw
  obtain ⟨fp, fdp, mp, kp, bp, Gp⟩ := T.pick
  obtain ⟨ft, fdt, mt, kt, bt, Gt⟩ := T.tags
  refine F.ok scBa (fun vs H Q E h => ?_) (fun cdv A outer s H vs Q E hr h => ?_)
  · obtain ⟨p, l, cs, n, m, rfl, _⟩ := h
    rfl
  · obtain ⟨p, l, cs, n, m, rfl, hP, hm, hn, k⟩ := h
    have hr1 := hr.mono (show 1 ≤ 2 by decide)
    refine ⟨_, pss_cons (ps_set (i := 2) scBa.nd rfl (Or.inl rfl) (pe_call Gt hr rfl mt kt bt .nil pass0 (pa_cons (pv 0) (pa_cons (pe_call Gd hr1 rfl md kd bd .nil pass0 (pa_cons (pv 0) (pa_cons (pe_op op_add (pv 1) pe_int) pa_nil))) pa_nil))))
      (pss_cons (ps_set (i := 3) scBa.nd rfl (Or.inl rfl) (pe_disp (pps_cons pe_str (pe_op op_add pe_int (pe_call Gd hr1 rfl md kd bd .nil pass0 (pa_cons (pv 0) (pa_cons pe_int pa_nil)))) (pps_cons pe_str (pe_lst pa_nil) (pps_cons pe_str (pe_lst pa_nil) pps_nil))) (by rfl) (by rfl) (fun z => by cases z) (by decide)))
      (pss_cons (ps_for PassesOwn.never rfl (pi_list (pe_callB cr_sortedS (by rfl) T.sorted (by decide +kernel) (pa_cons (pv 2) pa_nil))) (pg_name (i := 4) scBa.nd rfl (Or.inl rfl))
        (pss_cons (ps_set (i := 5) scBa.nd rfl (Or.inl rfl) (pe_call Gp hr rfl mp kp bp .nil pass0 (pa_cons (pv 0) (pa_cons (pe_lst (pa_cons pe_str (pa_cons pe_str (pa_cons pe_str (pa_cons pe_str pa_nil))))) pa_nil))))
        (pss_one (ps_expr (pe_bm PySem.F.plainAttrs_list PySem.F.slot_list_append PySem.F.type_list_append mt_append (pe_dget (hu_of hr) (pv 3) (pv 5) (fun _ _ => rfl)) (pa_cons (pv 4) pa_nil))))))
      (pss_cons (ps_dput (hu_of hr) (pv 3) pe_str (pe_call Gp hr rfl mp kp bp .nil pass0 (pa_cons (pv 0) (pa_cons (pe_lst (pa_cons (pe_lst pa_nil) (pa_cons (pe_lst pa_nil) (pa_cons (pe_lst (pa_cons pe_str pa_nil)) (pa_cons (pe_lst (pa_cons pe_str pa_nil)) (pa_cons (pe_lst (pa_cons pe_str (pa_cons pe_str pa_nil))) pa_nil)))))) pa_nil))) rfl)
      (pss_one (ps_ret (pv 3)))))), ?_⟩
    -- the names
    refine ⟨_, rfl, _, rfl, _, rfl, (m : Int), 1, rfl, rfl, p, l, cs, n, (m : Int) + 1, rfl, hP, by omega, by omega, by omega, fun d1 i1 g1 H1 d0 dm i0 in1 hp1 b1 => ?_⟩
    have P1 : Pen H1 p l cs (n + 1) := hP.next i0 in1 hp1 b1
    obtain ⟨q, rfl⟩ : ∃ q : Nat, d1 = (q : Int) := ⟨d1.toNat, by omega⟩
    refine ⟨p, l, cs, n + 1, q, rfl, P1, by omega, by omega, fun H2 tl zs rest htl htl2 hlen hperm P2 b2 => ?_⟩
    have b02 := b1.trans b2
    have tlp : tl ≠ p := nep P1 htl
    have hpool : ∀ z ∈ zs, z ∈ poolS := fun z hz => hperm.mem_iff.mp (List.mem_append_left _ hz)
    have hndz : zs.Nodup := by
      have := hperm.nodup_iff.mpr pool_nd
      rw [List.nodup_append] at this
      exact this.1
    have tl0 : H tl = none := b1.free tlp htl
    -- the dict
    refine fun b hb => ?_
    have b0 : H b = none := b02.free (nep P2 hb) hb
    have P2b : Pen (upd H2 b (.dK [])) p l cs (n + 1 + q) := P2.same (same_at hb)
    refine ⟨_, rfl, p, l, cs, n + 1 + q, 3, rfl, P2b, by omega, by omega, by omega, fun d3 i3 g3 H3 d30 d33 i30 in3 hp3 b3 => ?_⟩
    have P3 : Pen H3 p l cs (n + 2 + q) := (P2b.next i30 in3 hp3 b3).mono (by omega)
    have hb3 : H3 b = some (.dK []) := b3.keep P2b upd_same (fun ys z => by cases z)
    have htl3 : H3 tl = some (.lst (strv zs)) := b3 _ _ tlp (same_at hb _ _ htl2)
    have b03 : But H H3 p := (b02.same (same_at hb)).trans b3
    refine ⟨1, d3, rfl, rfl, by show 0 ≤ sizeLine; decide, fun dl hdl => ⟨by show 0 ≤ sizeLine; decide, fun ll hll => ?_⟩⟩
    obtain ⟨H5, e5⟩ : ∃ H5, H5 = upd (upd H3 dl (.lst [])) ll (.lst []) := ⟨_, rfl⟩
    rw [← e5]
    have s35 : Same H3 H5 := by rw [e5]; exact (same_at hdl).trans (same_at hll)
    have hll0 : H3 ll = none := (same_at (o := .lst []) hdl).free hll
    have nld : ll ≠ dl := fun z => by rw [z, upd_same] at hll; cases hll
    have hdl5 : H5 dl = some (.lst (strv [])) := by rw [e5, upd_ne (Ne.symm nld), upd_same]; rfl
    have hll5 : H5 ll = some (.lst (strv [])) := by rw [e5, upd_same]; rfl
    have dlp : dl ≠ p := nep P3 hdl
    have llp : ll ≠ p := nep P3 hll0
    have dl0 : H dl = none := b03.free dlp hdl
    have ll0 : H ll = none := b03.free llp hll0
    have nbd : b ≠ dl := ne_of_none hb3 hdl
    have nbl : b ≠ ll := ne_of_none hb3 hll0
    refine ⟨s35 _ _ hb3, rows3 (1 + d3) dl ll, rfl, by show 3 ≤ 15; decide, ?_⟩
    rw [rows3_merge]
    obtain ⟨H6, e6⟩ : ∃ H6, H6 = upd H5 b (.dK (rows3 (1 + d3) dl ll)) := ⟨_, rfl⟩
    rw [← e6]
    have hb6 : H6 b = some (.dK (rows3 (1 + d3) dl ll)) := by rw [e6, upd_same]
    have ne6 : ∀ {c : Addr} {o : HO}, H5 c = some o → c ≠ b → H6 c = some o := fun e n => by rw [e6, upd_ne n]; exact e
    have P6 : Pen H6 p l cs (n + 2 + q) := by
      obtain ⟨i, g, h1, h2, h3⟩ := P3
      exact ⟨i, g, ne6 (s35 _ _ h1) (ne_of h1 hb3 (by intro z; cases z)), ne6 (s35 _ _ h2) (ne_of h2 hb3 (by intro z; cases z)), h3⟩
    have b06 : But H H6 p := fun c o hc e => ne6 (s35 _ _ (b03 c o hc e)) (ne_of_none e b0)
    have htl6 : H6 tl = some (.lst (strv zs)) := ne6 (s35 _ _ htl3) (ne_of htl3 hb3 (by intro z; cases z))
    have hdl6 := ne6 hdl5 (Ne.symm nbd)
    have hll6 := ne6 hll5 (Ne.symm nbl)
    -- sorted
    refine ⟨_, rfl, tl, zs, rfl, SqL.of htl6, by omega, fun xs sl hxs hso hsl => ?_⟩
    have s67 := same_at (o := .lst (xs.map V.str)) hsl
    obtain ⟨H7, e7⟩ : ∃ H7, H7 = upd H6 sl (.lst (xs.map V.str)) := ⟨_, rfl⟩
    have hsl7 : H7 sl = some (.lst (strv xs)) := by rw [e7, upd_same]; rfl
    rw [← e7] at s67 ⊢
    have slp : sl ≠ p := nep P6 hsl
    have sl0 : H sl = none := b06.free slp hsl
    have nsd : sl ≠ dl := Ne.symm (ne_of_none hdl6 hsl)
    have nsl : sl ≠ ll := Ne.symm (ne_of_none hll6 hsl)
    have hxl : xs.length = q := by rw [hxs.length_eq, hlen]
    have hxl2 : (strv xs).length = xs.length := List.length_map _
    refine ⟨sl, rfl, ⟨_, SqL.of hsl7⟩, for_list (xs := strv xs) (fun i σ H' => (∃ o4 o5, σ = [some (.ref p), some (.int m), some (.ref tl), some (.ref b), o4, o5]) ∧ BaInv H H' p l cs (n + 2 + q) b dl ll sl (1 + d3) xs i) ⟨⟨_, _, rfl⟩, ⟨P6.same s67, s67 _ _ hb6, hsl7, ⟨[], [], s67 _ _ hdl6, s67 _ _ hll6, List.nil_sublist _, List.nil_sublist _, .nil⟩, b06.same s67⟩⟩ (fun i σ H' _ h => SqL.of h.2.sl_) ?_ ?_⟩
    · rintro i x σ H8 hx ⟨⟨o4, o5, rfl⟩, ⟨P8, hb8, hsl8, ⟨ds, ls, hds, hls, sds, sls, hper⟩, b08⟩⟩
      have hi' : i < xs.length := by rw [← hxl2]; exact (List.getElem?_eq_some_iff.mp hx).1
      have ex : (strv xs)[i]? = some (.str xs[i]) := by show (xs.map V.str)[i]? = _; rw [List.getElem?_map, List.getElem?_eq_getElem hi']; rfl
      rw [ex] at hx
      obtain rfl := Option.some.inj hx
      refine ⟨_, rfl, by show 4 ≤ sizeLine; decide, fun w4 hw4 => ?_⟩
      have s89 := same_at (o := .lst [V.str "drivers", .str "drivers", .str "drivers", .str "listeners"]) hw4
      refine ⟨p, l, w4, cs, n + 2 + q + i, _, rfl, P8.same s89, upd_same, nep P8 hw4, by show 0 < 4; decide, by show 4 < 1000; decide, by omega, fun j y H10 hj P10 b10 => ?_⟩
      have b810 : But H8 H10 p := (But.of s89).trans b10
      have hdsl : ds.length ≤ xs.length := Nat.le_trans sds.length_le (by rw [List.length_take]; omega)
      have hlsl : ls.length ≤ xs.length := Nat.le_trans sls.length_le (by rw [List.length_take]; omega)
      have hb10 := b810.keep P8 hb8 (fun ys z => by cases z)
      have hsl10 := b810 _ _ slp hsl8
      have hds10 := b810 _ _ dlp hds
      have hls10 := b810 _ _ llp hls
      have hyy : y = .str "drivers" ∨ y = .str "listeners" := by
        match j, hj with
        | 0, hj => exact .inl (Option.some.inj hj).symm
        | 1, hj => exact .inl (Option.some.inj hj).symm
        | 2, hj => exact .inl (Option.some.inj hj).symm
        | 3, hj => exact .inr (Option.some.inj hj).symm
      have hpt : xs.take (i + 1) = xs.take i ++ [xs[i]] := by rw [List.take_add_one, List.getElem?_eq_getElem hi']; rfl
      rcases hyy with rfl | rfl
      · refine ⟨_, rfl, _, rfl, b, _, rfl, DGet.k (k := Sum.inr "drivers") hb10, ?_⟩
        refine ⟨.inl ⟨rfl, _, SqL.of hds10⟩, _, rfl, dl, _, _, rfl, rfl, hds10, ?_, ⟨⟨_, _, rfl⟩, ?_⟩⟩
        · show (List.map _ ds).length < _
          rw [List.length_map]
          exact Nat.lt_of_le_of_lt (show ds.length ≤ 16 by omega) (by decide)
        · refine ⟨?_, by rw [upd_ne nbd]; exact hb10, by rw [upd_ne nsd]; exact hsl10, ⟨ds ++ [xs[i]], ls, ?_, by rw [upd_ne nld]; exact hls10, sub_snoc sds hi', sub_keep sls hi', ?_⟩, fun c o hc e => ?_⟩
          · obtain ⟨i', g', h1, h2, h3⟩ := P10
            refine ⟨i', g', by rw [upd_ne (Ne.symm dlp)]; exact h1, ?_, h3.1, h3.2.1, by omega⟩
            rw [upd_ne (fun z => ?_)]
            · exact h2
            · obtain ⟨i0', g0', q1, q2, _⟩ := hP
              rw [z, dl0] at q2
              cases q2
          · rw [upd_same]
            show _ = some (HO.lst (List.map V.str _))
            rw [List.map_append]
            rfl
          · rw [hpt, List.append_assoc]
            refine List.Perm.trans ?_ (hper.append_right [xs[i]])
            rw [List.append_assoc]
            exact List.Perm.append_left ds List.perm_append_comm
          · rw [upd_ne (ne_of_none e dl0)]
            exact (b08.trans b810) c o hc e
      · refine ⟨_, rfl, _, rfl, b, _, rfl, DGet.k (k := Sum.inr "listeners") hb10, ?_⟩
        refine ⟨.inl ⟨rfl, _, SqL.of hls10⟩, _, rfl, ll, _, _, rfl, rfl, hls10, ?_, ⟨⟨_, _, rfl⟩, ?_⟩⟩
        · show (List.map _ ls).length < _
          rw [List.length_map]
          exact Nat.lt_of_le_of_lt (show ls.length ≤ 16 by omega) (by decide)
        · refine ⟨?_, by rw [upd_ne nbl]; exact hb10, by rw [upd_ne nsl]; exact hsl10, ⟨ds, ls ++ [xs[i]], by rw [upd_ne (Ne.symm nld)]; exact hds10, ?_, sub_keep sds hi', sub_snoc sls hi', ?_⟩, fun c o hc e => ?_⟩
          · obtain ⟨i', g', h1, h2, h3⟩ := P10
            refine ⟨i', g', by rw [upd_ne (Ne.symm llp)]; exact h1, ?_, h3.1, h3.2.1, by omega⟩
            rw [upd_ne (fun z => ?_)]
            · exact h2
            · obtain ⟨i0', g0', q1, q2, _⟩ := hP
              rw [z, ll0] at q2
              cases q2
          · rw [upd_same]
            show _ = some (HO.lst (List.map V.str _))
            rw [List.map_append]
            rfl
          · rw [hpt, ← List.append_assoc]
            exact hper.append_right [xs[i]]
          · rw [upd_ne (ne_of_none e ll0)]
            exact (b08.trans b810) c o hc e
    · rintro σ H8 ⟨⟨o4, o5, rfl⟩, ⟨P8, hb8, hsl8, ⟨ds, ls, hds, hls, sds, sls, hper⟩, b08⟩⟩
      rw [hxl2, List.take_length] at sds sls hper
      have hlist : ∀ (H9 : Hp) (r0 r1 r2 r3 r4 L : Addr), Pen H9 p l cs (n + 2 + q + (strv xs).length) → But H8 H9 p → H9 r0 = some (.lst (strv [])) → H9 r1 = some (.lst (strv [])) → H9 r2 = some (.lst (strv ["ground"])) → H9 r3 = some (.lst (strv ["power"])) → H9 r4 = some (.lst (strv ["ground", "power"])) →
          r0 ≠ p → r1 ≠ p → r2 ≠ p → r3 ≠ p → r4 ≠ p → L ≠ p → H9 L = some (.lst [.ref r0, .ref r1, .ref r2, .ref r3, .ref r4]) →
          spPick [.ref p, .ref L] H9 (fun v H1 => tVar 3 [some (.ref p), some (.int m), some (.ref tl), some (.ref b), o4, o5] H1 fun x H2 => ∃ a H4, x = .ref a ∧ DPut H2 a (.str "rails") v H4 ∧ tVar 3 [some (.ref p), some (.int m), some (.ref tl), some (.ref b), o4, o5] H4 Q) E0 := by
        intro H9 r0 r1 r2 r3 r4 L P9 b89 h0 h1 h2 h3 h4 n0 n1 n2 n3 n4 nL hL
        refine ⟨p, l, L, cs, _, _, rfl, P9, hL, nL, by show 0 < 5; decide, by show 5 < 1000; decide, by rw [hxl2]; omega, fun j y H10 hj P10 b10 => ?_⟩
        obtain ⟨g, r, rl, rfl, hrl, hrp⟩ : ∃ g r rl, y = .ref rl ∧ H10 rl = some (.lst (strv (railsZ g r))) ∧ rl ≠ p := by
          match j, hj with
          | 0, hj => exact ⟨false, false, r0, (Option.some.inj hj).symm, b10 _ _ n0 h0, n0⟩
          | 1, hj => exact ⟨false, false, r1, (Option.some.inj hj).symm, b10 _ _ n1 h1, n1⟩
          | 2, hj => exact ⟨true, false, r2, (Option.some.inj hj).symm, b10 _ _ n2 h2, n2⟩
          | 3, hj => exact ⟨false, true, r3, (Option.some.inj hj).symm, b10 _ _ n3 h3, n3⟩
          | 4, hj => exact ⟨true, true, r4, (Option.some.inj hj).symm, b10 _ _ n4 h4, n4⟩
        have b810 := b89.trans b10
        have hb10 := b810.keep P8 hb8 (fun ys z => by cases z)
        refine ⟨_, rfl, b, _, rfl, DPut.k (k := Sum.inr "rails") hb10 (by show 3 < sizeLine; decide), _, rfl, ?_⟩
        rw [rows3_put]
        have hds10 := b810 _ _ dlp hds
        have hls10 := b810 _ _ llp hls
        have nrb : rl ≠ b := ne_of hrl hb10 (by intro z; cases z)
        refine k b ⟨1 + d3, ds, ls, g, r⟩ _ ⟨by show (1 : Int) ≤ 1 + d3; omega, by show (1 : Int) + d3 ≤ 3; omega, ?_, ?_, ?_, ?_, ?_⟩ ?_ b0 ⟨dl, ll, rl, upd_same, by rw [upd_ne (Ne.symm nbd)]; exact hds10, by rw [upd_ne (Ne.symm nbl)]; exact hls10, by rw [upd_ne nrb]; exact hrl, dlp, llp, hrp⟩ ?_ fun c o hc e => ?_
        · exact (hper.trans hxs).nodup_iff.mpr hndz
        · exact fun z hz => hpool z ((hper.trans hxs).mem_iff.mp hz)
        · exact (OrdS.sorted_pw hso).sublist sds
        · exact (OrdS.sorted_pw hso).sublist sls
        · have := hper.length_eq
          rw [List.length_append] at this
          show ds.length + ls.length ≤ 16
          omega
        · have := hper.length_eq
          rw [List.length_append] at this
          show ds.length + ls.length ≤ m
          omega
        · obtain ⟨i', g', q1, q2, q3⟩ := P10
          rw [hxl2, hxl] at q3
          exact ⟨i', g', by rw [upd_ne (ne_of q1 hb10 (by intro z; cases z))]; exact q1, by rw [upd_ne (ne_of q2 hb10 (by intro z; cases z))]; exact q2, q3.1, q3.2.1, by omega⟩
        · rw [upd_ne (ne_of_none e b0)]
          exact (b08.trans b810) c o hc e
      refine ⟨_, rfl, by show 0 ≤ sizeLine; decide, fun r0 h0 => ⟨by show 0 ≤ sizeLine; decide, fun r1 h1 => ⟨by show 1 ≤ sizeLine; decide, fun r2 h2 => ⟨by show 1 ≤ sizeLine; decide, fun r3 h3 => ⟨by show 2 ≤ sizeLine; decide, fun r4 h4 => ⟨by show 5 ≤ sizeLine; decide, fun L hL => ?_⟩⟩⟩⟩⟩⟩
      have t0 := same_at (o := .lst []) h0
      have t1 := same_at (o := .lst []) h1
      have t2 := same_at (o := .lst [.str "ground"]) h2
      have t3 := same_at (o := .lst [.str "power"]) h3
      have t4 := same_at (o := .lst [.str "ground", .str "power"]) h4
      have tL := same_at (o := .lst [.ref r0, .ref r1, .ref r2, .ref r3, .ref r4]) hL
      have t34 := t4.trans tL
      have t24 := t3.trans t34
      have t14 := t2.trans t24
      have t04 := t1.trans t14
      exact hlist _ r0 r1 r2 r3 r4 L (P8.same (t0.trans t04)) (But.of (t0.trans t04)) (t04 _ _ upd_same) (t14 _ _ upd_same) (t24 _ _ upd_same) (t34 _ _ upd_same) (tL _ _ upd_same) (nep P8 h0) (nep (P8.same t0) h1) (nep ((P8.same t0).same t1) h2) (nep (((P8.same t0).same t1).same t2) h3) (nep ((((P8.same t0).same t1).same t2).same t3) h4) (nep (((((P8.same t0).same t1).same t2).same t3).same t4) hL) upd_same
end
end Sj
namespace Sj
open PySem L2 Sup StK Own
open NdefX (NF NScope ncx envF startF nscope_by)
open C8 (pss_cut tCut)
/-! _law_frame (k03, k05, ..) -/
section
variable {P : Program} {w : World} {K : PySem.W.Frag} {mg : Str → Option Value} {base : Heap} {f : Addr} {fd : FuncData} {ks : Kinds} {CI CF : Addr}
abbrev psO : List Str := ["cls", "legs", "top", "ground", "power"]
theorem of_kwB (F : FunD K "of" "Frame.of" (defArgs sOf) (defBody sOf) (defScope sOf) [] kwsF f fd) (G : FnOk P w K mg base (L2.CX P w) 6 f fd psO (spOf K ks CI CF)) :
    FnK P w K mg base (L2.CX P w) 6 f ksB (fun vs zs H Q E => vs.length = 2 ∧ spOf K ks CI CF (vs ++ zs) H Q E) := by
  obtain ⟨mv, hb⟩ := F.kbinds0 (ps := psO) 2 ksB [] (fun us mv ws => us ++ ws) (by decide) (fun q h => nomatch h) (fun r1 _ r3 => r1.append r3)
    (fun D doc pm an cdv ct us mv ws h1 h2 h3 => match us, mv, ws, h1, h2, h3 with
      | [a, b], [], [x, y, z], _, _, _ => rfl)
  exact fnK_of G hb
end
theorem topIn {K : PySem.W.Frag} {H : Hp} {i : Int} (h1 : 1 ≤ i) (h3 : i ≤ 3) : TopIs K H (.int i) true := .inl ⟨i, rfl, by rw [decide_eq_true h1, decide_eq_true h3]; rfl⟩
theorem railIn {K : PySem.W.Frag} {H : Hp} {b : Bool} : RailIs K H (.bl b) true := ⟨"bool", .base (.bl b), by decide +kernel⟩
/-- the legs ys are the drivers ds and the listeners ls -/
def KindsOf (ks : Kinds) (ys : List LegR) (ds ls : List Str) : Prop := ∃ rs1 rs2 : List LegR, ys.Perm (rs1 ++ rs2) ∧ names rs1 = ds ∧ names rs2 = ls ∧ (∀ r ∈ rs1, r.C = ks.drv) ∧ ∀ r ∈ rs2, r.C = ks.lis
abbrev sFrm : Stmt := top 32
abbrev nFm : List Str := ["_law_bare_here", "_law_legs_so", "_law_rails_so", "_law_tag"]
theorem scFm : FnScope nFm ["_law_bare_here"] (defScope sFrm) := ⟨rfl, rfl, rfl, by decide +kernel, rfl, by decide +kernel, by decide +kernel⟩
def spFrm (ks : Kinds) (CF : Addr) : Sp := fun vs H Q _ => ∃ (b : Addr) (d : BareD) (p : Addr), vs = [.ref b] ∧ BareAt H b d p ∧ d.ok ∧ ∀ a ys H', FrIs ks CF H' a ⟨ys, d.t, d.g, d.r⟩ → KindsOf ks ys d.ds d.ls → H a = none → Same H H' → Q (.ref a) H'
structure FkT (P : Program) (w : World) (K : PySem.W.Frag) (mg : Str → Option Value) (base : Heap) (ks : Kinds) (CI CF : Addr) : Prop where
  d : MkL P w K mg base CI ks.drv "Driver"
  i : MkL P w K mg base CI ks.lis "Listener"
  mF : mg "Frame" = some (.ref CF)
  of : ∃ mc q gO, ClX.CRead K CF mc ∧ ClX.CMet K CF mc "of" q gO ∧ FnK P w K mg base (L2.CX P w) 6 gO ksB (fun vs zs H Q E => vs.length = 2 ∧ spOf K ks CI CF (vs ++ zs) H Q E)
def teMk (K : PySem.W.Frag) (CI C : Addr) : TE := tMk K CI C (tVar 3)
theorem names_append (xs ys : List LegR) : names (xs ++ ys) = names xs ++ names ys := List.map_append
theorem refs_append (xs ys : List LegR) : refs (xs ++ ys) = refs xs ++ refs ys := List.map_append
/-- [C(tag) for tag in zs] -/
theorem mk_walk {K : PySem.W.Frag} {CI C q D : Addr} {zs : List Str} {H : Hp} {σ : L2.St} {Qd : Hp → Prop} (hσ : σ.length = 4) (hq : H q = some (.lst (strv zs))) (hD : H D = none) (hz : ∀ z ∈ zs, z ∈ poolS) (hl : zs.length ≤ 16)
    (hd : ∀ H' rs, Same H H' → H' D = some (.lst (refs rs)) → names rs = zs → (∀ r ∈ rs, r.C = C ∧ LegAt H' r.a C r.z) → Qd H') :
    ∃ W : Nat → Nat → Hp → Prop, (∃ m, W 0 m (upd H D (.lst []))) ∧ ∀ i m H, W i m H →
      ((Itl K q).stop i H ∧ Qd H) ∨ ((Itl K q).go i H ∧ ∃ Nx : Hp → Prop, (∀ H', Nx H' → ∃ m', m' < m ∧ W (i + 1) m' H') ∧ ∀ x H', (Itl K q).yld i H x H' → gName 3 x (wipe σ [3]) H' fun σ2 H2 => wipe σ2 [3] = wipe σ [3] ∧ tYes σ2 H2 fun b H3 =>
        if b = true then teMk K CI C σ2 H3 fun y H4 => ∃ acc, H4 D = some (.lst acc) ∧ acc.length < sizeLine ∧ Nx (upd H4 D (.lst (acc ++ [y]))) else Nx H3) := by
  match σ, hσ with
  | [u0, u1, u2, u3], _ =>
  have hlm : (strv zs).length = zs.length := List.length_map _
  refine lc_it (walk_list (K := K) (a := q) (xs := strv zs)) (fun i H' => Same H H' ∧ ∃ rs, H' D = some (.lst (refs rs)) ∧ names rs = zs.take i ∧ ∀ r ∈ rs, r.C = C ∧ LegAt H' r.a C r.z) ⟨same_at hD, [], upd_same, rfl, fun r hr => by cases hr⟩ (fun i H' _ p => SqL.of (p.1 _ _ hq)) ?_ ?_
  · rintro i x H1 H2 hi ⟨s1, rs, d1, hn, hr⟩ ⟨rfl, hx⟩
    rw [hlm] at hi
    have ex : (strv zs)[i]? = some (.str zs[i]) := by show (zs.map V.str)[i]? = _; rw [List.getElem?_map, List.getElem?_eq_getElem hi]; rfl
    rw [ex] at hx
    obtain rfl := Option.some.inj hx
    refine ⟨rfl, ?_⟩
    unfold tYes
    dsimp only
    rw [if_pos rfl]
    obtain ⟨o1, o2⟩ := pool_ok _ (hz _ (List.getElem_mem hi))
    unfold teMk
    refine mk_rd (fun Q'' q => ⟨_, rfl, q⟩) o1 (by omega) fun a H3 ha la s3 => ?_
    have d3 := s3 _ _ d1
    have nDa : D ≠ a := fun z => by
      obtain ⟨dx, e⟩ := la
      rw [← z, d3] at e
      cases e
    have keepD : ∀ {c C' : Addr} {z : Str} {o : HO}, LegAt H3 c C' z → LegAt (upd H3 D o) c C' z := fun ⟨dx, e⟩ => ⟨dx, by rw [upd_ne (ne_of e d3 (by intro z; cases z))]; exact e⟩
    refine ⟨_, d3, ?_, fun c o hc => ?_, rs ++ [⟨a, C, zs[i]⟩], ?_, ?_, fun r hr' => ?_⟩
    · have e1 : rs.length = (zs.take i).length := by rw [← hn]; unfold names; rw [List.length_map]
      show (List.map _ rs).length < _
      rw [List.length_map, e1, List.length_take]
      exact Nat.lt_of_le_of_lt (Nat.min_le_right _ _) (Nat.lt_of_le_of_lt hl (by decide))
    · rw [upd_ne (ne_of_none hc hD)]
      exact s3 _ _ (s1 _ _ hc)
    · rw [upd_same, refs_append]
      rfl
    · rw [names_append, hn, List.take_add_one, List.getElem?_eq_getElem hi]
      rfl
    · rcases List.mem_append.mp hr' with hr' | hr'
      · exact ⟨(hr r hr').1, keepD ((hr r hr').2.same s3)⟩
      · obtain rfl := List.mem_singleton.mp hr'
        exact ⟨rfl, keepD la⟩
  · rintro H1 ⟨s1, rs, d1, hn, hr⟩
    rw [hlm, List.take_length] at hn
    exact hd H1 rs s1 d1 hn hr
theorem inV_rails (g r : Bool) : inV (.str "ground") (strv (railsZ g r)) = g ∧ inV (.str "power") (strv (railsZ g r)) = r := by
  cases g <;> cases r <;> decide +kernel
theorem flat_strv : ∀ zs : List Str, (strv zs).all flatV = true
  | [] => rfl
  | z :: zs => by
    show (flatV (.str z) && (strv zs).all flatV) = true
    rw [flat_strv zs]
    rfl
section
variable {P : Program} {w : World} {K : PySem.W.Frag} {mg : Str → Option Value} {base : Heap}
theorem ok_frm {f CI CF : Addr} {fd : FuncData} {ks : Kinds} (F : Fun K "_law_frame" "_law_frame" sFrm f fd) (T : FkT P w K mg base ks CI CF) : FnOk P w K mg base CX0 7 f fd ["_law_bare_here"] (spFrm ks CF) := by
  obtain ⟨⟨fD, fdD, MD, GD, bD⟩, mD⟩ := T.d
  obtain ⟨⟨fI, fdI, MI, GI, bI⟩, mI⟩ := T.i
  obtain ⟨mc, qO, gO, cr, cm, GB⟩ := T.of
  refine F.ok scFm (fun vs H Q E h => ?_) (fun cdv A outer s H vs Q E hr h => ?_)
  · obtain ⟨b, d, p, rfl, _⟩ := h
    rfl
  · obtain ⟨b, d, p, rfl, hB, ok, k⟩ := h
    obtain ⟨dl, ll, rl, hb, hdl, hll, hrl, _⟩ := hB.ex
    have hr5 := hr.mono (show 5 ≤ 6 by decide)
    refine ⟨_, pss_cons (ps_set (i := 1) scFm.nd rfl (Or.inl rfl) (pe_op op_cat
        (pe_lc (te := teMk K CI ks.drv) (own := [("_law_tag", 3)]) (g := gName 3) (tt := tYes) rfl scFm.nd (pi_list (pe_dget (hu_of hr) (pv 0) pe_str (fun _ _ => rfl))) (blkOk_by (N := nFm) (sc := defScope sFrm) (by decide +kernel))
          (fun _ _ _ _ _ => pg_name (i := 3) scFm.nd rfl (Or.inl rfl)) (fun _ _ _ _ _ => pts_nil) (fun _ _ _ _ _ => pe_make MD GD hr5 rfl mD bD .nil (passNo rfl rfl) (pa_cons (pv 3) pa_nil)))
        (pe_lc (te := teMk K CI ks.lis) (own := [("_law_tag", 3)]) (g := gName 3) (tt := tYes) rfl scFm.nd (pi_list (pe_dget (hu_of hr) (pv 0) pe_str (fun _ _ => rfl))) (blkOk_by (N := nFm) (sc := defScope sFrm) (by decide +kernel))
          (fun _ _ _ _ _ => pg_name (i := 3) scFm.nd rfl (Or.inl rfl)) (fun _ _ _ _ _ => pts_nil) (fun _ _ _ _ _ => pe_make MI GI hr5 rfl mI bI .nil (passNo rfl rfl) (pa_cons (pv 3) pa_nil)))))
      (pss_cons (ps_set (i := 2) scFm.nd rfl (Or.inl rfl) (pe_dget (hu_of hr) (pv 0) pe_str (fun _ _ => rfl)))
      (pss_one (ps_ret (pe_cmethK (pe_glob rfl T.mF (v := .ref CF) rfl) cr cm GB hr (passNo rfl rfl) (pa_cons (pv 1) pa_nil) (pk_cons (pe_dget (hu_of hr) (pv 0) pe_str (fun _ _ => rfl)) (pk_cons (pe_cmpR op_in_seq pe_str (pv 2) (by rfl)) (pk_cons (pe_cmpR op_in_seq pe_str (pv 2) (by rfl)) pk_nil))))))), ?_⟩
    have lds : d.ds.length ≤ 16 := by have := ok.le; omega
    have lls : d.ls.length ≤ 16 := by have := ok.le; omega
    refine ⟨_, rfl, b, _, rfl, DGet.k (k := Sum.inr "drivers") hb, dl, rfl, ⟨_, SqL.of hdl⟩, fun D1 hD1 => ?_⟩
    refine mk_walk rfl hdl hD1 (fun z hz => ok.po z (List.mem_append_left _ hz)) lds fun H1 rs1 s1 d1 n1 r1 => ?_
    refine ⟨_, rfl, b, _, rfl, DGet.k (k := Sum.inr "listeners") (s1 _ _ hb), ll, rfl, ⟨_, SqL.of (s1 _ _ hll)⟩, fun D2 hD2 => ?_⟩
    refine mk_walk rfl (s1 _ _ hll) hD2 (fun z hz => ok.po z (List.mem_append_right _ hz)) lls fun H2 rs2 s2 d2 n2 r2 => ?_
    have e1 : rs1.length = d.ds.length := by rw [← n1]; unfold names; rw [List.length_map]
    have e2 : rs2.length = d.ls.length := by rw [← n2]; unfold names; rw [List.length_map]
    have c1 : (refs rs1).length = rs1.length := List.length_map _
    have c2 : (refs rs2).length = rs2.length := List.length_map _
    refine ⟨D1, D2, refs rs1, refs rs2, rfl, rfl, s2 _ _ d1, d2, Nat.le_trans (show _ ≤ 32 by omega) (by decide), fun L hL => ?_⟩
    obtain ⟨H3, e3⟩ : ∃ H3, H3 = upd H2 L (.lst (refs rs1 ++ refs rs2)) := ⟨_, rfl⟩
    have s3 : Same H2 H3 := by rw [e3]; exact same_at hL
    have hL3 : H3 L = some (.lst (refs (rs1 ++ rs2))) := by rw [e3, upd_same, refs_append]
    rw [← e3]
    have s03 := (s1.trans s2).trans s3
    have hb3 := s03 _ _ hb
    have hrl3 := s03 _ _ hrl
    refine ⟨_, rfl, b, _, rfl, DGet.k (k := Sum.inr "rails") hb3, ?_⟩
    refine ⟨rfl, _, rfl, _, rfl, b, _, rfl, DGet.k (k := Sum.inr "top") hb3, _, rfl, rl, _, rfl, .inl (SqL.of hrl3), rfl, flat_strv _, _, rfl, rl, _, rfl, .inl (SqL.of hrl3), rfl, flat_strv _, rfl, rfl, ?_⟩
    rw [if_neg Bool.false_ne_true, if_neg Bool.false_ne_true, (inV_rails d.g d.r).1, (inV_rails d.g d.r).2]
    have hrs : ∀ r ∈ rs1 ++ rs2, r.ok ks H3 := fun r hr' => by
      rcases List.mem_append.mp hr' with h | h
      · exact ⟨.inl (r1 r h).1, by rw [(r1 r h).1]; exact (((r1 r h).2.same s2).same s3)⟩
      · exact ⟨.inr (r2 r h).1, by rw [(r2 r h).1]; exact ((r2 r h).2.same s3)⟩
    have hnm : names (rs1 ++ rs2) = d.ds ++ d.ls := by rw [names_append, n1, n2]
    have hdue : due (names (rs1 ++ rs2)) true (true && true) = .non := by
      unfold due
      rw [hnm, List.length_append, if_neg (by have := ok.le; omega), if_pos ok.nd]
      rfl
    refine ⟨_, _, _, _, true, true, true, rfl, topIn ok.t1 ok.t3, railIn, railIn, .inr ⟨L, _, rfl, .inl hL3, ?_, .inr ⟨rs1 ++ rs2, rfl, hrs, fun z hz => ?_, fun _ a H4 ys ha ho hf s4 => ?_⟩⟩⟩
    · rw [refs_append, List.length_append]
      omega
    · rw [hdue] at hz
      cases hz
    · have hpn : (names ys).Perm (d.ds ++ d.ls) := by rw [← hnm]; exact ho.1.map _
      refine k a ys H4 ⟨hf, fun r hr' => (hrs r (ho.1.mem_iff.mp hr')).same s4, hpn.nodup_iff.mpr ok.nd, ?_, ho.2⟩ ⟨rs1, rs2, ho.1, n1, n2, fun r h => (r1 r h).1, fun r h => (r2 r h).1⟩ (s03.free ha) (s03.trans s4)
      rw [ho.1.length_eq, List.length_append]
      omega
end
end Sj
namespace Sj
open PySem L2 Sup StK Own Shw Exg
open NdefX (NF NScope ncx envF startF nscope_by)
open C8 (pss_cut tCut)
/-! _law_legs, _law_odd (k03, k05, ..) -/
abbrev sLgs : Stmt := top 33
theorem scLgs : FnScope ["_law_bare_here"] ["_law_bare_here"] (defScope sLgs) := ⟨rfl, rfl, rfl, by decide +kernel, rfl, by decide +kernel, by decide +kernel⟩
def spLgs : Sp := fun vs H Q _ => ∃ (b : Addr) (d : BareD) (p : Addr), vs = [.ref b] ∧ BareAt H b d p ∧ d.ok ∧ ∀ zs q H', zs.Perm (d.ds ++ d.ls) → PyProof.Rows.sortedS zs = true → H q = none → H' q = some (.lst (strv zs)) → Same H H' → Q (.ref q) H'
/-- what is no name of anything -/
def oddF : List V := [.non, .int 0, .bl true, .str "", .str "A", .str "nobody", .str "nothing", .int (10 ^ 30), .str "a b"]
inductive OddX (H : Hp) (p : Addr) : V → Prop
  | flat {x : V} : x ∈ oddF → OddX H p x
  | tup {t : Addr} : H t = some (.tup [.str "a"]) → OddX H p (.ref t)
  | lst {l : Addr} : H l = some (.lst [.str "a"]) → l ≠ p → sysModules ≠ l → OddX H p (.ref l)
  | dic {q : Addr} : H q = some (.dK []) → OddX H p (.ref q)
theorem OddX.same {H H' : Hp} {p : Addr} {x : V} (h : OddX H p x) (s : Same H H') : OddX H' p x := by
  cases h with
  | flat h => exact .flat h
  | tup h => exact .tup (s _ _ h)
  | lst h n m => exact .lst (s _ _ h) n m
  | dic h => exact .dic (s _ _ h)
theorem OddX.but {H H' : Hp} {p l : Addr} {cs : List Int} {n : Nat} {x : V} (h : OddX H p x) (hP : Pen H p l cs n) (s : But H H' p) : OddX H' p x := by
  cases h with
  | flat h => exact .flat h
  | tup h => exact .tup (s.keep hP h fun ys z => by cases z)
  | lst h n m => exact .lst (s _ _ n h) n m
  | dic h => exact .dic (s.keep hP h fun ys z => by cases z)
theorem smalls_of {d : PyData} (h : (PyData.showable d && decide (d.depth ≤ 60) && decide (d.shown.length ≤ 1000)) = true) : Smalls d := by
  rw [Bool.and_eq_true, Bool.and_eq_true, decide_eq_true_eq, decide_eq_true_eq] at h
  exact ⟨⟨h.1.1, h.1.2, Nat.le_trans h.2 (by decide)⟩, h.2⟩
theorem OddX.data {K : PySem.W.Frag} {H : Hp} {p : Addr} {x : V} (h : OddX H p x) : ∃ d, Dq K H x d ∧ Smalls d := by
  cases h with
  | flat h =>
    unfold oddF at h
    simp only [List.mem_cons, List.not_mem_nil, or_false] at h
    rcases h with rfl | rfl | rfl | rfl | rfl | rfl | rfl | rfl | rfl
    · exact ⟨_, .non, smalls_of (by decide +kernel)⟩
    · exact ⟨_, .int _, smalls_of (by decide +kernel)⟩
    · exact ⟨_, .bl _, smalls_of (by decide +kernel)⟩
    · exact ⟨_, .str _, smalls_of (by decide +kernel)⟩
    · exact ⟨_, .str _, smalls_of (by decide +kernel)⟩
    · exact ⟨_, .str _, smalls_of (by decide +kernel)⟩
    · exact ⟨_, .str _, smalls_of (by decide +kernel)⟩
    · exact ⟨_, .int _, smalls_of (by decide +kernel)⟩
    · exact ⟨_, .str _, smalls_of (by decide +kernel)⟩
  | tup h => exact ⟨_, .tup (SqT.of h) (.cons (.str _) .nil), smalls_of (by decide +kernel)⟩
  | lst h n m => exact ⟨_, .lst m (SqL.of h) (.cons (.str _) .nil), smalls_of (by decide +kernel)⟩
  | dic h => exact ⟨_, .dic (.inl h), smalls_of (by decide +kernel)⟩
theorem OddX.notleg {K : PySem.W.Frag} {H : Hp} {p : Addr} {x : V} {d : FrD} (h : OddX H p x) (hp : ∀ z ∈ names d.ys, z ∈ poolS ∨ z = "other") : NotLeg K H x d := by
  have no : ∀ z : Str, (!poolS.contains z && decide (z ≠ "other")) = true → z ∉ names d.ys := fun z hz hm => by
    rw [Bool.and_eq_true, decide_eq_true_eq, Bool.not_eq_true'] at hz
    rcases hp z hm with e | e
    · have : poolS.contains z = true := List.elem_eq_true_of_mem e
      rw [hz.1] at this
      cases this
    · exact hz.2 e
  cases h with
  | flat h =>
    unfold oddF at h
    simp only [List.mem_cons, List.not_mem_nil, or_false] at h
    rcases h with rfl | rfl | rfl | rfl | rfl | rfl | rfl | rfl | rfl
    · exact .inr ⟨_, .base .non, by decide +kernel⟩
    · exact .inr ⟨_, .base (.int _), by decide +kernel⟩
    · exact .inr ⟨_, .base (.bl _), by decide +kernel⟩
    · exact .inl ⟨_, rfl, no _ (by decide +kernel)⟩
    · exact .inl ⟨_, rfl, no _ (by decide +kernel)⟩
    · exact .inl ⟨_, rfl, no _ (by decide +kernel)⟩
    · exact .inl ⟨_, rfl, no _ (by decide +kernel)⟩
    · exact .inr ⟨_, .base (.int _), by decide +kernel⟩
    · exact .inl ⟨_, rfl, no _ (by decide +kernel)⟩
  | tup h => exact .inr ⟨_, .base (.tup h), by decide +kernel⟩
  | lst h n m => exact .inr ⟨_, .base (.lst h), by decide +kernel⟩
  | dic h => exact .inr ⟨_, .base (.dK h), by decide +kernel⟩
def spOdd : Sp := fun vs H Q _ => ∃ (p l : Addr) (cs : List Int) (n : Nat), vs = [.ref p] ∧ Pen H p l cs n ∧ n < 90000 ∧ ∀ x H', OddX H' p x → Pen H' p l cs (n + 1) → But H H' p → Q x H'
section
variable {P : Program} {w : World} {K : PySem.W.Frag} {mg : Str → Option Value} {base : Heap}
theorem ok_lgs {f : Addr} {fd : FuncData} (F : Fun K "_law_legs" "_law_legs" sLgs f fd) (mS : mg "sorted" = none) : FnOk P w K mg base CX0 1 f fd ["_law_bare_here"] spLgs := by
  refine F.ok scLgs (fun vs H Q E h => ?_) (fun cdv A outer s H vs Q E hr h => ?_)
  · obtain ⟨b, d, p, rfl, _⟩ := h
    rfl
  · obtain ⟨b, d, p, rfl, hB, ok, k⟩ := h
    obtain ⟨dl, ll, rl, hb, hdl, hll, hrl, _⟩ := hB.ex
    refine ⟨_, pss_one (ps_ret (pe_callB cr_sortedS (by rfl) mS (by decide +kernel) (pa_cons (pe_op op_cat (pe_dget (hu_of hr) (pv 0) pe_str (fun _ _ => rfl)) (pe_dget (hu_of hr) (pv 0) pe_str (fun _ _ => rfl))) pa_nil))), ?_⟩
    have c1 : (strv d.ds).length = d.ds.length := List.length_map _
    have c2 : (strv d.ls).length = d.ls.length := List.length_map _
    refine ⟨_, rfl, b, _, rfl, DGet.k (k := Sum.inr "drivers") hb, _, rfl, b, _, rfl, DGet.k (k := Sum.inr "listeners") hb, dl, ll, _, _, rfl, rfl, hdl, hll, Nat.le_trans (show _ ≤ 16 by rw [c1, c2]; exact ok.le) (by decide), fun q hq => ?_⟩
    have s1 := same_at (o := .lst (strv d.ds ++ strv d.ls)) hq
    refine ⟨q, d.ds ++ d.ls, rfl, SqL.of ?_, by rw [List.length_append]; have := ok.le; omega, fun ys p2 hp hs hn => ?_⟩
    · rw [upd_same]
      show _ = some (HO.lst (List.map _ _))
      rw [List.map_append]
      rfl
    · exact k ys p2 _ hp hs (s1.free hn) upd_same (s1.trans (same_at hn))
end
end Sj
namespace Sj
open PySem L2 Sup
/-! data that can be shown, by its parts -/
structure Sm (k n : Nat) (d : PyData) : Prop where
  sh : PyData.showable d = true
  ls : PyData.leavesShort 9 d = true
  nd : d.hasDict = false
  dp : d.depth ≤ k
  bk : d.bulk ≤ n
theorem Sm.mono {k n k' n' : Nat} {d : PyData} (h : Sm k n d) (hk : k ≤ k') (hn : n ≤ n') : Sm k' n' d := ⟨h.sh, h.ls, h.nd, Nat.le_trans h.dp hk, Nat.le_trans h.bk hn⟩
structure SmA (k n : Nat) (ds : List PyData) : Prop where
  sh : PyData.showableAll ds = true
  ls : PyData.leavesShortAll 9 ds = true
  nd : PyData.hasDictAll ds = false
  dp : PyData.depthAll ds ≤ k
  bk : PyData.bulkAll ds ≤ n
theorem SmA.nil {k : Nat} : SmA k 0 [] := ⟨rfl, rfl, rfl, Nat.zero_le _, Nat.le_refl _⟩
theorem SmA.cons {k n m : Nat} {d : PyData} {ds : List PyData} (h : Sm k n d) (t : SmA k m ds) : SmA k (n + 1 + m) (d :: ds) :=
  ⟨Bool.and_eq_true_iff.mpr ⟨h.sh, t.sh⟩, Bool.and_eq_true_iff.mpr ⟨h.ls, t.ls⟩, Bool.or_eq_false_iff.mpr ⟨h.nd, t.nd⟩, Nat.max_le.mpr ⟨h.dp, t.dp⟩, by
    show d.bulk + 1 + PyData.bulkAll ds ≤ _
    have := h.bk
    have := t.bk
    omega⟩
theorem SmA.all {k n : Nat} : ∀ {ds : List PyData}, (∀ d ∈ ds, Sm k n d) → SmA k (ds.length * (n + 1)) ds
  | [], _ => ⟨rfl, rfl, rfl, Nat.zero_le _, Nat.zero_le _⟩
  | d :: ds, h => by
    have t := SmA.cons (h d List.mem_cons_self) (SmA.all (k := k) (n := n) (ds := ds) fun x hx => h x (List.mem_cons_of_mem _ hx))
    refine ⟨t.sh, t.ls, t.nd, t.dp, Nat.le_trans t.bk ?_⟩
    rw [List.length_cons, Nat.succ_mul]
    omega
theorem Sm.tup {k n : Nat} {ds : List PyData} (h : SmA k n ds) : Sm (k + 1) n (.tuple ds) := ⟨h.sh, h.ls, h.nd, Nat.succ_le_succ h.dp, h.bk⟩
theorem Sm.lst {k n : Nat} {ds : List PyData} (h : SmA k n ds) : Sm (k + 1) n (.list ds) := ⟨h.sh, h.ls, h.nd, Nat.succ_le_succ h.dp, h.bk⟩
theorem Sm.fit {k n : Nat} {d : PyData} (h : Sm k n d) (hk : k ≤ 60) (hn : n ≤ 1000000) : ShN.FitN d := by
  refine ⟨h.sh, Nat.le_trans h.dp hk, ?_, h.nd⟩
  have b := PyData.shown_le_bulk 9 (by decide) d h.ls
  have := h.bk
  rw [sizeLine_eq]
  omega
theorem Sm.bool {k n : Nat} (b : Bool) : Sm k n (.bool b) := ⟨rfl, rfl, rfl, Nat.zero_le _, Nat.zero_le _⟩
theorem Sm.top {k n : Nat} {t : Int} (h1 : 1 ≤ t) (h3 : t ≤ 3) : Sm k n (.int t) := by
  obtain rfl | rfl | rfl : t = 1 ∨ t = 2 ∨ t = 3 := by omega
  all_goals exact ⟨by decide +kernel, by decide +kernel, by decide +kernel, Nat.zero_le _, Nat.zero_le _⟩
/-- a short name -/
def shortZ (z : Str) : Bool := PyData.showable (.str z) && PyData.leavesShort 9 (.str z) && decide (PyData.bulk (.str z) ≤ 8)
theorem Sm.str {k : Nat} {z : Str} (h : shortZ z = true) : Sm k 8 (.str z) := by
  unfold shortZ at h
  rw [Bool.and_eq_true, Bool.and_eq_true, decide_eq_true_eq] at h
  exact ⟨h.1.1, h.1.2, rfl, Nat.zero_le _, h.2⟩
theorem pool_short : ∀ z ∈ poolS, shortZ z = true := List.all_eq_true.mp (by decide +kernel)
theorem rails_short (g r : Bool) : ∀ z ∈ railsZ g r, shortZ z = true := by
  cases g <;> cases r <;> exact List.all_eq_true.mp (by decide +kernel)
/-- a tuple of short names -/
theorem Sm.names {zs : List Str} (h : ∀ z ∈ zs, shortZ z = true) (hl : zs.length ≤ 50) : Sm 1 450 (.tuple (zs.map PyData.str)) := by
  have a := SmA.all (k := 0) (n := 8) (ds := zs.map PyData.str) fun d hd => by
    obtain ⟨z, hz, rfl⟩ := List.mem_map.mp hd
    exact Sm.str (h z hz)
  rw [List.length_map] at a
  exact (Sm.tup a).mono (Nat.le_refl _) (by omega)
end Sj
namespace Sj
open PySem L2 Sup StK Own Shw Exg Grd
open NdefX (NF NScope ncx envF startF nscope_by)
open C8 (pss_cut tCut)
/-! k03: the comprehensions of _law_tells -/
theorem shaped_flat {ds : List PyData} (h : ∀ d ∈ ds, PyData.canLay0 d = true ∧ d.depth = 0) : SeqAt.shaped (.list ds) = true := by
  unfold SeqAt.shaped
  rw [Bool.and_eq_true]
  refine ⟨?_, decide_eq_true ?_⟩
  · show PyData.canLayAll0 ds = true
    induction ds with
    | nil => rfl
    | cons c cs ih => exact Bool.and_eq_true_iff.mpr ⟨(h c List.mem_cons_self).1, ih fun d hd => h d (List.mem_cons_of_mem _ hd)⟩
  · have e : PyData.depthAll ds ≤ 0 := by
      induction ds with
      | nil => exact Nat.le_refl _
      | cons c cs ih => exact Nat.max_le.mpr ⟨by rw [(h c List.mem_cons_self).2]; exact Nat.le_refl _, ih fun d hd => h d (List.mem_cons_of_mem _ hd)⟩
    show PyData.depthAll ds + 1 ≤ 64
    omega
theorem eqv_flat {ds : List PyData} (h : ∀ d ∈ ds, PyData.eqv d d = true) : PyData.eqv (.list ds) (.list ds) = true := by
  show PyData.eqvAll ds ds = true
  induction ds with
  | nil => rfl
  | cons c cs ih => exact Bool.and_eq_true_iff.mpr ⟨h c List.mem_cons_self, ih fun d hd => h d (List.mem_cons_of_mem _ hd)⟩
theorem pool_lay : ∀ z ∈ poolS, PyData.strOk z = true := List.all_eq_true.mp (by decide +kernel)
theorem strs_data {zs : List Str} (h : ∀ z ∈ zs, PyData.strOk z = true) : SeqAt.shaped (.list (zs.map PyData.str)) = true ∧ PyData.eqv (.list (zs.map PyData.str)) (.list (zs.map PyData.str)) = true := by
  refine ⟨shaped_flat fun d hd => ?_, eqv_flat fun d hd => ?_⟩
  · obtain ⟨z, hz, rfl⟩ := List.mem_map.mp hd
    exact ⟨h z hz, rfl⟩
  · obtain ⟨z, _, rfl⟩ := List.mem_map.mp hd
    simp [PyData.eqv]
theorem bls_data (bs : List Bool) : SeqAt.shaped (.list (bs.map PyData.bool)) = true ∧ PyData.eqv (.list (bs.map PyData.bool)) (.list (bs.map PyData.bool)) = true := by
  refine ⟨shaped_flat fun d hd => ?_, eqv_flat fun d hd => ?_⟩
  · obtain ⟨z, _, rfl⟩ := List.mem_map.mp hd
    exact ⟨rfl, rfl⟩
  · obtain ⟨z, _, rfl⟩ := List.mem_map.mp hd
    simp [PyData.eqv]
theorem dp_bls {K : PySem.W.Frag} {H : Hp} : ∀ bs : List Bool, DpAll K H (bs.map V.bl) (bs.map PyData.bool)
  | [] => .nil
  | b :: bs => .cons (.bl b) (dp_bls bs)
def teNmL (K : PySem.W.Frag) : TE := tFld K (tVar 4) "name"
def teDvL (ks : Kinds) : TE := tPropS (fun C => C = ks.drv ∨ C = ks.lis) (fun C => spDr C (decide (C = ks.drv))) (tVar 4)
def teInL (K : PySem.W.Frag) : TE := tOp (rIn K false) (tVar 5) (tDGet (tVar 1) (tC (.str "drivers")))
/-- a comprehension whose items are known beforehand -/
theorem map_walk {J : It} {n : Nat} {G : Hp → Prop} {Y : Nat → Hp → V → Hp → Prop} (wk : Walk J n G Y) {g : TG} {te : TE} {is : List Nat} {σ : L2.St} {H : Hp} {D : Addr} {vs : List V} {Qd : Hp → Prop} (hn : vs.length = n) (hl : n ≤ 60) (hD : H D = none) (hG : ∀ H', Same H H' → G H')
    (turn : ∀ (i : Nat) (x : V) (H1 H2 : Hp) (hi : i < vs.length), Same H H1 → Y i H1 x H2 → g x (wipe σ is) H2 fun σ2 H3 => wipe σ2 is = wipe σ is ∧ ∀ Q : VK, (∀ H4, Same H1 H4 → Q vs[i] H4) → te σ2 H3 Q) (hd : ∀ H', Same H H' → H' D = some (.lst vs) → Qd H')
    (gm : ∀ (x : V) (σ : L2.St) (H : Hp) (P P' : L2.St → Hp → Prop), (∀ s h, P s h → P' s h) → g x σ H P → g x σ H P') :
    ∃ W : Nat → Nat → Hp → Prop, (∃ m, W 0 m (upd H D (.lst []))) ∧ ∀ i m H, W i m H →
      (J.stop i H ∧ Qd H) ∨ (J.go i H ∧ ∃ Nx : Hp → Prop, (∀ H', Nx H' → ∃ m', m' < m ∧ W (i + 1) m' H') ∧ ∀ x H', J.yld i H x H' → g x (wipe σ is) H' fun σ2 H2 => wipe σ2 is = wipe σ is ∧ tYes σ2 H2 fun b H3 =>
        if b = true then te σ2 H3 fun y H4 => ∃ acc, H4 D = some (.lst acc) ∧ acc.length < sizeLine ∧ Nx (upd H4 D (.lst (acc ++ [y]))) else Nx H3) := by
  refine lc_it wk (fun i H' => Same H H' ∧ H' D = some (.lst (vs.take i))) ⟨same_at hD, upd_same⟩ (fun i H' _ p => hG H' p.1) ?_ ?_
  · rintro i x H1 H2 hi ⟨s1, d1⟩ hy
    have hi' : i < vs.length := by omega
    refine gm _ _ _ _ _ ?_ (turn i x H1 H2 hi' s1 hy)
    rintro σ2 H3 ⟨hw, ht⟩
    refine ⟨hw, ?_⟩
    unfold tYes
    dsimp only
    rw [if_pos rfl]
    refine ht _ fun H4 s4 => ⟨_, s4 _ _ d1, ?_, fun c o hc => ?_, ?_⟩
    · rw [List.length_take]
      exact Nat.lt_of_le_of_lt (Nat.min_le_right _ _) (Nat.lt_of_le_of_lt (show vs.length ≤ 60 by omega) (by decide))
    · rw [upd_ne (ne_of_none hc hD)]
      exact s4 _ _ (s1 _ _ hc)
    · rw [upd_same, List.take_add_one, List.getElem?_eq_getElem hi']
      rfl
  · rintro H1 ⟨s1, d1⟩
    rw [← hn, List.take_length] at d1
    exact hd H1 s1 d1
theorem gName_mono (i : Nat) (x : V) (σ : L2.St) (H : Hp) (P P' : L2.St → Hp → Prop) (h : ∀ s h, P s h → P' s h) (q : gName i x σ H P) : gName i x σ H P' := h _ _ q
end Sj
namespace Sj
open PySem L2 Sup StK Own Shw Exg Grd
open NdefX (NF NScope ncx envF startF nscope_by)
open C8 (pss_cut tCut)
/-! Frame + leg (k05) -/
/-- legs, as __init__ takes them -/
theorem frG_rd {K : PySem.W.Frag} {ks : Kinds} {CI CF : Addr} {rs : List LegR} {t : Int} {g r : Bool} {zs : List V} {gV : List V → List V → List V} {H : Hp} {Q : VK} {E : XK} (hg : ∀ v, gV [v] zs = [v, .int t, .bl g, .bl r]) (hok : ∀ r ∈ rs, r.ok ks H) (le : rs.length ≤ 1000) (t1 : 1 ≤ t) (t3 : t ≤ 3)
    (bad : ∀ z, due (names rs) true true = .str z → ∀ d H', errH H H' d "reason" (.str z) → E (.ref CI) (some d) H')
    (k : due (names rs) true true = .non → ∀ a ys H', H a = none → ys.Perm rs → FrAt H' a CF ys (.int t) (.bl g) (.bl r) → (∀ r ∈ ys, r.ok ks H') → PyProof.Rows.sortedS (names ys) = true → Same H H' → Q (.ref a) H') : spMk CF (spStarK 1 gV (spFrI K ks CI CF)) E (refs rs) zs H Q := by
  intro a dx ha hdx hne
  have hl : (refs rs).length = rs.length := List.length_map _
  have s1 : Same H (upd (upd H dx (.own a)) a (.ins CF dx [])) := fun b o e => by rw [upd_ne (ne_of_none e ha), upd_ne (ne_of_none e hdx)]; exact e
  refine ⟨[.ref a], refs rs, rfl, rfl, Nat.le_trans (show _ ≤ 1000 by omega) (by decide), fun p hp => ?_⟩
  have s2 := same_at (o := .tup (refs rs)) hp
  refine ⟨a, dx, p, refs rs, .int t, .bl g, .bl r, true, true, true, by rw [hg]; rfl, s2 _ _ upd_same, upd_same, by omega, topIn t1 t3, railIn, railIn, .inr ⟨rs, rfl, fun r hr => ((hok r hr).same s1).same s2, fun z hz d H' he => bad z hz d H' (he.of (s1.trans s2)), fun hz H' ys ho hf b => ⟨rfl, ?_⟩⟩⟩
  have s3 : Same H H' := fun c o e => b c o (ne_of_none e ha) (s2 _ _ (s1 _ _ e))
  exact k hz a ys H' ha ho.1 hf (fun r hr => (hok r (ho.1.mem_iff.mp hr)).same s3) ho.2 s3
/-- .. one of them no leg -/
theorem frN_rd {K : PySem.W.Frag} {ks : Kinds} {CI CF : Addr} {rs : List LegR} {x : V} {t : Int} {g r : Bool} {zs : List V} {gV : List V → List V → List V} {H : Hp} {Q : VK} {E : XK} (hg : ∀ v, gV [v] zs = [v, .int t, .bl g, .bl r]) (isl : ∀ r ∈ rs, IsL K ks H (.ref r.a) true) (hx : IsL K ks H x false) (le : rs.length ≤ 900) (t1 : 1 ≤ t) (t3 : t ≤ 3)
    (bad : ∀ d H', errH H H' d "reason" (.str "legs") → E (.ref CI) (some d) H') : spMk CF (spStarK 1 gV (spFrI K ks CI CF)) E (refs rs ++ [x]) zs H Q := by
  intro a dx ha hdx hne
  have hl : (refs rs).length = rs.length := List.length_map _
  have hl2 : (refs rs ++ [x]).length = rs.length + 1 := by rw [List.length_append, hl]; rfl
  have s1 : Same H (upd (upd H dx (.own a)) a (.ins CF dx [])) := fun b o e => by rw [upd_ne (ne_of_none e ha), upd_ne (ne_of_none e hdx)]; exact e
  refine ⟨[.ref a], refs rs ++ [x], rfl, rfl, Nat.le_trans (show _ ≤ 1000 by omega) (by decide), fun p hp => ?_⟩
  have s2 := same_at (o := .tup (refs rs ++ [x])) hp
  refine ⟨a, dx, p, refs rs ++ [x], .int t, .bl g, .bl r, true, true, true, by rw [hg]; rfl, s2 _ _ upd_same, upd_same, by omega, topIn t1 t3, railIn, railIn, .inl ⟨List.replicate rs.length true ++ [false], ?_, ?_, fun i y b hy hb => ?_, fun d H' he => bad d H' (he.of (s1.trans s2))⟩⟩
  · rw [List.length_append, List.length_replicate, hl2]; rfl
  · rw [List.all_append]
    show (_ && (false && true)) = false
    rw [Bool.false_and, Bool.and_false]
  · have s12 := s1.trans s2
    by_cases hi : i < rs.length
    · rw [List.getElem?_append_left (by omega)] at hy
      rw [List.getElem?_append_left (by rw [List.length_replicate]; exact hi)] at hb
      have e1 : (refs rs)[i]? = some (.ref rs[i].a) := by unfold refs; rw [List.getElem?_map, List.getElem?_eq_getElem hi]; rfl
      have e2 : (List.replicate rs.length true)[i]? = some true := by rw [List.getElem?_replicate, if_pos hi]
      rw [e1] at hy
      rw [e2] at hb
      obtain rfl := Option.some.inj hy
      obtain rfl := Option.some.inj hb
      exact (isl _ (List.getElem_mem hi)).same s12
    · have hlt := (List.getElem?_eq_some_iff.mp hy).1
      have ei : i = rs.length := by omega
      subst ei
      rw [List.getElem?_append_right (by omega), hl, Nat.sub_self] at hy
      rw [List.getElem?_append_right (by rw [List.length_replicate]; omega), List.length_replicate, Nat.sub_self] at hb
      obtain rfl : x = y := Option.some.inj hy
      obtain rfl : false = b := Option.some.inj hb
      exact hx.same s12
def spFAdd (K : PySem.W.Frag) (ks : Kinds) (CI CF : Addr) : Sp := fun vs H Q E => ∃ a d x, vs = [.ref a, x] ∧ FrIs ks CF H a d ∧ 1 ≤ d.t ∧ d.t ≤ 3 ∧
  ((IsL K ks H x false ∧ ∀ e H', errH H H' e "reason" (.str "legs") → E (.ref CI) (some e) H') ∨
   ∃ r : LegR, x = .ref r.a ∧ r.ok ks H ∧ (∀ z, due (names (d.ys ++ [r])) true true = .str z → ∀ e H', errH H H' e "reason" (.str z) → E (.ref CI) (some e) H') ∧
     (due (names (d.ys ++ [r])) true true = .non → ∀ a' ys H', H a' = none → ys.Perm (d.ys ++ [r]) → FrIs ks CF H' a' ⟨ys, d.t, d.g, d.r⟩ → Same H H' → Q (.ref a') H'))
structure FaT (P : Program) (w : World) (K : PySem.W.Frag) (mg : Str → Option Value) (base : Heap) (ks : Kinds) (CI CF fF : Addr) : Prop where
  cl : Cls K CF
  nT : NoAttr K CF "top"
  nG : NoAttr K CF "ground"
  nP : NoAttr K CF "power"
  legs : PropN P w K mg base 1 CF "legs" (spLegs ks CF)
  mF : mg "Frame" = some (.ref CF)
  mkc : Mk K CF fF
  init : FnK P w K mg base (L2.CX P w) 4 fF ksB (spStarK 1 (fun vs zs => vs ++ zs) (spFrI K ks CI CF))
  isl : ∀ H (r : LegR), r.ok ks H → IsL K ks H (.ref r.a) true
section
variable {P : Program} {w : World} {K : PySem.W.Frag} {mg : Str → Option Value} {base : Heap}
theorem ok_fadd {f CI CF fF : Addr} {fd : FuncData} {ks : Kinds} (F : Fun K "__add__" "Frame.__add__" (sFr 14) f fd) (T : FaT P w K mg base ks CI CF fF) : FnOk P w K mg base (L2.CX P w) 6 f fd ["self", "other"] (spFAdd K ks CI CF) := by
  have sc : FnScope ["self", "other", "legs"] ["self", "other"] (defScope (sFr 14)) := ⟨rfl, rfl, rfl, by decide +kernel, rfl, by decide +kernel, by decide +kernel⟩
  refine F.okX sc (fun vs H Q E h => ?_) (fun cdv A outer s H vs Q E hr h => ?_)
  · obtain ⟨a, d, x, rfl, _⟩ := h
    rfl
  · obtain ⟨a, d, x, rfl, hF, t1, t3, h⟩ := h
    obtain ⟨dx, D, ea, eD, _⟩ := id hF.at_
    refine ⟨_, pss_cons (ps_set (i := 2) sc.nd rfl (Or.inl rfl) (pe_propS (S := fun C => C = CF) (spP := fun _ => spLegs ks CF) (pv 0) (fun C e => by rw [e]; exact T.legs) (hr.mono (by decide))))
      (pss_one (ps_ret (pe_makeSt T.mkc T.init hr rfl T.mF (passes_call (takes_of rfl rfl rfl rfl) fun _ _ _ _ h => h) (StX.pa_star (pv 2) (pa_cons (pv 1) pa_nil)) (pk_cons (pe_fld (pv 0) rfl) (pk_cons (pe_fld (pv 0) rfl) (pk_cons (pe_fld (pv 0) rfl) pk_nil)))))), ?_⟩
    refine ⟨_, rfl, a, CF, dx, _, rfl, ea, rfl, a, d, rfl, hF, fun p H1 hp hv s1 => ?_⟩
    have e1 := s1 _ _ ea
    refine ⟨_, rfl, p, _, rfl, .inl (SqT.of hv), _, rfl, _, rfl, a, CF, dx, _, _, rfl, e1, T.cl, T.nT, frF_top _ _ _ _, _, rfl, a, CF, dx, _, _, rfl, e1, T.cl, T.nG, frF_ground _ _ _ _, _, rfl, a, CF, dx, _, _, rfl, e1, T.cl, T.nP, frF_power _ _ _ _, rfl, ?_⟩
    rcases h with ⟨hx, bad⟩ | ⟨r, rfl, hr', bad, k⟩
    · exact frN_rd (fun v => rfl) (fun r hr => T.isl _ r ((hF.ok r hr).same s1)) (hx.same s1) (Nat.le_trans hF.le (by decide)) t1 t3 fun e H' he => bad e H' (he.of s1)
    · rw [show refs d.ys ++ [V.ref r.a] = refs (d.ys ++ [r]) by unfold refs; rw [List.map_append]; rfl]
      refine frG_rd (fun v => rfl) (fun r' h' => ?_) (by rw [List.length_append]; exact Nat.le_trans (Nat.add_le_add_right hF.le 1) (by decide)) t1 t3 (fun z hz e H' he => bad z hz e H' (he.of s1)) fun hz a' ys H' ha' hp' hf ok' so s2 => k hz a' ys H' (s1.free ha') hp' ⟨hf, ok', ?_, ?_, so⟩ (s1.trans s2)
      · rcases List.mem_append.mp h' with h' | h'
        · exact (hF.ok _ h').same s1
        · obtain rfl := List.mem_singleton.mp h'
          exact hr'.same s1
      · exact (hp'.map _).nodup_iff.mpr (due_non hz).2
      · rw [hp'.length_eq]
        have := (due_non hz).1
        unfold names at this
        rwa [List.length_map] at this
end
end Sj
/-! own methods by a promise that asks nothing of what is being shown -/
namespace Own
open PySem PySem.Spec PyProof.Rows L2 Sup Grd
structure MetN (P : Program) (w : World) (K : PySem.W.Frag) (mg : Str → Option Value) (base : Heap) (CX : CXT) (n : Nat) (C : Addr) (name : Str) (ps : List Str) (sp : Sp) : Prop where
  ex : ∃ (f : Addr) (fd : FuncData), PySem.W.findIn K (.ref C) name = some (some (.ref f)) ∧ PySem.W.isFn K (.ref f) = true ∧ PySem.W.fnIn K f = true ∧ FnOk P w K mg base CX n f fd ps sp ∧ Binds K fd ps []
section
variable {X : Cx} {CX : CXT} {pins : List (Addr × Obj)} {σ : L2.St} {H : Hp} {s : Shared} {k : Nat} {C f : Addr} {fd : FuncData} {ps : List Str} {sp : Sp} {E : XK}
theorem run_atN {A : Around} {Q : VK} {us : List Value} {vs : List V} {E' : Value → Shared → Prop} (F : FnOk X.prog X.w X.K X.mg X.base CX k f fd ps sp) (hr : Room k A) (hb : Binds X.K fd ps []) (e0 : Env0 X.prog X.w X.K X.mg X.base A X.stack s H)
    (hx : ∀ e s', CX X.stack H s E e s' → E' e s') (I : Inv X pins σ H s) (r : Vals vs us) (h : sp vs H Q E) : wpAny (model X.prog X.w) A (call (.ref f) us) (EP X pins σ Q) E' s := by
  have hl : (us ++ []).length = ps.length := by rw [List.append_nil, ← r.length]; exact F.len _ _ _ _ h
  have hB := hb s us I.kIn hl
  rw [List.append_nil] at hB
  refine wpAny_call (codeAny_mono (F.run A X.stack s H ⟨us, []⟩ us vs Q E hr e0 hB r h) fun res s' hq => ?_)
  match res, hq with
  | .error e, hq => exact hx e s' hq
  | .ok (.ret u), hq => exact I.after hq
theorem op_inN (M : MetN X.prog X.w X.K X.mg X.base CX0 k C "__contains__" ps sp) (hr : Room k X.A) : OpR X (compareOp .In) (rInO C false sp) := by
  obtain ⟨f, fd, h1, h2, _, F, hb⟩ := M
  intro pins s σ H x y v u Q I rx ry h
  obtain ⟨a, dx, fs, rfl, ha, h⟩ := h
  obtain rfl : u = Value.ref a := ry
  obtain ⟨mA, O, _⟩ := ins_get I.hok ha
  obtain ⟨od, J, _⟩ := O.look
  obtain ⟨m, Fr⟩ := I.fr
  refine PySem.W.in_K Fr I.mod.kin J h1 h2 (wpAny_mono (run_atN (vs := [.ref a, x]) F hr hb I.env0 (E' := X.xe) (fun e s' z => False.elim z) I (.cons rfl (.cons rx .nil)) h) (fun v s1 ⟨z, H1, I1, rv, b, ez, q⟩ => ?_) fun _ _ z => z)
  subst ez
  obtain rfl : v = Value.bool b := rv
  exact wpAny_truthy_bool ⟨.bl b, H1, I1, rfl, q⟩
theorem op_notInN (M : MetN X.prog X.w X.K X.mg X.base CX0 k C "__contains__" ps sp) (hr : Room k X.A) : OpR X (compareOp .NotIn) (rInO C true sp) := by
  obtain ⟨f, fd, h1, h2, _, F, hb⟩ := M
  intro pins s σ H x y v u Q I rx ry h
  obtain ⟨a, dx, fs, rfl, ha, h⟩ := h
  obtain rfl : u = Value.ref a := ry
  obtain ⟨mA, O, _⟩ := ins_get I.hok ha
  obtain ⟨od, J, _⟩ := O.look
  obtain ⟨m, Fr⟩ := I.fr
  refine PySem.W.notIn_K Fr I.mod.kin J h1 h2 (wpAny_mono (run_atN (vs := [.ref a, x]) F hr hb I.env0 (E' := X.xe) (fun e s' z => False.elim z) I (.cons rfl (.cons rx .nil)) h) (fun v s1 ⟨z, H1, I1, rv, b, ez, q⟩ => ?_) fun _ _ z => z)
  subst ez
  obtain rfl : v = Value.bool b := rv
  exact wpAny_truthy_bool ⟨.bl (!b), H1, I1, rfl, q⟩
theorem pe_itN {e1 e2 : Expr} {ta tb : TE} {pos : Pos} (M : MetN X.prog X.w X.K X.mg X.base CX k C "__getitem__" ps sp) (hr : Room (k + 1) X.A) (hx : Passes CX X E) (ha : PE X e1 ta) (hb' : PE X e2 tb)
    (hsl : ∀ v u, subscripted e2 true v u = runValue (.builtin "lifetime.subscript" ⟨[v, u], []⟩) := by intros; with_unfolding_all rfl) : PE X (.Subscript e1 e2 pos) (tItO C sp E ta tb) := by
  obtain ⟨f, fd, h1, h2, h3, F, hb⟩ := M
  refine ⟨fun pins s σ H Q I h => ?_⟩
  refine Subscript_ (binT ha hb' I (R := fun y x H2 => ∃ a dx fs, y = .ref a ∧ H2 a = some (.ins C dx fs) ∧ sp [.ref a, x] H2 Q E) h fun v u s2 y x H2 I2 ry rx ⟨a, dx, fs, ey, hz, q⟩ => ?_)
  subst ey
  obtain rfl : v = Value.ref a := ry
  obtain ⟨mA, O, _⟩ := ins_get I2.hok hz
  obtain ⟨od, J, _⟩ := O.look
  obtain ⟨m, Fr⟩ := I2.fr
  exact PySem.W.sub_K Fr I2.mod.kin J h1 h3 h2 (run_atN (vs := [.ref a, x]) F hr.in1 hb I2.env0.in1 (E' := X.xe) (fun e s' z => hx pins σ H2 s2 e s' I2 z) I2 (.cons rfl (.cons rx .nil)) q) (hsl _ _)
end
end Own
namespace Sj
open PySem L2 Sup StK Own Shw Exg Grd
open NdefX (NF NScope ncx envF startF nscope_by)
open C8 (pss_cut tCut)
/-! k06: is_driver -/
abbrev sIsD : Stmt := top 21
theorem scIsD : FnScope ["frame", "value"] ["frame", "value"] (defScope sIsD) := ⟨rfl, rfl, rfl, by decide +kernel, rfl, by decide +kernel, by decide +kernel⟩
/-- self[at], there -/
def spFGetI (ks : Kinds) (CF : Addr) : Sp := fun vs H Q _ => ∃ a d, ∃ r : LegR, vs = [.ref a, .str r.z] ∧ FrIs ks CF H a d ∧ r ∈ d.ys ∧ Q (.ref r.a) H
def spIsD (K : PySem.W.Frag) (ks : Kinds) (CF : Addr) : Sp := fun vs H Q _ => ∃ a d x, vs = [.ref a, x] ∧ FrIs ks CF H a d ∧ ((∃ r ∈ d.ys, x = .str r.z ∧ Q (.bl (decide (r.C = ks.drv))) H) ∨ (NotLeg K H x d ∧ Q (.bl false) H))
/-- is_between, any bounds -/
def IntIs (K : PySem.W.Frag) (H : Hp) (T : V) (lo hi : Int) (b : Bool) : Prop := (∃ i : Int, T = .int i ∧ b = (decide (lo ≤ i) && decide (i ≤ hi))) ∨ ∃ (t : String) (m c : Bool), TyX K H T (.type t) ∧ kitB t "int" = some m ∧ kitB t "bool" = some c ∧ (m && !c) = false ∧ b = false
def spBetG (K : PySem.W.Frag) : Sp := fun vs H Q _ => ∃ (T : V) (lo hi : Int) (b : Bool), vs = [T, .int lo, .int hi] ∧ IntIs K H T lo hi b ∧ Q (.bl b) H
section
variable {P : Program} {w : World} {K : PySem.W.Frag} {mg : Str → Option Value} {base : Heap}
theorem ok_betG {f fI : Addr} {fd fdI : FuncData} (F : Fun K "is_between" "is_between" sBetw f fd) (FI : FnOk P w K mg base CX0 1 fI fdI ["value"] (spIsInt K)) (mI : mg "is_integer" = some (.ref fI)) (kI : PySem.W.keepIn K (.ref fI) = true) (bI : Binds K fdI ["value"] []) :
    FnOk P w K mg base CX0 2 f fd ["value", "least", "most"] (spBetG K) := by
  refine F.ok scBetw (fun vs H Q E h => ?_) (fun cdv A outer s H vs Q E hr h => ?_)
  · obtain ⟨T, lo, hi, b, rfl, _⟩ := h
    rfl
  · obtain ⟨T, lo, hi, b, rfl, ht, k⟩ := h
    refine ⟨_, pss_one (ps_ret (pe_and (pe_call FI hr rfl mI kI bI .nil pass0 (pa_cons (pv 0) pa_nil)) (pe_one (pe_chain op_le op_le (pv 1) (pv 0) (pv 2))))), ?_⟩
    rcases ht with ⟨i, rfl, rfl⟩ | ⟨t, m, c, ht, hm, hc, e, rfl⟩
    · refine ⟨_, rfl, _, _, _, _, rfl, .base (.int i), (by decide +kernel : kitB "int" "int" = some true), (by decide +kernel : kitB "int" "bool" = some false), _, rfl, ?_⟩
      refine iteT ⟨_, rfl, _, rfl, _, _, rfl, rfl, _, rfl, ?_⟩
      by_cases h1 : lo ≤ i
      · rw [decide_eq_true h1] at k ⊢
        exact iteT ⟨_, rfl, _, _, rfl, rfl, k⟩
      · rw [decide_eq_false h1] at k ⊢
        exact iteF k
    · refine ⟨_, rfl, _, _, _, _, rfl, ht, hm, hc, _, rfl, ?_⟩
      rw [e]
      exact iteF k
theorem ok_fgetI {f CF : Addr} {fd : FuncData} {ks : Kinds} (F : Fun K "__getitem__" "Frame.__getitem__" (sFr 10) f fd) (cl : Cls K CF) (nL : NoAttr K CF "_legs") (TI : MetN P w K mg base CX0 1 CF "__contains__" ["self", "x"] (spFIs K ks CF)) :
    FnOk P w K mg base CX0 2 f fd ["self", "at"] (spFGetI ks CF) := by
  have sc : FnScope ["self", "at"] ["self", "at"] (defScope (sFr 10)) := ⟨rfl, rfl, rfl, by decide +kernel, rfl, by decide +kernel, by decide +kernel⟩
  refine F.ok sc (fun vs H Q E h => ?_) (fun cdv A outer s H vs Q E hr h => ?_)
  · obtain ⟨a, d, r, rfl, _⟩ := h
    rfl
  · obtain ⟨a, d, r, rfl, hF, hr', k⟩ := h
    obtain ⟨dx, D, ea, eD, _⟩ := hF.at_
    refine ⟨_, pss_cons (ps_if (pt_cmpR (op_notInN TI hr) (pv 1) (pv 0) (by rfl)) pss_never pss_nil)
      (pss_one (ps_ret (pe_dget (hu_of hr) (pe_fld (pv 0) rfl) (pv 1) (fun _ _ => rfl)))), ?_⟩
    refine ⟨_, rfl, _, rfl, a, dx, _, rfl, ea, a, d, _, rfl, hF, .inl ⟨r.z, rfl, List.mem_map.mpr ⟨r, hr', rfl⟩, true, rfl, _, rfl, ?_⟩⟩
    refine iteF ⟨_, rfl, a, CF, dx, _, _, rfl, ea, cl, nL, frF_legs _ _ _ _, _, rfl, D, _, rfl, ?_, k⟩
    rw [← valV_rows d.ys r hF.nd hr']
    exact DGet.k (k := Sum.inr r.z) eD
structure IsDT (P : Program) (w : World) (K : PySem.W.Frag) (mg : Str → Option Value) (base : Heap) (ks : Kinds) (CF : Addr) : Prop where
  in_ : MetN P w K mg base CX0 1 CF "__contains__" ["self", "x"] (spFIs K ks CF)
  get : MetN P w K mg base CX0 2 CF "__getitem__" ["self", "at"] (spFGetI ks CF)
  dv : ∀ C, (C = ks.drv ∨ C = ks.lis) → PropN P w K mg base 1 C "drives" (spDr C (decide (C = ks.drv)))
theorem ok_isd {f CF : Addr} {fd : FuncData} {ks : Kinds} (F : Fun K "is_driver" "is_driver" sIsD f fd) (T : IsDT P w K mg base ks CF) : FnOk P w K mg base CX0 4 f fd ["frame", "value"] (spIsD K ks CF) := by
  refine F.ok scIsD (fun vs H Q E h => ?_) (fun cdv A outer s H vs Q E hr h => ?_)
  · obtain ⟨a, d, x, rfl, _⟩ := h
    rfl
  · obtain ⟨a, d, x, rfl, hF, h⟩ := h
    obtain ⟨dx, fs, ea⟩ := hF.ins
    refine ⟨_, pss_one (ps_ret (pe_and (pe_cmpR (op_inN T.in_ (hr.mono (by decide))) (pv 1) (pv 0) (by rfl)) (pe_one (pe_propS (S := fun C => C = ks.drv ∨ C = ks.lis) (spP := fun C => spDr C (decide (C = ks.drv))) (pe_itN T.get (hr.mono (by decide)) pass0 (pv 0) (pv 1)) T.dv (hr.mono (by decide)))))), ?_⟩
    rcases h with ⟨r, hr', rfl, k⟩ | ⟨hn, k⟩
    · refine ⟨_, rfl, _, rfl, a, dx, fs, rfl, ea, a, d, _, rfl, hF, .inl ⟨r.z, rfl, List.mem_map.mpr ⟨r, hr', rfl⟩, true, rfl, _, rfl, ?_⟩⟩
      obtain ⟨hc, dy, er⟩ := hF.ok r hr'
      exact iteT ⟨_, rfl, _, rfl, a, dx, fs, rfl, ea, a, d, r, rfl, hF, hr', r.a, r.C, dy, _, rfl, er, hc, r.a, r.z, rfl, ⟨dy, er⟩, k⟩
    · exact ⟨_, rfl, _, rfl, a, dx, fs, rfl, ea, a, d, x, rfl, hF, .inr ⟨hn, false, rfl, _, rfl, iteF k⟩⟩
end
end Sj
namespace Sj
open PySem L2 Sup StK Own Shw Exg Grd
open NdefX (NF NScope ncx envF startF nscope_by)
open C8 (pss_cut tCut)
/-! driver_levels (k06, ..) -/
abbrev sDL : Stmt := top 24
abbrev nDL : List Str := ["frame", "levels", "name"]
theorem scDL : FnScope nDL ["frame", "levels"] (defScope sDL) := ⟨rfl, rfl, rfl, by decide +kernel, rfl, by decide +kernel, by decide +kernel⟩
def lvRow (p : Str × Int) : Key × V := (Sum.inr p.1, .int p.2)
def lvG : List (Str × Int) → Str → Option Int
  | [], _ => none
  | p :: r, z => if p.1 = z then some p.2 else lvG r z
def lvl (gv : List (Str × Int)) (t : Int) (z : Str) : Int := (lvG gv z).getD t
theorem valV_lv : ∀ (gv : List (Str × Int)) (z : Str), valV (gv.map lvRow) (Sum.inr z) = (lvG gv z).map V.int
  | [], _ => rfl
  | p :: r, z => by
    unfold lvG
    by_cases e : p.1 = z
    · rw [if_pos e, List.map_cons, valV_pos (show (lvRow p).1 = Sum.inr z by rw [← e]; rfl)]
      rfl
    · rw [if_neg e, List.map_cons, valV_neg (fun h : (lvRow p).1 = Sum.inr z => e (Sum.inr.inj h))]
      exact valV_lv r z
theorem lvG_mem : ∀ {gv : List (Str × Int)} {z : Str} {i : Int}, lvG gv z = some i → (z, i) ∈ gv
  | p :: r, z, i, h => by
    unfold lvG at h
    by_cases e : p.1 = z
    · rw [if_pos e] at h
      rw [← e, ← Option.some.inj h]
      exact List.mem_cons_self
    · rw [if_neg e] at h
      exact List.mem_cons_of_mem _ (lvG_mem h)
theorem lvG_of : ∀ {gv : List (Str × Int)} {z : Str}, z ∈ gv.map (·.1) → ∃ i, lvG gv z = some i
  | p :: r, z, h => by
    unfold lvG
    by_cases e : p.1 = z
    · exact ⟨_, if_pos e⟩
    · rw [if_neg e]
      exact lvG_of ((List.mem_cons.mp h).resolve_left fun q => e q.symm)
/-- levels that make a word: of drivers, within 0 and top -/
def LvOk (ks : Kinds) (d : FrD) (gv : List (Str × Int)) : Prop := gv.length ≤ 60 ∧ ∀ p ∈ gv, p.1 ∈ kindZ ks true d.ys ∧ 0 ≤ p.2 ∧ p.2 ≤ d.t
theorem lvl_le {ks : Kinds} {d : FrD} {gv : List (Str × Int)} (h : LvOk ks d gv) (ht : 0 ≤ d.t) (z : Str) : 0 ≤ lvl gv d.t z ∧ lvl gv d.t z ≤ d.t := by
  unfold lvl
  cases e : lvG gv z with
  | none => exact ⟨ht, Int.le_refl _⟩
  | some i => exact ⟨(h.2 _ (lvG_mem e)).2.1, (h.2 _ (lvG_mem e)).2.2⟩
/-- the level of each driver -/
def lvAll (ks : Kinds) (d : FrD) (gv : List (Str × Int)) : List (Str × Int) := (kindZ ks true d.ys).map fun z => (z, lvl gv d.t z)
theorem kind_leg {ks : Kinds} {ys : List LegR} {z : Str} (h : z ∈ kindZ ks true ys) : ∃ r ∈ ys, r.z = z ∧ r.C = ks.drv := by
  obtain ⟨r, hr, e⟩ := List.mem_map.mp h
  obtain ⟨h1, h2⟩ := List.mem_filter.mp hr
  rw [beq_true, decide_eq_true_eq] at h2
  exact ⟨r, h1, e, h2⟩
theorem kind_nd {ks : Kinds} {b : Bool} {ys : List LegR} (h : (names ys).Nodup) : (kindZ ks b ys).Nodup := List.Nodup.sublist (List.Sublist.map _ List.filter_sublist) h
theorem kind_le (ks : Kinds) (b : Bool) (ys : List LegR) : (kindZ ks b ys).length ≤ ys.length := by
  unfold kindZ names
  rw [List.length_map]
  exact List.length_filter_le _ _
def spDL (ks : Kinds) (CF : Addr) : Sp := fun vs H Q _ => ∃ f L d gv, vs = [.ref f, .ref L] ∧ FrIs ks CF H f d ∧ H L = some (.dK (gv.map lvRow)) ∧ LvOk ks d gv ∧ ∀ D H', H D = none → H' D = some (.dK ((lvAll ks d gv).map lvRow)) → Same H H' → Q (.ref D) H'
structure DlT (P : Program) (w : World) (K : PySem.W.Frag) (mg : Str → Option Value) (base : Heap) (ks : Kinds) (CF : Addr) : Prop where
  cl : Cls K CF
  nT : NoAttr K CF "top"
  isi : mg "isinstance" = none
  dict : mg "dict" = none
  str : mg "str" = none
  all : mg "all" = none
  sorted : mg "sorted" = none
  isd : ∃ f fd, mg "is_driver" = some (.ref f) ∧ PySem.W.keepIn K (.ref f) = true ∧ Binds K fd ["frame", "value"] [] ∧ FnOk P w K mg base CX0 4 f fd ["frame", "value"] (spIsD K ks CF)
  bet : ∃ f fd, mg "is_between" = some (.ref f) ∧ PySem.W.keepIn K (.ref f) = true ∧ Binds K fd ["value", "least", "most"] [] ∧ FnOk P w K mg base CX0 2 f fd ["value", "least", "most"] (spBetG K)
  drv : PropN P w K mg base 3 CF "drivers" (spTup ks CF fun d => kindZ ks true d.ys)
def teStr2 (K : PySem.W.Frag) : TE := tCB (rIsi K) (tCons (tVar 2) (tCons (tC (.ty "str")) tNil))
def teGet2 (K : PySem.W.Frag) : TE := tDGet2 (tVar 1) (tVar 2) (tFld K (tVar 0) "top")
section
variable {P : Program} {w : World} {K : PySem.W.Frag} {mg : Str → Option Value} {base : Heap}
theorem ok_dl {f CF : Addr} {fd : FuncData} {ks : Kinds} (F : Fun K "driver_levels" "driver_levels" sDL f fd) (T : DlT P w K mg base ks CF) : FnOk P w K mg base CX0 5 f fd ["frame", "levels"] (spDL ks CF) := by
  obtain ⟨fI, fdI, mI, kI, bI, GI⟩ := T.isd
  obtain ⟨fB, fdB, mB, kB, bB, GB⟩ := T.bet
  refine F.ok scDL (fun vs H Q E h => ?_) (fun cdv A outer s H vs Q E hr h => ?_)
  · obtain ⟨a, L, d, gv, rfl, _⟩ := h
    rfl
  · obtain ⟨a, L, d, gv, rfl, hF, hL, ok, k⟩ := h
    obtain ⟨dx, DD, ea, eD, _⟩ := hF.at_
    refine ⟨_, pss_cons (ps_if (PW.pt (pw_or (pt_not (pt_val (pe_callB call_isi (by rfl) T.isi (by decide +kernel) (pa_cons (pv 1) (pa_cons (pe_bltn (by rfl) T.dict (by decide +kernel) (v := .ty "dict") rfl) pa_nil)))))
        (pw_or1 (pt_not (pt_val (pe_lock (pe_callB (cr_all rfl) (by rfl) T.all (by decide +kernel) (pa_cons
          (pe_lc (te := teStr2 K) (own := [("name", 2)]) (g := gName 2) (tt := tYes) rfl scDL.nd (pi_keys (pv 1)) (blkOk_by (N := nDL) (sc := defScope sDL) (by decide +kernel))
            (fun _ _ _ _ _ => pg_name (i := 2) scDL.nd rfl (Or.inl rfl)) (fun _ _ _ _ _ => pts_nil) (fun _ _ _ _ _ => pe_callB call_isi (by rfl) T.isi (by decide +kernel) (pa_cons (pv 2) (pa_cons (pe_bltn (by rfl) T.str (by decide +kernel) (v := .ty "str") rfl) pa_nil)))) pa_nil))))))))
        pss_never pss_nil)
      (pss_cons (ps_for PassesOwn.never rfl (pi_list (pe_callB (call_sortedD rfl) (by rfl) T.sorted (by decide +kernel) (pa_cons (pv 1) pa_nil))) (pg_name (i := 2) scDL.nd rfl (Or.inl rfl))
        (pss_one (ps_if (PW.pt (pw_or (pt_not (pt_val (pe_call GI hr rfl mI kI bI .nil pass0 (pa_cons (pv 0) (pa_cons (pv 2) pa_nil))))) (pw_or1 (pt_not (pt_val (pe_call GB (hr.mono (by decide)) rfl mB kB bB .nil pass0 (pa_cons (pe_dget (hu_of hr) (pv 1) (pv 2) (fun _ _ => rfl)) (pa_cons pe_int (pa_cons (pe_fld (pv 0) rfl) pa_nil))))))))) pss_never pss_nil)))
      (pss_one (ps_ret (pe_dc (tk := tVar 2) (tv := teGet2 K) (own := [("name", 2)]) (g := gName 2) (tt := tYes) rfl scDL.nd (pi_tup (pe_propS (S := fun C => C = CF) (spP := fun _ => spTup ks CF fun d => kindZ ks true d.ys) (pv 0) (fun C e => by rw [e]; exact T.drv) (hr.mono (by decide))))
          (blkOk_by (N := nDL) (sc := defScope sDL) (by decide +kernel))
          (fun _ _ _ _ _ => pg_name (i := 2) scDL.nd rfl (Or.inl rfl)) (fun _ _ _ _ _ => pts_nil) (fun _ _ _ _ _ => pv 2) (fun _ _ _ _ _ => pe_dget2 (hu_of hr) (pv 1) (pv 2) (pe_fld (pv 0) rfl) ⟨rfl, rfl, rfl, rfl⟩))))), ?_⟩
    have hlm : (gv.map lvRow).length = gv.length := List.length_map _
    refine ⟨_, rfl, _, _, _, _, true, rfl, .ty _, .base (.dK hL), kit_ty (by decide +kernel), _, rfl, ?_⟩
    refine iteF ⟨L, _, hL, trivial, fun od => ?_⟩
    obtain ⟨HL, eL⟩ : ∃ HL, HL = upd H L (.frz od (.dK (gv.map lvRow))) := ⟨_, rfl⟩
    rw [← eL]
    have hLL : HL L = some (.frz od (.dK (gv.map lvRow))) := by rw [eL, upd_same]
    refine ⟨_, rfl, L, od, rfl, .inl ⟨_, hLL, fun Dn hDn => ?_⟩⟩
    refine lc_it (walk_keys (d := L) (o := od) (kvs := gv.map lvRow)) (fun i H' => Same HL H' ∧ H' Dn = some (.lst ((List.replicate i true).map V.bl))) ⟨same_at hDn, upd_same⟩ (fun i H' _ q => q.1 _ _ hLL) ?_ ?_
    · rintro i x H2 H3 hi ⟨s2, d2⟩ ⟨rfl, kk, vv, hkv, rfl⟩
      rw [hlm] at hi
      have e1 : (gv.map lvRow)[i]? = some (lvRow gv[i]) := by rw [List.getElem?_map, List.getElem?_eq_getElem hi]; rfl
      rw [e1] at hkv
      obtain rfl : Sum.inr gv[i].1 = kk := congrArg Prod.fst (Option.some.inj hkv)
      refine ⟨rfl, ?_⟩
      unfold tYes
      dsimp only
      rw [if_pos rfl]
      refine ⟨_, rfl, _, _, _, _, true, rfl, .ty _, .base (.str _), kit_ty (by decide +kernel), _, d2, ?_, fun c o hc => ?_, ?_⟩
      · rw [List.length_map, List.length_replicate]
        exact Nat.lt_of_lt_of_le hi (Nat.le_trans ok.1 (by decide))
      · rw [upd_ne (ne_of_none hc hDn)]
        exact s2 _ _ hc
      · rw [upd_same, List.replicate_succ', List.map_append]
        rfl
    · rintro H2 ⟨s2, d2⟩
      refine ⟨Dn, _, rfl, SqL.of d2, s2 _ _ hLL, _, rfl, ?_⟩
      have ea0 : (List.replicate (gv.map lvRow).length true).all id = true := by
        rw [List.all_eq_true]
        intro b hb
        rw [List.eq_of_mem_replicate hb]
        rfl
      rw [ea0]
      have s02 : Same H (upd H2 L (.dK (gv.map lvRow))) := same_unlock hL (by rw [← eL]; exact s2)
      obtain ⟨H4, e4⟩ : ∃ H4, H4 = upd H2 L (.dK (gv.map lvRow)) := ⟨_, rfl⟩
      rw [← e4] at s02 ⊢
      have hks : (gv.map lvRow).map (·.1) = (gv.map (·.1)).map Sum.inr := by rw [List.map_map, List.map_map]; rfl
      refine iteF ⟨_, rfl, L, _, gv.map (·.1), rfl, .inl (s02 _ _ hL), hks, by rw [List.length_map]; exact Nat.lt_of_le_of_lt ok.1 (by decide), fun ys q hp hs hq => ?_⟩
      obtain ⟨H5, e5⟩ : ∃ H5, H5 = upd H4 q (.lst (ys.map V.str)) := ⟨_, rfl⟩
      have s45 : Same H4 H5 := by rw [e5]; exact same_at hq
      have hq5 : H5 q = some (.lst (strv ys)) := by rw [e5, upd_same]; rfl
      rw [← e5]
      have s05 := s02.trans s45
      have hL5 := s05 _ _ hL
      have ea5 := s05 _ _ ea
      have hF5 := hF.same s05
      have hyl : (strv ys).length = ys.length := List.length_map _
      refine ⟨q, rfl, ⟨_, SqL.of hq5⟩, for_list (xs := strv ys) (fun i σ H' => H' = H5 ∧ ∃ o, σ = [some (.ref a), some (.ref L), o]) ⟨rfl, _, rfl⟩ (fun i σ H' _ h => by rw [h.1]; exact SqL.of hq5) ?_ ?_⟩
      · rintro i x σ H8 hx ⟨rfl, o, rfl⟩
        have hi' : i < ys.length := by rw [← hyl]; exact (List.getElem?_eq_some_iff.mp hx).1
        have ex : (strv ys)[i]? = some (.str ys[i]) := by show (ys.map V.str)[i]? = _; rw [List.getElem?_map, List.getElem?_eq_getElem hi']; rfl
        rw [ex] at hx
        obtain rfl := Option.some.inj hx
        obtain ⟨j, hj⟩ := lvG_of (hp.mem_iff.mp (List.getElem_mem hi'))
        obtain ⟨g1, g2, g3⟩ := ok.2 _ (lvG_mem hj)
        obtain ⟨r, hr', ez, eC⟩ := kind_leg g1
        refine ⟨_, rfl, _, rfl, a, d, _, rfl, hF5, .inl ⟨r, hr', by rw [ez], _, rfl, ?_⟩⟩
        rw [decide_eq_true eC]
        have hg : DGet H8 L (.str ys[i]) (some (.int j)) := by
          have := DGet.k (k := Sum.inr ys[i]) hL5
          rw [valV_lv, hj] at this
          exact this
        refine iteF ⟨_, rfl, _, rfl, L, _, rfl, hg, _, rfl, a, CF, dx, _, _, rfl, ea5, T.cl, T.nT, frF_top _ _ _ _, .int j, 0, d.t, true, rfl, .inl ⟨j, rfl, ?_⟩, _, rfl, ?_⟩
        · rw [decide_eq_true g2, decide_eq_true g3]
          rfl
        · exact iteF ⟨rfl, _, rfl⟩
      · rintro σ H8 ⟨rfl, o, rfl⟩
        refine ⟨_, rfl, a, CF, dx, _, rfl, ea5, rfl, a, d, rfl, hF5, fun tp H6 htp hv6 s56 => ?_⟩
        refine ⟨tp, rfl, ⟨_, SqT.of hv6⟩, fun D hD => ?_⟩
        have s06 := s05.trans s56
        dsimp only at hv6
        have hnd := kind_nd (ks := ks) (b := true) hF.nd
        have hkl := Nat.le_trans (kind_le ks true d.ys) hF.le
        obtain ⟨zs, ezs⟩ : ∃ zs, zs = kindZ ks true d.ys := ⟨_, rfl⟩
        have eall : lvAll ks d gv = zs.map fun z => (z, lvl gv d.t z) := by rw [ezs]; rfl
        rw [← ezs] at hv6 hnd hkl
        have hzl : (strv zs).length = zs.length := List.length_map _
        refine SetT.dict_it (walk_tup (K := K) (a := tp) (xs := strv zs)) (fun i H' => Same H6 H' ∧ H' D = some (.dK (((zs.take i).map fun z => (z, lvl gv d.t z)).map lvRow))) ⟨same_at hD, by rw [upd_same]; rfl⟩ (fun i H' _ p => .inl (.inl (p.1 _ _ hv6))) ?_ ?_
        · rintro i x H7 H9 hi ⟨s7, d7⟩ ⟨rfl, hx1⟩
          rw [hzl] at hi
          have e1 : (strv zs)[i]? = some (.str zs[i]) := by show (zs.map V.str)[i]? = _; rw [List.getElem?_map, List.getElem?_eq_getElem hi]; rfl
          rw [e1] at hx1
          obtain rfl := Option.some.inj hx1
          refine ⟨rfl, ?_⟩
          unfold tYes
          dsimp only
          rw [if_pos rfl]
          have s07 := s06.trans s7
          refine ⟨_, rfl, _, rfl, L, rfl, .inl ⟨_, .inl (s07 _ _ hL)⟩, _, rfl, _, rfl, a, CF, dx, _, _, rfl, s07 _ _ ea, T.cl, T.nT, frF_top _ _ _ _, _, DGet.k (k := Sum.inr zs[i]) (s07 _ _ hL), ?_⟩
          have hout : valV (((zs.take i).map fun z => (z, lvl gv d.t z)).map lvRow) (Sum.inr zs[i]) = none := by
            rw [valV_lv]
            cases e : lvG ((zs.take i).map fun z => (z, lvl gv d.t z)) zs[i] with
            | none => rfl
            | some j =>
              obtain ⟨z, hz, ez⟩ := List.mem_map.mp (lvG_mem e)
              have ez : z = zs[i] := congrArg Prod.fst ez
              obtain ⟨j, hj, ej⟩ := List.getElem_of_mem hz
              rw [List.length_take] at hj
              rw [List.getElem_take, ez] at ej
              have := (List.getElem_inj hnd).mp ej
              omega
          refine ⟨_, Sum.inr zs[i], rfl, d7, ?_, ?_, ?_⟩
          · rw [List.length_map, List.length_map, List.length_take]
            exact Nat.lt_of_le_of_lt (Nat.min_le_right _ _) (Nat.lt_of_le_of_lt hkl (by decide))
          · exact fun b o e => by
              rw [upd_ne (ne_of_none e hD)]
              exact s7 _ _ e
          · rw [upd_same, putK_new _ hout, List.take_add_one, List.getElem?_eq_getElem hi, List.map_append, List.map_append, valV_lv]
            have e2 : (Option.map V.int (lvG gv zs[i])).getD (.int d.t) = .int (lvl gv d.t zs[i]) := by
              unfold lvl
              cases lvG gv zs[i] <;> rfl
            rw [e2]
            rfl
        · rintro H7 ⟨s7, d7⟩
          rw [hzl, List.take_length] at d7
          exact k D H7 (s06.free hD) (by rw [eall]; exact d7) (s06.trans s7)
end
end Sj
namespace Sj
open PySem L2 Sup StK Own Shw Exg Grd
open NdefX (NF NScope ncx envF startF nscope_by)
open C8 (pss_cut tCut)
/-! Word: __init__, of, rest, lone (k06, ..) -/
abbrev sWd (i : Nat) : Stmt := inClass (top 23) i
def wdF (f D : Addr) : List (Str × V) := putF "_levels" (.ref D) (putF "frame" (.ref f) [])
theorem wdF_put (f D D' : Addr) : putF "_levels" (.ref D') (wdF f D) = wdF f D' := by
  rfl
theorem wdF_frame (f D : Addr) : (wdF f D).lookup ("frame" : Str) = some (.ref f) := by
  unfold wdF
  rw [lookup_putF, if_neg (by decide +kernel), lookup_putF, if_pos rfl]
theorem wdF_lv (f D : Addr) : (wdF f D).lookup ("_levels" : Str) = some (.ref D) := by
  unfold wdF
  rw [lookup_putF, if_pos rfl]
/-- a word: of the frame d, by the levels gv -/
structure WdIs (ks : Kinds) (CF CW : Addr) (H : Hp) (a : Addr) (d : FrD) (gv : List (Str × Int)) : Prop where
  ex : ∃ f dx D, H a = some (.ins CW dx (wdF f D)) ∧ H D = some (.dK ((lvAll ks d gv).map lvRow)) ∧ D ≠ a ∧ FrIs ks CF H f d
  ok : LvOk ks d gv
  t1 : 1 ≤ d.t
  t3 : d.t ≤ 3
theorem WdIs.same {ks : Kinds} {CF CW : Addr} {H H' : Hp} {a : Addr} {d : FrD} {gv : List (Str × Int)} (h : WdIs ks CF CW H a d gv) (s : Same H H') : WdIs ks CF CW H' a d gv := by
  obtain ⟨f, dx, D, h1, h2, h3, h4⟩ := h.ex
  exact ⟨⟨f, dx, D, s _ _ h1, s _ _ h2, h3, h4.same s⟩, h.ok, h.t1, h.t3⟩
theorem WdIs.ins {ks : Kinds} {CF CW : Addr} {H : Hp} {a : Addr} {d : FrD} {gv : List (Str × Int)} (h : WdIs ks CF CW H a d gv) : ∃ dx fs, H a = some (.ins CW dx fs) := by
  obtain ⟨f, dx, D, h1, _⟩ := h.ex
  exact ⟨dx, _, h1⟩
def spWdI (ks : Kinds) (CF CW : Addr) : Sp := fun vs H Q _ => ∃ a dx f L d gv, vs = [.ref a, .ref f, .ref L] ∧ H a = some (.ins CW dx []) ∧ FrIs ks CF H f d ∧ H L = some (.dK (gv.map lvRow)) ∧ LvOk ks d gv ∧
  ∀ D H', H' a = some (.ins CW dx (wdF f D)) → H' D = some (.dK ((lvAll ks d gv).map lvRow)) → D ≠ a → But H H' a → Q .non H'
structure WiT6 (P : Program) (w : World) (K : PySem.W.Frag) (mg : Str → Option Value) (base : Heap) (ks : Kinds) (CF CW : Addr) : Prop where
  cl : Cls K CW
  nF : NoAttr K CW "frame"
  nL : NoAttr K CW "_levels"
  dl : ∃ f fd, mg "driver_levels" = some (.ref f) ∧ PySem.W.keepIn K (.ref f) = true ∧ Binds K fd ["frame", "levels"] [] ∧ FnOk P w K mg base CX0 5 f fd ["frame", "levels"] (spDL ks CF)
theorem scWdI : FnScope ["self", "frame", "levels"] ["self", "frame", "levels"] (defScope (sWd 0)) := ⟨rfl, rfl, rfl, by decide +kernel, rfl, by decide +kernel, by decide +kernel⟩
section
variable {P : Program} {w : World} {K : PySem.W.Frag} {mg : Str → Option Value} {base : Heap}
theorem FrIs.setIns {ks : Kinds} {CF CW : Addr} {H : Hp} {a f dx : Addr} {d : FrD} {fs gs : List (Str × V)} (h : FrIs ks CF H f d) (ha : H a = some (.ins CW dx fs)) (hc : CW ≠ CF) (hk : CW ≠ ks.drv) (hl : CW ≠ ks.lis) : FrIs ks CF (upd H a (.ins CW dx gs)) f d := by
  obtain ⟨dy, D, h1, h2, h3⟩ := h.at_
  have e1 : f ≠ a := fun z => by
    rw [z, ha] at h1
    injection Option.some.inj h1 with q
    exact hc q
  have e2 : D ≠ a := ne_of h2 ha (by intro z; cases z)
  refine ⟨⟨dy, D, by rw [upd_ne e1]; exact h1, by rw [upd_ne e2]; exact h2, h3⟩, fun r hr => ?_, h.nd, h.le, h.so⟩
  obtain ⟨c, dz, e⟩ := h.ok r hr
  have e3 : r.a ≠ a := fun z => by
    rw [z, ha] at e
    injection Option.some.inj e with q
    rcases c with c | c
    · exact hk (q.trans c)
    · exact hl (q.trans c)
  exact ⟨c, dz, by rw [upd_ne e3]; exact e⟩
theorem body_wdI {CF CW f : Addr} {ks : Kinds} (T : WiT6 P w K mg base ks CF CW) (hc : CW ≠ CF) (hk : CW ≠ ks.drv) (hl : CW ≠ ks.lis) (cdv : Value) (A : Around) (outer : List Env) (s : Shared) (H : Hp) (vs : List V) (Q : VK) (E : XK)
    (hr : Room 5 (A.deeper (PyProof.Rows.envOfC "Word.__init__" (defScope (sWd 0)) s.heap.objs.size f cdv))) (h : spWdI ks CF CW vs H Q E) :
    ∃ t, PSs (cxOf CX0 P w K mg base ["self", "frame", "levels"] "Word.__init__" (defScope (sWd 0)) f cdv A outer s H E) (defBody (sWd 0)) t ∧ t { nx := fun _ H' => Q .non H', rt := Q } (start ["self", "frame", "levels"] vs) H := by
  obtain ⟨fD, fdD, mD, kD, bD, GD⟩ := T.dl
  obtain ⟨a, dx, fr, L, d, gv, rfl, ha, hF, hL, ok, k⟩ := h
  refine ⟨_, pss_cons (ps_fld (pv 0) (pv 1) rfl) (pss_one (ps_fld (pv 0) (pe_call GD hr rfl mD kD bD .nil pass0 (pa_cons (pv 1) (pa_cons (pv 2) pa_nil))) rfl)), ?_⟩
  refine ⟨_, rfl, _, rfl, a, CW, dx, _, rfl, ha, T.cl, T.nF, by show 0 < 1000; decide, ?_⟩
  have nL : L ≠ a := ne_of hL ha (by intro z; cases z)
  refine ⟨_, rfl, _, rfl, fr, L, d, gv, rfl, hF.setIns ha hc hk hl, by rw [upd_ne nL]; exact hL, ok, fun D H1 hD hv s1 => ?_⟩
  have ha1 := s1 _ _ upd_same
  have nD : D ≠ a := fun z => by rw [z, upd_same] at hD; cases hD
  refine ⟨_, rfl, a, CW, dx, _, rfl, ha1, T.cl, T.nL, by show 1 < 1000; decide, ?_⟩
  refine k D _ upd_same (by rw [upd_ne nD]; exact hv) nD fun b o hb e => ?_
  rw [upd_ne hb]
  exact s1 _ _ (by rw [upd_ne hb]; exact e)
theorem ok_wdI {CF CW f : Addr} {fd : FuncData} {ks : Kinds} (F : Fun K "__init__" "Word.__init__" (sWd 0) f fd) (T : WiT6 P w K mg base ks CF CW) (hc : CW ≠ CF) (hk : CW ≠ ks.drv) (hl : CW ≠ ks.lis) (qs : List Str) (hq : qs.Nodup) (hql : qs.length ≤ 1000)
    (hb : ∀ (kV doc pm : Value) (an : Option Addr) (cdv ct : Value) (us ws : List Value), us.length = 2 → ws.length = qs.length →
      bindArgs (PySem.W.fnOf "__init__" "Word.__init__" (defArgs (sWd 0)) (defBody (sWd 0)) (defScope (sWd 0)) .none kV doc pm an cdv ct) ⟨us, qs.zip ws⟩ =
        ((alloc ({ cls := .type "dict", data := .dict #[] } : Obj) : Sem Addr) >>= fun d => (forIn (qs.zip ws) PUnit.unit fun x _ => (nsSet d x.1 x.2 >>= fun _ => pure (ForInStep.yield PUnit.unit))) >>= fun _ => pure ((["self", "frame"] : List Str).zip us ++ [(("levels" : Str), Value.ref d)]))) :
    FnK P w K mg base CX0 6 f qs (spKw 2 qs (spWdI ks CF CW)) :=
  fn_kwD (ps := ["self", "frame"]) (pd := "levels") F scWdI StX.cxUp_none qs hq hql hb (fun cdv A outer s H vs Q E hr h => body_wdI T hc hk hl cdv A outer s H vs Q E hr h)
theorem wdI_b0 (kV doc pm : Value) (an : Option Addr) (cdv ct : Value) (us ws : List Value) (h1 : us.length = 2) (h2 : ws.length = ([] : List Str).length) :
    bindArgs (PySem.W.fnOf "__init__" "Word.__init__" (defArgs (sWd 0)) (defBody (sWd 0)) (defScope (sWd 0)) .none kV doc pm an cdv ct) ⟨us, ([] : List Str).zip ws⟩ =
        ((alloc ({ cls := .type "dict", data := .dict #[] } : Obj) : Sem Addr) >>= fun d => (forIn (([] : List Str).zip ws) PUnit.unit fun x _ => (nsSet d x.1 x.2 >>= fun _ => pure (ForInStep.yield PUnit.unit))) >>= fun _ => pure ((["self", "frame"] : List Str).zip us ++ [(("levels" : Str), Value.ref d)])) := by
  match us, ws, h1, h2 with
  | [_, _], [], _, _ => rfl
theorem wdI_b2 (kV doc pm : Value) (an : Option Addr) (cdv ct : Value) (us ws : List Value) (h1 : us.length = 2) (h2 : ws.length = (["a", "bb"] : List Str).length) :
    bindArgs (PySem.W.fnOf "__init__" "Word.__init__" (defArgs (sWd 0)) (defBody (sWd 0)) (defScope (sWd 0)) .none kV doc pm an cdv ct) ⟨us, (["a", "bb"] : List Str).zip ws⟩ =
        ((alloc ({ cls := .type "dict", data := .dict #[] } : Obj) : Sem Addr) >>= fun d => (forIn ((["a", "bb"] : List Str).zip ws) PUnit.unit fun x _ => (nsSet d x.1 x.2 >>= fun _ => pure (ForInStep.yield PUnit.unit))) >>= fun _ => pure ((["self", "frame"] : List Str).zip us ++ [(("levels" : Str), Value.ref d)])) := by
  match us, ws, h1, h2 with
  | [_, _], [_, _], _, _ => rfl
end
end Sj
namespace Sj
open PySem L2 Sup StK Own Shw Exg Grd
open NdefX (NF NScope ncx envF startF nscope_by)
open C8 (pss_cut tCut)
/-! Word.of, rest, lone (k06, ..) -/
/-- a word is made by keywords -/
theorem wd_rd {ks : Kinds} {CF CW f : Addr} {d : FrD} {qs : List Str} {zs : List V} {gv : List (Str × Int)} {H : Hp} {Q : VK} {E : XK} (hz : kwRows qs zs = gv.map lvRow) (hF : FrIs ks CF H f d) (ok : LvOk ks d gv)
    (k : ∀ a dx D H', H a = none → H' a = some (.ins CW dx (wdF f D)) → H' D = some (.dK ((lvAll ks d gv).map lvRow)) → D ≠ a → Same H H' → Q (.ref a) H') : spMk CW (spKw 2 qs (spWdI ks CF CW)) E [.ref f] zs H Q := by
  intro x dx hx hdx hne
  obtain ⟨H1, e1⟩ : ∃ H1, H1 = upd (upd H dx (.own x)) x (.ins CW dx []) := ⟨_, rfl⟩
  have s1 : Same H H1 := fun b o e => by rw [e1, upd_ne (ne_of_none e hx), upd_ne (ne_of_none e hdx)]; exact e
  have hx1 : H1 x = some (.ins CW dx []) := by rw [e1, upd_same]
  rw [← e1]
  refine ⟨rfl, fun p hp => ?_⟩
  have s2 := same_at (o := .dK (kwRows qs zs)) hp
  refine ⟨x, dx, f, p, d, gv, rfl, s2 _ _ hx1, hF.same (s1.trans s2), by rw [upd_same, hz], ok, fun D H' h1 h2 h3 b => ⟨rfl, k x dx D H' hx h1 h2 h3 fun c o e => ?_⟩⟩
  exact b c o (ne_of_none e hx) (s2 _ _ (s1 _ _ e))
/-- the word stands on its own: what is done to a dict that was there before does not touch it -/
def spWOf (ks : Kinds) (CF CW : Addr) : Sp := fun vs H Q _ => ∃ f L d gv, vs = [.ref CW, .ref f, .ref L] ∧ FrIs ks CF H f d ∧ H L = some (.dK (gv.map lvRow)) ∧ LvOk ks d gv ∧ 1 ≤ d.t ∧ d.t ≤ 3 ∧ ∀ a H', H a = none → WdIs ks CF CW H' a d gv → Same H H' → (∀ q kvs H0 H'', Same H0 H → H0 q = none → FrIs ks CF H0 f d → H q = some (.dK kvs) → But H' H'' q → WdIs ks CF CW H'' a d gv) → Q (.ref a) H'
def spWRest (ks : Kinds) (CF CW : Addr) : Sp := fun vs H Q _ => ∃ f d, vs = [.ref CW, .ref f] ∧ FrIs ks CF H f d ∧ 1 ≤ d.t ∧ d.t ≤ 3 ∧ ∀ a H', H a = none → WdIs ks CF CW H' a d [] → Same H H' → Q (.ref a) H'
def spWLone (ks : Kinds) (CF CW : Addr) : Sp := fun vs H Q _ => ∃ f d z i, vs = [.ref CW, .ref f, .str z, .int i] ∧ FrIs ks CF H f d ∧ z ∈ kindZ ks true d.ys ∧ 0 ≤ i ∧ i ≤ d.t ∧ 1 ≤ d.t ∧ d.t ≤ 3 ∧ ∀ a H', H a = none → WdIs ks CF CW H' a d [(z, i)] → Same H H' → Q (.ref a) H'
/-- Word(frame) -/
structure WmT (P : Program) (w : World) (K : PySem.W.Frag) (mg : Str → Option Value) (base : Heap) (ks : Kinds) (CF CW fW : Addr) : Prop where
  i : WiT6 P w K mg base ks CF CW
  mkc : Mk K CW fW
  rest : FnK P w K mg base CX0 6 fW [] (spKw 2 [] (spWdI ks CF CW))
theorem lv_nil {ks : Kinds} {d : FrD} : LvOk ks d [] := ⟨by decide, fun p hp => by cases hp⟩
section
variable {P : Program} {w : World} {K : PySem.W.Frag} {mg : Str → Option Value} {base : Heap}
theorem ok_wof {CF CW fW f : Addr} {fd : FuncData} {ks : Kinds} (F : Fun K "of" "Word.of" (sWd 1) f fd) (T : WmT P w K mg base ks CF CW fW) : FnOk P w K mg base CX0 8 f fd ["cls", "frame", "levels"] (spWOf ks CF CW) := by
  obtain ⟨fD, fdD, mD, kD, bD, GD⟩ := T.i.dl
  have sc : FnScope ["cls", "frame", "levels", "checked", "word"] ["cls", "frame", "levels"] (defScope (sWd 1)) := ⟨rfl, rfl, rfl, by decide +kernel, rfl, by decide +kernel, by decide +kernel⟩
  refine F.ok sc (fun vs H Q E h => ?_) (fun cdv A outer s H vs Q E hr h => ?_)
  · obtain ⟨f, L, d, gv, rfl, _⟩ := h
    rfl
  · obtain ⟨f, L, d, gv, rfl, hF, hL, ok, t1, t3, k⟩ := h
    refine ⟨_, pss_cons (ps_set (i := 3) sc.nd rfl (Or.inl rfl) (pe_call GD (hr.mono (by decide)) rfl mD kD bD .nil pass0 (pa_cons (pv 1) (pa_cons (pv 2) pa_nil))))
      (pss_cons (ps_set (i := 4) sc.nd rfl (Or.inl rfl) (pe_makeC T.mkc T.rest hr pass0 (pv 0) (pa_cons (pv 1) pa_nil) pk_nil))
      (pss_cons (ps_fld (pv 4) (pv 3) rfl) (pss_one (ps_ret (pv 4))))), ?_⟩
    refine ⟨_, rfl, _, rfl, f, L, d, gv, rfl, hF, hL, ok, fun D H1 hD hv s1 => ?_⟩
    refine ⟨_, rfl, rfl, _, rfl, rfl, wd_rd (gv := []) rfl (hF.same s1) lv_nil fun a dx D0 H2 ha h1 h2 h3 s2 => ?_⟩
    refine ⟨_, rfl, _, rfl, a, CW, dx, _, rfl, h1, T.i.cl, T.i.nL, by show 2 < 1000; decide, ?_⟩
    rw [wdF_put]
    have nD : D ≠ a := fun z => by rw [z] at hv; rw [hv] at ha; cases ha
    have ha0 : H a = none := s1.free ha
    have s3 : ∀ {o : HO}, Same H1 (upd H2 a o) := fun {o} b u e => by rw [upd_ne (ne_of_none e ha)]; exact s2 _ _ e
    refine ⟨_, rfl, k a _ ha0 ⟨⟨f, dx, D, upd_same, by rw [upd_ne nD]; exact s2 _ _ hv, nD, hF.same (s1.trans s3)⟩, ok, t1, t3⟩ (s1.trans s3) fun q kvs H0 H'' s0 hq0 hF0 hq bq => ?_⟩
    have qa : a ≠ q := fun z => by rw [← z, ha0] at hq; cases hq
    have qD : D ≠ q := fun z => by rw [← z, hD] at hq; cases hq
    exact ⟨⟨f, dx, D, bq _ _ qa upd_same, bq _ _ qD (by rw [upd_ne nD]; exact s2 _ _ hv), nD, hF0.same fun b u e => bq _ _ (ne_of_none e hq0) (s3 _ _ (s1 _ _ (s0 _ _ e)))⟩, ok, t1, t3⟩
theorem ok_wrest {CF CW fW f : Addr} {fd : FuncData} {ks : Kinds} (F : Fun K "rest" "Word.rest" (sWd 2) f fd) (T : WmT P w K mg base ks CF CW fW) : FnOk P w K mg base CX0 8 f fd ["cls", "frame"] (spWRest ks CF CW) := by
  have sc : FnScope ["cls", "frame"] ["cls", "frame"] (defScope (sWd 2)) := ⟨rfl, rfl, rfl, by decide +kernel, rfl, by decide +kernel, by decide +kernel⟩
  refine F.ok sc (fun vs H Q E h => ?_) (fun cdv A outer s H vs Q E hr h => ?_)
  · obtain ⟨f, d, rfl, _⟩ := h
    rfl
  · obtain ⟨f, d, rfl, hF, t1, t3, k⟩ := h
    refine ⟨_, pss_one (ps_ret (pe_makeC T.mkc T.rest hr pass0 (pv 0) (pa_cons (pv 1) pa_nil) pk_nil)), ?_⟩
    exact ⟨_, rfl, rfl, _, rfl, rfl, wd_rd (gv := []) rfl hF lv_nil fun a dx D0 H2 ha h1 h2 h3 s2 => k a H2 ha ⟨⟨f, dx, D0, h1, h2, h3, hF.same s2⟩, lv_nil, t1, t3⟩ s2⟩
theorem merge_one (z : Str) (v : V) : mergeK [] [((Sum.inr z : Key), v)] = [(Sum.inr z, v)] := rfl
theorem ok_wlone {CF CW mcW pO gO f : Addr} {mcV : Value} {fd : FuncData} {ks : Kinds} {x qual : Str} {dvs : List V} (F : FunD K "lone" "Word.lone" (defArgs (sWd 3)) (defBody (sWd 3)) (defScope (sWd 3)) dvs [] f fd) (hr0 : ClX.CRead K CW mcV) (hc0 : ClX.CMet K CW mcV "of" pO gO)
    (G : FnK P w K mg base CX0 8 gO [] (fun vs zs H Q E => vs.length = 3 ∧ spWOf ks CF CW vs H Q E))
    (isd : ∃ f fd, mg "is_driver" = some (.ref f) ∧ PySem.W.keepIn K (.ref f) = true ∧ Binds K fd ["frame", "value"] [] ∧ FnOk P w K mg base CX0 4 f fd ["frame", "value"] (spIsD K ks CF)) : FnOk P w K mg base CX0 9 f fd ["cls", "frame", "name", "level"] (spWLone ks CF CW) := by
  obtain ⟨fI, fdI, mI, kI, bI, GI⟩ := isd
  have sc : FnScope ["cls", "frame", "name", "level"] ["cls", "frame", "name", "level"] (defScope (sWd 3)) := ⟨rfl, rfl, rfl, by decide +kernel, rfl, by decide +kernel, by decide +kernel⟩
  refine F.ok sc (fun vs H Q E h => ?_) (fun cdv A outer s H vs Q E hr h => ?_)
  · obtain ⟨f, d, z, i, rfl, _⟩ := h
    rfl
  · obtain ⟨f, d, z, i, rfl, hF, hz, i0, i1, t1, t3, k⟩ := h
    obtain ⟨r, hr', ez, eC⟩ := kind_leg hz
    refine ⟨_, PSs.nox (pss_cons (ps_if (pt_not (pt_val (pe_call GI (hr.mono (by decide)) rfl mI kI bI .nil pass0 (pa_cons (pv 1) (pa_cons (pv 2) pa_nil))))) pss_never pss_nil)
      (pss_one (ps_ret (pe_cmethK (pv 0) hr0 hc0 G hr pass0 (pa_cons (pv 1) (pa_cons (pe_disp (pps_cons (pv 2) (pv 3) pps_nil) (by rfl) (by rfl) (fun z => by cases z) (by decide)) pa_nil)) pk_nil)))), ?_⟩
    refine ⟨_, rfl, _, rfl, f, d, _, rfl, hF, .inl ⟨r, hr', by rw [ez], _, rfl, ?_⟩⟩
    rw [decide_eq_true eC]
    refine iteF ⟨_, rfl, rfl, _, rfl, fun p hp => ⟨_, rfl, _, rfl, upd_same, [(Sum.inr z, .int i)], rfl, by show 1 ≤ 15; decide, ?_⟩⟩
    rw [merge_one]
    have s1 : Same H (upd (upd H p (.dK [])) p (.dK [(Sum.inr z, .int i)])) := fun b o e => by rw [upd_ne (ne_of_none e hp), upd_ne (ne_of_none e hp)]; exact e
    exact ⟨rfl, rfl, f, p, d, [(z, i)], rfl, hF.same s1, upd_same, ⟨by show 1 ≤ 60; decide, fun q hq => by rw [List.mem_singleton.mp hq]; exact ⟨hz, i0, i1⟩⟩, t1, t3, fun a H' ha hw s2 _ => k a H' (s1.free ha) hw (s1.trans s2)⟩
end
end Sj
namespace Sj
open PySem L2 Sup StK Own Shw Exg Grd
open NdefX (NF NScope ncx envF startF nscope_by)
open C8 (pss_cut tCut)
/-! Word: low, bool, == (k06, ..) -/
def lowZ (lv : List (Str × Int)) (t : Int) : List Str := (lv.filter fun p => decide (p.2 < t)).map (·.1)
theorem lowZ_take {lv : List (Str × Int)} {t : Int} {i : Nat} (hi : i < lv.length) : lowZ (lv.take (i + 1)) t = lowZ (lv.take i) t ++ if decide (lv[i].2 < t) = true then [lv[i].1] else [] := by
  unfold lowZ
  rw [List.take_add_one, List.getElem?_eq_getElem hi, List.filter_append, List.map_append]
  congr 1
  show List.map _ (List.filter _ [lv[i]]) = _
  rw [List.filter_cons]
  by_cases e : decide (lv[i].2 < t) = true
  · rw [if_pos e, if_pos e]
    rfl
  · rw [if_neg e, if_neg e]
    rfl
theorem lowZ_le (lv : List (Str × Int)) (t : Int) : (lowZ lv t).length ≤ lv.length := by
  unfold lowZ
  rw [List.length_map]
  exact List.length_filter_le _ _
theorem lvAll_len (ks : Kinds) (d : FrD) (gv : List (Str × Int)) : (lvAll ks d gv).length = (kindZ ks true d.ys).length := List.length_map _
def spWLow (ks : Kinds) (CF CW : Addr) : Sp := fun vs H Q _ => ∃ a d gv, vs = [.ref a] ∧ WdIs ks CF CW H a d gv ∧ ∀ p H', H p = none → H' p = some (.tup (strv (lowZ (lvAll ks d gv) d.t))) → Same H H' → Q (.ref p) H'
def spWBool (ks : Kinds) (CF CW : Addr) : Sp := fun vs H Q _ => ∃ a d gv, vs = [.ref a] ∧ WdIs ks CF CW H a d gv ∧ ∀ H', Same H H' → Q (.bl (!(lowZ (lvAll ks d gv) d.t).isEmpty)) H'
/-- what a word asks of its frame -/
structure WfT (P : Program) (w : World) (K : PySem.W.Frag) (mg : Str → Option Value) (base : Heap) (ks : Kinds) (CF CW : Addr) : Prop where
  cw : Cls K CW
  nF : NoAttr K CW "frame"
  nL : NoAttr K CW "_levels"
  cf : Cls K CF
  nT : NoAttr K CF "top"
  tuple : mg "tuple" = none
  bool : mg "bool" = none
def ttLow (K : PySem.W.Frag) : TT := tTest (tOp (rI0 fun i j => .bl (decide (i < j))) (tVar 2) (tFld K (tFld K (tVar 0) "frame") "top"))
theorem scLow : FnScope ["self", "name", "level"] ["self"] (defScope (sWd 4)) := ⟨rfl, rfl, rfl, by decide +kernel, rfl, by decide +kernel, by decide +kernel⟩
section
variable {P : Program} {w : World} {K : PySem.W.Frag} {mg : Str → Option Value} {base : Heap}
theorem ok_wlow {CF CW f : Addr} {fd : FuncData} {ks : Kinds} (F : Fun K "low" "Word.low" (sWd 4) f fd) (T : WfT P w K mg base ks CF CW) : FnOk P w K mg base CX0 1 f fd ["self"] (spWLow ks CF CW) := by
  refine F.ok scLow (fun vs H Q E h => ?_) (fun cdv A outer s H vs Q E hr h => ?_)
  · obtain ⟨a, d, gv, rfl, _⟩ := h
    rfl
  · obtain ⟨a, d, gv, rfl, hW, k⟩ := h
    obtain ⟨fr, dx, D, ea, eD, hne, hF⟩ := hW.ex
    obtain ⟨dy, DD, ef, _⟩ := hF.at_
    refine ⟨_, pss_one (ps_ret (pe_lock (pe_callTy (T := "tuple") call_tuple_of (by rfl) T.tuple (by decide +kernel) (pa_cons (pe_lc (te := tVar 1) (tt := ttLow K) (own := [("name", 1), ("level", 2)]) (g := gTup K 2 (gCons (gName 1) (gCons (gName 2) gNil))) rfl scLow.nd (pi_items (pe_fld (pv 0) rfl))
        (blkOk_by (N := ["self", "name", "level"]) (sc := defScope (sWd 4)) (by decide +kernel)) (fun _ _ _ _ _ => pg_tup rfl (pgs_cons (pg_name (i := 1) scLow.nd rfl (Or.inl rfl)) (pgs_cons (pg_name (i := 2) scLow.nd rfl (Or.inl rfl)) pgs_nil)))
        (fun _ _ _ _ _ => pts_one (pt_cmpR op_lt (pv 2) (pe_fld (pe_fld (pv 0) rfl) rfl) (nomark _))) (fun _ _ _ _ _ => pv 1)) pa_nil)))), ?_⟩
    obtain ⟨lv, elv⟩ : ∃ lv, lv = lvAll ks d gv := ⟨_, rfl⟩
    have hll : lv.length ≤ 40 := by rw [elv, lvAll_len]; exact Nat.le_trans (kind_le ks true d.ys) hF.le
    rw [← elv] at k eD
    refine ⟨D, _, eD, trivial, fun od => ?_⟩
    obtain ⟨HL, eL⟩ : ∃ HL, HL = upd H D (.frz od (.dK (lv.map lvRow))) := ⟨_, rfl⟩
    rw [← eL]
    have hDL : HL D = some (.frz od (.dK (lv.map lvRow))) := by rw [eL, upd_same]
    have haL : HL a = some (.ins CW dx (wdF fr D)) := by rw [eL, upd_ne (Ne.symm hne)]; exact ea
    have hfL : HL fr = some (.ins CF dy (frF DD (.int d.t) (.bl d.g) (.bl d.r))) := by rw [eL, upd_ne (ne_of ef eD (by intro z; cases z))]; exact ef
    have hlm : (lv.map lvRow).length = lv.length := List.length_map _
    refine ⟨_, rfl, a, CW, dx, _, _, rfl, haL, T.cw, T.nL, wdF_lv _ _, D, od, _, rfl, hDL, fun Dn hDn => ?_⟩
    refine lc_it (walk_items (d := D) (o := od) (kvs := lv.map lvRow)) (fun i H' => Same HL H' ∧ H' Dn = some (.lst (strv (lowZ (lv.take i) d.t)))) ⟨same_at hDn, upd_same⟩ (fun i H' _ p => p.1 _ _ hDL) ?_ ?_
    · rintro i x H1 H2 hi ⟨s1, d1⟩ ⟨Tp, kx, vx, rfl, hT, rfl, hk, hv⟩
      rw [hlm] at hi
      have e1 : (lv.map lvRow)[i]? = some (lvRow lv[i]) := by rw [List.getElem?_map, List.getElem?_eq_getElem hi]; rfl
      dsimp only at hk hv
      rw [e1] at hk hv
      obtain rfl : V.str lv[i].1 = kx := Option.some.inj hk
      obtain rfl : V.int lv[i].2 = vx := Option.some.inj hv
      have s2 : Same HL (upd H1 Tp (.tup [.str lv[i].1, .int lv[i].2])) := s1.trans (same_at hT)
      have d2 : upd H1 Tp (.tup [.str lv[i].1, .int lv[i].2]) Dn = some (.lst (strv (lowZ (lv.take i) d.t))) := by rw [upd_ne (ne_of_none d1 hT)]; exact d1
      refine ⟨Tp, _, rfl, SqT.of upd_same, rfl, _, _, rfl, _, _, rfl, rfl, rfl, ?_⟩
      refine ⟨_, rfl, _, rfl, a, CW, dx, _, _, rfl, s2 _ _ haL, T.cw, T.nF, wdF_frame _ _, fr, CF, dy, _, _, rfl, s2 _ _ hfL, T.cf, T.nT, frF_top _ _ _ _, _, _, rfl, rfl, _, rfl, ?_⟩
      dsimp only
      have et := lowZ_take (t := d.t) hi
      by_cases e : decide (lv[i].2 < d.t) = true
      · rw [if_pos e] at et ⊢
        refine ⟨_, rfl, _, d2, ?_, fun c o hc => ?_, ?_⟩
        · have q : (lowZ (lv.take i) d.t).length ≤ 40 := Nat.le_trans (lowZ_le _ _) (by rw [List.length_take]; omega)
          show (List.map V.str _).length < _
          rw [List.length_map]
          exact Nat.lt_of_le_of_lt q (by decide)
        · rw [upd_ne (ne_of_none hc hDn)]
          exact s2 _ _ hc
        · rw [upd_same, et]
          show _ = some (HO.lst (List.map V.str _))
          rw [List.map_append]
          rfl
      · rw [if_neg e] at et ⊢
        rw [List.append_nil] at et
        exact ⟨s2, by rw [et]; exact d2⟩
    · rintro H1 ⟨s1, d1⟩
      rw [hlm, List.take_length] at d1
      refine ⟨Dn, _, rfl, .inl ⟨SqL.of d1, fun q hq => ⟨?_, ?_⟩⟩⟩
      · rw [upd_ne (ne_of_none (s1 _ _ hDL) hq)]
        exact s1 _ _ hDL
      · have hqp : q ≠ D := fun z => by rw [z, s1 _ _ hDL] at hq; cases hq
        refine k q _ ?_ (by rw [upd_ne hqp, upd_same]) (same_unlock eD (by rw [← eL]; exact s1.trans (same_at hq)))
        cases z : H q with
        | none => rfl
        | some o =>
          have e2 : HL q = some o := by rw [eL, upd_ne hqp]; exact z
          rw [s1 _ _ e2] at hq
          cases hq
theorem ok_wbool {CF CW f : Addr} {fd : FuncData} {ks : Kinds} (F : Fun K "__bool__" "Word.__bool__" (sWd 7) f fd) (T : WfT P w K mg base ks CF CW) (low : PropN P w K mg base 1 CW "low" (spWLow ks CF CW)) : FnOk P w K mg base CX0 3 f fd ["self"] (spWBool ks CF CW) := by
  have sc : FnScope ["self"] ["self"] (defScope (sWd 7)) := ⟨rfl, rfl, rfl, by decide +kernel, rfl, by decide +kernel, by decide +kernel⟩
  refine F.ok sc (fun vs H Q E h => ?_) (fun cdv A outer s H vs Q E hr h => ?_)
  · obtain ⟨a, d, gv, rfl, _⟩ := h
    rfl
  · obtain ⟨a, d, gv, rfl, hW, k⟩ := h
    obtain ⟨dx, fs, ea⟩ := hW.ins
    refine ⟨_, pss_one (ps_ret (pe_callTy (T := "bool") call_boolT (by rfl) T.bool (by decide +kernel) (pa_cons (pe_propS (S := fun C => C = CW) (spP := fun _ => spWLow ks CF CW) (pv 0) (fun C e => by rw [e]; exact low) hr) pa_nil))), ?_⟩
    refine ⟨_, rfl, a, CW, dx, _, rfl, ea, rfl, a, d, gv, rfl, hW, fun p H1 hp hv s1 => ?_⟩
    refine ⟨p, _, rfl, SqT.of hv, ?_⟩
    have e : (strv (lowZ (lvAll ks d gv) d.t)).isEmpty = (lowZ (lvAll ks d gv) d.t).isEmpty := by
      unfold strv
      rw [List.isEmpty_map]
    rw [e]
    exact k H1 s1
/-! == -/
theorem eqFr_parts {d e : FrD} (h : eqFr d e = true) : d.t = e.t ∧ d.g = e.g ∧ d.r = e.r ∧ eqLegs d.ys e.ys = true := by
  unfold eqFr at h
  rw [Bool.and_eq_true, Bool.and_eq_true, Bool.and_eq_true, decide_eq_true_eq, decide_eq_true_eq, decide_eq_true_eq] at h
  exact ⟨h.1.1, h.1.2.1, h.1.2.2, h.2⟩
theorem eqLegs_sub {ys zs : List LegR} (h : eqLegs ys zs = true) {p : LegR} (hp : p ∈ ys) : ∃ q ∈ zs, q.z = p.z ∧ q.C = p.C := by
  unfold eqLegs at h
  rw [Bool.and_eq_true] at h
  obtain ⟨q, hq, e⟩ := List.any_eq_true.mp (List.all_eq_true.mp h.2 p hp)
  rw [Bool.and_eq_true, decide_eq_true_eq, decide_eq_true_eq] at e
  exact ⟨q, hq, e.1, e.2⟩
theorem sub_all : ∀ {ys zs : List Str}, ys.Nodup → ys ⊆ zs → zs.length ≤ ys.length → ∀ z ∈ zs, z ∈ ys
  | [], zs, _, _, hl, z, hz => by
    rw [List.length_eq_zero_iff.mp (Nat.le_zero.mp hl)] at hz
    exact hz
  | y :: ys, zs, hn, hs, hl, z, hz => by
    obtain ⟨h1, h2⟩ := List.nodup_cons.mp hn
    have hy : y ∈ zs := hs List.mem_cons_self
    have pm := List.perm_cons_erase hy
    have ih := sub_all (ys := ys) (zs := zs.erase y) h2 (fun x hx => by
      have : x ∈ y :: zs.erase y := pm.mem_iff.mp (hs (List.mem_cons_of_mem _ hx))
      exact (List.mem_cons.mp this).resolve_left fun e => h1 (e ▸ hx)) (by
      have := pm.length_eq
      rw [List.length_cons] at this
      rw [List.length_cons] at hl
      omega)
    rcases List.mem_cons.mp (pm.mem_iff.mp hz) with e | e
    · rw [e]
      exact List.mem_cons_self
    · exact List.mem_cons_of_mem _ (ih z e)
theorem eqLegs_names {ys zs : List LegR} (h : eqLegs ys zs = true) (n1 : (names ys).Nodup) (n2 : (names zs).Nodup) : (names ys).Perm (names zs) := by
  have hl : (names ys).length = (names zs).length := by
    unfold eqLegs at h
    rw [Bool.and_eq_true, beq_iff_eq] at h
    unfold names
    rw [List.length_map, List.length_map]
    exact h.1
  have sub : names ys ⊆ names zs := fun z hz => by
    obtain ⟨p, hp, rfl⟩ := List.mem_map.mp hz
    obtain ⟨q, hq, e, _⟩ := eqLegs_sub h hp
    exact List.mem_map.mpr ⟨q, hq, e⟩
  exact (List.perm_ext_iff_of_nodup n1 n2).mpr fun z => ⟨fun h => sub h, fun h => sub_all n1 sub (Nat.le_of_eq hl.symm) z h⟩
theorem eqLegs_kindZ {ks : Kinds} {ys zs : List LegR} (h : eqLegs ys zs = true) (n1 : (names ys).Nodup) (n2 : (names zs).Nodup) (s1 : PyProof.Rows.sortedS (names ys) = true) (s2 : PyProof.Rows.sortedS (names zs) = true) : kindZ ks true ys = kindZ ks true zs := by
  have pm := eqLegs_names h n1 n2
  refine OrdS.pw_uniq ?_ ((OrdS.sorted_pw s1).sublist (List.Sublist.map _ List.filter_sublist)) ((OrdS.sorted_pw s2).sublist (List.Sublist.map _ List.filter_sublist))
  refine (List.perm_ext_iff_of_nodup (kind_nd n1) (kind_nd n2)).mpr fun z => ⟨fun hz => ?_, fun hz => ?_⟩
  · obtain ⟨p, hp, e1, e2⟩ := kind_leg hz
    obtain ⟨q, hq, e3, e4⟩ := eqLegs_sub h hp
    refine List.mem_map.mpr ⟨q, List.mem_filter.mpr ⟨hq, ?_⟩, e3.trans e1⟩
    rw [beq_true, decide_eq_true_eq]
    exact e4.trans e2
  · obtain ⟨q, hq, e1, e2⟩ := kind_leg hz
    have hz' : z ∈ names ys := pm.mem_iff.mpr (List.mem_map.mpr ⟨q, hq, e1⟩)
    obtain ⟨p, hp, e3⟩ := List.mem_map.mp hz'
    obtain ⟨q', hq', e4, e5⟩ := eqLegs_sub h hp
    have : q = q' := by
      have f1 := find_nd n2 hq
      have f2 := find_nd n2 hq'
      rw [e4, e3, ← e1] at f2
      exact Option.some.inj (f1.symm.trans f2)
    refine List.mem_map.mpr ⟨p, List.mem_filter.mpr ⟨hp, ?_⟩, e3⟩
    rw [beq_true, decide_eq_true_eq]
    rw [← e5, ← this]
    exact e2
/-- two words are alike -/
def eqWd (ks : Kinds) (d e : FrD) (gv hv : List (Str × Int)) : Bool := eqFr d e && (kindZ ks true d.ys).all fun z => decide (lvl gv d.t z = lvl hv e.t z)
def spWEq (K : PySem.W.Frag) (ks : Kinds) (CF CW : Addr) : Sp := fun vs H Q _ => ∃ a d gv y, vs = [.ref a, y] ∧ WdIs ks CF CW H a d gv ∧ ((∃ b e hv, y = .ref b ∧ WdIs ks CF CW H b e hv ∧ ∀ H', Same H H' → Q (.bl (eqWd ks d e gv hv)) H') ∨ ∃ t, TyX K H y t ∧ PySem.W.kitOne K t (.ref CW) = some false ∧ ∀ H', Same H H' → Q (.bl false) H')
structure WeT (P : Program) (w : World) (K : PySem.W.Frag) (mg : Str → Option Value) (base : Heap) (ks : Kinds) (CF CW : Addr) : Prop where
  f : WfT P w K mg base ks CF CW
  isi : mg "isinstance" = none
  mW : mg "Word" = some (.ref CW)
  icW : IsiC K CW
  self : PySem.W.kitOne K (.ref CW) (.ref CW) = some true
  eqF : EqN P w K mg base 4 CF (spFEq K ks CF)
  icF : IsiC K CF
  nf : PySem.W.notFirst K CF (.ref CF) = true
theorem ok_weq {CF CW f : Addr} {fd : FuncData} {ks : Kinds} (F : Fun K "__eq__" "Word.__eq__" (sWd 8) f fd) (T : WeT P w K mg base ks CF CW) : FnOk P w K mg base CX0 7 f fd ["self", "other"] (spWEq K ks CF CW) := by
  have sc : FnScope ["self", "other"] ["self", "other"] (defScope (sWd 8)) := ⟨rfl, rfl, rfl, by decide +kernel, rfl, by decide +kernel, by decide +kernel⟩
  refine F.ok sc (fun vs H Q E h => ?_) (fun cdv A outer s H vs Q E hr h => ?_)
  · obtain ⟨a, d, gv, y, rfl, _⟩ := h
    rfl
  · obtain ⟨a, d, gv, y, rfl, hW, h⟩ := h
    obtain ⟨fr, dx, D, ea, eD, hne, hF⟩ := hW.ex
    refine ⟨_, pss_one (ps_ret (pe_and (pe_callB call_isi (by rfl) T.isi (by decide +kernel) (pa_cons (pv 1) (pa_cons (pe_glob rfl T.mW (v := .ref CW) rfl) pa_nil)))
      (pe_and (pe_cmpR (op_ownE (.inl rfl) (S := fun C => C = CF) (spE := fun _ => spFEq K ks CF) (fun C e => by rw [e]; exact T.eqF.eqC (hr.mono (by decide)))) (pe_fld (pv 0) rfl) (pe_fld (pv 1) rfl) (nomark _))
      (pe_one (pe_cmpR (op_eqZ hr.units0) (pe_fld (pv 0) rfl) (pe_fld (pv 1) rfl) (nomark _)))))), ?_⟩
    rcases h with ⟨b, e, hv, rfl, hV, k⟩ | ⟨t, ty, hk, k⟩
    · obtain ⟨fr', dy, D', eb, eD', hne', hF'⟩ := hV.ex
      have tyb : TyX K H (.ref b) (.ref CW) := .base (.ins eb T.icW.cl T.icW.ca T.icW.cn T.icW.ct T.icW.cm)
      obtain ⟨fx, fs, ef⟩ := hF.ins
      obtain ⟨fy, fs', ef'⟩ := hF'.ins
      refine ⟨_, rfl, _, _, .ref CW, .ref CW, true, rfl, .own _, tyb, T.self, _, rfl, iteT ?_⟩
      refine ⟨_, rfl, a, CW, dx, _, _, rfl, ea, T.f.cw, T.f.nF, wdF_frame _ _, _, rfl, b, CW, dy, _, _, rfl, eb, T.f.cw, T.f.nF, wdF_frame _ _, ?_⟩
      refine ⟨fr, CF, fx, fs, rfl, ef, rfl, .inl ⟨.ref CF, .base (.ins ef' T.icF.cl T.icF.ca T.icF.cn T.icF.ct T.icF.cm), T.nf, fr, d, .ref fr', rfl, hF, .inl ⟨fr', e, rfl, hF', fun H1 s1 => ⟨_, rfl, _, rfl, ?_⟩⟩⟩⟩
      show if eqFr d e = true then _ else _
      have keq : ∀ v, eqWd ks d e gv hv = v → ∀ H', Same H H' → Q (.bl v) H' := fun v ev H' s => by rw [← ev]; exact k H' s
      cases ef : eqFr d e with
      | false =>
        refine iteF (keq _ ?_ _ s1)
        unfold eqWd
        rw [ef, Bool.false_and]
      | true =>
        obtain ⟨_, _, _, e4⟩ := eqFr_parts ef
        have ek := eqLegs_kindZ (ks := ks) e4 hF.nd hF'.nd hF.so hF'.so
        refine iteT ⟨_, rfl, a, CW, dx, _, _, rfl, s1 _ _ ea, T.f.cw, T.f.nL, wdF_lv _ _, _, rfl, b, CW, dy, _, _, rfl, s1 _ _ eb, T.f.cw, T.f.nL, wdF_lv _ _, ?_⟩
        refine ⟨D, D', kindZ ks true d.ys, fun z => lvl gv d.t z, fun z => lvl hv e.t z, rfl, rfl, ?_, ?_, keq _ ?_ _ s1⟩
        · have := s1 _ _ eD
          unfold lvAll at this
          rw [List.map_map] at this
          exact this
        · have := s1 _ _ eD'
          unfold lvAll at this
          rw [List.map_map, ← ek] at this
          exact this
        · unfold eqWd
          rw [ef, Bool.true_and]
    · exact ⟨_, rfl, _, _, t, .ref CW, false, rfl, .own _, ty, hk, _, rfl, iteF (k H (Same.refl H))⟩
end
end Sj
namespace Sj
open PySem L2 Sup StK Own Shw Exg Grd
open NdefX (NF NScope ncx envF startF nscope_by)
open C8 (pss_cut tCut)
/-! Word: str, repr, [] (k06, ..) -/
def lvT (p : Str × Int) : Str := (p.1 ++ ("=" : Str)) ++ (toString p.2 : String)
def wdRows (lv : List (Str × Int)) (t : Int) : List Str := (lv.filter fun p => decide (p.2 < t)).map lvT
def wdTx (lv : List (Str × Int)) (t : Int) : Str := Txt.join " " (if (wdRows lv t).isEmpty then [("rest" : Str)] else wdRows lv t)
theorem empty_app (z : Str) : Str.empty ++ z = z := by
  obtain ⟨c⟩ := z
  show Str.mk (#[] ++ c) = _
  rw [Array.empty_append]
theorem lvG_nd : ∀ {lv : List (Str × Int)} {p : Str × Int}, (lv.map (·.1)).Nodup → p ∈ lv → lvG lv p.1 = some p.2
  | q :: lv, p, hn, hp => by
    rw [List.map_cons, List.nodup_cons] at hn
    unfold lvG
    rcases List.mem_cons.mp hp with rfl | hp
    · exact if_pos rfl
    · rw [if_neg fun e => hn.1 (by rw [e]; exact List.mem_map.mpr ⟨p, hp, rfl⟩)]
      exact lvG_nd hn.2 hp
theorem lvAll_fst (ks : Kinds) (d : FrD) (gv : List (Str × Int)) : (lvAll ks d gv).map (·.1) = kindZ ks true d.ys := by
  unfold lvAll
  rw [List.map_map]
  exact List.map_id _
theorem lvAll_bd {ks : Kinds} {d : FrD} {gv : List (Str × Int)} (h : LvOk ks d gv) (ht : 0 ≤ d.t) {p : Str × Int} (hp : p ∈ lvAll ks d gv) : 0 ≤ p.2 ∧ p.2 ≤ d.t := by
  obtain ⟨z, _, rfl⟩ := List.mem_map.mp hp
  exact lvl_le h ht z
theorem int_len {i : Int} (h0 : 0 ≤ i) (h3 : i ≤ 3) : i.natAbs.log2 < 1920 ∧ (Str.ofString (toString i)).length = 1 := by
  obtain rfl | rfl | rfl | rfl : i = 0 ∨ i = 1 ∨ i = 2 ∨ i = 3 := by omega
  all_goals decide +kernel
theorem join_rest : Txt.join " " [("rest" : Str)] = "rest" := rfl
def spWStr (ks : Kinds) (CF CW : Addr) (f : Str → Str) : Sp := fun vs H Q _ => ∃ a d gv, vs = [.ref a] ∧ WdIs ks CF CW H a d gv ∧ (∀ z ∈ kindZ ks true d.ys, z.length ≤ 100) ∧ ∀ H', Same H H' → Q (.str (f (wdTx (lvAll ks d gv) d.t))) H'
def teLv (K : PySem.W.Frag) : TE := fun σ H Q => tJs [tFmt (tVar 2), tC (.str "="), tFmt (tDGet (tFld K (tVar 0) "_levels") (tVar 2))] Str.empty σ H fun out H1 => Q (.str out) H1
theorem scWStr : FnScope ["self", "driven", "name"] ["self"] (defScope (sWd 10)) := ⟨rfl, rfl, rfl, by decide +kernel, rfl, by decide +kernel, by decide +kernel⟩
theorem rows_len {lv : List (Str × Int)} {t : Int} (hz : ∀ p ∈ lv, p.1.length ≤ 100 ∧ 0 ≤ p.2 ∧ p.2 ≤ 3) : ∀ y ∈ wdRows lv t, y.length ≤ 102 := fun y hy => by
  obtain ⟨p, hp, rfl⟩ := List.mem_map.mp hy
  obtain ⟨h1, h2, h3⟩ := hz p (List.mem_filter.mp hp).1
  unfold lvT
  rw [strLen, strLen, (int_len h2 h3).2]
  have : ("=" : Str).length = 1 := rfl
  omega
theorem sum_le_of : ∀ {ys : List Str} {n : Nat}, (∀ y ∈ ys, y.length ≤ n) → (ys.map (·.length)).sum ≤ ys.length * n
  | [], _, _ => Nat.zero_le _
  | y :: ys, n, h => by
    have h1 := h y List.mem_cons_self
    have h2 := sum_le_of fun z hz => h z (List.mem_cons_of_mem y hz)
    rw [List.map_cons, List.sum_cons, List.length_cons, Nat.succ_mul]
    omega
section
variable {P : Program} {w : World} {K : PySem.W.Frag} {mg : Str → Option Value} {base : Heap}
theorem ok_wstr {CF CW f : Addr} {fd : FuncData} {ks : Kinds} (F : Fun K "__str__" "Word.__str__" (sWd 10) f fd) (T : WfT P w K mg base ks CF CW) (low : PropN P w K mg base 1 CW "low" (spWLow ks CF CW)) : FnOk P w K mg base CX0 3 f fd ["self"] (spWStr ks CF CW id) := by
  refine F.ok scWStr (fun vs H Q E h => ?_) (fun cdv A outer s H vs Q E hr h => ?_)
  · obtain ⟨a, d, gv, rfl, _⟩ := h
    rfl
  · obtain ⟨a, d, gv, rfl, hW, hz, k⟩ := h
    obtain ⟨fr, dx, D, ea, eD, hne, hF⟩ := hW.ex
    refine ⟨_, pss_cons (ps_setLc (i := 1) (te := teLv K) (own := [("name", 2)]) (g := gName 2) (tt := tYes) rfl scWStr.nd rfl rfl (sw_true rfl rfl rfl (by decide +kernel)) (pi_tup (pe_propS (S := fun C => C = CW) (spP := fun _ => spWLow ks CF CW) (pv 0) (fun C e => by rw [e]; exact low) hr))
        (blkOk_by (N := ["self", "driven", "name"]) (sc := defScope (sWd 10)) (by decide +kernel)) (fun _ _ _ _ _ => pg_name (i := 2) scWStr.nd rfl (Or.inl rfl)) (fun _ _ _ _ _ => pts_nil)
        (fun _ _ _ _ _ => pe_joined (.cons (pe_fmt (pv 2)) (.cons pe_str (.cons (pe_fmt (pe_dget (hu_of hr) (pe_fld (pv 0) rfl) (pv 2) (fun _ _ => rfl))) .nil)))))
      (pss_one (ps_ret (pe_join pe_str (pe_orT (pv 1) (pe_one (pe_lst (pa_cons pe_str pa_nil))))))), ?_⟩
    have h0 : 0 ≤ d.t := by have := hW.t1; omega
    have bd : ∀ p ∈ lvAll ks d gv, p.1.length ≤ 100 ∧ 0 ≤ p.2 ∧ p.2 ≤ 3 := fun p hp => by
      obtain ⟨b1, b2⟩ := lvAll_bd hW.ok h0 hp
      have := hW.t3
      refine ⟨hz _ ?_, b1, by omega⟩
      rw [← lvAll_fst ks d gv]
      exact List.mem_map.mpr ⟨p, hp, rfl⟩
    have nd : ((lvAll ks d gv).map (·.1)).Nodup := by rw [lvAll_fst]; exact kind_nd hF.nd
    have hll : (lvAll ks d gv).length ≤ 40 := by rw [lvAll_len]; exact Nat.le_trans (kind_le ks true d.ys) hF.le
    obtain ⟨lv, elv⟩ : ∃ lv, lv = lvAll ks d gv := ⟨_, rfl⟩
    rw [← elv] at k eD bd nd hll
    obtain ⟨fl, efl⟩ : ∃ fl, fl = lv.filter fun p => decide (p.2 < d.t) := ⟨_, rfl⟩
    have eT : ∀ tx, wdTx lv d.t = tx → ∀ H', Same H H' → Q (.str tx) H' := fun tx e H' s => by rw [← e]; exact k H' s
    have hfl : fl.length ≤ 40 := by rw [efl]; exact Nat.le_trans (List.length_filter_le _ _) hll
    have hmem : ∀ p ∈ fl, p ∈ lv := fun p hp => by rw [efl] at hp; exact (List.mem_filter.mp hp).1
    refine ⟨_, rfl, a, CW, dx, _, rfl, ea, rfl, a, d, gv, rfl, hW, fun tp H1 htp hv1 s1 => ?_⟩
    have elow : lowZ (lvAll ks d gv) d.t = fl.map (·.1) := by rw [← elv, efl]; rfl
    rw [elow] at hv1
    have hzl : (strv (fl.map (·.1))).length = fl.length := by unfold strv; rw [List.length_map, List.length_map]
    refine ⟨tp, rfl, ⟨_, SqT.of hv1⟩, fun Dn hDn => ?_⟩
    refine lc_it (walk_tup (K := K) (a := tp) (xs := strv (fl.map (·.1)))) (fun i H' => Same H1 H' ∧ H' Dn = some (.lst (strv ((fl.take i).map lvT)))) ⟨same_at hDn, upd_same⟩ (fun i H' _ p => .inl (.inl (p.1 _ _ hv1))) ?_ ?_
    · rintro i x H2 H3 hi ⟨s2, d2⟩ ⟨rfl, hx1⟩
      rw [hzl] at hi
      have e1 : (strv (fl.map (·.1)))[i]? = some (.str fl[i].1) := by unfold strv; rw [List.map_map, List.getElem?_map, List.getElem?_eq_getElem hi]; rfl
      rw [e1] at hx1
      obtain rfl := Option.some.inj hx1
      refine ⟨rfl, ?_⟩
      unfold tYes
      dsimp only
      rw [if_pos rfl]
      have s02 := s1.trans s2
      have hm := hmem _ (List.getElem_mem hi)
      obtain ⟨b1, b2, b3⟩ := bd _ hm
      obtain ⟨l1, l2⟩ := int_len b2 b3
      have hg : DGet H3 D (.str fl[i].1) (some (.int fl[i].2)) := by
        have := DGet.k (k := Sum.inr fl[i].1) (s02 _ _ eD)
        rw [valV_lv, lvG_nd nd hm] at this
        exact this
      have q1 : (Str.empty ++ fl[i].1).length ≤ 100 := by rw [empty_app]; exact b1
      have q2 : ((Str.empty ++ fl[i].1) ++ ("=" : Str)).length ≤ 101 := by rw [strLen]; exact Nat.add_le_add q1 (show ("=" : Str).length ≤ 1 by decide)
      have q3 : (((Str.empty ++ fl[i].1) ++ ("=" : Str)) ++ (toString fl[i].2 : String)).length ≤ 102 := by rw [strLen, l2]; exact Nat.add_le_add_right q2 1
      refine ⟨_, rfl, .inl ⟨_, rfl, Nat.le_trans b1 (by decide), _, rfl, Nat.le_trans q1 (by decide), _, rfl, Nat.le_trans q2 (by decide), ?_⟩⟩
      refine ⟨_, rfl, a, CW, dx, _, _, rfl, s02 _ _ ea, T.cw, T.nL, wdF_lv _ _, _, rfl, D, _, rfl, hg, .inr ⟨_, rfl, l1, _, rfl, Nat.le_trans q3 (by decide), ?_⟩⟩
      refine ⟨_, d2, ?_, fun c o hc => ?_, ?_⟩
      · unfold strv
        rw [List.length_map, List.length_map, List.length_take]
        exact Nat.lt_of_le_of_lt (Nat.min_le_right _ _) (Nat.lt_of_le_of_lt hfl (by decide))
      · rw [upd_ne (ne_of_none hc hDn)]
        exact s2 _ _ hc
      · rw [upd_same, List.take_add_one, List.getElem?_eq_getElem hi, empty_app]
        unfold strv
        rw [List.map_append, List.map_append]
        rfl
    · rintro H2 ⟨s2, d2⟩
      rw [hzl, List.take_length] at d2
      have erows : fl.map lvT = wdRows lv d.t := by rw [efl]; rfl
      rw [erows] at d2
      have hrl : (wdRows lv d.t).length ≤ 40 := by rw [← erows, List.length_map]; exact hfl
      have s02 := s1.trans s2
      refine ⟨⟨_, rfl⟩, _, rfl, (!(strv (wdRows lv d.t)).isEmpty), .inl ⟨_, SqL.of d2, rfl⟩, ?_⟩
      have eE : (strv (wdRows lv d.t)).isEmpty = (wdRows lv d.t).isEmpty := by unfold strv; rw [List.isEmpty_map]
      rw [eE]
      cases he : (wdRows lv d.t).isEmpty with
      | true =>
        refine iteF ⟨by show 1 ≤ sizeLine; decide, fun l hl => ?_⟩
        refine ⟨_, l, [("rest" : Str)], rfl, rfl, .inl (SqL.of upd_same), by decide +kernel, eT _ ?_ _ (s02.trans (same_at hl))⟩
        unfold wdTx
        rw [he, if_pos rfl]
      | false =>
        refine iteT ⟨_, Dn, wdRows lv d.t, rfl, rfl, .inl (SqL.of d2), ?_, eT _ ?_ _ s02⟩
        · have q := sum_le_of (rows_len (t := d.t) bd)
          have q2 : (wdRows lv d.t).length * (Str.ofString " ").length ≤ 40 * 1 := Nat.mul_le_mul hrl (show (Str.ofString " ").length ≤ 1 by decide)
          have q3 : (wdRows lv d.t).length * 102 ≤ 40 * 102 := Nat.mul_le_mul_right _ hrl
          omega
        · unfold wdTx
          rw [he, if_neg Bool.false_ne_true]
def reprW (z : Str) : Str := (("Word(" : Str) ++ z) ++ (")" : Str)
theorem wdTx_len {lv : List (Str × Int)} {t : Int} (hz : ∀ p ∈ lv, p.1.length ≤ 100 ∧ 0 ≤ p.2 ∧ p.2 ≤ 3) (hl : lv.length ≤ 40) : (wdTx lv t).length ≤ 10000 := by
  have hrl : (wdRows lv t).length ≤ 40 := by
    unfold wdRows
    rw [List.length_map]
    exact Nat.le_trans (List.length_filter_le _ _) hl
  have q := sum_le_of (rows_len (t := t) hz)
  have q3 : (wdRows lv t).length * 102 ≤ 40 * 102 := Nat.mul_le_mul_right _ hrl
  unfold wdTx
  cases he : (wdRows lv t).isEmpty with
  | true =>
    rw [if_pos rfl]
    decide +kernel
  | false =>
    rw [if_neg Bool.false_ne_true]
    have j := StrLaws.join_length_le (Str.ofString " ") (wdRows lv t)
    have q2 : (wdRows lv t).length * (Str.ofString " ").length ≤ 40 * 1 := Nat.mul_le_mul hrl (show (Str.ofString " ").length ≤ 1 by decide)
    have e : Txt.join " " (wdRows lv t) = Str.join " " (wdRows lv t) := TL.join_eq _ _
    rw [e]
    omega
theorem ok_wrepr {CF CW f : Addr} {fd : FuncData} {ks : Kinds} (F : Fun K "__repr__" "Word.__repr__" (sWd 11) f fd) (T : ∀ X : Cx, X.prog = P → X.w = w → X.K = K → X.mg = mg → X.base = base → Room 6 X.A → StrC X CW "__str__" (spWStr ks CF CW id))
    (Tf : PySem.W.findIn K (.ref CW) "__format__" = some (some (.builtin "object.__format__")) ∧ PySem.W.mroIn K CW (.type "object") = some true) : FnOk P w K mg base CX0 7 f fd ["self"] (spWStr ks CF CW reprW) := by
  have sc : FnScope ["self"] ["self"] (defScope (sWd 11)) := ⟨rfl, rfl, rfl, by decide +kernel, rfl, by decide +kernel, by decide +kernel⟩
  refine F.ok sc (fun vs H Q E h => ?_) (fun cdv A outer s H vs Q E hr h => ?_)
  · obtain ⟨a, d, gv, rfl, _⟩ := h
    rfl
  · obtain ⟨a, d, gv, rfl, hW, hz, k⟩ := h
    obtain ⟨dx, fs, ea⟩ := hW.ins
    refine ⟨_, pss_one (ps_ret (pe_joined (.cons pe_str (.cons (pe_fmtO (S := fun C => C = CW) (spS := fun _ => spWStr ks CF CW id) (fun C e => by rw [e]; exact T _ rfl rfl rfl rfl rfl hr) (fun C e => by rw [e]; exact Tf) (pv 0)) (.cons pe_str .nil))))), ?_⟩
    have h0 : 0 ≤ d.t := by have := hW.t1; omega
    have bd : ∀ p ∈ lvAll ks d gv, p.1.length ≤ 100 ∧ 0 ≤ p.2 ∧ p.2 ≤ 3 := fun p hp => by
      obtain ⟨b1, b2⟩ := lvAll_bd hW.ok h0 hp
      have := hW.t3
      refine ⟨hz _ ?_, b1, by omega⟩
      rw [← lvAll_fst ks d gv]
      exact List.mem_map.mpr ⟨p, hp, rfl⟩
    have hF : d.ys.length ≤ 40 := by
      obtain ⟨_, _, _, _, _, _, hF⟩ := hW.ex
      exact hF.le
    have hl := wdTx_len (t := d.t) bd (by rw [lvAll_len]; exact Nat.le_trans (kind_le ks true d.ys) hF)
    have q1 : ((Str.empty ++ ("Word(" : Str)) ++ wdTx (lvAll ks d gv) d.t).length ≤ 10005 := by
      rw [strLen]
      exact Nat.le_trans (Nat.add_le_add (show (Str.empty ++ ("Word(" : Str)).length ≤ 5 by decide +kernel) hl) (by decide)
    have q2 : (((Str.empty ++ ("Word(" : Str)) ++ wdTx (lvAll ks d gv) d.t) ++ (")" : Str)).length ≤ 10006 := by
      rw [strLen]
      exact Nat.add_le_add q1 (show (")" : Str).length ≤ 1 by decide +kernel)
    refine ⟨_, rfl, by decide +kernel, _, rfl, a, CW, dx, fs, rfl, ea, rfl, a, d, gv, rfl, hW, hz, fun H1 s1 => ⟨_, rfl, _, rfl, Nat.le_trans q1 (by decide), _, rfl, Nat.le_trans q2 (by decide), ?_⟩⟩
    rw [empty_app]
    exact k H1 s1
end
end Sj
namespace Sj
open PySem L2 Sup StK Own Shw Exg Grd
open NdefX (NF NScope ncx envF startF nscope_by)
open C8 (pss_cut tCut)
/-! Word: [] (k06, ..) -/
/-- what an element is driven at, where it is no ground -/
def wlv (ks : Kinds) (d : FrD) (gv : List (Str × Int)) (z : Str) : Int := lvl (lvAll ks d gv) d.t z
theorem lvG_cons (p : Str × Int) (r : List (Str × Int)) (z : Str) : lvG (p :: r) z = if p.1 = z then some p.2 else lvG r z := rfl
theorem lvl_all (gv : List (Str × Int)) (t : Int) : ∀ (zs : List Str) (z : Str), lvl (zs.map fun z => (z, lvl gv t z)) t z = if z ∈ zs then lvl gv t z else t
  | [], z => rfl
  | y :: zs, z => by
    have ih := lvl_all gv t zs z
    unfold lvl at ih ⊢
    rw [List.map_cons, lvG_cons]
    by_cases e : y = z
    · rw [if_pos e, if_pos (by rw [e]; exact List.mem_cons_self), e]
      rfl
    · rw [if_neg e, ih]
      have h2 : (z ∈ y :: zs) = (z ∈ zs) := propext ⟨fun h => (List.mem_cons.mp h).resolve_left fun q => e q.symm, fun h => List.mem_cons_of_mem _ h⟩
      simp only [h2]
theorem wlv_eq (ks : Kinds) (d : FrD) (gv : List (Str × Int)) (z : Str) : wlv ks d gv z = if z ∈ kindZ ks true d.ys then lvl gv d.t z else d.t := lvl_all gv d.t _ z
def spWGet (K : PySem.W.Frag) (ks : Kinds) (CF CW CN : Addr) : Sp := fun vs H Q E => ∃ a d gv x, vs = [.ref a, x] ∧ WdIs ks CF CW H a d gv ∧ ((∃ z ∈ names d.ys, x = .str z ∧ Q (.int (wlv ks d gv z)) H) ∨
  (∃ z ∈ railsZ d.g d.r, x = .str z ∧ z ∉ names d.ys ∧ ∀ H', Same H H' → Q (.int (if z = "ground" then 0 else d.t)) H') ∨
  (NotLeg K H x d ∧ InS K H (railsZ d.g d.r) x false ∧ ∃ pd, Dq K H x pd ∧ Smalls pd ∧ ∀ e H', H e = none → H' e = some (.xd [("name", x)]) → Same H H' → E (.ref CN) (some e) H'))
theorem inS_same {K : PySem.W.Frag} {H H' : Hp} {zs : List Str} {x : V} {b : Bool} (h : InS K H zs x b) (s : Same H H') : InS K H' zs x b := by
  cases h with
  | str z => exact .str z
  | non => exact .non
  | bl b => exact .bl b
  | int i => exact .int i
  | lst q => exact .lst (q.ext s)
  | tup q => exact .tup (SqT.ext q s)
  | dic q => exact .dic (s _ _ q)
structure WgT (P : Program) (w : World) (K : PySem.W.Frag) (mg : Str → Option Value) (base : Heap) (ks : Kinds) (CF CW CN fN : Addr) : Prop where
  f : WfT P w K mg base ks CF CW
  in_ : MetN P w K mg base CX0 1 CF "__contains__" ["self", "x"] (spFIs K ks CF)
  rails : PropN P w K mg base 1 CF "rails" (spTup ks CF fun d => railsZ d.g d.r)
  nl : NlT P w K mg base CN fN
section
variable {P : Program} {w : World} {K : PySem.W.Frag} {mg : Str → Option Value} {base : Heap}
theorem ok_wget {f CF CW CN fN : Addr} {fd : FuncData} {ks : Kinds} (F : Fun K "__getitem__" "Word.__getitem__" (sWd 5) f fd) (T : WgT P w K mg base ks CF CW CN fN) : FnG P w K mg base (L2.CX P w) 3 f fd ["self", "at"] (spWGet K ks CF CW CN) := by
  obtain ⟨fdN, GN, bN⟩ := T.nl.init
  have sc : FnScope ["self", "at"] ["self", "at"] (defScope (sWd 5)) := ⟨rfl, rfl, rfl, by decide +kernel, rfl, by decide +kernel, by decide +kernel⟩
  refine fun_gX F sc (fun vs H Q E h => ?_) (fun cdv A outer s H vs Q E hg hr h => ?_)
  · obtain ⟨a, d, gv, x, rfl, _⟩ := h
    rfl
  · obtain ⟨a, d, gv, x, rfl, hW, h⟩ := h
    obtain ⟨fr, dx, D, ea, eD, hne, hF⟩ := hW.ex
    obtain ⟨dy, DD, ef, _⟩ := hF.at_
    have hu0 : ∀ {X : Cx} , Room 2 X.A → X.A.in1.units < cLine := fun {X} h => (Room.in1 (k := 1) h).units0
    refine ⟨_, pss_cons (ps_if (pt_cmpR (op_inN T.in_ (hr.mono (by decide))) (pv 1) (pe_fld (pv 0) rfl) (by rfl)) (pss_one (ps_ret (pe_dget2 (hu_of hr) (pe_fld (pv 0) rfl) (pv 1) (pe_fld (pe_fld (pv 0) rfl) rfl) ⟨rfl, rfl, rfl, rfl⟩))) pss_nil)
      (pss_cons (ps_if (pt_cmpR (op_notInS (hu0 hr)) (pv 1) (pe_propS (S := fun C => C = CF) (spP := fun _ => spTup ks CF fun d => railsZ d.g d.r) (pe_fld (pv 0) rfl) (fun C e => by rw [e]; exact T.rails) hr) (by rfl)) (pss_one (ps_raise rfl (takes_of rfl rfl rfl rfl) (pmk_e bL T.nl.oex T.nl.iC T.nl.tI GN hg hr bN rfl T.nl.mN (pa_cons (pv 1) pa_nil)))) pss_nil)
      (pss_one (ps_ret (pe_ifExp (pt_cmpR op_eq (pv 1) pe_str (nomark _)) pe_int (pe_fld (pe_fld (pv 0) rfl) rfl))))), ?_⟩
    refine ⟨_, rfl, _, rfl, a, CW, dx, _, _, rfl, ea, T.f.cw, T.f.nF, wdF_frame _ _, ?_⟩
    refine ⟨fr, dy, _, rfl, ef, fr, d, x, rfl, hF, ?_⟩
    rcases h with ⟨z, hz, rfl, k⟩ | ⟨z, hz, rfl, hn, k⟩ | ⟨hn, hi, pd, hpd, sm, k⟩
    · refine .inl ⟨z, rfl, hz, true, rfl, _, rfl, iteT ?_⟩
      refine ⟨_, rfl, a, CW, dx, _, _, rfl, ea, T.f.cw, T.f.nL, wdF_lv _ _, D, rfl, .inl ⟨_, .inl eD⟩, _, rfl, _, rfl, a, CW, dx, _, _, rfl, ea, T.f.cw, T.f.nF, wdF_frame _ _, fr, CF, dy, _, _, rfl, ef, T.f.cf, T.f.nT, frF_top _ _ _ _, _, DGet.k (k := Sum.inr z) eD, ?_⟩
      rw [valV_lv]
      have e2 : (Option.map V.int (lvG (lvAll ks d gv) z)).getD (.int d.t) = .int (wlv ks d gv z) := by
        unfold wlv lvl
        cases lvG (lvAll ks d gv) z <;> rfl
      rw [e2]
      exact k
    · refine .inr ⟨.inl ⟨z, rfl, hn⟩, false, rfl, _, rfl, iteF ?_⟩
      refine ⟨_, rfl, _, rfl, a, CW, dx, _, _, rfl, ea, T.f.cw, T.f.nF, wdF_frame _ _, fr, CF, dy, _, rfl, ef, rfl, fr, d, rfl, hF, fun p H1 hp hv s1 => ?_⟩
      refine ⟨p, _, true, rfl, SqT.of hv, by rw [← decide_eq_true hz]; exact .str z, _, rfl, iteF ?_⟩
      refine ⟨_, rfl, rfl, _, rfl, ?_⟩
      by_cases e : z = "ground"
      · rw [decide_eq_true (show V.str z = V.str "ground" by rw [e])]
        refine iteT ?_
        have := k H1 s1
        rw [if_pos e] at this
        exact this
      · rw [decide_eq_false (show ¬ V.str z = V.str "ground" from fun q => e (V.str.inj q))]
        refine iteF ⟨_, rfl, a, CW, dx, _, _, rfl, s1 _ _ ea, T.f.cw, T.f.nF, wdF_frame _ _, fr, CF, dy, _, _, rfl, s1 _ _ ef, T.f.cf, T.f.nT, frF_top _ _ _ _, ?_⟩
        have := k H1 s1
        rw [if_neg e] at this
        exact this
    · refine .inr ⟨hn, false, rfl, _, rfl, iteF ?_⟩
      refine ⟨_, rfl, _, rfl, a, CW, dx, _, _, rfl, ea, T.f.cw, T.f.nF, wdF_frame _ _, fr, CF, dy, _, rfl, ef, rfl, fr, d, rfl, hF, fun p H1 hp hv s1 => ?_⟩
      refine ⟨p, _, false, rfl, SqT.of hv, inS_same hi s1, _, rfl, iteT ?_⟩
      have hpd1 := Dq.same s1 _ _ hpd
      exact raise_one (fun Q' q => ⟨_, rfl, q⟩) hpd1 sm (Same.refl H1) (fun b hb => Dq.same (same_at hb) _ _ hpd1) fun e H' he hx s2 => k e H' (s1.free he) hx (s1.trans s2)
end
end Sj
namespace Sj
open PySem L2 Sup StK Own Shw Exg
open NdefX (NF NScope ncx envF startF nscope_by)
open C8 (pss_cut tCut)
/-! xs != [] of a list of anything; what a frame tells of a plain one -/
def rNeNil : R2 := fun x y H Q => ∃ a b xs, x = .ref a ∧ y = .ref b ∧ H a = some (.lst xs) ∧ H b = some (.lst []) ∧ Q (.bl (!xs.isEmpty)) H
theorem op_neNil {X : Cx} (hu : X.A.units + 64 < cLine) : OpR X (compareOp .NotEq) rNeNil := by
  intro pins s σ H x y v u Q I rx ry h
  obtain ⟨a, b, xs, rfl, rfl, ha, hb, q⟩ := h
  cases xs with
  | nil => exact op_neD hu pins s σ H _ _ v u Q I rx ry ⟨.list [], .list [], .lst (SqL.of ha) .nil, .lst (SqL.of hb) .nil, rfl, rfl, q⟩
  | cons y ys =>
    obtain rfl : v = Value.ref a := rx
    obtain rfl : u = Value.ref b := ry
    obtain ⟨its, r1, p1, _⟩ := I.list (SqL.of ha)
    obtain ⟨it2, r2, p2, _⟩ := I.list (SqL.of hb)
    have e1 : its.toArray.size ≠ it2.toArray.size := by
      rw [List.size_toArray, List.size_toArray, ← r1.length, ← r2.length]
      exact Nat.succ_ne_zero _
    exact SeqAt.RcNeAt.lists_lengths p1.isList p2.isList (by simpa using e1) (Nat.lt_of_le_of_lt (Nat.le_add_right _ _) hu) _ _ _ _ ⟨.bl true, H, I, rfl, q⟩
theorem cut_tail (x : V) (xs : List V) : cutV (x :: xs) (some 1) none = xs := by
  unfold cutV
  rw [HT.sIx_none, show (1 : Int) = ((1 : Nat) : Int) from rfl, HT.sIx_nat, List.length_cons, Nat.min_eq_left (by omega)]
  show List.take (xs.length + 1 - 1) xs = xs
  rw [Nat.add_sub_cancel, List.take_length]
/-- the frame is the one that is told -/
structure Told (ks : Kinds) (ys : List LegR) (d : BareD) : Prop where
  nm : ∀ zs : List Str, zs.Perm (d.ds ++ d.ls) → PyProof.Rows.sortedS zs = true → zs = names ys
  dr : kindZ ks true ys = d.ds
  li : kindZ ks false ys = d.ls
  pm : (names ys).Perm (d.ds ++ d.ls)
theorem told_of {ks : Kinds} {ys : List LegR} {d : BareD} (ok : d.ok) (hne : ks.drv ≠ ks.lis) (so : PyProof.Rows.sortedS (names ys) = true) (h : KindsOf ks ys d.ds d.ls) : Told ks ys d := by
  obtain ⟨rs1, rs2, hp, e1, e2, c1, c2⟩ := h
  have pm : (names ys).Perm (d.ds ++ d.ls) := by
    have : (names ys).Perm (names (rs1 ++ rs2)) := hp.map _
    rwa [names_append, e1, e2] at this
  have pwn := OrdS.sorted_pw so
  have fil : ∀ b, (kindZ ks b ys).Perm (if b then d.ds else d.ls) ∧ (kindZ ks b ys).Pairwise OrdS.Le := fun b => by
    refine ⟨?_, pwn.sublist (List.Sublist.map _ List.filter_sublist)⟩
    have q : (kindZ ks b ys).Perm (names ((rs1 ++ rs2).filter fun r => decide (r.C = ks.drv) == b)) := (hp.filter _).map _
    rw [List.filter_append, names_append] at q
    have f1 : rs1.filter (fun r => decide (r.C = ks.drv) == b) = if b then rs1 else [] := by
      cases b with
      | true => exact List.filter_eq_self.mpr fun r hr => by rw [decide_eq_true (c1 r hr)]; rfl
      | false => exact List.filter_eq_nil_iff.mpr fun r hr => by rw [decide_eq_true (c1 r hr)]; simp
    have f2 : rs2.filter (fun r => decide (r.C = ks.drv) == b) = if b then [] else rs2 := by
      have hn : ∀ r ∈ rs2, decide (r.C = ks.drv) = false := fun r hr => decide_eq_false fun z => hne (by rw [← z, c2 r hr])
      cases b with
      | true => exact List.filter_eq_nil_iff.mpr fun r hr => by rw [hn r hr]; simp
      | false => exact List.filter_eq_self.mpr fun r hr => by rw [hn r hr]; rfl
    rw [f1, f2] at q
    cases b with
    | true => rw [if_pos rfl, if_pos rfl, e1, show names [] = [] from rfl, List.append_nil] at q; exact q
    | false => rw [if_neg Bool.false_ne_true, if_neg Bool.false_ne_true, e2, show names [] = [] from rfl, List.nil_append] at q; exact q
  exact ⟨fun zs hz hs => OrdS.uniq (hz.trans pm.symm) hs so, OrdS.pw_uniq (fil true).1 (fil true).2 ok.sd, OrdS.pw_uniq (fil false).1 (fil false).2 ok.sl, pm⟩
theorem eqFr_top {d e : FrD} (h : d.t ≠ e.t) : eqFr d e = false := by
  unfold eqFr
  rw [decide_eq_false h]
  rfl
theorem eqFr_g {d e : FrD} (h : d.g ≠ e.g) : eqFr d e = false := by
  unfold eqFr
  rw [decide_eq_false h, Bool.false_and, Bool.and_false]
  rfl
theorem eqFr_r {d e : FrD} (h : d.r ≠ e.r) : eqFr d e = false := by
  unfold eqFr
  rw [decide_eq_false h, Bool.and_false, Bool.and_false]
  rfl
theorem eqFr_legs {d e : FrD} (h : eqLegs d.ys e.ys = false) : eqFr d e = false := by
  unfold eqFr
  rw [h, Bool.and_false]
/-! a list that is not empty -/
theorem eqLegs_len {ys zs : List LegR} (h : ys.length ≠ zs.length) : eqLegs ys zs = false := by
  unfold eqLegs
  rw [show (ys.length == zs.length) = false by simpa using h, Bool.false_and]
theorem eqLegs_kind {ys zs : List LegR} {p q : LegR} (hp : p ∈ ys) (hq : q ∈ zs) (hn : (names zs).Nodup) (hz : q.z = p.z) (hc : q.C ≠ p.C) : eqLegs ys zs = false := by
  have : (zs.any fun q => decide (q.z = p.z) && decide (q.C = p.C)) = false := by
    refine List.any_eq_false.mpr fun q' hq' h => hc ?_
    rw [Bool.and_eq_true, decide_eq_true_eq, decide_eq_true_eq] at h
    have e1 := find_nd hn hq
    have e2 := find_nd hn hq'
    rw [hz] at e1
    rw [h.1] at e2
    have : q = q' := Option.some.inj (e1.symm.trans e2)
    rw [this]
    exact h.2
  unfold eqLegs
  rw [show (ys.all fun p => zs.any fun q => decide (q.z = p.z) && decide (q.C = p.C)) = false from List.all_eq_false.mpr ⟨p, hp, by rw [this]; exact Bool.false_ne_true⟩, Bool.and_false]
theorem kinds_perm {ks : Kinds} {ys zs : List LegR} {ds ls : List Str} (h : KindsOf ks ys ds ls) (p : zs.Perm ys) : KindsOf ks zs ds ls := by
  obtain ⟨r1, r2, hp, h⟩ := h
  exact ⟨r1, r2, p.trans hp, h⟩
theorem eqLegs_of {ks : Kinds} {ys zs : List LegR} {ds ls : List Str} (h : KindsOf ks ys ds ls) (h' : KindsOf ks zs ds ls) : eqLegs ys zs = true := by
  obtain ⟨r1, r2, hp, e1, e2, c1, c2⟩ := h
  obtain ⟨q1, q2, hp', e1', e2', c1', c2'⟩ := h'
  have l1 : r1.length = q1.length := by
    have := congrArg List.length (e1.trans e1'.symm)
    unfold names at this
    rwa [List.length_map, List.length_map] at this
  have l2 : r2.length = q2.length := by
    have := congrArg List.length (e2.trans e2'.symm)
    unfold names at this
    rwa [List.length_map, List.length_map] at this
  have len : ys.length = zs.length := by rw [hp.length_eq, hp'.length_eq, List.length_append, List.length_append, l1, l2]
  unfold eqLegs
  rw [show (ys.length == zs.length) = true by rw [len]; exact beq_self_eq_true _, Bool.true_and]
  refine List.all_eq_true.mpr fun p hm => ?_
  have find : ∀ (rr qq : List LegR) (C : Addr), names rr = names qq → (∀ r ∈ rr, r.C = C) → (∀ r ∈ qq, r.C = C) → (∀ q ∈ qq, q ∈ zs) → p ∈ rr → (zs.any fun q => decide (q.z = p.z) && decide (q.C = p.C)) = true := fun rr qq C en hr hq hz hm => by
    have hn : p.z ∈ names qq := by rw [← en]; exact List.mem_map.mpr ⟨p, hm, rfl⟩
    obtain ⟨q, hqm, eq⟩ := List.mem_map.mp hn
    refine List.any_eq_true.mpr ⟨q, hz q hqm, ?_⟩
    rw [Bool.and_eq_true, decide_eq_true_eq, decide_eq_true_eq]
    exact ⟨eq, (hq q hqm).trans (hr p hm).symm⟩
  rcases List.mem_append.mp (hp.mem_iff.mp hm) with h | h
  · exact find r1 q1 ks.drv (e1.trans e1'.symm) c1 c1' (fun q hq => hp'.mem_iff.mpr (List.mem_append_left _ hq)) h
  · exact find r2 q2 ks.lis (e2.trans e2'.symm) c2 c2' (fun q hq => hp'.mem_iff.mpr (List.mem_append_right _ hq)) h
theorem eqFr_self {d e : FrD} (h1 : d.t = e.t) (h2 : d.g = e.g) (h3 : d.r = e.r) (h4 : eqLegs d.ys e.ys = true) : eqFr d e = true := by
  unfold eqFr
  rw [h4, decide_eq_true h1, decide_eq_true h2, decide_eq_true h3]
  rfl
end Sj
namespace Sj
open PySem L2 Sup StK Own Shw Exg Grd
open NdefX (NF NScope ncx envF startF nscope_by)
open C8 (pss_cut tCut)
/-! k06: _law_lacking, _law_driven, _law_text -/
def lackZ (g r : Bool) : List Str := (if g then [] else [("ground" : Str)]) ++ if r then [] else [("power" : Str)]
def lackP (g r : Bool) : Nat → List Str
  | 0 => []
  | 1 => if g then [] else [("ground" : Str)]
  | _ => lackZ g r
def spLak : Sp := fun vs H Q _ => ∃ (b : Addr) (d : BareD) (p : Addr), vs = [.ref b] ∧ BareAt H b d p ∧ ∀ q H', H q = none → H' q = some (.lst (strv (lackZ d.g d.r))) → Same H H' → Q (.ref q) H'
theorem inV_strs : ∀ (zs : List Str) (z : Str), inV (.str z) (strv zs) = decide (z ∈ zs)
  | [], z => by simp [inV, strv]
  | y :: zs, z => by
    have ih := inV_strs zs z
    show (eqV (V.str y) (V.str z) || inV (.str z) (strv zs)) = _
    rw [ih]
    by_cases e : z = y
    · subst e
      simp [eqV]
    · have e' : y ≠ z := fun q => e q.symm
      simp [eqV, e, e']
theorem flat_strs (zs : List Str) : (strv zs).all flatV = true := by
  unfold strv
  rw [List.all_map]
  exact List.all_eq_true.mpr fun z _ => rfl
/-- a plain word's levels, as a dict of the law -/
def LvAt (H : Hp) (L : Addr) (gv : List (Str × Int)) : Prop := H L = some (.dK (gv.map lvRow))
/-- levels within 0 and top, of drivers -/
def LvB (d : BareD) (gv : List (Str × Int)) : Prop := gv.length ≤ 60 ∧ (∀ p ∈ gv, p.1 ∈ d.ds ∧ 0 ≤ p.2 ∧ p.2 ≤ d.t)
def bAll (d : BareD) (gv : List (Str × Int)) : List (Str × Int) := d.ds.map fun z => (z, lvl gv d.t z)
def spDrn : Sp := fun vs H Q _ => ∃ (b L : Addr) (d : BareD) (p : Addr) (gv : List (Str × Int)) (z : Str), vs = [.ref b, .ref L, .str z] ∧ BareAt H b d p ∧ LvAt H L gv ∧ Q (.int (if z = "ground" then 0 else if z ∈ d.ds then lvl gv d.t z else d.t)) H
def spTxt : Sp := fun vs H Q _ => ∃ (b L : Addr) (d : BareD) (p : Addr) (gv : List (Str × Int)), vs = [.ref b, .ref L] ∧ BareAt H b d p ∧ d.ok ∧ LvAt H L gv ∧ LvB d gv ∧ ∀ H', Same H H' → Q (.str (wdTx (bAll d gv) d.t)) H'
theorem pool_len : ∀ z ∈ poolS, z.length ≤ 100 := fun z hz => Nat.le_trans (pool_ok z hz).2 (by decide)
theorem lvGet {H : Hp} {L : Addr} {gv : List (Str × Int)} (h : LvAt H L gv) (z : Str) : DGet H L (.str z) ((lvG gv z).map V.int) := by
  have := DGet.k (k := Sum.inr z) h
  rw [valV_lv] at this
  exact this
theorem getD_lvl (gv : List (Str × Int)) (t : Int) (z : Str) : ((lvG gv z).map V.int).getD (.int t) = .int (lvl gv t z) := by
  unfold lvl
  cases lvG gv z <;> rfl
theorem lvlB {d : BareD} {gv : List (Str × Int)} (h : LvB d gv) (ok : d.ok) (z : Str) : 0 ≤ lvl gv d.t z ∧ lvl gv d.t z ≤ d.t := by
  unfold lvl
  cases e : lvG gv z with
  | none => exact ⟨by have := ok.t1; show 0 ≤ d.t; omega, Int.le_refl _⟩
  | some i => exact ⟨(h.2 _ (lvG_mem e)).2.1, (h.2 _ (lvG_mem e)).2.2⟩
abbrev rAs : R2 := fun x y H Q => ∃ i j, x = V.str i ∧ y = V.str j ∧ i.length + j.length ≤ sizeLine ∧ Q (V.str (i ++ j)) H
abbrev rStI : List V → Hp → VK → Prop := fun xs H Q => ∃ i, xs = [V.int i] ∧ i.natAbs.log2 < 1920 ∧ Q (V.str (toString i)) H
def teTx : TE := tOp rAs (tOp rAs (tVar 3) (tC (.str "="))) (tCB rStI (tCons (tDGet (tVar 1) (tVar 3)) tNil))
def ttTx : TT := tTest (tOp (rI0 fun i j => .bl (decide (i < j))) (tDGet2 (tVar 1) (tVar 3) (tDGet (tVar 0) (tC (.str "top")))) (tDGet (tVar 0) (tC (.str "top"))))
section
variable {P : Program} {w : World} {K : PySem.W.Frag} {mg : Str → Option Value} {base : Heap}
end
end Sj
namespace Sj
open PySem L2 Sup StK Own Shw Exg Grd
open NdefX (NF NScope ncx envF startF nscope_by)
open C8 (pss_cut tCut)
/-! k06: _law_unlike, _law_levels -/
theorem BareAt.grow {H H' : Hp} {b p q : Addr} {d : BareD} {xs : List V} (h : BareAt H b d p) (h' : BareAt H b d q) (hq : H q = some (.lst xs)) (s : But H H' q) : BareAt H' b d p := by
  obtain ⟨dl, ll, rl, h1, h2, h3, h4, h5, h6, h7⟩ := h.ex
  obtain ⟨dl', ll', rl', g1, _, _, _, g5, g6, g7⟩ := h'.ex
  rw [h1] at g1
  injection Option.some.inj g1 with g1
  unfold rowsB at g1
  simp only [List.cons.injEq, Prod.mk.injEq, V.ref.injEq, true_and, and_true] at g1
  obtain ⟨rfl, rfl, rfl⟩ := g1
  exact ⟨dl, ll, rl, s _ _ (ne_of h1 hq (by intro z; cases z)) h1, s _ _ g5 h2, s _ _ g6 h3, s _ _ g7 h4, h5, h6, h7⟩
theorem BareAt.apart {H : Hp} {b p q : Addr} {d : BareD} (h : BareAt H b d p) (hq : H q = none) : BareAt H b d q := by
  obtain ⟨dl, ll, rl, h1, h2, h3, h4, h5, h6, h7⟩ := h.ex
  exact ⟨dl, ll, rl, h1, h2, h3, h4, ne_of_none h2 hq, ne_of_none h3 hq, ne_of_none h4 hq⟩
abbrev sLvs : Stmt := top 34
/-- unlike: another top, or a leg of the other kind -/
def UnlikeD (d d' : BareD) : Prop := d'.t ≠ d.t ∨ ∃ z, (z ∈ d'.ds ∧ z ∈ d.ls) ∨ (z ∈ d'.ls ∧ z ∈ d.ds)
def arefs (as : List (Addr × BareD)) : List V := as.map fun x => .ref x.1
def UnlL (H : Hp) (p q : Addr) (d : BareD) (as : List (Addr × BareD)) : Prop := H q = some (.lst (arefs as)) ∧ ∀ x ∈ as, BareAt H x.1 x.2 p ∧ BareAt H x.1 x.2 q ∧ x.2.ok ∧ UnlikeD d x.2
def spUnl : Sp := fun vs H Q _ => ∃ (b : Addr) (d : BareD) (p : Addr) (xs : List V), vs = [.ref b] ∧ BareAt H b d p ∧ H p = some (.lst xs) ∧ d.ok ∧ ∀ q as H', UnlL H' p q d as → as.length ≤ 3 → H q = none → Same H H' → Q (.ref q) H'
theorem merge_top (t x : Int) (dl ll rl : Addr) : mergeK [] (rowsB t dl ll rl ++ [((Sum.inr "top" : Key), V.int x)]) = rowsB x dl ll rl := by
  unfold rowsB mergeK putK
  simp +decide
theorem cut_head (x : V) (xs : List V) : cutV (x :: xs) none (some 1) = [x] := by
  unfold cutV
  rw [HT.sIx_none, show (1 : Int) = ((1 : Nat) : Int) from rfl, HT.sIx_nat, List.length_cons, Nat.min_eq_left (by omega)]
  rfl
theorem put_drv (t : Int) (dl ll rl x : Addr) : putK (rowsB t dl ll rl) (Sum.inr "drivers" : Key) (.ref x) = rowsB t x ll rl := by
  unfold rowsB putK
  simp +decide
theorem put_lis (t : Int) (dl ll rl x : Addr) : putK (rowsB t dl ll rl) (Sum.inr "listeners" : Key) (.ref x) = rowsB t dl x rl := by
  unfold rowsB putK
  simp +decide
theorem UnlL.snoc {H : Hp} {p q x : Addr} {d e : BareD} {as : List (Addr × BareD)} {ys : List V} (h : UnlL H p q d as) (hp : BareAt H x e p) (hq : BareAt H x e q) (ok : e.ok) (u : UnlikeD d e) : UnlL (upd H q (.lst (arefs as ++ [.ref x]))) p q d (as ++ [(x, e)]) := by
  have bt := But.upd H q (.lst (arefs as ++ [.ref x]))
  refine ⟨?_, fun y hy => ?_⟩
  · rw [upd_same]
    unfold arefs
    rw [List.map_append]
    rfl
  · rcases List.mem_append.mp hy with hy | hy
    · obtain ⟨h1, h2, h3, h4⟩ := h.2 y hy
      exact ⟨h1.grow h2 h.1 bt, h2.grow h2 h.1 bt, h3, h4⟩
    · obtain rfl := List.mem_singleton.mp hy
      exact ⟨hp.grow hq h.1 bt, hq.grow hq h.1 bt, ok, u⟩
theorem UnlL.same {H H' : Hp} {p q : Addr} {d : BareD} {as : List (Addr × BareD)} (h : UnlL H p q d as) (s : Same H H') : UnlL H' p q d as := ⟨s _ _ h.1, fun x hx => ⟨(h.2 x hx).1.same s, (h.2 x hx).2.1.same s, (h.2 x hx).2.2⟩⟩
abbrev nLv : List Str := ["_law_pen_here", "_law_bare_here", "_law_way", "_law_found", "_law_tag", "_law_far"]
theorem scLv : FnScope nLv ["_law_pen_here", "_law_bare_here"] (defScope sLvs) := ⟨rfl, rfl, rfl, by decide +kernel, rfl, by decide +kernel, by decide +kernel⟩
def spLvs : Sp := fun vs H Q _ => ∃ (p l : Addr) (cs : List Int) (n : Nat) (b : Addr) (d : BareD), vs = [.ref p, .ref b] ∧ Pen H p l cs n ∧ BareAt H b d p ∧ d.ok ∧ n < 80000 ∧
  ∀ D gv H', LvB d gv → (gv.map (·.1)).Nodup → LvAt H' D gv → H D = none → Pen H' p l cs (n + 60) → But H H' p → Q (.ref D) H'
section
variable {P : Program} {w : World} {K : PySem.W.Frag} {mg : Str → Option Value} {base : Heap}
theorem ok_lvs {f : Addr} {fd : FuncData} (F : Fun K "_law_levels" "_law_levels" sLvs f fd) (T : DwT P w K mg base) : FnOk P w K mg base CX0 3 f fd ["_law_pen_here", "_law_bare_here"] spLvs := by
  obtain ⟨fD, fdD, mD, kD, bD, GD⟩ := T.draw
  refine F.ok scLv (fun vs H Q E h => ?_) (fun cdv A outer s H vs Q E hr h => ?_)
  · obtain ⟨p, l, cs, n, b, d, rfl, _⟩ := h
    rfl
  · obtain ⟨p, l, cs, n, b, d, rfl, hP, hB, ok, hn, k⟩ := h
    have hu := hu_of hr
    have hr1 := hr.mono (show 1 ≤ 2 by decide)
    refine ⟨_, pss_cons (ps_par (i := 2) (j := 3) (by rfl) scLv.nd rfl rfl (by decide) rfl rfl (pa_cons (pe_call GD hr1 rfl mD kD bD .nil pass0 (pa_cons (pv 0) (pa_cons pe_int pa_nil))) (pa_cons pe_dnewK pa_nil)) (by rfl))
      (pss_cons (ps_for PassesOwn.never rfl (pi_list (pe_dget hu (pv 1) pe_str (fun _ _ => rfl))) (pg_name (i := 4) scLv.nd rfl (Or.inl rfl))
        (pss_cons (ps_set (i := 5) scLv.nd rfl (Or.inl rfl) (pe_ix ix_list (pe_lst (pa_cons pe_int (pa_cons (pe_call GD hr1 rfl mD kD bD .nil pass0 (pa_cons (pv 0) (pa_cons (pe_op op_add (pe_dget hu (pv 1) pe_str (fun _ _ => rfl)) pe_int) pa_nil)))
            (pa_cons (pe_op op_mul (pe_call GD hr1 rfl mD kD bD .nil pass0 (pa_cons (pv 0) (pa_cons pe_int pa_nil))) (pe_dget hu (pv 1) pe_str (fun _ _ => rfl))) (pa_cons (pe_dget hu (pv 1) pe_str (fun _ _ => rfl)) pa_nil))))) (pv 2) (fun _ _ => rfl)))
        (pss_one (ps_if (PW.pt (pw_or (pt_cmpR op_eq (pv 2) pe_int (nomark _)) (pw_or1 (pt_cmpR op_eq (pe_call GD hr1 rfl mD kD bD .nil pass0 (pa_cons (pv 0) (pa_cons pe_int pa_nil))) pe_int (nomark _))))) (pss_one (ps_dput hu (pv 3) (pv 4) (pv 5) rfl)) pss_nil))))
      (pss_one (ps_ret (pv 3)))), ?_⟩
    have t1 := ok.t1
    have t3 := ok.t3
    refine ⟨_, rfl, p, l, cs, n, 4, rfl, hP, by decide, by decide, by omega, fun way i1 g1 H1 w0 w4 i10 in1 hp1 b1 => ?_⟩
    have P1 : Pen H1 p l cs (n + 1) := hP.next i10 in1 hp1 b1
    refine fun D hD => ⟨_, _, rfl, ?_⟩
    have sD := same_at (o := .dK []) hD
    have P2 := P1.same sD
    have hDp : D ≠ p := nep P1 hD
    have hD0 : H D = none := b1.free hDp hD
    have b2 : But H (upd H1 D (.dK [])) p := b1.same sD
    obtain ⟨H2, e2⟩ : ∃ H2, H2 = upd H1 D (.dK []) := ⟨_, rfl⟩
    have hD2 : H2 D = some (.dK []) := by rw [e2, upd_same]
    rw [← e2] at P2 b2 ⊢
    obtain ⟨dl, ll, rl, hb, hdl, hll, hrl, nd, nl, nr⟩ := hB.ex
    have hdsl : (strv d.ds).length = d.ds.length := List.length_map _
    have hd16 : d.ds.length ≤ 16 := by have := ok.le; omega
    have ndup : d.ds.Nodup := (List.nodup_append.mp ok.nd).1
    have hb2 := b2.keep hP hb (fun ys z => by cases z)
    have hdl2 := b2 _ _ nd hdl
    refine ⟨_, rfl, b, _, rfl, DGet.k (k := Sum.inr "drivers") hb2, dl, rfl, ⟨_, SqL.of hdl2⟩, ?_⟩
    refine for_list (xs := strv d.ds) (fun i σ H' => (∃ o4 o5, σ = [some (.ref p), some (.ref b), some (.int way), some (.ref D), o4, o5]) ∧ Pen H' p l cs (n + 1 + 3 * i) ∧ But H H' p ∧
        ∃ gv : List (Str × Int), H' D = some (.dK (gv.map lvRow)) ∧ (gv.map (·.1)).Sublist (d.ds.take i) ∧ ∀ q ∈ gv, 0 ≤ q.2 ∧ q.2 ≤ d.t) ⟨⟨_, _, rfl⟩, P2, b2, [], hD2, List.nil_sublist _, fun q hq => by cases hq⟩ (fun i σ H' _ h => SqL.of (h.2.2.1 _ _ nd hdl)) ?_ ?_
    · rintro i x σ H3 hx ⟨⟨o4, o5, rfl⟩, P3, b3, gv, hv3, hsub, hbd⟩
      have hi : i < d.ds.length := by rw [← hdsl]; exact (List.getElem?_eq_some_iff.mp hx).1
      have ex : (strv d.ds)[i]? = some (.str d.ds[i]) := by show (d.ds.map V.str)[i]? = _; rw [List.getElem?_map, List.getElem?_eq_getElem hi]; rfl
      rw [ex] at hx
      obtain rfl := Option.some.inj hx
      have hb3 := b3.keep hP hb (fun ys z => by cases z)
      have top : ∀ {H' : Hp}, But H3 H' p → DGet H' b (.str "top") (some (.int d.t)) := fun bb => DGet.k (k := Sum.inr "top") (bb.keep P3 hb3 (fun ys z => by cases z))
      have hn3 : n + 1 + 3 * i < 1000000 := by omega
      refine ⟨_, rfl, _, rfl, b, _, rfl, top (But.of (Same.refl _)), d.t, 1, rfl, rfl, p, l, cs, _, d.t + 1, rfl, P3, by omega, by omega, hn3, fun d1 i4 g4 H4 d10 d11 i40 in4 hp4 b4 => ?_⟩
      have P4 : Pen H4 p l cs (n + 1 + 3 * i + 1) := P3.next i40 in4 hp4 b4
      refine ⟨_, rfl, p, l, cs, _, 2, rfl, P4, by decide, by decide, by omega, fun d2 i5 g5 H5 d20 d21 i50 in5 hp5 b5 => ?_⟩
      have P5 : Pen H5 p l cs (n + 1 + 3 * i + 2) := P4.next i50 in5 hp5 b5
      have b35 := b4.trans b5
      refine ⟨_, rfl, b, _, rfl, top b35, d2, d.t, rfl, rfl, .inl ⟨by omega, by omega⟩, _, rfl, b, _, rfl, top b35, by show 4 ≤ sizeLine; decide, fun L hL => ?_⟩
      obtain ⟨far, f0, f1, hfar⟩ : ∃ far : Int, 0 ≤ far ∧ far ≤ d.t ∧ atI [V.int 0, .int d1, .int (d2 * d.t), .int d.t] way = some (.int far) := by
        have h2 : d2 = 0 ∨ d2 = 1 := by omega
        have hm : 0 ≤ d2 * d.t ∧ d2 * d.t ≤ d.t := by
          rcases h2 with e | e <;> rw [e] <;> omega
        obtain e | e | e | e : way = ((0 : Nat) : Int) ∨ way = ((1 : Nat) : Int) ∨ way = ((2 : Nat) : Int) ∨ way = ((3 : Nat) : Int) := by omega
        · exact ⟨0, Int.le_refl _, by omega, by rw [e]; exact atI_nat rfl⟩
        · exact ⟨d1, d10, by omega, by rw [e]; exact atI_nat rfl⟩
        · exact ⟨d2 * d.t, hm.1, hm.2, by rw [e]; exact atI_nat rfl⟩
        · exact ⟨d.t, by omega, Int.le_refl _, by rw [e]; exact atI_nat rfl⟩
      have s56 := same_at (o := .lst [V.int 0, .int d1, .int (d2 * d.t), .int d.t]) hL
      obtain ⟨H6, e6⟩ : ∃ H6, H6 = upd H5 L (.lst [V.int 0, .int d1, .int (d2 * d.t), .int d.t]) := ⟨_, rfl⟩
      have hL6 : H6 L = some (.lst [V.int 0, .int d1, .int (d2 * d.t), .int d.t]) := by rw [e6, upd_same]
      rw [← e6] at s56 ⊢
      have P6 := P5.same s56
      have b36 := b35.same s56
      refine ⟨_, rfl, L, _, _, _, rfl, rfl, SqL.of hL6, hfar, ?_⟩
      have hz : d.ds[i] ∉ gv.map (·.1) := fun hm => by
        obtain ⟨j, hj, ej⟩ := List.getElem_of_mem (hsub.subset hm)
        rw [List.length_take] at hj
        rw [List.getElem_take] at ej
        have := (List.getElem_inj ndup).mp ej
        omega
      have etake : d.ds.take (i + 1) = d.ds.take i ++ [d.ds[i]] := by rw [List.take_add_one, List.getElem?_eq_getElem hi]; rfl
      have skip : ∀ H7, But H3 H7 p → Pen H7 p l cs (n + 1 + 3 * i + 3) → (∃ o4 o5, [some (V.ref p), some (.ref b), some (.int way), some (.ref D), some (.str d.ds[i]), some (.int far)] = [some (.ref p), some (.ref b), some (.int way), some (.ref D), o4, o5]) ∧ Pen H7 p l cs (n + 1 + 3 * (i + 1)) ∧ But H H7 p ∧
          ∃ gv : List (Str × Int), H7 D = some (.dK (gv.map lvRow)) ∧ (gv.map (·.1)).Sublist (d.ds.take (i + 1)) ∧ ∀ q ∈ gv, 0 ≤ q.2 ∧ q.2 ≤ d.t := fun H7 b37 P7 =>
        ⟨⟨_, _, rfl⟩, P7.mono (by omega), b3.trans b37, gv, b37 _ _ hDp hv3, by rw [etake]; exact hsub.trans (List.sublist_append_left _ _), hbd⟩
      have put : ∀ H7, But H3 H7 p → Pen H7 p l cs (n + 1 + 3 * i + 3) → ∃ a H8, V.ref D = .ref a ∧ DPut H7 a (.str d.ds[i]) (.int far) H8 ∧ ((∃ o4 o5, [some (V.ref p), some (.ref b), some (.int way), some (.ref D), some (.str d.ds[i]), some (.int far)] = [some (.ref p), some (.ref b), some (.int way), some (.ref D), o4, o5]) ∧ Pen H8 p l cs (n + 1 + 3 * (i + 1)) ∧ But H H8 p ∧
          ∃ gv : List (Str × Int), H8 D = some (.dK (gv.map lvRow)) ∧ (gv.map (·.1)).Sublist (d.ds.take (i + 1)) ∧ ∀ q ∈ gv, 0 ≤ q.2 ∧ q.2 ≤ d.t) := fun H7 b37 P7 => by
        have hv7 := b37 _ _ hDp hv3
        have hgl : (gv.map lvRow).length ≤ 16 := by
          rw [List.length_map]
          have := hsub.length_le
          rw [List.length_map, List.length_take] at this
          omega
        refine ⟨D, _, rfl, DPut.k (k := Sum.inr d.ds[i]) hv7 (Nat.lt_of_le_of_lt hgl (by decide)), ⟨_, _, rfl⟩, ?_, fun c o hc e => ?_, gv ++ [(d.ds[i], far)], ?_, ?_, fun q hq => ?_⟩
        · obtain ⟨i', g', q1, q2, q3⟩ := P7
          exact ⟨i', g', by rw [upd_ne (ne_of q1 hv7 (by intro z; cases z))]; exact q1, by rw [upd_ne (ne_of q2 hv7 (by intro z; cases z))]; exact q2, q3.1, q3.2.1, by omega⟩
        · rw [upd_ne (ne_of_none e hD0)]
          exact b37 _ _ hc (b3 _ _ hc e)
        · have hout : valV (gv.map lvRow) (Sum.inr d.ds[i]) = none := by
            rw [valV_lv]
            cases q : lvG gv d.ds[i] with
            | none => rfl
            | some j => exact absurd (List.mem_map.mpr ⟨_, lvG_mem q, rfl⟩) hz
          rw [upd_same, putK_new _ hout, List.map_append]
          rfl
        · rw [List.map_append, etake]
          exact List.Sublist.append hsub (List.Sublist.refl _)
        · rcases List.mem_append.mp hq with hq | hq
          · exact hbd q hq
          · rw [List.mem_singleton.mp hq]
            exact ⟨f0, f1⟩
      refine ⟨_, rfl, rfl, _, rfl, ?_⟩
      by_cases ew : way = 1
      · rw [decide_eq_true (show V.int way = V.int 1 by rw [ew])]
        refine iteT ⟨_, rfl, _, rfl, _, rfl, ?_⟩
        exact put H6 b36 (P6.mono (by omega))
      · rw [decide_eq_false (show ¬ V.int way = V.int 1 from fun q => ew (V.int.inj q))]
        refine iteF ⟨_, rfl, p, l, cs, _, 2, rfl, P6, by decide, by decide, by omega, fun d7 i7 g7 H7 d70 d71 i70 in7 hp7 b7 => ?_⟩
        have P7 : Pen H7 p l cs (n + 1 + 3 * i + 3) := P6.next i70 in7 hp7 b7
        have b37 := b36.trans b7
        refine ⟨rfl, _, rfl, ?_⟩
        by_cases ed : d7 = 0
        · rw [decide_eq_true (show V.int d7 = V.int 0 by rw [ed])]
          refine iteT ⟨_, rfl, _, rfl, _, rfl, ?_⟩
          exact put H7 b37 P7
        · rw [decide_eq_false (show ¬ V.int d7 = V.int 0 from fun q => ed (V.int.inj q))]
          exact iteF (skip H7 b37 P7)
    · rintro σ H3 ⟨⟨o4, o5, rfl⟩, P3, b3, gv, hv3, hsub, hbd⟩
      rw [hdsl, List.take_length] at hsub
      rw [hdsl] at P3
      refine ⟨_, rfl, k D gv H3 ⟨?_, fun q hq => ⟨hsub.subset (List.mem_map.mpr ⟨q, hq, rfl⟩), hbd q hq⟩⟩ (ndup.sublist hsub) hv3 hD0 (P3.mono (by omega)) b3⟩
      have := hsub.length_le
      rw [List.length_map] at this
      omega
end
end Sj
namespace Sj
open PySem L2 Sup StK Own Shw Exg Grd KepE
open NdefX (NF NScope ncx envF startF nscope_by)
open C8 (pss_cut tCut)
/-! k06: _law_tells -/
def FnIs (P : Program) (w : World) (K : PySem.W.Frag) (mg : Str → Option Value) (base : Heap) (nm : Str) (k : Nat) (ps : List Str) (sp : Sp) : Prop := ∃ f fd, mg nm = some (.ref f) ∧ PySem.W.keepIn K (.ref f) = true ∧ Binds K fd ps [] ∧ FnOk P w K mg base CX0 k f fd ps sp
def FnIsG (P : Program) (w : World) (K : PySem.W.Frag) (mg : Str → Option Value) (base : Heap) (nm : Str) (k : Nat) (ps : List Str) (sp : Sp) : Prop := ∃ f fd, mg nm = some (.ref f) ∧ PySem.W.keepIn K (.ref f) = true ∧ Binds K fd ps [] ∧ FnG P w K mg base CX0 k f fd ps sp
abbrev rOw (K : PySem.W.Frag) (ks : Kinds) (CF : Addr) (op : CmpOp) : R2 := rOwnE K op (fun C => C = CF) (fun _ => spFEq K ks CF)
theorem own_rd {op : CmpOp} {K : PySem.W.Frag} {ks : Kinds} {CF : Addr} {H : Hp} {Q : VK} {a b : Addr} {d e : FrD} {v : Bool} (ic : IsiC K CF) (nf : PySem.W.notFirst K CF (.ref CF) = true) (ha : FrIs ks CF H a d) (hb : FrIs ks CF H b e) (he : eqFr d e = v) (k : ∀ H', Same H H' → Q (.bl (ansOf op v)) H') :
    rOw K ks CF op (.ref a) (.ref b) H Q := by
  obtain ⟨dx, fs, ea⟩ := ha.ins
  obtain ⟨dy, gs, eb⟩ := hb.ins
  subst he
  exact ⟨a, CF, dx, fs, rfl, ea, rfl, .inl ⟨.ref CF, .base (.ins eb ic.cl ic.ca ic.cn ic.ct ic.cm), nf, a, d, .ref b, rfl, ha, .inl ⟨b, e, rfl, hb, fun H' s => ⟨_, rfl, k H' s⟩⟩⟩⟩
theorem eqLegs_refl (ys : List LegR) : eqLegs ys ys = true := by
  unfold eqLegs
  rw [beq_self_eq_true, Bool.true_and]
  refine List.all_eq_true.mpr fun p hp => List.any_eq_true.mpr ⟨p, hp, ?_⟩
  rw [decide_eq_true rfl, decide_eq_true rfl]
  rfl
/-- all that the law asks of words -/
structure WdP (P : Program) (w : World) (K : PySem.W.Frag) (mg : Str → Option Value) (base : Heap) (ks : Kinds) (CF CW CN : Addr) : Prop where
  f : WfT P w K mg base ks CF CW
  low : PropN P w K mg base 1 CW "low" (spWLow ks CF CW)
  get : MetG P w K mg base (L2.CX P w) 3 CW "__getitem__" ["self", "at"] (spWGet K ks CF CW CN)
  boo : ∃ (g : Addr) (fd : FuncData), PySem.W.findIn K (.ref CW) "__bool__" = some (some (.ref g)) ∧ PySem.W.isFn K (.ref g) = true ∧ FnOk P w K mg base CX0 3 g fd ["self"] (spWBool ks CF CW) ∧ Binds K fd ["self"] []
  str : ∃ (g : Addr) (fd : FuncData), PySem.W.findIn K (.ref CW) "__str__" = some (some (.ref g)) ∧ PySem.W.isFn K (.ref g) = true ∧ FnOk P w K mg base CX0 3 g fd ["self"] (spWStr ks CF CW id) ∧ Binds K fd ["self"] []
  rep : ∃ (g : Addr) (fd : FuncData), PySem.W.findIn K (.ref CW) "__repr__" = some (some (.ref g)) ∧ PySem.W.isFn K (.ref g) = true ∧ FnOk P w K mg base CX0 7 g fd ["self"] (spWStr ks CF CW reprW) ∧ Binds K fd ["self"] []
  eq : EqN P w K mg base 7 CW (spWEq K ks CF CW)
  icW : IsiC K CW
  nfW : PySem.W.notFirst K CW (.ref CW) = true
  eqF : EqN P w K mg base 4 CF (spFEq K ks CF)
  icF : IsiC K CF
  nfF : PySem.W.notFirst K CF (.ref CF) = true
/-- the word w is that of the levels gv of the bare frame d -/
structure WdOf (ks : Kinds) (CF CW : Addr) (H : Hp) (a : Addr) (ys : List LegR) (d : BareD) (gv : List (Str × Int)) : Prop where
  ex : ∃ gw, WdIs ks CF CW H a ⟨ys, d.t, d.g, d.r⟩ gw ∧ lvAll ks ⟨ys, d.t, d.g, d.r⟩ gw = bAll d gv
theorem WdOf.same {ks : Kinds} {CF CW : Addr} {H H' : Hp} {a : Addr} {ys : List LegR} {d : BareD} {gv : List (Str × Int)} (h : WdOf ks CF CW H a ys d gv) (s : Same H H') : WdOf ks CF CW H' a ys d gv := by
  obtain ⟨gw, h1, h2⟩ := h.ex
  exact ⟨gw, h1.same s, h2⟩
def spTls (ks : Kinds) (CF CW : Addr) : Sp := fun vs H Q _ => ∃ (m b L w p : Addr) (d : BareD) (ys : List LegR) (gv : List (Str × Int)), vs = [.ref m, .ref b, .ref L, .ref w] ∧ FrIs ks CF H m ⟨ys, d.t, d.g, d.r⟩ ∧ BareAt H b d p ∧ d.ok ∧ Told ks ys d ∧ LvAt H L gv ∧ LvB d gv ∧ WdOf ks CF CW H w ys d gv ∧ ∀ H', Same H H' → Q (.bl true) H'
def drvN (d : BareD) (gv : List (Str × Int)) (z : Str) : Int := if z = "ground" then 0 else if z ∈ d.ds then lvl gv d.t z else d.t
theorem drvN_bd {d : BareD} {gv : List (Str × Int)} (h : LvB d gv) (ok : d.ok) (z : Str) : 0 ≤ drvN d gv z ∧ drvN d gv z ≤ 3 := by
  have t1 := ok.t1
  have t3 := ok.t3
  unfold drvN
  by_cases e : z = "ground"
  · rw [if_pos e]
    omega
  · rw [if_neg e]
    by_cases m : z ∈ d.ds
    · rw [if_pos m]
      obtain ⟨h1, h2⟩ := lvlB h ok z
      omega
    · rw [if_neg m]
      omega
theorem Sm.i03 {k n : Nat} {t : Int} (h1 : 0 ≤ t) (h3 : t ≤ 3) : Sm k n (.int t) := by
  obtain rfl | rfl | rfl | rfl : t = 0 ∨ t = 1 ∨ t = 2 ∨ t = 3 := by omega
  all_goals exact ⟨by decide +kernel, by decide +kernel, by decide +kernel, Nat.zero_le _, Nat.zero_le _⟩
theorem fit_i03 {l : List Int} (hl : l.length ≤ 50) (h : ∀ i ∈ l, 0 ≤ i ∧ i ≤ 3) : ShN.FitN (.list (l.map PyData.int)) := by
  have a := SmA.all (k := 0) (n := 0) (ds := l.map PyData.int) fun d hd => by
    obtain ⟨i, hi, rfl⟩ := List.mem_map.mp hd
    exact Sm.i03 (h i hi).1 (h i hi).2
  rw [List.length_map] at a
  exact ((Sm.lst a).mono (k' := 1) (n' := 60) (Nat.le_refl _) (by omega)).fit (by decide) (by decide)
theorem ground_out : ("ground" : Str) ∉ poolS := by decide +kernel
theorem power_out : ("power" : Str) ∉ poolS := by decide +kernel
section
variable {P : Program} {w : World} {K : PySem.W.Frag} {mg : Str → Option Value} {base : Heap}
end
end Sj
namespace Sj
open PySem L2 Sup StK Own Shw Exg Grd KepE
open NdefX (NF NScope ncx envF startF nscope_by)
open C8 (pss_cut tCut)
/-! k06: forms of Frame, lists of pairs, == of words -/
abbrev ksE : List Str := []
abbrev ksL : List Str := ["legs", "top", "ground", "power"]
section
variable {P : Program} {w : World} {K : PySem.W.Frag} {mg : Str → Option Value} {base : Heap}
theorem fr_kw0 {CI fI CF f : Addr} {fd : FuncData} {ks : Kinds} (F : FunD K "__init__" "Frame.__init__" (defArgs sFrI) (defBody sFrI) (defScope sFrI) [] kwsF f fd) (T : FrT P w K mg base ks CI fI CF) :
    FnK P w K mg base (L2.CX P w) 4 f ksE (spStarK 1 (fun vs zs => vs ++ ([.int 1, .bl false, .bl false] ++ zs)) (spFrI K ks CI CF)) :=
  fn_starK (ps := ["self", "top", "ground", "power"]) (pv := "legs") F scFrI StX.cxUp 1 ksE kwsF (fun us mv ws => us ++ (mv ++ ws)) (by decide) (fun q h => h) (fun r1 r2 r3 => r1.append (r2.append r3))
    (fun us mv ws h1 h2 h3 => by rw [List.length_append, List.length_append, h1, h2, h3] <;> rfl)
    (fun D doc pm an cdv ct us rest mv ws h1 h2 h3 => match us, rest, mv, ws, h1, h2, h3 with
      | [a], [], [x, p, q], [], _, _, _ => ⟨_, _, _, _, _, _, rfl, rfl, _, _, _, _, _, _, rfl, rfl, _, _, _, _, _, _, rfl, rfl, rfl⟩
      | [a], r :: rs, [x, p, q], [], _, _, _ => ⟨_, _, _, _, _, _, rfl, rfl, _, _, _, _, _, _, rfl, rfl, _, _, _, _, _, _, rfl, rfl, rfl⟩)
    (fun cdv A outer s H vs Q E hr h => body_frI T cdv A outer s H vs Q E hr h)
theorem of_kwL {f CI CF : Addr} {fd : FuncData} {ks : Kinds} (F : FunD K "of" "Frame.of" (defArgs sOf) (defBody sOf) (defScope sOf) [] kwsF f fd) (G : FnOk P w K mg base (L2.CX P w) 6 f fd psO (spOf K ks CI CF)) :
    FnK P w K mg base (L2.CX P w) 6 f ksL (fun vs zs H Q E => vs.length = 1 ∧ spOf K ks CI CF (vs ++ zs) H Q E) := by
  obtain ⟨mv, hb⟩ := F.kbinds0 (ps := psO) 1 ksL [] (fun us mv ws => us ++ ws) (by decide) (fun q h => nomatch h) (fun r1 _ r3 => r1.append r3)
    (fun D doc pm an cdv ct us mv ws h1 h2 h3 => match us, mv, ws, h1, h2, h3 with
      | [a], [], [b, x, y, z], _, _, _ => rfl)
  exact fnK_of G hb
theorem of_kw0 {f CI CF : Addr} {fd : FuncData} {ks : Kinds} (F : FunD K "of" "Frame.of" (defArgs sOf) (defBody sOf) (defScope sOf) [] kwsF f fd) (G : FnOk P w K mg base (L2.CX P w) 6 f fd psO (spOf K ks CI CF)) :
    FnK P w K mg base (L2.CX P w) 6 f ksE (fun vs zs H Q E => vs.length = 2 ∧ spOf K ks CI CF (vs ++ ([.int 1, .bl false, .bl false] ++ zs)) H Q E) := by
  obtain ⟨mv, hb⟩ := F.kbinds0 (ps := psO) 2 ksE kwsF (fun us mv ws => us ++ (mv ++ ws)) (by decide) (fun q h => h) (fun r1 r2 r3 => r1.append (r2.append r3))
    (fun D doc pm an cdv ct us mv ws h1 h2 h3 => match us, mv, ws, h1, h2, h3 with
      | [a, b], [x, y, z], [], _, _, _ => ⟨_, _, _, _, _, _, rfl, rfl, _, _, _, _, _, _, rfl, rfl, _, _, _, _, _, _, rfl, rfl, rfl⟩)
  exact fnK_of G hb
end
/-- Frame(leg, ..) -/
theorem fr_rd {K : PySem.W.Frag} {ks : Kinds} {CI CF : Addr} {rs : List LegR} {t : Int} {g r : Bool} {zs : List V} {gV : List V → List V → List V} {H : Hp} {Q : VK} (hg : ∀ v, gV [v] zs = [v, .int t, .bl g, .bl r]) (hok : ∀ r ∈ rs, r.ok ks H) (nd : (names rs).Nodup) (le : rs.length ≤ 40) (t1 : 1 ≤ t) (t3 : t ≤ 3)
    (k : ∀ a ys H', H a = none → ys.Perm rs → FrIs ks CF H' a ⟨ys, t, g, r⟩ → Same H H' → Q (.ref a) H') : spMk CF (spStarK 1 gV (spFrI K ks CI CF)) E0 (refs rs) zs H Q := by
  intro a dx ha hdx hne
  have hl : (refs rs).length = rs.length := List.length_map _
  have s1 : Same H (upd (upd H dx (.own a)) a (.ins CF dx [])) := fun b o e => by rw [upd_ne (ne_of_none e ha), upd_ne (ne_of_none e hdx)]; exact e
  refine ⟨[.ref a], refs rs, rfl, rfl, Nat.le_trans (show _ ≤ 40 by omega) (by decide), fun p hp => ?_⟩
  have s2 := same_at (o := .tup (refs rs)) hp
  have hdue : due (names rs) true (true && true) = .non := by
    unfold due
    rw [show (names rs).length = rs.length from List.length_map _, if_neg (by omega), if_pos nd]
    rfl
  refine ⟨a, dx, p, refs rs, .int t, .bl g, .bl r, true, true, true, by rw [hg]; rfl, s2 _ _ upd_same, upd_same, by omega, topIn t1 t3, railIn, railIn, .inr ⟨rs, rfl, fun r hr => ((hok r hr).same s1).same s2, fun z hz => ?_, fun _ H' ys ho hf b => ⟨rfl, ?_⟩⟩⟩
  · rw [hdue] at hz
    cases hz
  · have s3 : Same H H' := fun c o e => b c o (ne_of_none e ha) (s2 _ _ (s1 _ _ e))
    exact k a ys H' ha ho.1 ⟨hf, fun r hr => (hok r (ho.1.mem_iff.mp hr)).same s3, (ho.1.map _).nodup_iff.mpr nd, by rw [ho.1.length_eq]; exact le, ho.2⟩ s3
theorem of_rd {K : PySem.W.Frag} {ks : Kinds} {CI CF L : Addr} {rs : List LegR} {t : Int} {g r : Bool} {H : Hp} {Q : VK} (hL : H L = some (.lst (refs rs))) (hok : ∀ r ∈ rs, r.ok ks H) (nd : (names rs).Nodup) (le : rs.length ≤ 40) (t1 : 1 ≤ t) (t3 : t ≤ 3)
    (k : ∀ a ys H', H a = none → ys.Perm rs → FrIs ks CF H' a ⟨ys, t, g, r⟩ → Same H H' → Q (.ref a) H') : ([V.ref CF, .ref L]).length = 2 ∧ spOf K ks CI CF ([.ref CF, .ref L] ++ [.int t, .bl g, .bl r]) H Q E0 := by
  have hdue : due (names rs) true (true && true) = .non := by
    unfold due
    rw [show (names rs).length = rs.length from List.length_map _, if_neg (by omega), if_pos nd]
    rfl
  refine ⟨rfl, _, _, _, _, true, true, true, rfl, topIn t1 t3, railIn, railIn, .inr ⟨L, _, rfl, .inl hL, by rw [show (refs rs).length = rs.length from List.length_map _]; omega, .inr ⟨rs, rfl, hok, fun z hz => ?_, fun _ a H' ys ha ho hf s => ?_⟩⟩⟩
  · rw [hdue] at hz
    cases hz
  · exact k a ys H' ha ho.1 ⟨hf, fun r hr => (hok r (ho.1.mem_iff.mp hr)).same s, (ho.1.map _).nodup_iff.mpr nd, by rw [ho.1.length_eq]; exact le, ho.2⟩ s
theorem mkS_i {C : Addr} {m : Nat} {sp : List V → List V → Hp → VK → XK → Prop} {E : XK} {t tk : TA} {σ : L2.St} {H : Hp} {Q : VK} (h : t σ H fun vs H1 => tk σ H1 fun zs H2 => zs.length = m ∧ spMk C sp E vs zs H2 Q) : tMakeS C m sp E t tk σ H Q := h
theorem lst_i {ta : TA} {σ : L2.St} {H : Hp} {Q : VK} (h : ta σ H fun xs H1 => xs.length ≤ sizeLine ∧ ∀ p, H1 p = none → Q (.ref p) (upd H1 p (.lst xs))) : tLst ta σ H Q := h
def teMk7 (K : PySem.W.Frag) (CI C : Addr) : TE := tMk K CI C (tVar 7)
/-- [C(tag) for tag in zs] -/
theorem mk_walk7 {K : PySem.W.Frag} {CI C q D : Addr} {zs : List Str} {H : Hp} {σ : L2.St} {Qd : Hp → Prop} (hσ : σ.length = 8) (hq : H q = some (.lst (strv zs))) (hD : H D = none) (hz : ∀ z ∈ zs, isName z = true ∧ z.length ≤ 8) (hl : zs.length ≤ 16)
    (hd : ∀ H' rs, Same H H' → H' D = some (.lst (refs rs)) → names rs = zs → (∀ r ∈ rs, r.C = C ∧ LegAt H' r.a C r.z) → Qd H') :
    ∃ W : Nat → Nat → Hp → Prop, (∃ m, W 0 m (upd H D (.lst []))) ∧ ∀ i m H, W i m H →
      ((Itl K q).stop i H ∧ Qd H) ∨ ((Itl K q).go i H ∧ ∃ Nx : Hp → Prop, (∀ H', Nx H' → ∃ m', m' < m ∧ W (i + 1) m' H') ∧ ∀ x H', (Itl K q).yld i H x H' → gName 7 x (wipe σ [7]) H' fun σ2 H2 => wipe σ2 [7] = wipe σ [7] ∧ tYes σ2 H2 fun b H3 =>
        if b = true then teMk7 K CI C σ2 H3 fun y H4 => ∃ acc, H4 D = some (.lst acc) ∧ acc.length < sizeLine ∧ Nx (upd H4 D (.lst (acc ++ [y]))) else Nx H3) := by
  match σ, hσ with
  | [u0, u1, u2, u3, u4, u5, u6, u7], _ =>
  have hlm : (strv zs).length = zs.length := List.length_map _
  refine lc_it (walk_list (K := K) (a := q) (xs := strv zs)) (fun i H' => Same H H' ∧ ∃ rs, H' D = some (.lst (refs rs)) ∧ names rs = zs.take i ∧ ∀ r ∈ rs, r.C = C ∧ LegAt H' r.a C r.z) ⟨same_at hD, [], upd_same, rfl, fun r hr => by cases hr⟩ (fun i H' _ p => SqL.of (p.1 _ _ hq)) ?_ ?_
  · rintro i x H1 H2 hi ⟨s1, rs, d1, hn, hr⟩ ⟨rfl, hx⟩
    rw [hlm] at hi
    have ex : (strv zs)[i]? = some (.str zs[i]) := by show (zs.map V.str)[i]? = _; rw [List.getElem?_map, List.getElem?_eq_getElem hi]; rfl
    rw [ex] at hx
    obtain rfl := Option.some.inj hx
    refine ⟨rfl, ?_⟩
    unfold tYes
    dsimp only
    rw [if_pos rfl]
    obtain ⟨o1, o2⟩ := hz _ (List.getElem_mem hi)
    unfold teMk7
    refine mk_rd (fun Q'' q => ⟨_, rfl, q⟩) o1 (by omega) fun a H3 ha la s3 => ?_
    have d3 := s3 _ _ d1
    have nDa : D ≠ a := fun z => by
      obtain ⟨dx, e⟩ := la
      rw [← z, d3] at e
      cases e
    have keepD : ∀ {c C' : Addr} {z : Str} {o : HO}, LegAt H3 c C' z → LegAt (upd H3 D o) c C' z := fun ⟨dx, e⟩ => ⟨dx, by rw [upd_ne (ne_of e d3 (by intro z; cases z))]; exact e⟩
    refine ⟨_, d3, ?_, fun c o hc => ?_, rs ++ [⟨a, C, zs[i]⟩], ?_, ?_, fun r hr' => ?_⟩
    · have e1 : rs.length = (zs.take i).length := by rw [← hn]; unfold names; rw [List.length_map]
      show (List.map _ rs).length < _
      rw [List.length_map, e1, List.length_take]
      exact Nat.lt_of_le_of_lt (Nat.min_le_right _ _) (Nat.lt_of_le_of_lt hl (by decide))
    · rw [upd_ne (ne_of_none hc hD)]
      exact s3 _ _ (s1 _ _ hc)
    · rw [upd_same, refs_append]
      rfl
    · rw [names_append, hn, List.take_add_one, List.getElem?_eq_getElem hi]
      rfl
    · rcases List.mem_append.mp hr' with hr' | hr'
      · exact ⟨(hr r hr').1, keepD ((hr r hr').2.same s3)⟩
      · obtain rfl := List.mem_singleton.mp hr'
        exact ⟨rfl, keepD la⟩
  · rintro H1 ⟨s1, rs, d1, hn, hr⟩
    rw [hlm, List.take_length] at hn
    exact hd H1 rs s1 d1 hn hr
abbrev rWw (K : PySem.W.Frag) (ks : Kinds) (CF CW : Addr) (op : CmpOp) : R2 := rOwnE K op (fun C => C = CW) (fun _ => spWEq K ks CF CW)
theorem wd_eq {op : CmpOp} {K : PySem.W.Frag} {ks : Kinds} {CF CW : Addr} {H : Hp} {Q : VK} {a b : Addr} {d e : FrD} {gv hv : List (Str × Int)} {v : Bool} (ic : IsiC K CW) (nf : PySem.W.notFirst K CW (.ref CW) = true) (ha : WdIs ks CF CW H a d gv) (hb : WdIs ks CF CW H b e hv) (he : eqWd ks d e gv hv = v) (k : ∀ H', Same H H' → Q (.bl (ansOf op v)) H') :
    rWw K ks CF CW op (.ref a) (.ref b) H Q := by
  obtain ⟨dx, fs, ea⟩ := ha.ins
  obtain ⟨dy, gs, eb⟩ := hb.ins
  subst he
  exact ⟨a, CW, dx, fs, rfl, ea, rfl, .inl ⟨.ref CW, .base (.ins eb ic.cl ic.ca ic.cn ic.ct ic.cm), nf, a, d, gv, .ref b, rfl, ha, .inl ⟨b, e, hv, rfl, hb, fun H' s => ⟨_, rfl, k H' s⟩⟩⟩⟩
theorem eqWd_same {ks : Kinds} {d : FrD} {gv hv : List (Str × Int)} (h : ∀ z ∈ kindZ ks true d.ys, lvl gv d.t z = lvl hv d.t z) : eqWd ks d d gv hv = true := by
  unfold eqWd
  rw [eqFr_self rfl rfl rfl (eqLegs_refl _), Bool.true_and]
  exact List.all_eq_true.mpr fun z hz => decide_eq_true (h z hz)
/-! dicts of pairs -/
theorem valV_no : ∀ {kvs : List (Key × V)} {k : Key}, (∀ p ∈ kvs, p.1 ≠ k) → valV kvs k = none
  | [], _, _ => rfl
  | p :: kvs, k, h => by
    rw [valV_neg (h p List.mem_cons_self)]
    exact valV_no fun q hq => h q (List.mem_cons_of_mem _ hq)
theorem merge_app : ∀ {more acc : List (Key × V)}, ((acc ++ more).map (·.1)).Nodup → mergeK acc more = acc ++ more
  | [], acc, _ => by rw [List.append_nil]; rfl
  | p :: more, acc, h => by
    have h1 : valV acc p.1 = none := valV_no fun q hq e => by
      rw [List.map_append, List.nodup_append] at h
      exact h.2.2 q.1 (List.mem_map.mpr ⟨q, hq, rfl⟩) p.1 (List.mem_map.mpr ⟨p, List.mem_cons_self, rfl⟩) e
    show mergeK (putK acc p.1 p.2) more = _
    rw [putK_new _ h1, merge_app (by rw [List.append_assoc]; exact h), List.append_assoc]
    rfl
theorem merge_rows {zs : List Str} {f : Str → Int} (h : zs.Nodup) : mergeK [] (zs.map fun z => rowI (z, f z)) = zs.map fun z => rowI (z, f z) := by
  rw [merge_app, List.nil_append]
  rw [List.nil_append, List.map_map]
  exact List.Pairwise.map _ (fun a b ne e => ne (Sum.inr.inj e)) h
theorem paired_imp {α β : Type} {F G : α → β → Prop} : ∀ {xs : List α} {ys : List β}, Paired F xs ys → (∀ x y, F x y → G x y) → Paired G xs ys
  | _, _, .nil, _ => .nil
  | _, _, .cons r t, h => .cons (h _ _ r) (paired_imp t h)
/-- [(tag, e) for tag in zs] -/
theorem pair_walk {K : PySem.W.Frag} {q D : Addr} {i0 : Nat} {zs : List Str} {f : Str → Int} {H : Hp} {σ : L2.St} {te : TE} {Qd : Hp → Prop} (hq : H q = some (.lst (strv zs))) (hD : H D = none) (hl : zs.length ≤ 60)
    (turn : ∀ (z : Str) (H1 : Hp) (Q : VK), z ∈ zs → Same H H1 → (∀ t, H1 t = none → Q (.ref t) (upd H1 t (.tup [.str z, .int (f z)]))) → te ((wipe σ [i0]).set i0 (some (.str z))) H1 Q)
    (hd : ∀ H' ts, Same H H' → H' D = some (.lst (ts.map V.ref)) → Paired (fun p kv => SqT K H' p [kV kv.1, kv.2]) ts (zs.map fun z => rowI (z, f z)) → Qd H') :
    ∃ W : Nat → Nat → Hp → Prop, (∃ m, W 0 m (upd H D (.lst []))) ∧ ∀ i m H, W i m H →
      ((Itl K q).stop i H ∧ Qd H) ∨ ((Itl K q).go i H ∧ ∃ Nx : Hp → Prop, (∀ H', Nx H' → ∃ m', m' < m ∧ W (i + 1) m' H') ∧ ∀ x H', (Itl K q).yld i H x H' → gName i0 x (wipe σ [i0]) H' fun σ2 H2 => wipe σ2 [i0] = wipe σ [i0] ∧ tYes σ2 H2 fun b H3 =>
        if b = true then te σ2 H3 fun y H4 => ∃ acc, H4 D = some (.lst acc) ∧ acc.length < sizeLine ∧ Nx (upd H4 D (.lst (acc ++ [y]))) else Nx H3) := by
  have hlm : (strv zs).length = zs.length := List.length_map _
  refine lc_it (walk_list (K := K) (a := q) (xs := strv zs)) (fun i H' => Same H H' ∧ ∃ ts : List Addr, H' D = some (.lst (ts.map V.ref)) ∧ Paired (fun t (kv : Key × V) => H' t = some (.tup [kV kv.1, kv.2])) ts ((zs.take i).map fun z => rowI (z, f z))) ⟨same_at hD, [], upd_same, .nil⟩ (fun i H' _ p => SqL.of (p.1 _ _ hq)) ?_ ?_
  · rintro i x H1 H2 hi ⟨s1, ts, d1, hp⟩ ⟨rfl, hx⟩
    rw [hlm] at hi
    have ex : (strv zs)[i]? = some (.str zs[i]) := by show (zs.map V.str)[i]? = _; rw [List.getElem?_map, List.getElem?_eq_getElem hi]; rfl
    rw [ex] at hx
    obtain rfl := Option.some.inj hx
    refine ⟨?_, ?_⟩
    · show ((σ.set i0 none).set i0 _).set i0 none = σ.set i0 none
      rw [List.set_set, List.set_set]
    unfold tYes
    dsimp only
    rw [if_pos rfl]
    refine turn zs[i] H2 _ (List.getElem_mem hi) s1 fun t ht => ?_
    have s2 := same_at (o := .tup [V.str zs[i], .int (f zs[i])]) ht
    have hlt : ts.length = i := by
      rw [Paired.length hp, List.length_map, List.length_take]
      omega
    refine ⟨_, s2 _ _ d1, ?_, fun c o hc => ?_, ts ++ [t], ?_, ?_⟩
    · rw [List.length_map, hlt]
      exact Nat.lt_of_lt_of_le hi (Nat.le_trans hl (by decide))
    · rw [upd_ne (ne_of_none hc hD)]
      exact s2 _ _ (s1 _ _ hc)
    · rw [upd_same, List.map_append]
      rfl
    · rw [List.take_add_one, List.getElem?_eq_getElem hi, List.map_append]
      have keep : ∀ {c : Addr} {xs : List V}, upd H2 t (.tup [V.str zs[i], .int (f zs[i])]) c = some (.tup xs) → upd (upd H2 t (.tup [V.str zs[i], .int (f zs[i])])) D (.lst (ts.map V.ref ++ [.ref t])) c = some (.tup xs) := fun e => by
        rw [upd_ne (ne_of e (s2 _ _ d1) (by intro z; cases z))]
        exact e
      exact Paired.snoc (paired_imp hp fun _ _ r => keep (s2 _ _ r)) (keep upd_same)
  · rintro H1 ⟨s1, ts, d1, hp⟩
    rw [hlm, List.take_length] at hp
    exact hd H1 ts s1 d1 (paired_imp hp fun _ _ r => SqT.of r)
end Sj
namespace Sj
open PySem L2 Sup StK Own Shw Exg Grd KepE
open NdefX (NF NScope ncx envF startF nscope_by)
open C8 (pss_cut tCut)
/-! k06: _law_named_right -/
abbrev tgs : List Str := ["levels", "name", "word", "named", "level", "top", "pairs", "kwargs", "args", "drivers", "data"]
abbrev qs2 : List Str := ["a", "bb"]
abbrev qsA : List Str := ["a"]
abbrev qsB : List Str := ["bb"]
abbrev ksFN : List Str := ["frame", "name"]
abbrev ksFL : List Str := ["frame", "levels"]
abbrev ksF1 : List Str := ["frame"]
abbrev ksLv : List Str := ["level"]
abbrev gVA : List V → List V → List V := fun vs zs => vs ++ (zs ++ [.bl false, .bl false])
theorem LegR.ok.butq {ks : Kinds} {H H' : Hp} {r : LegR} {q : Addr} {xs : List V} (h : r.ok ks H) (hq : H q = some (.lst xs)) (b : But H H' q) : r.ok ks H' := by
  obtain ⟨h1, dx, h2⟩ := h
  exact ⟨h1, dx, b _ _ (ne_of h2 hq (by intro z; cases z)) h2⟩
theorem FrIs.but {ks : Kinds} {CF : Addr} {H H' : Hp} {a p l : Addr} {cs : List Int} {n : Nat} {d : FrD} (h : FrIs ks CF H a d) (hP : Pen H p l cs n) (b : But H H' p) : FrIs ks CF H' a d := by
  obtain ⟨xs, hq⟩ := hP.at'
  obtain ⟨dx, D, h1, h2, h3⟩ := h.at_
  exact ⟨⟨dx, D, b _ _ (ne_of h1 hq (by intro z; cases z)) h1, b _ _ (ne_of h2 hq (by intro z; cases z)) h2, h3⟩, fun r hr => (h.ok r hr).butq hq b, h.nd, h.le, h.so⟩
theorem WdIs.but {ks : Kinds} {CF CW : Addr} {H H' : Hp} {a p l : Addr} {cs : List Int} {n : Nat} {d : FrD} {gv : List (Str × Int)} (h : WdIs ks CF CW H a d gv) (hP : Pen H p l cs n) (b : But H H' p) : WdIs ks CF CW H' a d gv := by
  obtain ⟨f, dx, D, h1, h2, h3, h4⟩ := h.ex
  exact ⟨⟨f, dx, D, b.keep hP h1 (fun ys z => by cases z), b.keep hP h2 (fun ys z => by cases z), h3, h4.but hP b⟩, h.ok, h.t1, h.t3⟩
/-- the forms in which words are made -/
structure WfK (P : Program) (w : World) (K : PySem.W.Frag) (mg : Str → Option Value) (base : Heap) (ks : Kinds) (CF CW fW gO gR gL : Addr) : Prop where
  mkc : Mk K CW fW
  mW : mg "Word" = some (.ref CW)
  i0 : FnK P w K mg base CX0 6 fW [] (spKw 2 [] (spWdI ks CF CW))
  i2 : FnK P w K mg base CX0 6 fW qs2 (spKw 2 qs2 (spWdI ks CF CW))
  iA : FnK P w K mg base CX0 6 fW qsA (spKw 2 qsA (spWdI ks CF CW))
  iB : FnK P w K mg base CX0 6 fW qsB (spKw 2 qsB (spWdI ks CF CW))
  iT : FnK P w K mg base CX0 6 fW tgs (spKw 2 tgs (spWdI ks CF CW))
  cls : ∃ mc pO pR pL, ClX.CRead K CW mc ∧ ClX.CMet K CW mc "of" pO gO ∧ ClX.CMet K CW mc "rest" pR gR ∧ ClX.CMet K CW mc "lone" pL gL
  of0 : FnK P w K mg base CX0 8 gO [] (fun vs zs H Q E => vs.length = 3 ∧ spWOf ks CF CW vs H Q E)
  ofK : FnK P w K mg base CX0 8 gO ksFL (fun vs zs H Q E => vs.length = 1 ∧ spWOf ks CF CW (vs ++ zs) H Q E)
  re0 : FnK P w K mg base CX0 8 gR [] (fun vs zs H Q E => vs.length = 2 ∧ spWRest ks CF CW vs H Q E)
  reK : FnK P w K mg base CX0 8 gR ksF1 (fun vs zs H Q E => vs.length = 1 ∧ spWRest ks CF CW (vs ++ zs) H Q E)
  lo0 : FnK P w K mg base CX0 9 gL [] (fun vs zs H Q E => vs.length = 4 ∧ spWLone ks CF CW vs H Q E)
  loK : FnK P w K mg base CX0 9 gL ksFN (fun vs zs H Q E => vs.length = 1 ∧ spWLone ks CF CW (vs ++ (zs ++ [.int 0])) H Q E)
  loL : FnK P w K mg base CX0 9 gL ksLv (fun vs zs H Q E => vs.length = 3 ∧ spWLone ks CF CW (vs ++ zs) H Q E)
theorem merge_two (x y : V) : mergeK [] [((Sum.inr "bb" : Key), x), ((Sum.inr "a" : Key), y)] = ([((Sum.inr "bb" : Key), x), ((Sum.inr "a" : Key), y)] : List (Key × V)) := by
  unfold mergeK putK
  simp +decide
theorem two_lvl (f n t : Int) (z : Str) : lvl [("a", f), ("bb", n)] t z = lvl [("bb", n), ("a", f)] t z := by
  unfold lvl
  rw [lvG_cons, lvG_cons, lvG_cons, lvG_cons]
  by_cases h1 : ("a" : Str) = z
  · have h2 : ¬ ("bb" : Str) = z := fun e => absurd (e.trans h1.symm) (by decide)
    rw [if_pos h1, if_neg h2, if_pos h1]
  · by_cases h2 : ("bb" : Str) = z
    · rw [if_neg h1, if_pos h2, if_pos h2]
    · rw [if_neg h1, if_neg h2, if_neg h2, if_neg h1]
theorem tgs_nm : ∀ z ∈ tgs, isName z = true ∧ z.length ≤ 8 := by
  have h : (tgs.all fun z => isName z && decide (z.length ≤ 8)) = true := by decide +kernel
  intro z hz
  have := List.all_eq_true.mp h z hz
  rw [Bool.and_eq_true, decide_eq_true_eq] at this
  exact this
theorem tgs_nd : tgs.Nodup := by decide +kernel
theorem mem_kind {ks : Kinds} {ys : List LegR} {r : LegR} (hr : r ∈ ys) (hC : r.C = ks.drv) : r.z ∈ kindZ ks true ys := by
  refine List.mem_map.mpr ⟨r, List.mem_filter.mpr ⟨hr, ?_⟩, rfl⟩
  rw [beq_true, decide_eq_true_eq]
  exact hC
section
variable {P : Program} {w : World} {K : PySem.W.Frag} {mg : Str → Option Value} {base : Heap}
end
end Sj
namespace Sj
open PySem L2 Sup StK Own Shw Exg Grd KepE
/-! the text of a word tells its levels -/
theorem cpsL (a y : Str) : (a ++ y).cps.toList = a.cps.toList ++ y.cps.toList := by
  rw [PySem.Str.cps_append, Array.toList_append]
theorem str_ext {a b : Str} (h : a.cps.toList = b.cps.toList) : a = b := PySem.Str.ext' (by rw [← Array.toArray_toList (xs := a.cps), ← Array.toArray_toList (xs := b.cps), h])
theorem nosp_app : ∀ {x y a b : List Nat}, 32 ∉ x → 32 ∉ y → x ++ 32 :: a = y ++ 32 :: b → x = y ∧ a = b
  | [], [], a, b, _, _, h => ⟨rfl, (List.cons.inj h).2⟩
  | [], d :: y, a, b, _, hy, h => absurd List.mem_cons_self ((List.cons.inj h).1 ▸ hy)
  | c :: x, [], a, b, hx, _, h => absurd List.mem_cons_self ((List.cons.inj h).1 ▸ hx)
  | c :: x, d :: y, a, b, hx, hy, h => by
    obtain ⟨e, h2⟩ := List.cons.inj h
    obtain ⟨e2, e3⟩ := nosp_app (fun m => hx (List.mem_cons_of_mem _ m)) (fun m => hy (List.mem_cons_of_mem _ m)) h2
    exact ⟨by rw [e, e2], e3⟩
theorem join_two (x y : Str) (r : List Str) : (Txt.join " " (x :: y :: r)).cps.toList = x.cps.toList ++ 32 :: (Txt.join " " (y :: r)).cps.toList := by
  unfold Txt.join
  rw [StrLaws.glued_eq_join, StrLaws.glued_eq_join]
  show ((x ++ (" " : Str)) ++ Str.join " " (y :: r)).cps.toList = _
  rw [cpsL, cpsL, List.append_assoc]
  rfl
theorem join_one (x : Str) : Txt.join " " [x] = x := by
  unfold Txt.join
  rw [StrLaws.glued_eq_join]
  rfl
theorem join_inj : ∀ {xs ys : List Str}, xs ≠ [] → ys ≠ [] → (∀ x ∈ xs, 32 ∉ x.cps.toList) → (∀ y ∈ ys, 32 ∉ y.cps.toList) → Txt.join " " xs = Txt.join " " ys → xs = ys
  | [], _, h, _, _, _, _ => absurd rfl h
  | _ :: _, [], _, h, _, _, _ => absurd rfl h
  | [x], [y], _, _, _, _, h => by rw [join_one, join_one] at h; rw [h]
  | [x], y :: z :: r, _, _, hx, _, h => by
    rw [join_one] at h
    refine absurd ?_ (hx x List.mem_cons_self)
    rw [h, join_two]
    exact List.mem_append_right _ List.mem_cons_self
  | x :: z :: r, [y], _, _, _, hy, h => by
    rw [join_one] at h
    refine absurd ?_ (hy y List.mem_cons_self)
    rw [← h, join_two]
    exact List.mem_append_right _ List.mem_cons_self
  | x :: z :: r, y :: u :: q, _, _, hx, hy, h => by
    have e := congrArg (fun s : Str => s.cps.toList) h
    rw [join_two, join_two] at e
    obtain ⟨e1, e2⟩ := nosp_app (hx x List.mem_cons_self) (hy y List.mem_cons_self) e
    rw [str_ext e1, join_inj (List.cons_ne_nil _ _) (List.cons_ne_nil _ _) (fun a m => hx a (List.mem_cons_of_mem _ m)) (fun a m => hy a (List.mem_cons_of_mem _ m)) (str_ext e2)]
theorem dig_cps {i : Int} (h0 : 0 ≤ i) (h3 : i ≤ 3) : (Str.ofString (toString i)).cps.toList = [48 + i.toNat] := by
  obtain rfl | rfl | rfl | rfl : i = 0 ∨ i = 1 ∨ i = 2 ∨ i = 3 := by omega
  all_goals decide +kernel
theorem lvT_cps {p : Str × Int} (h0 : 0 ≤ p.2) (h3 : p.2 ≤ 3) : (lvT p).cps.toList = p.1.cps.toList ++ [61, 48 + p.2.toNat] := by
  unfold lvT
  rw [cpsL, cpsL, List.append_assoc]
  have := dig_cps h0 h3
  exact congrArg (fun z => p.1.cps.toList ++ ([61] ++ z)) this
theorem lvT_inj {p q : Str × Int} (hp : 0 ≤ p.2 ∧ p.2 ≤ 3) (hq : 0 ≤ q.2 ∧ q.2 ≤ 3) (h : lvT p = lvT q) : p = q := by
  have e := congrArg (fun s : Str => s.cps.toList) h
  rw [lvT_cps hp.1 hp.2, lvT_cps hq.1 hq.2] at e
  obtain ⟨e1, e2⟩ := List.append_inj' e rfl
  obtain ⟨_, e3⟩ := List.cons.inj e2
  obtain ⟨e4, _⟩ := List.cons.inj e3
  obtain ⟨a, i⟩ := p
  obtain ⟨b, j⟩ := q
  dsimp only at e1 e4 hp hq
  rw [str_ext e1, show i = j by omega]
theorem map_inj {α β : Type} {f : α → β} : ∀ {xs ys : List α}, (∀ x ∈ xs, ∀ y ∈ ys, f x = f y → x = y) → xs.map f = ys.map f → xs = ys
  | [], [], _, _ => rfl
  | [], _ :: _, _, h => by cases h
  | _ :: _, [], _, h => by cases h
  | x :: xs, y :: ys, hi, h => by
    rw [List.map_cons, List.map_cons] at h
    obtain ⟨e1, e2⟩ := List.cons.inj h
    rw [hi x List.mem_cons_self y List.mem_cons_self e1, map_inj (fun a ha b hb => hi a (List.mem_cons_of_mem _ ha) b (List.mem_cons_of_mem _ hb)) e2]
theorem pool_sp : ∀ z ∈ poolS, 32 ∉ z.cps.toList := by
  have h : (poolS.all fun z => decide (32 ∉ z.cps.toList)) = true := by decide +kernel
  intro z hz
  exact of_decide_eq_true (List.all_eq_true.mp h z hz)
/-- levels within 0 and 3, of names of the pool -/
def LvP (lv : List (Str × Int)) : Prop := ∀ p ∈ lv, p.1 ∈ poolS ∧ 0 ≤ p.2 ∧ p.2 ≤ 3
theorem rows_sp {lv : List (Str × Int)} {t : Int} (h : LvP lv) : ∀ y ∈ wdRows lv t, 32 ∉ y.cps.toList := by
  intro y hy
  obtain ⟨p, hp, rfl⟩ := List.mem_map.mp hy
  obtain ⟨h1, h2, h3⟩ := h p (List.mem_filter.mp hp).1
  rw [lvT_cps h2 h3]
  intro m
  rcases List.mem_append.mp m with m | m
  · exact pool_sp _ h1 m
  rcases List.mem_cons.mp m with m | m
  · omega
  · have := List.mem_singleton.mp m
    omega
theorem row_rest {lv : List (Str × Int)} {t : Int} (h : LvP lv) : wdRows lv t ≠ [("rest" : Str)] := by
  intro e
  have hm : ("rest" : Str) ∈ wdRows lv t := by rw [e]; exact List.mem_cons_self
  obtain ⟨p, hp, e2⟩ := List.mem_map.mp hm
  obtain ⟨h1, h2, h3⟩ := h p (List.mem_filter.mp hp).1
  have e3 := congrArg (fun s : Str => s.cps.toList) e2
  rw [lvT_cps h2 h3] at e3
  have e4 : (61 : Nat) ∈ (("rest" : Str)).cps.toList := by rw [← e3]; exact List.mem_append_right _ List.mem_cons_self
  exact absurd e4 (by decide +kernel)
theorem rest_sp : ∀ y ∈ [("rest" : Str)], 32 ∉ y.cps.toList := by
  intro y hy
  rw [List.mem_singleton.mp hy]
  decide +kernel
theorem wdRows_inj {lv mv : List (Str × Int)} {t : Int} (h : LvP lv) (h' : LvP mv) (e : wdTx lv t = wdTx mv t) : wdRows lv t = wdRows mv t := by
  unfold wdTx at e
  cases h1 : (wdRows lv t).isEmpty with
  | true =>
    rw [h1, if_pos rfl] at e
    cases h2 : (wdRows mv t).isEmpty with
    | true => rw [List.isEmpty_iff.mp h1, List.isEmpty_iff.mp h2]
    | false =>
      rw [h2, if_neg Bool.false_ne_true] at e
      exact absurd (join_inj (List.cons_ne_nil _ _) (fun z => by rw [z] at h2; cases h2) rest_sp (rows_sp h') e).symm (row_rest h')
  | false =>
    rw [h1, if_neg Bool.false_ne_true] at e
    cases h2 : (wdRows mv t).isEmpty with
    | true =>
      rw [h2, if_pos rfl] at e
      exact absurd (join_inj (fun z => by rw [z] at h1; cases h1) (List.cons_ne_nil _ _) (rows_sp h) rest_sp e) (row_rest h)
    | false =>
      rw [h2, if_neg Bool.false_ne_true] at e
      exact join_inj (fun z => by rw [z] at h1; cases h1) (fun z => by rw [z] at h2; cases h2) (rows_sp h) (rows_sp h') e
theorem bAll_p {d : BareD} {gv : List (Str × Int)} (h : LvB d gv) (ok : d.ok) : LvP (bAll d gv) := by
  intro p hp
  obtain ⟨z, hz, rfl⟩ := List.mem_map.mp hp
  have := lvlB h ok z
  have := ok.t3
  exact ⟨ok.po z (List.mem_append_left _ hz), by dsimp only; omega, by dsimp only; omega⟩
theorem tx_eq {d : BareD} {gv hv : List (Str × Int)} (h : LvB d gv) (h' : LvB d hv) (ok : d.ok) : wdTx (bAll d gv) d.t = wdTx (bAll d hv) d.t ↔ ∀ z ∈ d.ds, lvl gv d.t z = lvl hv d.t z := by
  constructor
  · intro e z hz
    have e1 := wdRows_inj (bAll_p h ok) (bAll_p h' ok) e
    unfold wdRows at e1
    have e2 := map_inj (fun x hx y hy q => lvT_inj (bAll_p h ok x (List.mem_filter.mp hx).1).2 (bAll_p h' ok y (List.mem_filter.mp hy).1).2 q) e1
    have b1 := lvlB h ok z
    have b2 := lvlB h' ok z
    by_cases c : lvl gv d.t z < d.t
    · have m : (z, lvl gv d.t z) ∈ (bAll d gv).filter fun p => decide (p.2 < d.t) := List.mem_filter.mpr ⟨List.mem_map.mpr ⟨z, hz, rfl⟩, decide_eq_true c⟩
      rw [e2] at m
      obtain ⟨y, _, e3⟩ := List.mem_map.mp (List.mem_filter.mp m).1
      obtain ⟨rfl, e4⟩ := Prod.mk.inj e3
      exact e4.symm
    · by_cases c2 : lvl hv d.t z < d.t
      · have m : (z, lvl hv d.t z) ∈ (bAll d hv).filter fun p => decide (p.2 < d.t) := List.mem_filter.mpr ⟨List.mem_map.mpr ⟨z, hz, rfl⟩, decide_eq_true c2⟩
        rw [← e2] at m
        obtain ⟨y, _, e3⟩ := List.mem_map.mp (List.mem_filter.mp m).1
        obtain ⟨rfl, e4⟩ := Prod.mk.inj e3
        exact e4
      · omega
  · intro e
    have : bAll d gv = bAll d hv := List.map_congr_left fun z hz => by rw [e z hz]
    rw [this]
end Sj
namespace Sj
open PySem L2 Sup StK Own Shw Exg Grd KepE
open NdefX (NF NScope ncx envF startF nscope_by)
/-! what the law of k06 needs of its pieces -/
theorem lvG_out : ∀ {gv : List (Str × Int)} {z : Str}, z ∉ gv.map (·.1) → lvG gv z = none
  | [], _, _ => rfl
  | p :: r, z, h => by
    unfold lvG
    rw [if_neg fun e => h (by rw [← e]; exact List.mem_cons_self)]
    exact lvG_out fun m => h (List.mem_cons_of_mem _ m)
/-- the levels in the order of names, as they are looked up -/
def atL (gv : List (Str × Int)) (zs : List Str) : List (Str × Int) := zs.map fun z => (z, (lvG gv z).getD 0)
theorem atL_fst (gv : List (Str × Int)) (zs : List Str) : (atL gv zs).map (·.1) = zs := by
  unfold atL
  rw [List.map_map]
  exact List.map_id' _
theorem atL_lvl {gv : List (Str × Int)} {zs : List Str} (hnd : zs.Nodup) (hm : ∀ z, z ∈ zs ↔ z ∈ gv.map (·.1)) (t : Int) (z : Str) : lvl (atL gv zs) t z = lvl gv t z := by
  unfold lvl
  by_cases h : z ∈ zs
  · obtain ⟨i, e⟩ := lvG_of ((hm z).mp h)
    have hin : (z, i) ∈ atL gv zs := List.mem_map.mpr ⟨z, h, by rw [e]; rfl⟩
    have h2 := lvG_nd (by rw [atL_fst]; exact hnd) hin
    dsimp only at h2
    rw [h2, e]
  · rw [lvG_out (by rw [atL_fst]; exact h), lvG_out fun m => h ((hm z).mpr m)]
theorem atL_b {d : BareD} {gv : List (Str × Int)} {zs : List Str} (hv : LvB d gv) (hl : zs.length ≤ 60) (hm : ∀ z, z ∈ zs → z ∈ gv.map (·.1)) : LvB d (atL gv zs) := by
  refine ⟨by unfold atL; rw [List.length_map]; exact hl, fun p hp => ?_⟩
  obtain ⟨z, hz, rfl⟩ := List.mem_map.mp hp
  obtain ⟨i, e⟩ := lvG_of (hm z hz)
  have := hv.2 _ (lvG_mem e)
  dsimp only at this ⊢
  rw [e]
  exact this
theorem whole_b {d : BareD} {gv : List (Str × Int)} (ok : d.ok) (hv : LvB d gv) : LvB d (bAll d gv) := by
  refine ⟨by unfold bAll; rw [List.length_map]; have := ok.le; omega, fun p hp => ?_⟩
  obtain ⟨z, hz, rfl⟩ := List.mem_map.mp hp
  exact ⟨hz, lvlB hv ok z⟩
theorem whole_lvl {d : BareD} {gv : List (Str × Int)} (ok : d.ok) {z : Str} (hz : z ∈ d.ds) : lvl (bAll d gv) d.t z = lvl gv d.t z := by
  have hin : (z, lvl gv d.t z) ∈ bAll d gv := List.mem_map.mpr ⟨z, hz, rfl⟩
  have h2 := lvG_nd (lv := bAll d gv) (by unfold bAll; rw [List.map_map]; show (d.ds.map fun z => z).Nodup; rw [List.map_id']; exact (List.nodup_append.mp ok.nd).1) hin
  dsimp only at h2
  show (lvG (bAll d gv) z).getD d.t = _
  rw [h2]
  rfl
theorem lvok {ks : Kinds} {ys : List LegR} {d : BareD} {gv : List (Str × Int)} (T : Told ks ys d) (hv : LvB d gv) : LvOk ks ⟨ys, d.t, d.g, d.r⟩ gv :=
  ⟨hv.1, fun q hq => ⟨by rw [show kindZ ks true (FrD.mk ys d.t d.g d.r).ys = d.ds from T.dr]; exact (hv.2 q hq).1, (hv.2 q hq).2⟩⟩
theorem wdof {ks : Kinds} {CF CW : Addr} {H : Hp} {a : Addr} {ys : List LegR} {d : BareD} {gv gw : List (Str × Int)} (T : Told ks ys d) (W : WdIs ks CF CW H a ⟨ys, d.t, d.g, d.r⟩ gw) (e : ∀ z ∈ d.ds, lvl gw d.t z = lvl gv d.t z) : WdOf ks CF CW H a ys d gv := by
  refine ⟨gw, W, ?_⟩
  show (kindZ ks true ys).map (fun z => (z, lvl gw d.t z)) = _
  rw [T.dr]
  exact List.map_congr_left fun z hz => by rw [e z hz]
theorem eqWd_all {ks : Kinds} {ys zs : List LegR} {d : BareD} {gv hv : List (Str × Int)} (T : Told ks ys d) (he : eqLegs ys zs = true) : eqWd ks ⟨ys, d.t, d.g, d.r⟩ ⟨zs, d.t, d.g, d.r⟩ gv hv = d.ds.all fun z => decide (lvl gv d.t z = lvl hv d.t z) := by
  unfold eqWd
  rw [eqFr_self (d := ⟨ys, d.t, d.g, d.r⟩) (e := ⟨zs, d.t, d.g, d.r⟩) rfl rfl rfl he, Bool.true_and]
  show (kindZ ks true ys).all _ = _
  rw [T.dr]
theorem eqWd_tx {ks : Kinds} {ys : List LegR} {d : BareD} {gv gr hv : List (Str × Int)} (T : Told ks ys d) (ok : d.ok) (h : LvB d gv) (h' : LvB d hv) (e : ∀ z, lvl gr d.t z = lvl gv d.t z) : eqWd ks ⟨ys, d.t, d.g, d.r⟩ ⟨ys, d.t, d.g, d.r⟩ gr hv = decide (V.str (wdTx (bAll d gv) d.t) = V.str (wdTx (bAll d hv) d.t)) := by
  rw [eqWd_all T (eqLegs_refl ys), Bool.eq_iff_iff, decide_eq_true_eq, List.all_eq_true]
  constructor
  · intro q
    rw [(tx_eq h h' ok).mpr fun z hz => by rw [← e z]; exact of_decide_eq_true (q z hz)]
  · intro q z hz
    exact decide_eq_true (by rw [e z]; exact (tx_eq h h' ok).mp (V.str.inj q) z hz)
theorem eqWd_fr {ks : Kinds} {d e : FrD} {gv hv : List (Str × Int)} (h : eqFr d e = false) : eqWd ks d e gv hv = false := by
  unfold eqWd
  rw [h, Bool.false_and]
theorem kinds_drv {ks : Kinds} {ys : List LegR} {ds ls : List Str} (h : KindsOf ks ys ds ls) {z : Str} (hz : z ∈ ds) : ∃ r ∈ ys, r.z = z ∧ r.C = ks.drv := by
  obtain ⟨r1, r2, hp, e1, e2, h1, h2⟩ := h
  rw [← e1] at hz
  obtain ⟨r, hr, e⟩ := List.mem_map.mp hz
  exact ⟨r, hp.mem_iff.mpr (List.mem_append_left _ hr), e, h1 r hr⟩
theorem kinds_lis {ks : Kinds} {ys : List LegR} {ds ls : List Str} (h : KindsOf ks ys ds ls) {z : Str} (hz : z ∈ ls) : ∃ r ∈ ys, r.z = z ∧ r.C = ks.lis := by
  obtain ⟨r1, r2, hp, e1, e2, h1, h2⟩ := h
  rw [← e2] at hz
  obtain ⟨r, hr, e⟩ := List.mem_map.mp hz
  exact ⟨r, hp.mem_iff.mpr (List.mem_append_right _ hr), e, h2 r hr⟩
theorem unlike_fr {ks : Kinds} {ys zs : List LegR} {d e : BareD} (ne : ks.drv ≠ ks.lis) (h : KindsOf ks ys d.ds d.ls) (h' : KindsOf ks zs e.ds e.ls) (nd : (names ys).Nodup) (u : UnlikeD d e) : eqFr ⟨zs, e.t, e.g, e.r⟩ ⟨ys, d.t, d.g, d.r⟩ = false := by
  rcases u with u | ⟨z, ⟨u1, u2⟩ | ⟨u1, u2⟩⟩
  · exact eqFr_top u
  · obtain ⟨p, hp, ep, cp⟩ := kinds_drv h' u1
    obtain ⟨q, hq, eq, cq⟩ := kinds_lis h u2
    exact eqFr_legs (eqLegs_kind hp hq nd (by rw [eq, ep]) (by rw [cq, cp]; exact ne.symm))
  · obtain ⟨p, hp, ep, cp⟩ := kinds_lis h' u1
    obtain ⟨q, hq, eq, cq⟩ := kinds_drv h u2
    exact eqFr_legs (eqLegs_kind hp hq nd (by rw [eq, ep]) (by rw [cq, cp]; exact ne))
theorem rails_no {g r : Bool} {z : Str} (h1 : z ≠ "ground") (h2 : z ≠ "power") : z ∉ railsZ g r := by
  intro h
  have : ∀ x ∈ railsZ g r, x = "ground" ∨ x = "power" := by cases g <;> cases r <;> decide +kernel
  rcases this z h with e | e
  · exact h1 e
  · exact h2 e
theorem lack_no {g r : Bool} {z : Str} (h : z ∈ lackZ g r) : z ∉ railsZ g r ∧ (z = "ground" ∨ z = "power") := by
  have : ∀ x ∈ lackZ g r, x ∉ railsZ g r ∧ (x = "ground" ∨ x = "power") := by cases g <;> cases r <;> decide +kernel
  exact this z h
theorem ins_str {K : PySem.W.Frag} {H : Hp} {zs : List Str} {z : Str} (h : z ∉ zs) : InS K H zs (.str z) false := by
  have := InS.str (K := K) (H := H) (zs := zs) z
  rwa [decide_eq_false h] at this
theorem odd_ins {K : PySem.W.Frag} {H : Hp} {p : Addr} {x : V} {g r : Bool} (h : OddX H p x) : InS K H (railsZ g r) x false := by
  cases h with
  | flat h =>
    unfold oddF at h
    simp only [List.mem_cons, List.not_mem_nil, or_false] at h
    rcases h with rfl | rfl | rfl | rfl | rfl | rfl | rfl | rfl | rfl
    · exact .non
    · exact .int _
    · exact .bl _
    · exact ins_str (rails_no (by decide +kernel) (by decide +kernel))
    · exact ins_str (rails_no (by decide +kernel) (by decide +kernel))
    · exact ins_str (rails_no (by decide +kernel) (by decide +kernel))
    · exact ins_str (rails_no (by decide +kernel) (by decide +kernel))
    · exact .int _
    · exact ins_str (rails_no (by decide +kernel) (by decide +kernel))
  | tup h => exact .tup (SqT.of h)
  | lst h n m => exact .lst (SqL.of h)
  | dic h => exact .dic h
theorem cut_three (xs : List V) : cutV xs none (some 3) = xs.take 3 := by
  unfold cutV
  rw [HT.sIx_none, show (3 : Int) = ((3 : Nat) : Int) from rfl, HT.sIx_nat, List.drop_zero, Nat.sub_zero]
  by_cases h : xs.length ≤ 3
  · rw [Nat.min_eq_right h, List.take_of_length_le (Nat.le_refl _), List.take_of_length_le h]
  · rw [Nat.min_eq_left (by omega)]
theorem due_new {zs : List Str} {z : Str} (hn : zs.Nodup) (h : z ∉ zs) (hl : zs.length ≤ 39) : due (zs ++ [z]) true true = .non := by
  have nd : (zs ++ [z]).Nodup := List.nodup_append.mpr ⟨hn, by simp, fun x hx y hy e => h (by rw [← List.mem_singleton.mp hy, ← e]; exact hx)⟩
  unfold due
  rw [if_neg (by rw [List.length_append]; show ¬ 40 < zs.length + 1; omega), if_pos nd]
  rfl
theorem other_out : ("other" : Str) ∉ poolS := by decide +kernel
theorem strv_rows (gv : List (Str × Int)) : (gv.map lvRow).map (fun kv => kV kv.1) = strv (gv.map (·.1)) := by
  unfold strv
  rw [List.map_map, List.map_map]
  rfl
theorem str_small {z : Str} (h : (PyData.showable (.str z) && decide ((PyData.str z).depth ≤ 60) && decide ((PyData.str z).shown.length ≤ 1000)) = true) : Smalls (.str z) := smalls_of h
end Sj
namespace Sj
open PySem L2 Sup StK Own Shw Exg Grd KepE
open NdefX (NF NScope ncx envF startF nscope_by)
/-! the forms in which k06 makes words -/
section
variable {P : Program} {w : World} {K : PySem.W.Frag} {mg : Str → Option Value} {base : Heap} {f CF CW : Addr} {fd : FuncData} {ks : Kinds}
theorem wof_k0 (F : Fun K "of" "Word.of" (sWd 1) f fd) (G : FnOk P w K mg base CX0 8 f fd ["cls", "frame", "levels"] (spWOf ks CF CW)) : FnK P w K mg base CX0 8 f [] (fun vs zs H Q E => vs.length = 3 ∧ spWOf ks CF CW vs H Q E) := by
  obtain ⟨oc, od, kV, doc, pm, an, cdv, ct, osl, rfl, lk, hcd⟩ := F.ex
  exact fnK_of (g := fun us _ => us) (gV := fun vs _ => vs) G ⟨fun s us ws _ l1 l2 => .of_eq (match us, ws, l1, l2 with | [_, _, _], [], _, _ => rfl), fun r _ => r⟩
theorem wof_kK (F : Fun K "of" "Word.of" (sWd 1) f fd) (G : FnOk P w K mg base CX0 8 f fd ["cls", "frame", "levels"] (spWOf ks CF CW)) : FnK P w K mg base CX0 8 f ksFL (fun vs zs H Q E => vs.length = 1 ∧ spWOf ks CF CW (vs ++ zs) H Q E) := by
  obtain ⟨oc, od, kV, doc, pm, an, cdv, ct, osl, rfl, lk, hcd⟩ := F.ex
  exact fnK_of (g := fun us ws => us ++ ws) (gV := fun vs zs => vs ++ zs) G ⟨fun s us ws _ l1 l2 => .of_eq (match us, ws, l1, l2 with | [_], [_, _], _, _ => rfl), fun r r' => r.append r'⟩
theorem wre_k0 (F : Fun K "rest" "Word.rest" (sWd 2) f fd) (G : FnOk P w K mg base CX0 8 f fd ["cls", "frame"] (spWRest ks CF CW)) : FnK P w K mg base CX0 8 f [] (fun vs zs H Q E => vs.length = 2 ∧ spWRest ks CF CW vs H Q E) := by
  obtain ⟨oc, od, kV, doc, pm, an, cdv, ct, osl, rfl, lk, hcd⟩ := F.ex
  exact fnK_of (g := fun us _ => us) (gV := fun vs _ => vs) G ⟨fun s us ws _ l1 l2 => .of_eq (match us, ws, l1, l2 with | [_, _], [], _, _ => rfl), fun r _ => r⟩
theorem wre_kK (F : Fun K "rest" "Word.rest" (sWd 2) f fd) (G : FnOk P w K mg base CX0 8 f fd ["cls", "frame"] (spWRest ks CF CW)) : FnK P w K mg base CX0 8 f ksF1 (fun vs zs H Q E => vs.length = 1 ∧ spWRest ks CF CW (vs ++ zs) H Q E) := by
  obtain ⟨oc, od, kV, doc, pm, an, cdv, ct, osl, rfl, lk, hcd⟩ := F.ex
  exact fnK_of (g := fun us ws => us ++ ws) (gV := fun vs zs => vs ++ zs) G ⟨fun s us ws _ l1 l2 => .of_eq (match us, ws, l1, l2 with | [_], [_], _, _ => rfl), fun r r' => r.append r'⟩
abbrev psLo : List Str := ["cls", "frame", "name", "level"]
theorem wlo_k0 (F : FunD K "lone" "Word.lone" (defArgs (sWd 3)) (defBody (sWd 3)) (defScope (sWd 3)) [.int 0] [] f fd) (G : FnOk P w K mg base CX0 9 f fd psLo (spWLone ks CF CW)) : FnK P w K mg base CX0 9 f [] (fun vs zs H Q E => vs.length = 4 ∧ spWLone ks CF CW vs H Q E) := by
  obtain ⟨its, hb⟩ := F.kbindsD (ps := psLo) 4 [] (fun us _ _ => us) (by decide) (fun r _ _ => r)
    (fun T kV doc pm an cdv ct us its ws h1 h2 h3 => match us, its, ws, h1, h2, h3 with
      | [_, _, _, _], [_], [], _, _, _ => ⟨_, rfl, rfl⟩)
  exact fnK_of G hb
theorem wlo_kK (F : FunD K "lone" "Word.lone" (defArgs (sWd 3)) (defBody (sWd 3)) (defScope (sWd 3)) [.int 0] [] f fd) (G : FnOk P w K mg base CX0 9 f fd psLo (spWLone ks CF CW)) : FnK P w K mg base CX0 9 f ksFN (fun vs zs H Q E => vs.length = 1 ∧ spWLone ks CF CW (vs ++ (zs ++ [.int 0])) H Q E) := by
  obtain ⟨its, hb⟩ := F.kbindsD (ps := psLo) 1 ksFN (fun us ds ws => us ++ (ws ++ ds)) (by decide) (fun r1 r2 r3 => r1.append (r3.append r2))
    (fun T kV doc pm an cdv ct us its ws h1 h2 h3 => match us, its, ws, h1, h2, h3 with
      | [_], [_], [_, _], _, _, _ => ⟨_, rfl, rfl⟩)
  exact fnK_of G hb
theorem wlo_kL (F : FunD K "lone" "Word.lone" (defArgs (sWd 3)) (defBody (sWd 3)) (defScope (sWd 3)) [.int 0] [] f fd) (G : FnOk P w K mg base CX0 9 f fd psLo (spWLone ks CF CW)) : FnK P w K mg base CX0 9 f ksLv (fun vs zs H Q E => vs.length = 3 ∧ spWLone ks CF CW (vs ++ zs) H Q E) := by
  obtain ⟨its, hb⟩ := F.kbindsD (ps := psLo) 3 ksLv (fun us _ ws => us ++ ws) (by decide) (fun r1 _ r3 => r1.append r3)
    (fun T kV doc pm an cdv ct us its ws h1 h2 h3 => match us, its, ws, h1, h2, h3 with
      | [_, _, _], [_], [_], _, _, _ => ⟨_, rfl, rfl⟩)
  exact fnK_of G hb
abbrev BWd (qs : List Str) : Prop := ∀ (kV doc pm : Value) (an : Option Addr) (cdv ct : Value) (us ws : List Value), us.length = 2 → ws.length = qs.length →
      bindArgs (PySem.W.fnOf "__init__" "Word.__init__" (defArgs (sWd 0)) (defBody (sWd 0)) (defScope (sWd 0)) .none kV doc pm an cdv ct) ⟨us, qs.zip ws⟩ =
        ((alloc ({ cls := .type "dict", data := .dict #[] } : Obj) : Sem Addr) >>= fun d => (forIn (qs.zip ws) PUnit.unit fun x _ => (nsSet d x.1 x.2 >>= fun _ => pure (ForInStep.yield PUnit.unit))) >>= fun _ => pure ((["self", "frame"] : List Str).zip us ++ [(("levels" : Str), Value.ref d)]))
theorem wdI_bA : BWd qsA := fun kV doc pm an cdv ct us ws h1 h2 => match us, ws, h1, h2 with
  | [_, _], [_], _, _ => rfl
theorem wdI_bB : BWd qsB := fun kV doc pm an cdv ct us ws h1 h2 => match us, ws, h1, h2 with
  | [_, _], [_], _, _ => rfl
theorem wdI_bT : BWd tgs := fun kV doc pm an cdv ct us ws h1 h2 => match us, ws, h1, h2 with
  | [_, _], [_, _, _, _, _, _, _, _, _, _, _], _, _ => rfl
end
end Sj
namespace Sj
open PySem L2 Sup StK Own Shw Exg Grd KepE
open NdefX (NF NScope ncx envF startF nscope_by)
open C8 (pss_cut tCut)
/-! one word and another (k08, ..) -/
abbrev sIsW : Stmt := top 25
theorem scIsW : FnScope ["frame", "value"] ["frame", "value"] (defScope sIsW) := ⟨rfl, rfl, rfl, by decide +kernel, rfl, by decide +kernel, by decide +kernel⟩
/-- a word of an equal frame -/
def spIsW (ks : Kinds) (CF CW : Addr) : Sp := fun vs H Q _ => ∃ a d b e hv, vs = [.ref a, .ref b] ∧ FrIs ks CF H a d ∧ WdIs ks CF CW H b e hv ∧ ∀ H', Same H H' → Q (.bl (eqFr e d)) H'
def lvMin (i j : Int) : Int := if j < i then j else i
/-- the lesser level of each driver -/
def minL (ks : Kinds) (d e : FrD) (gv hv : List (Str × Int)) : List (Str × Int) := (kindZ ks true d.ys).map fun z => (z, lvMin (lvl gv d.t z) (lvl hv e.t z))
def spWAnd (ks : Kinds) (CF CW : Addr) : Sp := fun vs H Q _ => ∃ a d gv b e hv, vs = [.ref a, .ref b] ∧ WdIs ks CF CW H a d gv ∧ WdIs ks CF CW H b e hv ∧ eqFr e d = true ∧ ∀ r H', H r = none → WdIs ks CF CW H' r d (minL ks d e gv hv) → Same H H' → Q (.ref r) H'
theorem lvl_map {zs : List Str} {f : Str → Int} {t : Int} {z : Str} (hn : zs.Nodup) (hz : z ∈ zs) : lvl (zs.map fun z => (z, f z)) t z = f z := by
  have h2 := lvG_nd (lv := zs.map fun z => (z, f z)) (p := (z, f z)) (by rw [List.map_map]; show (zs.map fun z => z).Nodup; rw [List.map_id']; exact hn) (List.mem_map.mpr ⟨z, hz, rfl⟩)
  unfold lvl
  dsimp only at h2
  rw [h2]
  rfl
abbrev rMin : List V → Hp → VK → Prop := fun xs H Q => ∃ i j, xs = [V.int i, .int j] ∧ Q (.int (if j < i then j else i)) H
def tMn (K : PySem.W.Frag) : TE := tCB rMin (tCons (tVar 4) (tCons (tDGet (tFld K (tVar 1) "_levels") (tVar 3)) tNil))
structure WaT (P : Program) (w : World) (K : PySem.W.Frag) (mg : Str → Option Value) (base : Heap) (ks : Kinds) (CF CW fW : Addr) : Prop where
  f : WfT P w K mg base ks CF CW
  isi : mg "isinstance" = none
  min : mg "min" = none
  mW : mg "Word" = some (.ref CW)
  icW : IsiC K CW
  self : PySem.W.kitOne K (.ref CW) (.ref CW) = some true
  eqF : EqN P w K mg base 4 CF (spFEq K ks CF)
  icF : IsiC K CF
  nf : PySem.W.notFirst K CF (.ref CF) = true
  mkc : Mk K CW fW
  i0 : FnK P w K mg base CX0 6 fW [] (spKw 2 [] (spWdI ks CF CW))
section
variable {P : Program} {w : World} {K : PySem.W.Frag} {mg : Str → Option Value} {base : Heap}
theorem ok_isw {f CF CW fW : Addr} {fd : FuncData} {ks : Kinds} (F : Fun K "is_word_of" "is_word_of" sIsW f fd) (T : WaT P w K mg base ks CF CW fW) : FnOk P w K mg base CX0 6 f fd ["frame", "value"] (spIsW ks CF CW) := by
  refine F.ok scIsW (fun vs H Q E h => ?_) (fun cdv A outer s H vs Q E hr h => ?_)
  · obtain ⟨a, d, b, e, hv, rfl, _⟩ := h
    rfl
  · obtain ⟨a, d, b, e, hv, rfl, hF, hV, k⟩ := h
    obtain ⟨fr', dy, D', eb, eD', hne', hF'⟩ := hV.ex
    obtain ⟨fx, fs, ef⟩ := hF.ins
    obtain ⟨fy, fs', ef'⟩ := hF'.ins
    refine ⟨_, pss_one (ps_ret (pe_and (pe_callB call_isi (by rfl) T.isi (by decide +kernel) (pa_cons (pv 1) (pa_cons (pe_glob rfl T.mW (v := .ref CW) rfl) pa_nil)))
      (pe_one (pe_cmpR (op_ownE (.inl rfl) (S := fun C => C = CF) (spE := fun _ => spFEq K ks CF) (fun C e => by rw [e]; exact T.eqF.eqC (hr.mono (by decide)))) (pe_fld (pv 1) rfl) (pv 0) (nomark _))))), ?_⟩
    have tyb : TyX K H (.ref b) (.ref CW) := .base (.ins eb T.icW.cl T.icW.ca T.icW.cn T.icW.ct T.icW.cm)
    refine ⟨_, rfl, _, _, .ref CW, .ref CW, true, rfl, .own _, tyb, T.self, _, rfl, iteT ?_⟩
    refine ⟨_, rfl, b, CW, dy, _, _, rfl, eb, T.f.cw, T.f.nF, wdF_frame _ _, _, rfl, ?_⟩
    exact ⟨fr', CF, fy, fs', rfl, ef', rfl, .inl ⟨.ref CF, .base (.ins ef T.icF.cl T.icF.ca T.icF.cn T.icF.ct T.icF.cm), T.nf, fr', e, .ref a, rfl, hF', .inl ⟨a, d, rfl, hF, fun H1 s1 => ⟨_, rfl, k H1 s1⟩⟩⟩⟩
theorem ok_wand {f CF CW fW : Addr} {fd : FuncData} {ks : Kinds} (F : Fun K "__and__" "Word.__and__" (sWd 9) f fd) (T : WaT P w K mg base ks CF CW fW) (isw : FnIs P w K mg base "is_word_of" 6 ["frame", "value"] (spIsW ks CF CW)) : FnOk P w K mg base CX0 8 f fd ["self", "other"] (spWAnd ks CF CW) := by
  obtain ⟨fI, fdI, mI, kI, bI, GI⟩ := isw
  have sc : FnScope ["self", "other", "both", "name", "level"] ["self", "other"] (defScope (sWd 9)) := ⟨rfl, rfl, rfl, by decide +kernel, rfl, by decide +kernel, by decide +kernel⟩
  refine F.ok sc (fun vs H Q E h => ?_) (fun cdv A outer s H vs Q E hr h => ?_)
  · obtain ⟨a, d, gv, b, e, hv, rfl, _⟩ := h
    rfl
  · obtain ⟨a, d, gv, b, e, hv, rfl, hW, hV, hfr, k⟩ := h
    have hu := hu_of hr
    refine ⟨_, PSs.nox (pss_cons (ps_if (pt_not (pt_val (pe_call GI (hr.mono (by decide)) rfl mI kI bI .nil pass0 (pa_cons (pe_fld (pv 0) rfl) (pa_cons (pv 1) pa_nil))))) pss_never pss_nil)
      (pss_cons (ps_set (i := 2) sc.nd rfl (Or.inl rfl) (pe_makeS T.mkc T.i0 hr rfl T.mW pass0 (pa_cons (pe_fld (pv 0) rfl) pa_nil) pk_nil))
      (pss_cons (ps_fld (pv 2) (pe_lock (pe_dc (tk := tVar 3) (tv := tMn K) (tt := tYes) (own := [("name", 3), ("level", 4)]) (g := gTup K 2 (gCons (gName 3) (gCons (gName 4) gNil))) rfl sc.nd (pi_items (pe_fld (pv 0) rfl))
          (blkOk_by (N := ["self", "other", "both", "name", "level"]) (sc := defScope (sWd 9)) (by decide +kernel)) (fun _ _ _ _ _ => pg_tup rfl (pgs_cons (pg_name (i := 3) sc.nd rfl (Or.inl rfl)) (pgs_cons (pg_name (i := 4) sc.nd rfl (Or.inl rfl)) pgs_nil)))
          (fun _ _ _ _ _ => pts_nil) (fun _ _ _ _ _ => pv 3) (fun _ _ _ _ _ => pe_callB (call_min2 rfl) (by rfl) T.min (by decide +kernel) (pa_cons (pv 4) (pa_cons (pe_dget hu (pe_fld (pv 1) rfl) (pv 3) (fun _ _ => rfl)) pa_nil))))) rfl)
      (pss_one (ps_ret (pv 2)))))), ?_⟩
    obtain ⟨fr, dx, D, ea, eD, hne, hF⟩ := hW.ex
    obtain ⟨fr', dy, D', eb, eD', hne', hF'⟩ := hV.ex
    obtain ⟨_, _, _, e4⟩ := eqFr_parts hfr
    have et : e.t = d.t := (eqFr_parts hfr).1
    have ek := eqLegs_kindZ (ks := ks) e4 hF'.nd hF.nd hF'.so hF.so
    refine ⟨_, rfl, a, CW, dx, _, _, rfl, ea, T.f.cw, T.f.nF, wdF_frame _ _, _, rfl, fr, d, b, e, hv, rfl, hF, hV, fun H1 s1 => ?_⟩
    rw [hfr]
    obtain ⟨lv, elv⟩ : ∃ lv, lv = lvAll ks d gv := ⟨_, rfl⟩
    have hll : lv.length ≤ 40 := by rw [elv, lvAll_len]; exact Nat.le_trans (kind_le ks true d.ys) hF.le
    have ndz : (kindZ ks true d.ys).Nodup := kind_nd hF.nd
    rw [← elv] at eD
    refine ⟨_, rfl, iteF ⟨_, rfl, a, CW, dx, _, _, rfl, s1 _ _ ea, T.f.cw, T.f.nF, wdF_frame _ _, rfl, wd_rd (gv := []) rfl (hF.same s1) lv_nil fun r dr D0 H2 hr0 h1 h2 h3 s2 => ?_⟩⟩
    have s02 := s1.trans s2
    refine ⟨D, _, s02 _ _ eD, trivial, fun od => ?_⟩
    obtain ⟨HL, eL⟩ : ∃ HL, HL = upd H2 D (.frz od (.dK (lv.map lvRow))) := ⟨_, rfl⟩
    rw [← eL]
    have hDL : HL D = some (.frz od (.dK (lv.map lvRow))) := by rw [eL, upd_same]
    have haL : HL a = some (.ins CW dx (wdF fr D)) := by rw [eL, upd_ne (Ne.symm hne)]; exact s02 _ _ ea
    have hbL : HL b = some (.ins CW dy (wdF fr' D')) := by rw [eL, upd_ne (ne_of eb eD (by intro z; cases z))]; exact s02 _ _ eb
    have hvL : Rd HL D' (.dK ((lvAll ks e hv).map lvRow)) := by
      by_cases z : D' = D
      · rw [z] at eD'
        rw [eD] at eD'
        rw [z]
        exact .inr ⟨od, by rw [hDL, ← HO.dK.inj (Option.some.inj eD')]⟩
      · exact .inl (by rw [eL, upd_ne z]; exact s02 _ _ eD')
    have hlm : (lv.map lvRow).length = lv.length := List.length_map _
    have hlk : lv.length = (kindZ ks true d.ys).length := by rw [elv, lvAll_len]
    refine ⟨_, rfl, a, CW, dx, _, _, rfl, haL, T.f.cw, T.f.nL, wdF_lv _ _, D, od, _, rfl, hDL, fun Dn hDn => ?_⟩
    refine SetT.dict_it (walk_items (d := D) (o := od) (kvs := lv.map lvRow)) (fun i H' => Same HL H' ∧ H' Dn = some (.dK (((minL ks d e gv hv).take i).map lvRow))) ⟨same_at hDn, upd_same⟩ (fun i H' _ p => p.1 _ _ hDL) ?_ ?_
    · rintro i x H3 H4 hi ⟨s3, d3⟩ ⟨Tp, kx, vx, rfl, hT, rfl, hk, hvx⟩
      rw [hlm, hlk] at hi
      obtain ⟨z, ez⟩ : ∃ z, z = (kindZ ks true d.ys)[i] := ⟨_, rfl⟩
      have hz : z ∈ kindZ ks true d.ys := by rw [ez]; exact List.getElem_mem hi
      have e1 : (lv.map lvRow)[i]? = some (Sum.inr z, .int (lvl gv d.t z)) := by
        rw [elv]
        unfold lvAll
        rw [List.getElem?_map, List.getElem?_map, List.getElem?_eq_getElem hi, ez]
        rfl
      have e2 : (minL ks d e gv hv)[i]? = some (z, lvMin (lvl gv d.t z) (lvl hv e.t z)) := by
        unfold minL
        rw [List.getElem?_map, List.getElem?_eq_getElem hi, ez]
        rfl
      dsimp only at hk hvx
      rw [e1] at hk hvx
      obtain rfl : V.str z = kx := Option.some.inj hk
      obtain rfl : V.int (lvl gv d.t z) = vx := Option.some.inj hvx
      have s4 : Same HL (upd H3 Tp (.tup [.str z, .int (lvl gv d.t z)])) := s3.trans (same_at hT)
      have d4 : upd H3 Tp (.tup [.str z, .int (lvl gv d.t z)]) Dn = some (.dK (((minL ks d e gv hv).take i).map lvRow)) := by rw [upd_ne (ne_of_none d3 hT)]; exact d3
      refine ⟨Tp, _, rfl, SqT.of upd_same, rfl, _, _, rfl, _, _, rfl, rfl, rfl, ?_⟩
      unfold tYes
      dsimp only
      rw [if_pos rfl]
      have hget : DGet (upd H3 Tp (.tup [.str z, .int (lvl gv d.t z)])) D' (.str z) (some (.int (lvl hv e.t z))) := by
        refine .inl ⟨_, Sum.inr z, hvL.imp (s4 _ _) (fun ⟨o, q⟩ => ⟨o, s4 _ _ q⟩), rfl, ?_⟩
        have q := lvG_nd (lv := lvAll ks e hv) (p := (z, lvl hv e.t z)) (by rw [lvAll_fst, ek]; exact ndz) (List.mem_map.mpr ⟨z, by rw [ek]; exact hz, rfl⟩)
        rw [valV_lv, q]
        rfl
      refine ⟨_, rfl, _, rfl, _, rfl, b, CW, dy, _, _, rfl, s4 _ _ hbL, T.f.cw, T.f.nL, wdF_lv _ _, _, rfl, D', _, rfl, hget, _, _, rfl, ?_⟩
      have hnew : valV (((minL ks d e gv hv).take i).map lvRow) (Sum.inr z : Key) = none := valV_no fun p hp ep => by
        obtain ⟨q, hq, rfl⟩ := List.mem_map.mp hp
        obtain ⟨j, hj, ej⟩ := List.getElem_of_mem hq
        rw [List.length_take] at hj
        rw [List.getElem_take] at ej
        have hj2 : j < (kindZ ks true d.ys).length := by
          have : (minL ks d e gv hv).length = (kindZ ks true d.ys).length := List.length_map _
          omega
        have ej2 : q.1 = (kindZ ks true d.ys)[j] := by
          rw [← ej]
          unfold minL
          rw [List.getElem_map]
        have ep2 : q.1 = z := Sum.inr.inj ep
        rw [ep2, ez] at ej2
        have := (List.getElem_inj ndz).mp ej2
        omega
      refine ⟨_, Sum.inr z, rfl, d4, ?_, fun c o hc => ?_, ?_⟩
      · rw [List.length_map, List.length_take]
        exact Nat.lt_of_le_of_lt (show _ ≤ 40 by omega) (by decide)
      · rw [upd_ne (ne_of_none hc hDn)]
        exact s4 _ _ hc
      · rw [upd_same, putK_new _ hnew, List.take_add_one, e2, List.map_append]
        rfl
    · rintro H3 ⟨s3, d3⟩
      have hml : (minL ks d e gv hv).length = (lv.map lvRow).length := by rw [hlm, hlk]; exact List.length_map _
      rw [List.take_of_length_le (Nat.le_of_eq hml)] at d3
      have hDn0 : Dn ≠ D := fun z => by rw [z, hDL] at hDn; cases hDn
      have hraw : H2 Dn = none := by
        rw [eL, upd_ne hDn0] at hDn
        exact hDn
      refine ⟨s3 _ _ hDL, ?_⟩
      obtain ⟨H5, e5⟩ : ∃ H5, H5 = upd H3 D (.dK (lv.map lvRow)) := ⟨_, rfl⟩
      rw [← e5]
      have s25 : Same H2 H5 := by rw [e5]; exact same_unlock (od := od) (s02 _ _ eD) (by rw [← eL]; exact s3)
      have d5 : H5 Dn = some (.dK ((minL ks d e gv hv).map lvRow)) := by rw [e5, upd_ne hDn0]; exact d3
      refine ⟨_, rfl, r, CW, dr, _, rfl, s25 _ _ h1, T.f.cw, T.f.nL, by show 2 < 1000; decide, ?_⟩
      rw [wdF_put]
      have nD : Dn ≠ r := fun z => by rw [z, h1] at hraw; cases hraw
      have s36 : ∀ {o : HO}, Same H (upd H5 r o) := fun {o} c u q => by
        rw [upd_ne (ne_of_none (s1 _ _ q) hr0)]
        exact s25 _ _ (s02 _ _ q)
      refine ⟨_, rfl, k r _ (s1.free hr0) ⟨⟨fr, dr, Dn, upd_same, ?_, nD, hF.same s36⟩, ?_, hW.t1, hW.t3⟩ s36⟩
      · rw [upd_ne nD, d5]
        congr 2
        unfold lvAll
        refine congrArg (fun l => List.map lvRow l) ?_
        refine List.map_congr_left fun z hz => ?_
        unfold minL
        rw [lvl_map (f := fun z => lvMin (lvl gv d.t z) (lvl hv e.t z)) ndz hz]
      · refine ⟨by rw [hml, hlm]; omega, fun q hq => ?_⟩
        obtain ⟨z, hz, rfl⟩ := List.mem_map.mp hq
        have b1 := lvl_le hW.ok (by have := hW.t1; omega) z
        have b2 := lvl_le hV.ok (by have := hV.t1; omega) z
        refine ⟨hz, ?_⟩
        show 0 ≤ lvMin _ _ ∧ lvMin _ _ ≤ d.t
        unfold lvMin
        split <;> omega
end
end Sj
/-! set(t) of a tuple of texts, and sorted of such a set -/
namespace SetS
open PySem PySem.Spec PyProof.Rows L2
abbrev KS (P : Program) (w : World) := PySem.strKind P w
/-- the text that an entry holds -/
def txt (e : Int × Value) : Str := match e.2 with | .str x _ => x | _ => Str.empty
def Ent (w : World) (e : Int × Value) : Prop := ∃ x tk, e.2 = Value.str x tk ∧ e.1 = hashStr w x
/-- one more text -/
def addT (ks : List Str) (x : Str) : List Str := if x ∈ ks then ks else ks ++ [x]
/-- at a stands a set of just these texts, and it can be walked -/
def At (w : World) (h : Heap) (a : Addr) (ks : List Str) : Prop :=
  ∃ o es ep t, h.get? a = some o ∧ o.ExactSet ∧ o.data = .set es ep t ∧ ((∀ e ∈ es.toList, Ent w e) ∧ (es.toList.map txt).Perm ks) ∧ es.size < scanBound ∧ t.fits es.size = true ∧ Ris t.place.toList ∧ (w.params.followText "set-order" = true ∨ t.led = true)
section
variable {P : Program} {w : World} {h h' : Heap} {a : Addr} {ks : List Str}
theorem At.at (R : At w h a ks) (k : ∀ o, h.get? a = some o → h'.get? a = some o) : At w h' a ks := by
  obtain ⟨o, es, ep, t, ho, r⟩ := R
  exact ⟨o, es, ep, t, k o ho, r⟩
theorem ent_is {e : Int × Value} (g : Ent w e) (k : Str) : (KS P w).is k e.2 = true ↔ txt e = k := by
  obtain ⟨x, tk, h1, _⟩ := g
  unfold txt
  rw [h1]
  show ((x == k) = true) ↔ x = k
  exact beq_iff_eq
theorem ent_elems {l : List (Int × Value)} (g : ∀ e ∈ l, Ent w e) : ElemsOf (KS P w) l := fun e he => by
  obtain ⟨x, tk, h1, h2⟩ := g e he
  exact ⟨⟨x, (ent_is (g e he) x).mpr (by unfold txt; rw [h1]), h2⟩, by rw [h1] <;> rfl⟩
end
section
variable {P : Program} {w : World} {A : Around} {E : Value → Shared → Prop} {s : Shared} {a : Addr} {ks : List Str}
/-- the end of add: what is stored -/
theorem add_tail {g : Bool → Sem Unit} (hg : ∀ (b : Bool) (s₁ : Shared) (Q' : Unit → Shared → Prop), Q' () s₁ → wpAny (model P w) A (g b) Q' E s₁)
    {o : Obj} {es : Array (Int × Value)} {ep : Nat} {t : SetTable} (ho : s.heap.get? a = some o) (hex : o.ExactSet) (hd : o.data = .set es ep t)
    {es1 : Array (Int × Value)} {t2 : SetTable} (g1 : (∀ e ∈ es1.toList, Ent w e) ∧ (es1.toList.map txt).Perm ks) (hb1 : es1.size < scanBound) (hf2 : t2.fits es1.size = true) (hr : Ris t2.place.toList) (hl : w.params.followText "set-order" = true ∨ t2.led = true) {wasDummy : Bool} {R : Option Bool → Shared → Prop}
    (hR : ∀ h', Heap.SameBut a s.heap h' → At w h' a ks → R (some true) { s with heap := h' }) :
    wpAny (model P w) A (do
        storeSet a es1 t2
        if (!wasDummy && t2.tooFull) = true then do
            g (relayAll t2 es1 (SetTable.grown es1.size)).2.2
            storeSet a (relayAll t2 es1 (SetTable.grown es1.size)).1 (relayAll t2 es1 (SetTable.grown es1.size)).2.1
            pure (some true)
          else pure (some true)) R E s := by
  have b1 := Heap.SameBut.update s.heap a (Obj.putSet es1 t2)
  have o1 := store_at (es' := es1) (t' := t2) ho hd
  refine wpAny_bind (wpAny_storeSet_of ho hd ?_ (fits_of_scanBound hb1))
  split
  · have r1 := relayAll_perm t2 es1 (SetTable.grown es1.size)
    have r2 := relayAll_fits t2 es1 (SetTable.grown es1.size)
    have r3 := relayAll_ris t2 es1 (SetTable.grown es1.size)
    have r4 := relayAll_led t2 es1 (SetTable.grown es1.size)
    generalize relayAll t2 es1 (SetTable.grown es1.size) = Z at r1 r2 r3 r4 ⊢
    obtain ⟨es2, t3, gave⟩ := Z
    dsimp only at r1 r2 r3 r4 ⊢
    have hb2 : es2.size < scanBound := by rw [← Array.length_toList, r1.length_eq, Array.length_toList]; exact hb1
    refine wpAny_bind (hg _ _ _ (wpAny_bind (wpAny_storeSet_of o1 rfl (wpAny_pure (hR _ (b1.trans (Heap.SameBut.update _ a _)) ?_)) (fits_of_scanBound hb2))))
    exact ⟨_, es2, _, t3, store_at (es' := es2) (t' := t3) o1 rfl, hex, rfl, ⟨fun e he => g1.1 e (r1.mem_iff.mp he), (r1.map txt).trans g1.2⟩, hb2, r2, r3, hl.imp id fun z => by rw [r4]; exact z⟩
  · exact wpAny_pure (hR _ b1 ⟨_, es1, _, t2, o1, hex, rfl, g1, hb1, hf2, hr, hl⟩)
theorem add_text {x : Str} {tk : Tok} {Q : Bool → Shared → Prop} (R : At w s.heap a ks) (room : ks.length + 1 < scanBound) (hQ : ∀ b h', Heap.SameBut a s.heap h' → At w h' a (addT ks x) → Q b { s with heap := h' }) :
    wpAny (model P w) A (setAddHashed a (.str x tk) ((KS P w).hash x)) Q E s := by
  obtain ⟨o, es, ep, t, ho, hex, hd, ⟨g, pk⟩, hb, hf, hr, hl⟩ := R
  have hsc : (Value.str x tk).scannable = true := rfl
  have hkey : (KS P w).is x (.str x tk) = true := beq_self_eq_true x
  have hel : ElemsOf (KS P w) es.toList := ent_elems g
  have hmem : x ∈ ks ↔ ∃ e ∈ es.toList, txt e = x := by rw [← pk.mem_iff, List.mem_map]
  have hn : es.size = ks.length := by rw [← pk.length_eq, List.length_map, Array.length_toList]
  unfold setAddHashed setAddHashedIn
  refine wpAny_holding (wpAny_bind (wpAny_setState_of ho hd hf ?_))
  dsimp only
  rw [byScan_of hsc hb hel]
  simp only [↓reduceIte]
  unfold setAddByScan
  refine wpAny_bind (wpAny_bind (wpAny_rule (wpAny_bind (wpAny_setScan_of hkey ho hd hf hel ?_))))
  cases hfi : List.findIdx? (fun e => (KS P w).is x e.2) es.toList with
  | some j =>
    dsimp only
    obtain ⟨hj, pj, _⟩ := List.findIdx?_eq_some_iff_getElem.mp hfi
    have hin : x ∈ ks := hmem.mpr ⟨es.toList[j], List.getElem_mem hj, (ent_is (g _ (List.getElem_mem hj)) x).mp pj⟩
    refine wpAny_pure (wpAny_pure (hQ _ s.heap (Heap.SameBut.refl a s.heap) ?_))
    unfold addT
    rw [if_pos hin]
    exact ⟨o, es, ep, t, ho, hex, hd, ⟨g, pk⟩, hb, hf, hr, hl⟩
  | none =>
    dsimp only
    have hout : x ∉ ks := fun m => by
      obtain ⟨e, he, q⟩ := hmem.mp m
      have c := List.findIdx?_eq_none_iff.mp hfi e he
      rw [(ent_is (g e he) x).mpr q] at c
      cases c
    have r1 := layNew_perm t es ((KS P w).hash x) (.str x tk)
    have r2 := layNew_fits t es ((KS P w).hash x) (.str x tk)
    have r3 := layNew_ris t es ((KS P w).hash x) (.str x tk) hr
    have r4 := layNew_led t es ((KS P w).hash x) (.str x tk)
    generalize layNew t es ((KS P w).hash x) (.str x tk) = Z at r1 r2 r3 r4 ⊢
    obtain ⟨es1, t1, wasDummy, gave⟩ := Z
    dsimp only at r1 r2 r3 r4 ⊢
    rw [Array.toList_push] at r1
    have g1 : (∀ e ∈ es1.toList, Ent w e) ∧ (es1.toList.map txt).Perm (addT ks x) := by
      refine ⟨fun e he => ?_, ?_⟩
      · rcases List.mem_append.mp (r1.mem_iff.mp he) with z | z
        · exact g e z
        · rw [List.mem_singleton.mp z]
          exact ⟨x, tk, rfl, rfl⟩
      · unfold addT
        rw [if_neg hout]
        refine (r1.map txt).trans ?_
        rw [List.map_append]
        exact pk.append_right _
    have hb1 : es1.size < scanBound := by
      rw [← Array.length_toList, r1.length_eq, List.length_append, Array.length_toList, hn]
      exact room
    have hled : w.params.followText "set-order" = true ∨ t1.led = true := hl.imp id fun z => by rw [r4]; exact z
    refine wpAny_bind ?_
    refine (show ∀ (b : Bool) {s₁ : Shared} {Q' : Unit → Shared → Prop}, Q' () s₁ → wpAny (model P w) A (match b with | true => rule "set.scan.the-table-gave-way" | false => pure ()) Q' E s₁ from
      fun b s₁ Q' q => by cases b <;> first | exact wpAny_pure q | exact wpAny_rule q) _ ?_
    split
    · refine wpAny_bind ?_
      rw [hashByValue_scannable 8 hsc]
      refine wpAny_pure ?_
      refine add_tail ?_ ho hex hd g1 hb1 ?_ ?_ ?_ ?_
      · intro b s₁ Q' q
        cases b <;> first | exact wpAny_pure q | exact wpAny_rule q
      · first | (split <;> first | exact r2 | exact SetTable.fits_plain_off r2) | exact r2
      · first | (split <;> exact r3) | exact r3
      · first | (split <;> exact hled) | exact hled
      · intro h' sb r
        dsimp only
        exact wpAny_pure (hQ _ h' sb r)
    · refine wpAny_bind (wpAny_pure ?_)
      simp only [↓reduceIte]
      refine add_tail ?_ ho hex hd g1 hb1 r2 r3 hled ?_
      · intro b s₁ Q' q
        cases b <;> first | exact wpAny_pure q | exact wpAny_rule q
      · intro h' sb r
        dsimp only
        exact wpAny_pure (hQ _ h' sb r)
end
/-- all of them -/
def setL (xs : List Str) : List Str := xs.foldl addT []
theorem addT_nd {ks : List Str} (h : ks.Nodup) (x : Str) : (addT ks x).Nodup := by
  unfold addT
  split
  · exact h
  · rename_i n
    exact List.nodup_append.mpr ⟨h, by simp, fun y hy z hz e => n (by rw [← List.mem_singleton.mp hz, ← e]; exact hy)⟩
theorem addT_mem (ks : List Str) (x z : Str) : z ∈ addT ks x ↔ z ∈ ks ∨ z = x := by
  unfold addT
  split
  · rename_i m
    exact ⟨.inl, fun q => q.elim id fun e => by rw [e]; exact m⟩
  · rw [List.mem_append, List.mem_singleton]
theorem addT_len (ks : List Str) (x : Str) : (addT ks x).length ≤ ks.length + 1 := by
  unfold addT
  split
  · omega
  · rw [List.length_append]
    exact Nat.le_refl _
theorem fold_nd : ∀ (xs : List Str) {ks : List Str}, ks.Nodup → (xs.foldl addT ks).Nodup
  | [], _, h => h
  | x :: xs, _, h => fold_nd xs (addT_nd h x)
theorem fold_mem : ∀ (xs : List Str) (ks : List Str) (z : Str), z ∈ xs.foldl addT ks ↔ z ∈ ks ∨ z ∈ xs
  | [], ks, z => ⟨.inl, fun q => q.elim id fun e => nomatch e⟩
  | x :: xs, ks, z => by
    show z ∈ xs.foldl addT (addT ks x) ↔ _
    rw [fold_mem xs, addT_mem, List.mem_cons, or_assoc]
theorem fold_len : ∀ (xs : List Str) (ks : List Str), (xs.foldl addT ks).length ≤ ks.length + xs.length
  | [], ks => Nat.le_refl _
  | x :: xs, ks => by
    have := fold_len xs (addT ks x)
    have := addT_len ks x
    show (xs.foldl addT (addT ks x)).length ≤ ks.length + (xs.length + 1)
    omega
theorem setL_nd (xs : List Str) : (setL xs).Nodup := fold_nd xs (List.Pairwise.nil)
theorem setL_mem (xs : List Str) (z : Str) : z ∈ setL xs ↔ z ∈ xs := (fold_mem xs [] z).trans ⟨fun q => q.elim (fun e => nomatch e) id, .inr⟩
theorem setL_len (xs : List Str) : (setL xs).length ≤ xs.length := Nat.le_trans (fold_len xs []) (by simp)
theorem at_new {w : World} {h : Heap} {a : Addr} (ho : h.get? a = some { cls := .type "set", dict := none, data := .set #[] 0 (.fresh 0 0 (!w.params.followText "set-order")) }) : At w h a [] :=
  ⟨_, #[], 0, _, ho, ⟨rfl, rfl, rfl⟩, rfl, ⟨(fun e he => by simp at he), .refl _⟩, (by decide), (by rfl), List.Pairwise.nil, by
    show _ ∨ (!w.params.followText "set-order") = true
    cases w.params.followText "set-order"
    · exact .inr rfl
    · exact .inl rfl⟩
section
variable {P : Program} {w : World} {A : Around} {E : Value → Shared → Prop} {s : Shared}
theorem fill_texts {I : Addr} {fp wr : List Addr} {G : Array GenState → Array GenState → Prop} {n : Nat} {Pv : Nat → Value → Prop} {St : Nat → Shared → Prop} {R : Result → Shared → Prop}
    (W : WalksS P w A.in1 I fp wr G n Pv St) (S : Addr) (hSf : S ∉ fp) (xs : List Str) (hn : n = xs.length) (hb : xs.length + 1 < scanBound) (hval : ∀ i v, Pv i v → ∃ x t, xs[i]? = some x ∧ v = .str x t) :
    ∀ (k i : Nat) (s : Shared), n - i = k → i ≤ n → St i s → At w s.heap S (setL (xs.take i)) →
      (∀ s', Moved (S :: wr) G s s' → At w s'.heap S (setL xs) → R (.ok (.ret .none)) s') →
      codeAny (model P w) A (.builtin "set.update.loop" ⟨[.ref S, .ref I], []⟩) R s := by
  have out : S ∉ wr := fun h => hSf (W.sub _ h)
  have up : ∀ b ∈ wr, b ∈ S :: wr := fun b hb => List.mem_cons_of_mem _ hb
  intro k
  induction k with
  | zero =>
    intro i s hk' hi hst hS hR
    obtain rfl : i = n := by omega
    rw [List.take_of_length_le (by omega)] at hS
    refine codeAny_builtin F.entry_set_update_loop ?_
    rw [Around.under_plainId F.plain_set_update_loop _]
    refine wpAny_bind (W.done s _ _ hst fun s' hm => ?_)
    exact wpAny_pure (hR s' (hm.mono up) (hS.at fun o e => hm.heap S o out e))
  | succ k ih =>
    intro i s hk' hi hst hS hR
    have lt : i < n := by omega
    refine codeAny_builtin F.entry_set_update_loop ?_
    rw [Around.under_plainId F.plain_set_update_loop _]
    refine wpAny_bind (W.item i s _ _ lt hst fun v s' hP hst' hm => ?_)
    obtain ⟨x, t, hx, rfl⟩ := hval i v hP
    have hS' : At w s'.heap S (setL (xs.take i)) := hS.at fun o e => hm.heap S o out e
    refine wpAny_bind (wpAny_holding ?_)
    unfold setAdd
    refine wpAny_holding (wpAny_bind ((KS P w).pyHash (k := x) (beq_self_eq_true x) ?_))
    have room : (setL (xs.take i)).length + 1 < scanBound := by
      have := setL_len (xs.take i)
      rw [List.length_take] at this
      omega
    refine add_text (s := { s' with toks := s'.toks + 1 }) hS' room fun b h' hsb hS2 => ?_
    have e : addT (setL (xs.take i)) x = setL (xs.take (i + 1)) := by
      unfold setL
      rw [List.take_add_one, hx, List.foldl_append]
      rfl
    rw [e] at hS2
    refine wpAny_pure ⟨plainId_quiet F.plain_set_update_loop _, ih (i + 1) _ (by omega) lt (W.frame _ s' _ _ hst' (Nat.le_succ _) fun b hb o e => ?_) hS2 fun s'' hm'' hS'' => ?_⟩
    · rw [hsb.2 b (fun h : b = S => hSf (by rw [← h]; exact hb))]
      exact e
    · refine hR s'' (Moved.trans W.gtrans ((hm.mono up).then_heap (Nat.le_succ _) fun b o hb e => ?_) hm'') hS''
      rw [hsb.2 b (fun h : b = S => hb (by rw [h]; exact List.mem_cons_self))]
      exact e
set_option maxHeartbeats 3200000 in
/-- set(t) -/
theorem set_of_tuple {l : Addr} {items : Array Value} {xs : List Str} {Q : Value → Shared → Prop} (hh : A.handled = none) (hl : s.heap.IsTuple l items) (hit : PyProof.Rows.StrsAre items.toList xs) (hb : xs.length + 1 < scanBound)
    (h : ∀ (h' : Heap) (tk : Nat), At w h' s.heap.objs.size (setL xs) → (∀ b o, s.heap.get? b = some o → h'.get? b = some o) → Q (.ref s.heap.objs.size) { s with heap := h', toks := tk }) :
    wpAny (model P w) A (call (.type "set") [.ref l]) Q E s := by
  have hisz : items.size = xs.length := by rw [← PyProof.Rows.StrsAre.len_eq hit, Array.length_toList]
  obtain ⟨c, tl, hmro⟩ := F.called_set.mro
  have hmade := F.called_set.made
  have hsub := F.called_set.sub
  refine wpAny_call (codeAny_of_tree ?_)
  show wpAny _ _ (callAny (.type "set") _) _ _ _
  refine wpAny_pure ⟨Code.quiet_builtin _ (by decide +kernel), codeAny_builtin F.entry_type_call ?_⟩
  rw [Around.under_plain (weight_type_call_type "set" [.ref l] []) rfl]
  have h1 := F.called_set.notType
  have h2 := F.called_set.canCreate
  have hct := F.typeCall_set_1 (.ref l)
  repeat (any_goals (first | assumption | wp_step))
  obtain ⟨N, eN⟩ : ∃ N : Heap, N = s.heap.push { cls := .type "set", dict := none, data := .set #[] 0 (.fresh 0 0 (!w.params.followText "set-order")) } := ⟨_, rfl⟩
  refine codeAny_mono (code_set_led1 (.ref l) (E := E) (Q₁ := fun obj s₁ => obj = .ref s.heap.objs.size ∧ s₁ = { s with heap := N }) ⟨rfl, by rw [eN]⟩) fun r s₁ hr => ?_
  cases r with
  | error e => exact hr
  | ok fl =>
    cases fl with
    | ret obj =>
      obtain ⟨rfl, rfl⟩ := hr
      have hS : N.get? s.heap.objs.size = some { cls := .type "set", dict := none, data := .set #[] 0 (.fresh 0 0 (!w.params.followText "set-order")) } := by rw [eN]; exact Heap.get?_push_size _ rfl
      have hsz : N.objs.size = s.heap.objs.size + 1 := by rw [eN]; exact Heap.size_push ..
      have hold : ∀ b o, s.heap.get? b = some o → N.get? b = some o := fun b o e => by rw [eN]; exact Heap.get?_push_of_some _ e
      have hT : Shared.TypeIs { s with heap := N } (.ref s.heap.objs.size) "set" := ⟨_, hS, rfl⟩
      have hli := F.called_set.init.lookup
      have hbi := F.called_set.init.bind (.ref s.heap.objs.size)
      repeat (any_goals (first | assumption | wp_step))
      refine codeAny_mono (codeAny_call_builtin (R := wants (fun r s₂ => r = .none ∧ ∃ h' tk, s₂ = { s with heap := h', toks := tk } ∧ At w h' s.heap.objs.size (setL xs) ∧ (∀ b o, s.heap.get? b = some o → h'.get? b = some o)) E) F.called_set.init.plain F.entry_set_init (check_set_init_1 hT ?_)) fun r₂ s₂ hr₂ => ?_
      · obtain ⟨ol, hol, hcl, nl, hdl⟩ := id hl
        obtain ⟨ocls, odict, odata, oslots⟩ := ol
        simp only at hcl hdl
        subst hcl; subst hdl
        have hol' := hold l _ hol
        have hsls := F.sub_tuple_set
        have hslf := F.sub_tuple_frozenset
        have hne : (Value.type "tuple" == Value.type "dict") = false := by decide
        have hl1 : N.IsTuple l items := ⟨_, hol', rfl, nl, rfl⟩
        unfold Builtin.«set.__init__» noKeywords Builtin.Frozenset.updateFrom
        generalize hPI : pyIter = PI
        wp_walk
        subst hPI
        refine wpAny_pyIter_tuple hl1 ?_
        refine wpAny_bind (wpAny_runValue ?_)
        have hlS : l < s.heap.objs.size := Heap.lt_size hol
        have hneI : l ≠ N.objs.size := by rw [hsz]; exact Nat.ne_of_lt (Nat.lt_succ_of_lt hlS)
        have hSf : s.heap.objs.size ∉ [N.objs.size, l] := by
          simp only [List.mem_cons, List.mem_singleton, List.not_mem_nil, or_false, not_or]
          exact ⟨by rw [hsz]; exact Nat.ne_of_lt (Nat.lt_succ_self _), Nat.ne_of_gt hlS⟩
        have hval : ∀ (i : Nat) (v : Value), items[i]? = some v → ∃ x t, xs[i]? = some x ∧ v = .str x t := fun i v hv => by
          have hi : i < xs.length := by rw [← hisz]; exact (Array.getElem?_eq_some_iff.mp hv).1
          obtain ⟨t, e⟩ := SS.strs_at hit i v (by rw [Array.getElem?_toList]; exact hv)
          refine ⟨xs[i], t, List.getElem?_eq_getElem hi, ?_⟩
          rw [e, List.getD_eq_getElem?_getD, List.getElem?_eq_getElem hi] <;> rfl
        refine fill_texts ((Walks.tuple (by simp [hh]) _ l hneI items).toS) s.heap.objs.size hSf xs hisz hb hval (items.size - 0) 0 _ (by omega) (Nat.zero_le _)
          ⟨⟨_, Heap.get?_push_size _ rfl, rfl, rfl⟩, (hl1.push _)⟩ ?hS0 ?hR
        case hS0 => exact at_new (Heap.get?_push_of_some _ hS)
        case hR =>
          intro s' hm hS'
          obtain ⟨h', g2, d', tk', os'⟩ := s'
          have eg : g2 = s.gens := hm.gens
          have ed : d' = s.drawn := hm.drawn
          have eo : os' = s.os := hm.os
          subst eg; subst ed; subst eo
          refine wpAny_pure ?_
          show wpAny _ _ (ret Value.none) _ _ _
          refine wpAny_pure ⟨rfl, h', tk', rfl, hS', fun b o e => ?_⟩
          have hb0 : b < s.heap.objs.size := Heap.lt_size e
          refine hm.heap b o ?_ (Heap.get?_push_of_some _ (hold b o e))
          simp only [List.mem_cons, List.mem_singleton, List.not_mem_nil, or_false, not_or]
          exact ⟨Nat.ne_of_lt hb0, by rw [hsz]; exact Nat.ne_of_lt (Nat.lt_succ_of_lt hb0)⟩
      · cases r₂ with
        | error e => exact hr₂
        | ok fl₂ =>
          cases fl₂ with
          | ret r =>
            obtain ⟨rfl, h', tk, rfl, hS', hk'⟩ := hr₂
            repeat (any_goals (first | assumption | wp_step))
            exact h _ _ hS' hk'
          | _ => exact hr₂.elim
    | _ => exact hr.elim
end
/-- such a set, as what stands at an address -/
def SetX (w : World) (a : Addr) (ks : List Str) : HO := .ext fun h => At w h a ks
section
variable {X : Cx}
def rSetT (K : PySem.W.Frag) (w : World) : List V → Hp → VK → Prop := fun xs H Q => ∃ (t : Addr) (zs : List Str), xs = [.ref t] ∧ SqT K H t (zs.map V.str) ∧ zs.length < 1000 ∧ ∀ p, H p = none → Q (.ref p) (upd H p (SetX w p (setL zs)))
theorem call_setT (hc : X.calm = true) : CallR X (.type "set") (rSetT X.K X.w) := by
  intro pins s σ H xs us Q I r h
  obtain ⟨t, zs, rfl, ht, hl, q⟩ := h
  obtain ⟨its, rv, pl, hz⟩ := I.tuple ht
  rw [Vals.ref1 r]
  refine set_of_tuple (I.ok.hd hc) pl rv.strs (by unfold scanBound; omega) fun h' tk hA hk => ?_
  exact ⟨.ref _, upd H s.heap.objs.size (SetX X.w s.heap.objs.size (setL zs)), I.laid (t' := tk) hk (Nat.le_refl _) ⟨hA, hA.elim fun o h => h.elim fun _ h => h.elim fun _ h => h.elim fun _ h => ⟨o, h.1⟩, fun h1 h2 p k => At.at p k⟩, rfl, q _ (I.hok.fresh (Nat.le_refl _))⟩
def rSortX (w : World) : List V → Hp → VK → Prop := fun xs H Q => ∃ (a : Addr) (ks : List Str), xs = [.ref a] ∧ H a = some (SetX w a ks) ∧ ks.length < 64 ∧ ∀ ys p, ys.Perm ks → sortedS ys = true → H p = none → Q (.ref p) (upd H p (.lst (ys.map V.str)))
theorem call_sortedX (hc : X.calm = true) : CallR X (.builtin "sorted") (rSortX X.w) := by
  intro pins s σ H xs us Q I r h
  obtain ⟨a, ks, rfl, ha, h64, q⟩ := h
  obtain ⟨o, es, ep, t, ho, hex, hd, ⟨g, pk⟩, hb, hf, hr, hl⟩ := (I.hok a _ ha).1
  rw [Vals.ref1 r]
  refine Calls.call_function_entry PyProof.Rows.kind_sorted PyProof.Rows.plain_sorted PyProof.Rows.entry_sorted (PyProof.Rows.args_sorted1 _) ?_
  unfold Builtin.«sorted»
  refine wpAny_bind (m := checkCount "sorted" 1 1 _) (wpAny_pure ?_)
  refine wpAny_bind (collect_set (A := X.A.in1) (I.ok.hd hc) ⟨o, ho, hex.1, hd⟩ hf hb hr hl fun s1 vs k1 hz g1 o1 pm => ?_)
  have hvs : ∀ v ∈ vs, ∃ x tk, v = Value.str x tk := fun v hv => by
    obtain ⟨e, he, q⟩ := List.mem_map.mp (pm.mem_iff.mp hv)
    obtain ⟨x, tk, h1, _⟩ := g e he
    exact ⟨x, tk, by rw [← q]; exact h1⟩
  have hS0 : ∀ vs : List Value, (∀ v ∈ vs, ∃ x tk, v = Value.str x tk) → StrsAre vs (vs.map fun v => txt (0, v)) := by
    intro vs
    induction vs with
    | nil => exact fun _ => .nil
    | cons v vs ih =>
      intro h
      obtain ⟨x, tk, rfl⟩ := h v List.mem_cons_self
      exact .cons x tk (ih fun u hu => h u (List.mem_cons_of_mem _ hu))
  have hS := hS0 vs hvs
  have pn : (vs.map fun v => txt (0, v)).Perm ks := by
    have q := pm.map fun v => txt (0, v)
    rw [List.map_map] at q
    exact q.trans pk
  have hvl : vs.length = ks.length := by
    have := pn.length_eq
    rwa [List.length_map] at this
  refine wpAny_bind (wpAny_newList ?_ (by rw [hvl, sizeLine_eq]; omega))
  have hoL : (s1.heap.push (seqObj "list" vs.toArray 0)).get? s1.heap.objs.size = some (seqObj "list" vs.toArray 0) := Heap.get?_push_size _ rfl
  refine wpAny_bind (wpAny_holding (wpAny_call_entry PyProof.Rows.slot_list_sort ⟨_, hoL, rfl⟩ PyProof.Rows.entry_list_sort
    (list_sort_treeK strKind_oneLt hoL hS.keysOf (fun v₁ v₂ rest e => keyKind_strs (by rw [← e]; exact hS)) (by rw [hvl]; exact h64) fun st' hp hs => ⟨_, rfl, ?_⟩)
    (PyProof.Rows.args_list_sort _)))
  obtain ⟨ys, c1, c2, c3⟩ := sorted_out_str hS hp hs
  obtain ⟨e', he'⟩ := PyProof.Rows.sortedHeap_at (vs := vs) (out := (arrOf st').map (·.2)) hoL
  have hlen : (ys.map V.str).length ≤ sizeLine := by
    rw [List.length_map, c2.length_eq, pn.length_eq]
    exact Nat.le_trans (Nat.le_of_lt h64) (by decide)
  have keep : ∀ b u, s.heap.get? b = some u → (sortedHeap (s1.heap.push (seqObj "list" vs.toArray 0)) s1.heap.objs.size vs ((arrOf st').map (·.2))).get? b = some u := fun b u e => by
    have q := k1 b u e
    have hlt := Heap.lt_size q
    rw [PyProof.Rows.sortedHeap_old (Nat.ne_of_lt hlt) (by rw [size_push']; exact Nat.lt_succ_of_lt hlt)]
    exact Heap.get?_push_of_some _ q
  have hn : H s1.heap.objs.size = none := I.hok.fresh hz
  have J : Inv X pins σ (upd H s1.heap.objs.size (.lst (ys.map V.str))) { s with heap := sortedHeap (s1.heap.push (seqObj "list" vs.toArray 0)) s1.heap.objs.size vs ((arrOf st').map (·.2)), gens := s1.gens, drawn := s1.drawn, toks := s1.toks } :=
    I.call (ch := []) (Un.laid keep hz hn) (I.hok.laid keep hz ⟨hlen, ((arrOf st').map (·.2)).toList, e', vals_of_strs c1, by rw [Array.toArray_toList]; exact he'⟩) (by rw [g1]; exact I.bare) (fun _ z => nomatch z)
  refine wpAny_pure ⟨_, rfl, ?_⟩
  obtain ⟨hp1, gg1, dd1, tk1, os1⟩ := s1
  cases g1
  cases o1
  exact ⟨.ref hp1.objs.size, _, J, rfl, q ys _ (c2.trans pn) c3 hn⟩
end
end SetS
namespace Sj
open PySem L2 Sup StK Own Shw Exg Grd KepE
open NdefX (NF NScope ncx envF startF nscope_by)
open C8 (pss_cut tCut)
/-! k08: words of frames alike -/
/-- a word of a frame like d -/
def WdT (ks : Kinds) (CF CW : Addr) (H : Hp) (a : Addr) (d : BareD) (gv : List (Str × Int)) : Prop := ∃ ys, KindsOf ks ys d.ds d.ls ∧ Told ks ys d ∧ WdIs ks CF CW H a ⟨ys, d.t, d.g, d.r⟩ gv
theorem WdT.same {ks : Kinds} {CF CW : Addr} {H H' : Hp} {a : Addr} {d : BareD} {gv : List (Str × Int)} (h : WdT ks CF CW H a d gv) (s : Same H H') : WdT ks CF CW H' a d gv := by
  obtain ⟨ys, hk, ht, hw⟩ := h
  exact ⟨ys, hk, ht, hw.same s⟩
theorem WdT.but {ks : Kinds} {CF CW : Addr} {H H' : Hp} {a p l : Addr} {cs : List Int} {n : Nat} {d : BareD} {gv : List (Str × Int)} (h : WdT ks CF CW H a d gv) (hP : Pen H p l cs n) (b : But H H' p) : WdT ks CF CW H' a d gv := by
  obtain ⟨ys, hk, ht, hw⟩ := h
  exact ⟨ys, hk, ht, hw.but hP b⟩
theorem WdT.ins {ks : Kinds} {CF CW : Addr} {H : Hp} {a : Addr} {d : BareD} {gv : List (Str × Int)} (h : WdT ks CF CW H a d gv) : ∃ dx fs, H a = some (.ins CW dx fs) := by
  obtain ⟨ys, hk, ht, hw⟩ := h
  exact hw.ins
/-- the levels of the drivers -/
def lowD (d : BareD) (gv : List (Str × Int)) : List Str := lowZ (bAll d gv) d.t
theorem all_of {ks : Kinds} {ys : List LegR} {d : BareD} {gv : List (Str × Int)} (T : Told ks ys d) : lvAll ks ⟨ys, d.t, d.g, d.r⟩ gv = bAll d gv := by
  show (kindZ ks true ys).map (fun z => (z, lvl gv d.t z)) = _
  rw [T.dr]
  rfl
theorem low_mem {d : BareD} {gv : List (Str × Int)} {z : Str} : z ∈ lowD d gv ↔ z ∈ d.ds ∧ lvl gv d.t z < d.t := by
  unfold lowD lowZ bAll
  rw [List.mem_map]
  constructor
  · rintro ⟨p, hp, rfl⟩
    obtain ⟨h1, h2⟩ := List.mem_filter.mp hp
    obtain ⟨y, hy, rfl⟩ := List.mem_map.mp h1
    exact ⟨hy, of_decide_eq_true h2⟩
  · rintro ⟨h1, h2⟩
    exact ⟨(z, lvl gv d.t z), List.mem_filter.mpr ⟨List.mem_map.mpr ⟨z, h1, rfl⟩, decide_eq_true h2⟩, rfl⟩
theorem low_sub (d : BareD) (gv : List (Str × Int)) : (lowD d gv).Sublist d.ds := by
  unfold lowD lowZ bAll
  have h : (((d.ds.map fun z => (z, lvl gv d.t z)).filter fun p => decide (p.2 < d.t)).map (·.1)).Sublist ((d.ds.map fun z => (z, lvl gv d.t z)).map (·.1)) := List.Sublist.map _ List.filter_sublist
  rw [List.map_map] at h
  rwa [show d.ds.map ((fun x : Str × Int => x.1) ∘ fun z => (z, lvl gv d.t z)) = d.ds from List.map_id' _] at h
theorem wdT_eq {op : CmpOp} {K : PySem.W.Frag} {ks : Kinds} {CF CW : Addr} {H : Hp} {Q : VK} {a b : Addr} {d : BareD} {gv hv : List (Str × Int)} (ic : IsiC K CW) (nf : PySem.W.notFirst K CW (.ref CW) = true) (ha : WdT ks CF CW H a d gv) (hb : WdT ks CF CW H b d hv) (e : ∀ z ∈ d.ds, lvl gv d.t z = lvl hv d.t z) (k : ∀ H', Same H H' → Q (.bl (ansOf op true)) H') :
    rWw K ks CF CW op (.ref a) (.ref b) H Q := by
  obtain ⟨ys, hk, ht, hw⟩ := ha
  obtain ⟨zs, hk', ht', hw'⟩ := hb
  refine wd_eq (v := true) ic nf hw hw' ?_ k
  rw [eqWd_all ht (eqLegs_of hk hk')]
  exact List.all_eq_true.mpr fun z hz => decide_eq_true (e z hz)
/-- a & b -/
theorem and_rd {K : PySem.W.Frag} {ks : Kinds} {CF CW : Addr} {H : Hp} {Q : VK} {E : XK} {a b : Addr} {d : BareD} {gv hv : List (Str × Int)} (ic : IsiC K CW) (ok : d.ok) (ha : WdT ks CF CW H a d gv) (hb : WdT ks CF CW H b d hv)
    (k : ∀ r g3 H', H r = none → WdT ks CF CW H' r d g3 → (∀ z ∈ d.ds, lvl g3 d.t z = lvMin (lvl gv d.t z) (lvl hv d.t z)) → Same H H' → Q (.ref r) H') :
    ∃ a' dx fs t, V.ref a = .ref a' ∧ H a' = some (.ins CW dx fs) ∧ TyX K H (.ref b) t ∧ (RightT K CW "and" t ∨ t = .ref CW) ∧ spWAnd ks CF CW [.ref a', .ref b] H (fun z H3 => ∃ r : Addr, z = .ref r ∧ Q z H3) E := by
  obtain ⟨dx, fs, ea⟩ := ha.ins
  obtain ⟨dy, gs, eb⟩ := hb.ins
  obtain ⟨ys, hk, ht, hw⟩ := ha
  obtain ⟨zs, hk', ht', hw'⟩ := hb
  refine ⟨a, dx, fs, .ref CW, rfl, ea, .base (.ins eb ic.cl ic.ca ic.cn ic.ct ic.cm), .inr rfl, a, _, gv, b, _, hv, rfl, hw, hw', eqFr_self rfl rfl rfl (eqLegs_of hk' hk), fun r H' hr hR s => ⟨r, rfl, k r _ H' hr ⟨ys, hk, ht, hR⟩ (fun z hz => ?_) s⟩⟩
  unfold minL
  show lvl ((kindZ ks true ys).map fun z => (z, lvMin (lvl gv d.t z) (lvl hv d.t z))) d.t z = _
  rw [ht.dr]
  exact lvl_map (f := fun z => lvMin (lvl gv d.t z) (lvl hv d.t z)) (List.nodup_append.mp ok.nd).1 hz
theorem catA_rd {K : PySem.W.Frag} {H : Hp} {Q : VK} {a b : Addr} {xs ys : List Str} (ha : SqT K H a (strv xs)) (hb : SqT K H b (strv ys)) (hl : xs.length + ys.length ≤ 1000) (k : ∀ p H', SqT K H' p (strv (xs ++ ys)) → Same H H' → Q (.ref p) H') : rCatA K (.ref a) (.ref b) H Q := by
  have e1 : (strv xs).length = xs.length := List.length_map _
  have e2 : (strv ys).length = ys.length := List.length_map _
  refine ⟨a, b, strv xs, strv ys, rfl, rfl, ha, hb, by rw [e1, e2]; exact Nat.le_trans hl (by decide), fun h => ?_, fun _ h => ?_, fun _ _ p hp => ?_⟩
  · have : xs = [] := List.map_eq_nil_iff.mp h
    rw [this] at k
    exact k b H hb (Same.refl H)
  · have : ys = [] := List.map_eq_nil_iff.mp h
    rw [this, List.append_nil] at k
    exact k a H ha (Same.refl H)
  · refine k p _ ?_ (same_at hp)
    unfold strv
    rw [List.map_append]
    exact SqT.of upd_same
abbrev sWrd : Stmt := top 35
abbrev sLon : Stmt := top 36
abbrev nLo : List Str := ["_law_bare_here", "_law_made", "_law_levels_so", "_law_tag"]
theorem scWrd : FnScope ["_law_made", "_law_levels_so"] ["_law_made", "_law_levels_so"] (defScope sWrd) := ⟨rfl, rfl, rfl, by decide +kernel, rfl, by decide +kernel, by decide +kernel⟩
theorem scLo : FnScope nLo ["_law_bare_here", "_law_made", "_law_levels_so"] (defScope sLon) := ⟨rfl, rfl, rfl, by decide +kernel, rfl, by decide +kernel, by decide +kernel⟩
def spWrd (ks : Kinds) (CF CW : Addr) : Sp := fun vs H Q _ => ∃ f L d gv, vs = [.ref f, .ref L] ∧ FrIs ks CF H f d ∧ H L = some (.dK (gv.map lvRow)) ∧ LvOk ks d gv ∧ 1 ≤ d.t ∧ d.t ≤ 3 ∧ ∀ a H', H a = none → WdIs ks CF CW H' a d gv → Same H H' → Q (.ref a) H'
def spLon (ks : Kinds) (CF CW : Addr) : Sp := fun vs H Q _ => ∃ b m L d gv, vs = [.ref b, .ref m, .ref L] ∧ FrIs ks CF H m d ∧ LvAt H L gv ∧ (gv.map (·.1)).Nodup ∧ LvOk ks d gv ∧ 1 ≤ d.t ∧ d.t ≤ 3 ∧
  ∀ q as zs H', zs.Perm (gv.map (·.1)) → Paired (fun a z => WdIs ks CF CW H' a d [(z, lvl gv d.t z)]) as zs → H' q = some (.lst (as.map V.ref)) → H q = none → Same H H' → Q (.ref q) H'
def teLo (ks : Kinds) (CF CW : Addr) : TE := tCMethK CW ([] : List Str).length (fun vs zs H Q E => vs.length = 4 ∧ spWLone ks CF CW vs H Q E) E0 (tC (.ref CW)) (tCons (tVar 1) (tCons (tVar 3) (tCons (tDGet (tVar 2) (tVar 3)) tNil))) tNil
structure W8K (P : Program) (w : World) (K : PySem.W.Frag) (mg : Str → Option Value) (base : Heap) (ks : Kinds) (CF CW gO gR gL : Addr) : Prop where
  mW : mg "Word" = some (.ref CW)
  cls : ∃ mc pO pR pL, ClX.CRead K CW mc ∧ ClX.CMet K CW mc "of" pO gO ∧ ClX.CMet K CW mc "rest" pR gR ∧ ClX.CMet K CW mc "lone" pL gL
  of0 : FnK P w K mg base CX0 8 gO [] (fun vs zs H Q E => vs.length = 3 ∧ spWOf ks CF CW vs H Q E)
  re0 : FnK P w K mg base CX0 8 gR [] (fun vs zs H Q E => vs.length = 2 ∧ spWRest ks CF CW vs H Q E)
  lo0 : FnK P w K mg base CX0 9 gL [] (fun vs zs H Q E => vs.length = 4 ∧ spWLone ks CF CW vs H Q E)
theorem paired_snoc {α β : Type} {F : α → β → Prop} : ∀ {xs : List α} {ys : List β} {x : α} {y : β}, Paired F xs ys → F x y → Paired F (xs ++ [x]) (ys ++ [y])
  | _, _, _, _, .nil, h => .cons h .nil
  | _, _, _, _, .cons r t, h => .cons r (paired_snoc t h)
section
variable {P : Program} {w : World} {K : PySem.W.Frag} {mg : Str → Option Value} {base : Heap}
theorem ok_wrd {f CF CW gO gR gL : Addr} {fd : FuncData} {ks : Kinds} (F : Fun K "_law_word" "_law_word" sWrd f fd) (T : W8K P w K mg base ks CF CW gO gR gL) : FnOk P w K mg base CX0 9 f fd ["_law_made", "_law_levels_so"] (spWrd ks CF CW) := by
  obtain ⟨mcW, pO, pR, pL, crW, cO, cR, cL⟩ := T.cls
  refine F.ok scWrd (fun vs H Q E h => ?_) (fun cdv A outer s H vs Q E hr h => ?_)
  · obtain ⟨f, L, d, gv, rfl, _⟩ := h
    rfl
  · obtain ⟨f, L, d, gv, rfl, hF, hL, ok, t1, t3, k⟩ := h
    refine ⟨_, pss_one (ps_ret (pe_cmethK (pe_glob rfl T.mW (v := .ref CW) rfl) crW cO T.of0 hr pass0 (pa_cons (pv 0) (pa_cons (pv 1) pa_nil)) pk_nil)), ?_⟩
    exact ⟨rfl, _, rfl, _, rfl, rfl, rfl, f, L, d, gv, rfl, hF, hL, ok, t1, t3, fun a H' ha hw s _ => k a H' ha hw s⟩
theorem ok_lon {f CF CW gO gR gL : Addr} {fd : FuncData} {ks : Kinds} (F : Fun K "_law_lone_words" "_law_lone_words" sLon f fd) (T : W8K P w K mg base ks CF CW gO gR gL) (mS : mg "sorted" = none) (mL : mg "list" = none) : FnOk P w K mg base CX0 10 f fd ["_law_bare_here", "_law_made", "_law_levels_so"] (spLon ks CF CW) := by
  obtain ⟨mcW, pO, pR, pL, crW, cO, cR, cL⟩ := T.cls
  refine F.ok scLo (fun vs H Q E h => ?_) (fun cdv A outer s H vs Q E hr h => ?_)
  · obtain ⟨b, m, L, d, gv, rfl, _⟩ := h
    rfl
  · obtain ⟨b, m, L, d, gv, rfl, hF, hL, hnd, ok, t1, t3, k⟩ := h
    have hu := hu_of hr
    refine ⟨_, pss_one (ps_ret (pe_lc (te := teLo ks CF CW) (tt := tYes) (own := [("_law_tag", 3)]) (g := gName 3) rfl scLo.nd (pi_list (pe_callB cr_sortedS (by rfl) mS (by decide +kernel) (pa_cons (pe_callTy (T := "list") (call_list_dK rfl) (by rfl) mL (by decide +kernel) (pa_cons (pv 2) pa_nil)) pa_nil)))
      (blkOk_by (N := nLo) (sc := defScope sLon) (by decide +kernel)) (fun _ _ _ _ _ => pg_name (i := 3) scLo.nd rfl (Or.inl rfl)) (fun _ _ _ _ _ => pts_nil)
      (fun _ _ _ _ _ => pe_cmethK (pe_glob rfl T.mW (v := .ref CW) rfl) crW cL T.lo0 hr pass0 (pa_cons (pv 1) (pa_cons (pv 3) (pa_cons (pe_dget hu (pv 2) (pv 3) (fun _ _ => rfl)) pa_nil))) pk_nil))), ?_⟩
    have hzl : (gv.map (·.1)).length ≤ 60 := by rw [List.length_map]; exact ok.1
    refine ⟨_, rfl, L, _, rfl, hL, fun lk hlk => ?_⟩
    rw [strv_rows]
    have s1 := same_at (o := .lst (strv (gv.map (·.1)))) hlk
    refine ⟨lk, gv.map (·.1), rfl, SqL.of upd_same, by omega, fun zs q hp hso hq => ?_⟩
    have s2 := same_at (o := .lst (strv zs)) hq
    obtain ⟨H2, e2⟩ : ∃ H2, H2 = upd (upd H lk (.lst (strv (gv.map (·.1))))) q (.lst (strv zs)) := ⟨_, rfl⟩
    have hq2 : H2 q = some (.lst (strv zs)) := by rw [e2]; exact upd_same
    have s02 : Same H H2 := by rw [e2]; exact s1.trans s2
    have hzz : zs.length ≤ 60 := by rw [hp.length_eq]; exact hzl
    have hlm : (strv zs).length = zs.length := List.length_map _
    refine ⟨q, rfl, ⟨_, SqL.of upd_same⟩, ?_⟩
    rw [show upd (upd H lk (.lst (strv (gv.map (·.1))))) q (.lst (zs.map V.str)) = H2 from e2.symm]
    refine fun D hD => ?_
    refine lc_it (walk_list (K := K) (a := q) (xs := strv zs)) (fun i H' => Same H2 H' ∧ ∃ as : List Addr, H' D = some (.lst (as.map V.ref)) ∧ Paired (fun a z => WdIs ks CF CW H' a d [(z, lvl gv d.t z)]) as (zs.take i)) ⟨same_at hD, [], upd_same, .nil⟩ (fun i H' _ p => SqL.of (p.1 _ _ hq2)) ?_ ?_
    · rintro i x H3o H3 hi ⟨s3, as, d3, hpr⟩ ⟨rfl, hx⟩
      rw [hlm] at hi
      have ex : (strv zs)[i]? = some (.str zs[i]) := by show (zs.map V.str)[i]? = _; rw [List.getElem?_map, List.getElem?_eq_getElem hi]; rfl
      rw [ex] at hx
      obtain rfl := Option.some.inj hx
      refine ⟨rfl, ?_⟩
      unfold tYes
      dsimp only
      rw [if_pos rfl]
      have s03 := s02.trans s3
      obtain ⟨j, ej⟩ := lvG_of (hp.mem_iff.mp (List.getElem_mem hi))
      have elj : lvl gv d.t zs[i] = j := by unfold lvl; rw [ej]; rfl
      obtain ⟨c1, c2, c3⟩ := ok.2 _ (lvG_mem ej)
      have hg : DGet H3 L (.str zs[i]) (some (.int j)) := by
        have := lvGet (gv := gv) (s03 _ _ hL) zs[i]
        rw [ej] at this
        exact this
      refine ⟨rfl, _, rfl, _, rfl, _, rfl, _, rfl, L, _, rfl, hg, rfl, rfl, m, d, zs[i], j, rfl, hF.same s03, c1, c2, c3, t1, t3, fun a H5 ha hw s35 => ?_⟩
      have s25 := s3.trans s35
      have nDa : a ≠ D := fun z => by rw [z, d3] at ha; cases ha
      have hlas : as.length = i := by
        have := Paired.length hpr
        rw [List.length_take] at this
        omega
      refine ⟨_, s35 _ _ d3, ?_, fun c o hc => ?_, as ++ [a], ?_, ?_⟩
      · rw [List.length_map, hlas]
        exact Nat.lt_of_lt_of_le (show i < 60 by omega) (by decide)
      · rw [upd_ne (ne_of_none hc hD)]
        exact s25 _ _ hc
      · rw [upd_same, List.map_append]
        rfl
      · have keep : ∀ {a : Addr} {z : Str} {g : List (Str × Int)} {o : HO}, WdIs ks CF CW H5 a d g → WdIs ks CF CW (upd H5 D o) a d g := fun {a z g o} hw => by
          obtain ⟨f, dx, DD, h1, h2, h3, h4⟩ := hw.ex
          have hd5 := s35 _ _ d3
          obtain ⟨fx, fD, g1, g2, g3⟩ := h4.at_
          have b : But H5 (upd H5 D o) D := .upd _ _ _
          exact ⟨⟨f, dx, DD, b _ _ (ne_of h1 hd5 (by intro z; cases z)) h1, b _ _ (ne_of h2 hd5 (by intro z; cases z)) h2, h3, ⟨⟨fx, fD, b _ _ (ne_of g1 hd5 (by intro z; cases z)) g1, b _ _ (ne_of g2 hd5 (by intro z; cases z)) g2, g3⟩, fun r hr => (h4.ok r hr).butq hd5 b, h4.nd, h4.le, h4.so⟩⟩, hw.ok, hw.t1, hw.t3⟩
        rw [List.take_add_one, List.getElem?_eq_getElem hi]
        refine paired_snoc (paired_imp hpr fun a z hw' => keep (z := z) (hw'.same s35)) ?_
        rw [elj]
        exact keep (z := zs[i]) hw
    · rintro H3 ⟨s3, as, d3, hpr⟩
      rw [hlm, List.take_length] at hpr
      refine k D as zs H3 hp hpr d3 ?_ (s02.trans s3)
      exact s02.free hD
end
end Sj
namespace Sj
open PySem L2 Sup StK Own Shw Exg Grd KepE
open NdefX (NF NScope ncx envF startF nscope_by)
open C8 (pss_cut tCut)
/-! k08: _law_both_right -/
abbrev sBth : Stmt := top 37
abbrev nBt8 : List Str := ["_law_bare_here", "_law_one", "_law_two", "_law_both", "_law_tag"]
theorem scBth : FnScope nBt8 ["_law_bare_here", "_law_one", "_law_two", "_law_both"] (defScope sBth) := ⟨rfl, rfl, rfl, by decide +kernel, rfl, by decide +kernel, by decide +kernel⟩
theorem pAt {CX : CXT} {X : Cx} {E : XK} (h : Passes CX X E) : ∀ σ, PassesAt CX X σ E := fun σ pins H s e s' I q => h pins σ H s e s' I q
structure BtT (P : Program) (w : World) (K : PySem.W.Frag) (mg : Str → Option Value) (base : Heap) (ks : Kinds) (CF CW CN : Addr) : Prop where
  wd : WdP P w K mg base ks CF CW CN
  and : BinG P w K mg base CX0 8 CW "and" ["self", "other"] (spWAnd ks CF CW)
  repr : mg "repr" = none
  min : mg "min" = none
  sorted : mg "sorted" = none
  set : mg "set" = none
  list : mg "list" = none
  bool : mg "bool" = none
def spBth (ks : Kinds) (CF CW : Addr) : Sp := fun vs H Q _ => ∃ b d p w1 g1 w2 g2 w3 g3, vs = [.ref b, .ref w1, .ref w2, .ref w3] ∧ BareAt H b d p ∧ d.ok ∧ WdT ks CF CW H w1 d g1 ∧ WdT ks CF CW H w2 d g2 ∧ WdT ks CF CW H w3 d g3 ∧
  LvB d g1 ∧ LvB d g2 ∧ (∀ z ∈ d.ds, lvl g3 d.t z = lvMin (lvl g1 d.t z) (lvl g2 d.t z)) ∧ ∀ H', Same H H' → Q (.bl true) H'
theorem sm_int {i : Int} (h0 : 0 ≤ i) (h3 : i ≤ 3) : Smalls (.int i) := by
  obtain rfl | rfl | rfl | rfl : i = 0 ∨ i = 1 ∨ i = 2 ∨ i = 3 := by omega
  all_goals exact smalls_of (by decide +kernel)
/-- word[tag] of a driver -/
theorem get_rd {K : PySem.W.Frag} {ks : Kinds} {CF CW CN : Addr} {H : Hp} {Q : VK} {E : XK} {a : Addr} {d : BareD} {gv : List (Str × Int)} {z : Str} (ha : WdT ks CF CW H a d gv) (hz : z ∈ d.ds) (q : Q (.int (lvl gv d.t z)) H) : spWGet K ks CF CW CN [.ref a, .str z] H Q E := by
  obtain ⟨ys, hk, ht, hw⟩ := ha
  refine ⟨a, _, gv, _, rfl, hw, .inl ⟨z, ht.pm.mem_iff.mpr (List.mem_append_left _ hz), rfl, ?_⟩⟩
  rw [wlv_eq, if_pos (by show z ∈ kindZ ks true ys; rw [ht.dr]; exact hz)]
  exact q
theorem low_rd {ks : Kinds} {CF CW : Addr} {H : Hp} {Q : VK} {E : XK} {a : Addr} {d : BareD} {gv : List (Str × Int)} (ha : WdT ks CF CW H a d gv) (k : ∀ p H', H p = none → H' p = some (.tup (strv (lowD d gv))) → Same H H' → Q (.ref p) H') : ∃ a' C dx fs, V.ref a = .ref a' ∧ H a' = some (.ins C dx fs) ∧ C = CW ∧ spWLow ks CF CW [.ref a'] H Q E := by
  obtain ⟨dx, fs, ea⟩ := ha.ins
  obtain ⟨ys, hk, ht, hw⟩ := ha
  refine ⟨a, CW, dx, fs, rfl, ea, rfl, a, _, gv, rfl, hw, fun p H' hp h s => k p H' hp ?_ s⟩
  rw [all_of ht] at h
  exact h
theorem low_pw {d : BareD} (ok : d.ok) (gv : List (Str × Int)) : (lowD d gv).Pairwise OrdS.Le := ok.sd.sublist (low_sub d gv)
theorem low_nd {d : BareD} (ok : d.ok) (gv : List (Str × Int)) : (lowD d gv).Nodup := (List.nodup_append.mp ok.nd).1.sublist (low_sub d gv)
theorem low_len (d : BareD) (ok : d.ok) (gv : List (Str × Int)) : (lowD d gv).length ≤ 16 := Nat.le_trans (low_sub d gv).length_le (by have := ok.le; omega)
theorem min_lt {i j t : Int} : lvMin i j < t ↔ i < t ∨ j < t := by
  unfold lvMin
  split <;> omega
theorem low_min {d : BareD} {g1 g2 g3 : List (Str × Int)} (h : ∀ z ∈ d.ds, lvl g3 d.t z = lvMin (lvl g1 d.t z) (lvl g2 d.t z)) (z : Str) : z ∈ lowD d g3 ↔ z ∈ lowD d g1 ++ lowD d g2 := by
  rw [List.mem_append, low_mem, low_mem, low_mem]
  constructor
  · rintro ⟨m, l⟩
    rw [h z m, min_lt] at l
    exact l.imp (fun q => ⟨m, q⟩) fun q => ⟨m, q⟩
  · rintro (⟨m, l⟩ | ⟨m, l⟩)
    · exact ⟨m, by rw [h z m, min_lt]; exact .inl l⟩
    · exact ⟨m, by rw [h z m, min_lt]; exact .inr l⟩
theorem pool_strok : ∀ z ∈ poolS, PyData.strOk z = true := by
  have h : (poolS.all fun z => PyData.strOk z) = true := by decide +kernel
  exact List.all_eq_true.mp h
theorem bool_or {xs ys zs : List Str} (h : ∀ z, z ∈ zs ↔ z ∈ xs ++ ys) : (!zs.isEmpty) = (!xs.isEmpty || !ys.isEmpty) := by
  cases xs with
  | cons x xs =>
    have : x ∈ zs := (h x).mpr List.mem_cons_self
    cases zs with
    | nil => cases this
    | cons _ _ => rfl
  | nil =>
    cases ys with
    | cons y ys =>
      have : y ∈ zs := (h y).mpr List.mem_cons_self
      cases zs with
      | nil => cases this
      | cons _ _ => rfl
    | nil =>
      cases zs with
      | nil => rfl
      | cons z zs => cases (h z).mp List.mem_cons_self
/-- bool(word) -/
theorem bl_rd {ks : Kinds} {CF CW : Addr} {H : Hp} {R : VK} {E : XK} {a : Addr} {d : BareD} {gv : List (Str × Int)} (ha : WdT ks CF CW H a d gv) (k : ∀ H', Same H H' → R (.bl (!(lowD d gv).isEmpty)) H') : ∃ a' C dx fs, [V.ref a] = [.ref a'] ∧ H a' = some (.ins C dx fs) ∧ C = CW ∧ spWBool ks CF CW [.ref a'] H R E := by
  obtain ⟨dx, fs, ea⟩ := ha.ins
  obtain ⟨ys, hk, ht, hw⟩ := ha
  refine ⟨a, CW, dx, fs, rfl, ea, rfl, a, _, gv, rfl, hw, fun H' s => ?_⟩
  rw [all_of ht]
  exact k H' s
section
variable {P : Program} {w : World} {K : PySem.W.Frag} {mg : Str → Option Value} {base : Heap}
theorem ok_bth {f CF CW CN : Addr} {fd : FuncData} {ks : Kinds} (F : Fun K "_law_both_right" "_law_both_right" sBth f fd) (T : BtT P w K mg base ks CF CW CN) : FnG P w K mg base CX0 10 f fd ["_law_bare_here", "_law_one", "_law_two", "_law_both"] (spBth ks CF CW) := by
  obtain ⟨gB, fdB, hB1, hB2, hB3, hB4⟩ := T.wd.boo
  refine fun_g F scBth (fun vs H Q E h => ?_) (fun cdv A outer s H vs Q E hg hr h => ?_)
  · obtain ⟨b, d, p, w1, g1, w2, g2, w3, g3, rfl, _⟩ := h
    rfl
  · obtain ⟨b, d, p, w1, g1, w2, g2, w3, g3, rfl, hB, ok, h1, h2, h3, v1, v2, hm, k⟩ := h
    have hr2 := hr.mono (show 2 ≤ 9 by decide)
    have hr4 := hr.mono (show 4 ≤ 9 by decide)
    have hr8 := hr.mono (show 8 ≤ 9 by decide)
    have hu := hu_of hr
    have EW : ∀ X : Cx, X.prog = P → X.w = w → X.K = K → X.mg = mg → X.base = base → Room 8 X.A → ∀ C, C = CW → EqC X C (spWEq K ks CF CW) := fun X q1 q2 q3 q4 q5 hr C e => by
      subst e q1 q2 q3 q4 q5
      exact T.wd.eq.eqC hr
    refine ⟨_, pss_cut (ps_for PassesOwn.never rfl (pi_list (pe_dget hu (pv 0) pe_str (fun _ _ => rfl))) (pg_name (i := 4) scBth.nd rfl (Or.inl rfl))
        (pss_one (ps_if (pt_cmpR op_ne (pe_callB (call_show hg hr.units) (by rfl) T.repr (by decide +kernel) (pa_cons (pe_itO T.wd.get hg hr4 (passNo rfl rfl) (pv 3) (pv 4)) pa_nil))
          (pe_callB (call_show hg hr.units) (by rfl) T.repr (by decide +kernel) (pa_cons (pe_callB (call_min2 rfl) (by rfl) T.min (by decide +kernel) (pa_cons (pe_itO T.wd.get hg hr4 (passNo rfl rfl) (pv 1) (pv 4)) (pa_cons (pe_itO T.wd.get hg hr4 (passNo rfl rfl) (pv 2) (pv 4)) pa_nil))) pa_nil)) (nomark _)) (pss_one (ps_ret pe_bl)) pss_nil)))
      (pss_cons (ps_if (PW.pt (pw_or (pt_cmpR (op_neD hr.units) (pe_callB (SetS.call_sortedX rfl) (by rfl) T.sorted (by decide +kernel) (pa_cons (pe_callTy (T := "set") (SetS.call_setT rfl) (by rfl) T.set (by decide +kernel)
            (pa_cons (pe_op op_catA (pe_propS (S := fun C => C = CW) (spP := fun _ => spWLow ks CF CW) (pv 1) (fun C e => by rw [e]; exact T.wd.low) hr2) (pe_propS (S := fun C => C = CW) (spP := fun _ => spWLow ks CF CW) (pv 2) (fun C e => by rw [e]; exact T.wd.low) hr2)) pa_nil)) pa_nil))
            (pe_callTy (T := "list") call_list_of (by rfl) T.list (by decide +kernel) (pa_cons (pe_propS (S := fun C => C = CW) (spP := fun _ => spWLow ks CF CW) (pv 3) (fun C e => by rw [e]; exact T.wd.low) hr2) pa_nil)) (nomark _))
          (pw_or1 (pt_cmpR op_ne (pe_callTy (T := "bool") (call_boolOwn (S := fun C => C = CW) (spS := fun _ => spWBool ks CF CW) (fun C e => by rw [e]; exact ⟨gB, fdB, 3, hB1, hB2, hB3, hr.mono (by decide), hB4⟩)) (by rfl) T.bool (by decide +kernel) (pa_cons (pv 3) pa_nil))
            (pe_or (pe_callTy (T := "bool") (call_boolOwn (S := fun C => C = CW) (spS := fun _ => spWBool ks CF CW) (fun C e => by rw [e]; exact ⟨gB, fdB, 3, hB1, hB2, hB3, hr.mono (by decide), hB4⟩)) (by rfl) T.bool (by decide +kernel) (pa_cons (pv 1) pa_nil))
              (pe_one (pe_callTy (T := "bool") (call_boolOwn (S := fun C => C = CW) (spS := fun _ => spWBool ks CF CW) (fun C e => by rw [e]; exact ⟨gB, fdB, 3, hB1, hB2, hB3, hr.mono (by decide), hB4⟩)) (by rfl) T.bool (by decide +kernel) (pa_cons (pv 2) pa_nil)))) (nomark _)))))
          (pss_one (ps_ret pe_bl)) pss_nil)
      (pss_one (ps_ret (pe_and (pe_cmpR (op_ownE (.inl rfl) (S := fun C => C = CW) (spE := fun _ => spWEq K ks CF CW) (EW _ rfl rfl rfl rfl rfl hr8)) (pe_binS (E := fun _ => E0) T.and hg hr8 (pAt pass0) (pv 3) (pv 1)) (pv 3) (nomark _))
        (pe_one (pe_cmpR (op_ownE (.inl rfl) (S := fun C => C = CW) (spE := fun _ => spWEq K ks CF CW) (EW _ rfl rfl rfl rfl rfl hr8)) (pe_binS (E := fun _ => E0) T.and hg hr8 (pAt pass0) (pv 2) (pv 3)) (pv 3) (nomark _))))))), ?_⟩
    have t1 := ok.t1
    have t3 := ok.t3
    have hd16 : d.ds.length ≤ 16 := by have := ok.le; omega
    have ndd : d.ds.Nodup := (List.nodup_append.mp ok.nd).1
    obtain ⟨dl, ll, rl, hb, hdl, hll, hrl, _⟩ := hB.ex
    have bd : ∀ {gv : List (Str × Int)}, LvB d gv → ∀ z, 0 ≤ lvl gv d.t z ∧ lvl gv d.t z ≤ 3 := fun hv z => by
      have := lvlB hv ok z
      omega
    refine ⟨fun σ H' => (∃ o, σ = [some (.ref b), some (.ref w1), some (.ref w2), some (.ref w3), o]) ∧ Same H H', ?_, ?_⟩
    · refine ⟨_, rfl, b, _, rfl, DGet.k (k := Sum.inr "drivers") hb, dl, rfl, ⟨_, SqL.of hdl⟩, ?_⟩
      refine for_list (xs := strv d.ds) (fun i σ H' => (∃ o, σ = [some (.ref b), some (.ref w1), some (.ref w2), some (.ref w3), o]) ∧ Same H H') ⟨⟨_, rfl⟩, Same.refl H⟩ (fun i σ H' _ h => SqL.of (h.2 _ _ hdl)) ?_ (fun σ H' h => h)
      rintro i x σ H1 hx ⟨⟨o, rfl⟩, s1⟩
      obtain ⟨z, hz, rfl⟩ : ∃ z ∈ d.ds, x = .str z := by
        obtain ⟨z, hz, e⟩ := List.mem_map.mp (List.mem_of_getElem? hx)
        exact ⟨z, hz, e.symm⟩
      obtain ⟨dx1, fs1, e1⟩ := (h1.same s1).ins
      obtain ⟨dx2, fs2, e2⟩ := (h2.same s1).ins
      obtain ⟨dx3, fs3, e3⟩ := (h3.same s1).ins
      have b1 := bd v1 z
      have b2 := bd v2 z
      have b3 : 0 ≤ lvMin (lvl g1 d.t z) (lvl g2 d.t z) ∧ lvMin (lvl g1 d.t z) (lvl g2 d.t z) ≤ 3 := by
        unfold lvMin
        split <;> omega
      refine ⟨_, rfl, _, rfl, w3, dx3, fs3, rfl, e3, get_rd (h3.same s1) hz ?_⟩
      rw [hm z hz]
      refine ⟨_, .int _, rfl, .int _, (sm_int b3.1 b3.2).fit, ?_⟩
      refine ⟨_, rfl, _, rfl, w1, dx1, fs1, rfl, e1, get_rd (h1.same s1) hz ?_⟩
      refine ⟨_, rfl, _, rfl, w2, dx2, fs2, rfl, e2, get_rd (h2.same s1) hz ?_⟩
      refine ⟨_, _, rfl, _, .int (lvMin (lvl g1 d.t z) (lvl g2 d.t z)), rfl, .int _, (sm_int b3.1 b3.2).fit, rfl, _, rfl, ?_⟩
      rw [decide_eq_true rfl]
      exact iteF ⟨⟨_, rfl⟩, s1⟩
    · rintro σ H1 ⟨⟨o, rfl⟩, s1⟩
      have l1 := low_len d ok g1
      have l2 := low_len d ok g2
      refine ⟨_, rfl, low_rd (h1.same s1) fun p1 H2 hp1 hv2 s2 => ?_⟩
      have s02 := s1.trans s2
      refine ⟨_, rfl, low_rd (h2.same s02) fun p2 H3 hp2 hv3 s3 => ?_⟩
      have s03 := s02.trans s3
      refine catA_rd (SqT.of (s3 _ _ hv2)) (SqT.of hv3) (by omega) fun pc H4 hc s4 => ?_
      have s04 := s03.trans s4
      refine ⟨pc, lowD d g1 ++ lowD d g2, rfl, hc, by rw [List.length_append]; omega, fun ps hps => ?_⟩
      have s5 := same_at (o := SetS.SetX w ps (SetS.setL (lowD d g1 ++ lowD d g2))) hps
      refine ⟨ps, SetS.setL (lowD d g1 ++ lowD d g2), rfl, upd_same, ?_, fun zs q hperm hso hq => ?_⟩
      · have := SetS.setL_len (lowD d g1 ++ lowD d g2)
        rw [List.length_append] at this
        omega
      have ez : zs = lowD d g3 := by
        refine OrdS.pw_uniq ((List.perm_ext_iff_of_nodup (hperm.nodup_iff.mpr (SetS.setL_nd _)) (low_nd ok g3)).mpr fun z => ?_) (OrdS.sorted_pw hso) (low_pw ok g3)
        rw [hperm.mem_iff, SetS.setL_mem, low_min hm]
      subst ez
      have s6 := same_at (o := .lst ((lowD d g3).map V.str)) hq
      have hq6 : (upd (upd H4 ps (SetS.SetX w ps (SetS.setL (lowD d g1 ++ lowD d g2)))) q (.lst ((lowD d g3).map V.str))) q = some (.lst (strv (lowD d g3))) := upd_same
      have s06 := (s04.trans s5).trans s6
      refine ⟨_, rfl, low_rd (h3.same s06) fun p3 H7 hp3 hv7 s7 => ⟨p3, _, rfl, .inr (SqT.of hv7), fun q2 hq2 => ?_⟩⟩
      have s8 := same_at (o := .lst (strv (lowD d g3))) hq2
      have sd := strs_data (zs := lowD d g3) fun z hz => pool_strok z (ok.po z (List.mem_append_left _ (low_mem.mp hz).1))
      refine ⟨.list ((lowD d g3).map PyData.str), .list ((lowD d g3).map PyData.str), .lst (SqL.of (s8 _ _ (s7 _ _ hq6))) (dp_strv _), .lst (SqL.of upd_same) (dp_strv _), sd.1, sd.1, _, rfl, ?_⟩
      rw [sd.2]
      have s08 := (s06.trans s7).trans s8
      obtain ⟨H8, e8⟩ : ∃ H8, H8 = upd H7 q2 (.lst (strv (lowD d g3))) := ⟨_, rfl⟩
      rw [← e8] at s08 ⊢
      -- truth
      refine iteF ⟨_, rfl, bl_rd (h3.same s08) fun H9 s9 => ⟨_, rfl, ?_⟩⟩
      have s09 := s08.trans s9
      refine ⟨_, rfl, bl_rd (h1.same s09) fun H10 s10 => ⟨_, rfl, ?_⟩⟩
      have s010 := s09.trans s10
      have ebo := bool_or (low_min hm)
      have fin : ∀ H', Same H H' → tTest (fun _ H Q => Q (.bl false) H) [] H' fun b H2 => b = false := fun H' _ => ⟨_, rfl, rfl⟩
      have last : ∀ H', Same H H' → (tAndV (tOp (rWw K ks CF CW .Eq) (tBinS K CW "and" (spWAnd ks CF CW) (fun _ => E0) (tVar 3) (tVar 1)) (tVar 3)) (tOp (rWw K ks CF CW .Eq) (tBinS K CW "and" (spWAnd ks CF CW) (fun _ => E0) (tVar 2) (tVar 3)) (tVar 3))) [some (.ref b), some (.ref w1), some (.ref w2), some (.ref w3), o] H' Q := fun H' s => by
        refine ⟨_, rfl, _, rfl, and_rd T.wd.icW ok (h3.same s) (h1.same s) fun r g4 HA hrn hR e4 sA => ?_⟩
        have sa := s.trans sA
        refine ⟨_, rfl, wdT_eq T.wd.icW T.wd.nfW hR (h3.same sa) (fun z hz => ?_) fun HB sB => ⟨_, rfl, iteT ?_⟩⟩
        · rw [e4 z hz, hm z hz]
          unfold lvMin
          split <;> split <;> omega
        have sb := sa.trans sB
        refine ⟨_, rfl, _, rfl, and_rd T.wd.icW ok (h2.same sb) (h3.same sb) fun r g5 HC hrn hR e5 sC => ?_⟩
        have sc := sb.trans sC
        refine ⟨_, rfl, wdT_eq T.wd.icW T.wd.nfW hR (h3.same sc) (fun z hz => ?_) fun HD sD => k HD (sc.trans sD)⟩
        rw [e5 z hz, hm z hz]
        unfold lvMin
        split <;> split <;> omega
      refine ⟨_, rfl, ?_⟩
      cases c1 : (lowD d g1).isEmpty with
      | false =>
        rw [c1] at ebo
        refine iteT ⟨rfl, _, rfl, ?_⟩
        rw [ebo]
        exact iteF (last H10 s010)
      | true =>
        rw [c1] at ebo
        refine iteF ⟨_, rfl, bl_rd (h2.same s010) fun H11 s11 => ⟨_, rfl, rfl, _, rfl, ?_⟩⟩
        rw [ebo]
        rw [show (!true || !(lowD d g2).isEmpty) = !(lowD d g2).isEmpty from rfl, decide_eq_true rfl]
        exact iteF (last H11 (s010.trans s11))
end
end Sj
namespace Sj
open PySem L2 Sup StK Own Shw Exg Grd KepE
/-! k08: a frame with one leg more -/
theorem str_rd {ks : Kinds} {CF CW : Addr} {H : Hp} {R : VK} {E : XK} {a : Addr} {d : FrD} {gv : List (Str × Int)} (ha : WdIs ks CF CW H a d gv) (hz : ∀ z ∈ kindZ ks true d.ys, z.length ≤ 100) (k : ∀ H', Same H H' → R (.str (wdTx (lvAll ks d gv) d.t)) H') : ∃ a' C dx fs, [V.ref a] = [.ref a'] ∧ H a' = some (.ins C dx fs) ∧ C = CW ∧ spWStr ks CF CW id [.ref a'] H R E := by
  obtain ⟨dx, fs, ea⟩ := ha.ins
  exact ⟨a, CW, dx, fs, rfl, ea, rfl, a, d, gv, rfl, ha, hz, k⟩
theorem ints_data (is : List Int) (h : ∀ i ∈ is, 0 ≤ i ∧ i ≤ 3) : SeqAt.shaped (.list (is.map PyData.int)) = true ∧ PyData.eqv (.list (is.map PyData.int)) (.list (is.map PyData.int)) = true := by
  refine ⟨shaped_ints is, eqv_flat fun d hd => ?_⟩
  obtain ⟨z, _, rfl⟩ := List.mem_map.mp hd
  simp [PyData.eqv]
def MoreF (ks : Kinds) (CF : Addr) (H : Hp) (a : Addr) (ys : List LegR) (d : BareD) : Prop := ∃ ysw C an, FrIs ks CF H a ⟨ysw, d.t, d.g, d.r⟩ ∧ ysw.Perm (ys ++ [⟨an, C, "other"⟩]) ∧ (C = ks.drv ∨ C = ks.lis)
theorem MoreF.same {ks : Kinds} {CF : Addr} {H H' : Hp} {a : Addr} {ys : List LegR} {d : BareD} (h : MoreF ks CF H a ys d) (s : Same H H') : MoreF ks CF H' a ys d := by
  obtain ⟨ysw, C, an, h1, h2⟩ := h
  exact ⟨ysw, C, an, h1.same s, h2⟩
theorem more_sub {ks : Kinds} {ys ysw : List LegR} {d : BareD} {an C : Addr} (T : Told ks ys d) (hp : ysw.Perm (ys ++ [⟨an, C, "other"⟩])) {z : Str} (hz : z ∈ d.ds) : z ∈ kindZ ks true ysw := by
  rw [← T.dr] at hz
  obtain ⟨r, hr, e1, e2⟩ := kind_leg hz
  exact e1 ▸ mem_kind (hp.mem_iff.mpr (List.mem_append_left _ hr)) e2
theorem more_inv {ks : Kinds} {ys ysw : List LegR} {d : BareD} {an C : Addr} (T : Told ks ys d) (hp : ysw.Perm (ys ++ [⟨an, C, "other"⟩])) {z : Str} (hz : z ∈ kindZ ks true ysw) : z ∈ d.ds ∨ z = "other" := by
  obtain ⟨r, hr, e1, e2⟩ := kind_leg hz
  rcases List.mem_append.mp (hp.mem_iff.mp hr) with h | h
  · refine .inl ?_
    rw [← T.dr, ← e1]
    exact mem_kind h e2
  · rw [List.mem_singleton.mp h] at e1
    exact .inr e1.symm
/-- what is low stays what is low -/
theorem more_low {ks : Kinds} {CF : Addr} {H : Hp} {a : Addr} {ys ysw : List LegR} {d : BareD} {an C : Addr} (ok : d.ok) (T : Told ks ys d) (hF : FrIs ks CF H a ⟨ysw, d.t, d.g, d.r⟩) (hp : ysw.Perm (ys ++ [⟨an, C, "other"⟩])) {f : Str → Int} (h : ¬ f "other" < d.t) :
    ((kindZ ks true ysw).filter fun z => decide (f z < d.t)) = d.ds.filter fun z => decide (f z < d.t) := by
  have n1 : ((kindZ ks true ysw).filter fun z => decide (f z < d.t)).Nodup := (kind_nd hF.nd).sublist List.filter_sublist
  have n2 : (d.ds.filter fun z => decide (f z < d.t)).Nodup := (List.nodup_append.mp ok.nd).1.sublist List.filter_sublist
  refine OrdS.pw_uniq ((List.perm_ext_iff_of_nodup n1 n2).mpr fun z => ?_) (((OrdS.sorted_pw hF.so).sublist (List.Sublist.map _ List.filter_sublist)).sublist List.filter_sublist) (ok.sd.sublist List.filter_sublist)
  rw [List.mem_filter, List.mem_filter]
  constructor
  · rintro ⟨h1, h2⟩
    rcases more_inv T hp h1 with h1 | rfl
    · exact ⟨h1, h2⟩
    · exact absurd (of_decide_eq_true h2) h
  · rintro ⟨h1, h2⟩
    exact ⟨more_sub T hp h1, h2⟩
theorem lowZ_map (zs : List Str) (f : Str → Int) (t : Int) : lowZ (zs.map fun z => (z, f z)) t = zs.filter fun z => decide (f z < t) := by
  unfold lowZ
  rw [List.filter_map, List.map_map]
  exact List.map_id' _
theorem rows_map (zs : List Str) (f : Str → Int) (t : Int) : wdRows (zs.map fun z => (z, f z)) t = (zs.filter fun z => decide (f z < t)).map fun z => lvT (z, f z) := by
  unfold wdRows
  rw [List.filter_map, List.map_map]
  rfl
theorem lvl_other {d : BareD} {g : List (Str × Int)} (ok : d.ok) (hv : LvB d g) : lvl g d.t "other" = d.t := by
  unfold lvl
  rw [lvG_out fun m => ?_]
  · rfl
  · obtain ⟨q, hq, e⟩ := List.mem_map.mp m
    exact other_out (e ▸ ok.po _ (List.mem_append_left _ (hv.2 q hq).1))
theorem more_tx {ks : Kinds} {CF : Addr} {H : Hp} {a : Addr} {ys ysw : List LegR} {d : BareD} {an C : Addr} {g : List (Str × Int)} (ok : d.ok) (T : Told ks ys d) (hF : FrIs ks CF H a ⟨ysw, d.t, d.g, d.r⟩) (hp : ysw.Perm (ys ++ [⟨an, C, "other"⟩])) (hv : LvB d g) :
    wdTx (lvAll ks ⟨ysw, d.t, d.g, d.r⟩ g) d.t = wdTx (bAll d g) d.t := by
  have : wdRows (lvAll ks ⟨ysw, d.t, d.g, d.r⟩ g) d.t = wdRows (bAll d g) d.t := by
    show wdRows ((kindZ ks true ysw).map fun z => (z, lvl g d.t z)) d.t = wdRows (d.ds.map fun z => (z, lvl g d.t z)) d.t
    rw [rows_map, rows_map, more_low ok T hF hp (f := fun z => lvl g d.t z) (by rw [lvl_other ok hv]; omega)]
  unfold wdTx
  rw [this]
theorem more_ok {ks : Kinds} {ys ysw : List LegR} {d : BareD} {an C : Addr} {g : List (Str × Int)} (T : Told ks ys d) (hp : ysw.Perm (ys ++ [⟨an, C, "other"⟩])) (hv : LvB d g) : LvOk ks ⟨ysw, d.t, d.g, d.r⟩ g :=
  ⟨hv.1, fun q hq => ⟨more_sub T hp (hv.2 q hq).1, (hv.2 q hq).2⟩⟩
theorem bAll_eq {d : BareD} {g h : List (Str × Int)} (e : ∀ z ∈ d.ds, lvl g d.t z = lvl h d.t z) : bAll d g = bAll d h := List.map_congr_left fun z hz => by rw [e z hz]
/-- the level of a leg -/
def legLv (d : BareD) (g : List (Str × Int)) (z : Str) : Int := if z ∈ d.ds then lvl g d.t z else d.t
theorem legLv_bd {d : BareD} {g : List (Str × Int)} (hv : LvB d g) (ok : d.ok) (z : Str) : 0 ≤ legLv d g z ∧ legLv d g z ≤ 3 := by
  have h := lvlB hv ok z
  have t1 := ok.t1
  have t3 := ok.t3
  unfold legLv
  split <;> omega
theorem getD_rd {K : PySem.W.Frag} {ks : Kinds} {CF CW CN : Addr} {H : Hp} {Q : VK} {E : XK} {a : Addr} {d : BareD} {gv : List (Str × Int)} {z : Str} (ha : WdT ks CF CW H a d gv) (hz : z ∈ d.ds ++ d.ls) (q : Q (.int (legLv d gv z)) H) : spWGet K ks CF CW CN [.ref a, .str z] H Q E := by
  obtain ⟨ys, hk, ht, hw⟩ := ha
  refine ⟨a, _, gv, _, rfl, hw, .inl ⟨z, ht.pm.mem_iff.mpr hz, rfl, ?_⟩⟩
  rw [wlv_eq]
  show Q (.int (if z ∈ kindZ ks true ys then lvl gv d.t z else d.t)) H
  rw [ht.dr]
  exact q
theorem getM_rd {K : PySem.W.Frag} {ks : Kinds} {CF CW CN : Addr} {H : Hp} {Q : VK} {E : XK} {a : Addr} {ys ysw : List LegR} {d : BareD} {an C : Addr} {gv : List (Str × Int)} {z : Str} (ok : d.ok) (T : Told ks ys d) (hp : ysw.Perm (ys ++ [⟨an, C, "other"⟩])) (ha : WdIs ks CF CW H a ⟨ysw, d.t, d.g, d.r⟩ gv) (hz : z ∈ d.ds ++ d.ls) (q : Q (.int (legLv d gv z)) H) : spWGet K ks CF CW CN [.ref a, .str z] H Q E := by
  have no : z ≠ "other" := fun e => other_out (e ▸ ok.po z hz)
  have hn : z ∈ names ysw := by
    have : z ∈ names ys := T.pm.mem_iff.mpr hz
    exact (hp.map (·.z)).mem_iff.mpr (by rw [List.map_append]; exact List.mem_append_left _ this)
  refine ⟨a, _, gv, _, rfl, ha, .inl ⟨z, hn, rfl, ?_⟩⟩
  rw [wlv_eq]
  show Q (.int (if z ∈ kindZ ks true ysw then lvl gv d.t z else d.t)) H
  have : (z ∈ kindZ ks true ysw) ↔ z ∈ d.ds := ⟨fun h => (more_inv T hp h).resolve_right no, more_sub T hp⟩
  unfold legLv at q
  by_cases m : z ∈ d.ds
  · rw [if_pos (this.mpr m)]
    rw [if_pos m] at q
    exact q
  · rw [if_neg fun h => m (this.mp h)]
    rw [if_neg m] at q
    exact q
/-- word["other"] -/
theorem getO_rd {K : PySem.W.Frag} {ks : Kinds} {CF CW CN : Addr} {H : Hp} {Q : VK} {E : XK} {a : Addr} {ys ysw : List LegR} {d : BareD} {an C : Addr} {gv : List (Str × Int)} (ok : d.ok) (hv : LvB d gv) (hp : ysw.Perm (ys ++ [⟨an, C, "other"⟩])) (ha : WdIs ks CF CW H a ⟨ysw, d.t, d.g, d.r⟩ gv) (q : Q (.int d.t) H) : spWGet K ks CF CW CN [.ref a, .str "other"] H Q E := by
  have hn : ("other" : Str) ∈ names ysw := (hp.map (·.z)).mem_iff.mpr (by rw [List.map_append]; exact List.mem_append_right _ List.mem_cons_self)
  refine ⟨a, _, gv, _, rfl, ha, .inl ⟨_, hn, rfl, ?_⟩⟩
  rw [wlv_eq]
  show Q (.int (if ("other" : Str) ∈ kindZ ks true ysw then lvl gv d.t "other" else d.t)) H
  rw [lvl_other ok hv, ite_self]
  exact q
end Sj
namespace Sj
open PySem L2 Sup StK Own Shw Exg Grd KepE
/-! k08: what the law's reading needs -/
theorem strs_dataT {zs : List Str} (h : ∀ z ∈ zs, PyData.strOk z = true) : SeqAt.shaped (.tuple (zs.map PyData.str)) = true ∧ PyData.eqv (.tuple (zs.map PyData.str)) (.tuple (zs.map PyData.str)) = true := by
  have := strs_data h
  refine ⟨?_, ?_⟩
  · have h1 := this.1
    unfold SeqAt.shaped at h1 ⊢
    exact h1
  · exact this.2
theorem WdIs.butq {ks : Kinds} {CF CW : Addr} {H H' : Hp} {a q : Addr} {d : FrD} {gv : List (Str × Int)} {xs : List V} (h : WdIs ks CF CW H a d gv) (hq : H q = some (.lst xs)) (b : But H H' q) : WdIs ks CF CW H' a d gv := by
  obtain ⟨f, dx, D, h1, h2, h3, h4⟩ := h.ex
  obtain ⟨fx, fD, g1, g2, g3⟩ := h4.at_
  exact ⟨⟨f, dx, D, b _ _ (ne_of h1 hq (by intro z; cases z)) h1, b _ _ (ne_of h2 hq (by intro z; cases z)) h2, h3, ⟨⟨fx, fD, b _ _ (ne_of g1 hq (by intro z; cases z)) g1, b _ _ (ne_of g2 hq (by intro z; cases z)) g2, g3⟩, fun r hr => (h4.ok r hr).butq hq b, h4.nd, h4.le, h4.so⟩⟩, h.ok, h.t1, h.t3⟩
theorem WdT.butq {ks : Kinds} {CF CW : Addr} {H H' : Hp} {a q : Addr} {d : BareD} {gv : List (Str × Int)} {xs : List V} (h : WdT ks CF CW H a d gv) (hq : H q = some (.lst xs)) (b : But H H' q) : WdT ks CF CW H' a d gv := by
  obtain ⟨ys, h1, h2, h3⟩ := h
  exact ⟨ys, h1, h2, h3.butq hq b⟩
theorem Pen.off {H H' : Hp} {p l D : Addr} {cs : List Int} {n : Nat} (h : Pen H p l cs n) (b : But H H' D) (hp : D ≠ p) (hl : D ≠ l) : Pen H' p l cs n := by
  obtain ⟨i, g, h1, h2, h3⟩ := h
  exact ⟨i, g, b _ _ hp.symm h1, b _ _ hl.symm h2, h3⟩
theorem paired_at {α β : Type} {F : α → β → Prop} : ∀ {xs : List α} {ys : List β} {j : Nat} {a : α}, Paired F xs ys → xs[j]? = some a → ∃ y, ys[j]? = some y ∧ F a y
  | _, _, 0, _, .cons r _, h => ⟨_, rfl, (Option.some.inj h) ▸ r⟩
  | _, _, j + 1, _, .cons _ t, h => paired_at (j := j) t h
theorem strT_rd {ks : Kinds} {CF CW : Addr} {H : Hp} {R : VK} {E : XK} {a : Addr} {d : BareD} {gv : List (Str × Int)} (ok : d.ok) (ha : WdT ks CF CW H a d gv) (k : ∀ H', Same H H' → R (.str (wdTx (bAll d gv) d.t)) H') : ∃ a' C dx fs, [V.ref a] = [.ref a'] ∧ H a' = some (.ins C dx fs) ∧ C = CW ∧ spWStr ks CF CW id [.ref a'] H R E := by
  obtain ⟨ys, hk, ht, hw⟩ := ha
  refine str_rd hw (fun z hz => pool_len _ (ok.po _ (List.mem_append_left _ (by rw [← ht.dr]; exact hz)))) fun H' s => ?_
  have := k H' s
  rw [← all_of ht] at this
  exact this
theorem more_rd {K : PySem.W.Frag} {ks : Kinds} {CI CF : Addr} {H : Hp} {Q : VK} {E : XK} {m an C : Addr} {ys : List LegR} {d : BareD} (ok : d.ok) (icl : IsiC K C) (nb : noBin K C "add" = true ∧ C ≠ CF) (hC : C = ks.drv ∨ C = ks.lis) (T : Told ks ys d) (hF : FrIs ks CF H m ⟨ys, d.t, d.g, d.r⟩) (lan : LegAt H an C "other")
    (k : ∀ wf H', MoreF ks CF H' wf ys d → Same H H' → Q (.ref wf) H') : ∃ a dx fs t, V.ref m = .ref a ∧ H a = some (.ins CF dx fs) ∧ TyX K H (.ref an) t ∧ (RightT K CF "add" t ∨ t = .ref CF) ∧ spFAdd K ks CI CF [.ref a, .ref an] H (fun z H3 => ∃ r : Addr, z = .ref r ∧ Q z H3) E := by
  obtain ⟨dx, fs, em⟩ := hF.ins
  have hys : ys.length ≤ 16 := by
    have := T.pm.length_eq
    rw [List.length_append] at this
    have e : (names ys).length = ys.length := List.length_map _
    have := ok.le
    omega
  have hout : ("other" : Str) ∉ names ys := fun hm => other_out (ok.po _ (T.pm.mem_iff.mp hm))
  have e1 : due (names (ys ++ [⟨an, C, "other"⟩])) true true = .non := by
    rw [names_append]
    exact due_new hF.nd hout (by show (List.map _ ys).length ≤ 39; rw [List.length_map]; omega)
  refine ⟨m, dx, fs, .ref C, rfl, em, lan.ty icl, .inl (.own nb.1 nb.2), m, _, .ref an, rfl, hF, ok.t1, ok.t3, .inr ⟨⟨an, C, "other"⟩, rfl, ⟨hC, lan⟩, fun zz hzz => ?_, fun _ wf ysw Ho hwf hpw hFw sno => ⟨wf, rfl, k wf Ho ⟨ysw, C, an, hFw, hpw, hC⟩ sno⟩⟩⟩
  rw [e1] at hzz
  cases hzz
theorem lone_lvl (y : Str) (v t : Int) (z : Str) : lvl [(y, v)] t z = if y = z then v else t := by
  unfold lvl
  rw [lvG_cons]
  by_cases h : y = z
  · rw [if_pos h, if_pos h]
    rfl
  · rw [if_neg h, if_neg h]
    rfl
/-- one lone word more -/
theorem lone_step {zs : List Str} {f : Str → Int} {t : Int} {j : Nat} {y z : Str} (hy : zs[j]? = some y) (hf : ∀ z, f z ≤ t) : lvMin (if z ∈ zs.take j then f z else t) (lvl [(y, f y)] t z) = if z ∈ zs.take (j + 1) then f z else t := by
  rw [lone_lvl, List.take_add_one, hy, Option.toList_some]
  have h1 := hf z
  by_cases e : y = z
  · subst e
    rw [if_pos rfl, if_pos (List.mem_append_right _ List.mem_cons_self)]
    unfold lvMin
    split <;> split <;> omega
  · rw [if_neg e]
    by_cases m : z ∈ zs.take j
    · rw [if_pos m, if_pos (List.mem_append_left _ m)]
      unfold lvMin
      split <;> omega
    · rw [if_neg m, if_neg fun q => (List.mem_append.mp q).elim m fun q => e (List.mem_singleton.mp q).symm]
      unfold lvMin
      split <;> omega
theorem min_comm (i j : Int) : lvMin i j = lvMin j i := by
  unfold lvMin
  split <;> split <;> omega
theorem min_assoc (i j k : Int) : lvMin (lvMin i j) k = lvMin i (lvMin j k) := by
  unfold lvMin
  repeat' split
  all_goals omega
theorem min_self (i : Int) : lvMin i i = i := by
  unfold lvMin
  split <;> omega
theorem min_top {i t : Int} (h : i ≤ t) : lvMin i t = i := by
  unfold lvMin
  split <;> omega
theorem lvl_out {gv : List (Str × Int)} {t : Int} {z : Str} (h : z ∉ gv.map (·.1)) : lvl gv t z = t := by
  unfold lvl
  rw [lvG_out h]
  rfl
end Sj
namespace Sj
open PySem L2 Sup StK Own Shw Exg Grd KepE
open NdefX (NF NScope ncx envF startF nscope_by)
open C8 (pss_cut tCut)
/-! k08: the law -/
abbrev sLaw8 : Stmt := top 38
abbrev nL8 : List Str := ["_law_script", "_law_pen_here", "_law_turn", "_law_bare_here", "_law_made", "_law_rows", "_law_one", "_law_two", "_law_three", "_law_rest", "_law_both", "_law_found", "_law_lone", "_law_more", "_law_wide_so", "_law_time", "_law_row", "_law_tag"]
theorem scL8 : FnScope nL8 ["_law_script"] (defScope sLaw8) := ⟨rfl, rfl, rfl, by decide +kernel, rfl, by decide +kernel, by decide +kernel⟩
structure L8T (P : Program) (w : World) (K : PySem.W.Frag) (mg : Str → Option Value) (base : Heap) (ks : Kinds) (CI CF CW CN gO gR gL : Addr) : Prop where
  pen : FnIs P w K mg base "_law_pen" 1 ["_law_script"] (spPen K)
  bare : FnIs P w K mg base "_law_bare" 3 ["_law_pen_here", "_law_most"] spBare
  frm : FnIs P w K mg base "_law_frame" 7 ["_law_bare_here"] (spFrm ks CF)
  lvs : FnIs P w K mg base "_law_levels" 3 ["_law_pen_here", "_law_bare_here"] spLvs
  wrd : FnIs P w K mg base "_law_word" 9 ["_law_made", "_law_levels_so"] (spWrd ks CF CW)
  lon : FnIs P w K mg base "_law_lone_words" 10 ["_law_bare_here", "_law_made", "_law_levels_so"] (spLon ks CF CW)
  lgs : FnIs P w K mg base "_law_legs" 1 ["_law_bare_here"] spLgs
  bth : FnIsG P w K mg base "_law_both_right" 10 ["_law_bare_here", "_law_one", "_law_two", "_law_both"] (spBth ks CF CW)
  d : MkL P w K mg base CI ks.drv "Driver"
  i : MkL P w K mg base CI ks.lis "Listener"
  add : BinG P w K mg base (L2.CX P w) 6 CF "add" ["self", "other"] (spFAdd K ks CI CF)
  and : BinG P w K mg base CX0 8 CW "and" ["self", "other"] (spWAnd ks CF CW)
  nb : ∀ C, (C = ks.drv ∨ C = ks.lis) → noBin K C "add" = true ∧ C ≠ CF
  icl : ∀ C, (C = ks.drv ∨ C = ks.lis) → IsiC K C
  wk : W8K P w K mg base ks CF CW gO gR gL
  wd : WdP P w K mg base ks CF CW CN
  ne : ks.drv ≠ ks.lis
  strN : mg "str" = none
  range : mg "range" = none
def spLaw1 (K : PySem.W.Frag) : Sp1 := fun v H Q => ∃ (a : Addr) (ns : List Int), v = .ref a ∧ SqL K H a (ns.map V.int) ∧ ns.length ≤ 63 ∧ ∀ H', Q (.bl true) H'
abbrev stL8 (sc p : Addr) (o2 o3 o4 o5 o6 o7 o8 o9 o10 o11 o12 o13 o14 : Option V) : L2.St := [some (.ref sc), some (.ref p), o2, o3, o4, o5, o6, o7, o8, o9, o10, o11, o12, o13, o14, none, none, none]
def teLv8 : TE := tCall spLvs [] E0 (tCons (tVar 1) (tCons (tVar 3) tNil))
def teWr8 (ks : Kinds) (CF CW : Addr) : TE := tCall (spWrd ks CF CW) [] E0 (tCons (tCall (spFrm ks CF) [] E0 (tCons (tVar 3) tNil)) (tCons (tVar 16) tNil))
def teGt (K : PySem.W.Frag) (ks : Kinds) (CF CW CN : Addr) (i : Nat) : TE := tItO CW (spWGet K ks CF CW CN) E0 (tVar i) (tVar 17)
section
variable {P : Program} {w : World} {K : PySem.W.Frag} {mg : Str → Option Value} {base : Heap}
theorem at_law {f CI CF CW CN gO gR gL : Addr} {fd : FuncData} {ks : Kinds} (F : Fun K "law" "law" sLaw8 f fd) (hb : ∀ (s : Shared) (u : Value), BindsTo s fd ⟨[u], []⟩ [("_law_script", u)]) (T : L8T P w K mg base ks CI CF CW CN gO gR gL) : AtCall P w K mg base f (spLaw1 K) := by
  refine at_call (k := 12) F scL8 ⟨rfl, by decide, by decide⟩ hb fun cdv s H v Q hr h => ?_
  obtain ⟨sc, ns, rfl, hS, hlen, k⟩ := h
  obtain ⟨fP, fdP, mP, kP, bP, GP⟩ := T.pen
  obtain ⟨fB, fdB, mB, kB, bB, GB⟩ := T.bare
  obtain ⟨fR, fdR, mR, kR, bR, GR⟩ := T.frm
  obtain ⟨fL, fdL, mL, kL, bL, GL⟩ := T.lvs
  obtain ⟨fW, fdW, mWr, kW, bW, GW⟩ := T.wrd
  obtain ⟨fO, fdO, mO, kO, bO, GO⟩ := T.lon
  obtain ⟨fG, fdG, mG, kG, bG, GG⟩ := T.lgs
  obtain ⟨fT, fdT, mT, kT, bT, GT⟩ := T.bth
  obtain ⟨⟨fD, fdD, MD, GD, bD⟩, mD⟩ := T.d
  obtain ⟨⟨fI, fdI, MI, GI, bI⟩, mI⟩ := T.i
  obtain ⟨mcW, pO, pR, pL, crW, cO, cR, cL⟩ := T.wk.cls
  obtain ⟨gS, fdS, hS1, hS2, hS3, hS4⟩ := T.wd.str
  have mW := T.wk.mW
  have hgu : (callerA.deeper (PyProof.Rows.envOfC "law" (defScope sLaw8) s.heap.objs.size f cdv)).guards = some [] := rfl
  have hr1 := hr.mono (show 1 ≤ 12 by decide)
  have hr2 := hr.mono (show 2 ≤ 12 by decide)
  have hr3 := hr.mono (show 3 ≤ 12 by decide)
  have hr4 := hr.mono (show 4 ≤ 12 by decide)
  have hr5 := hr.mono (show 5 ≤ 12 by decide)
  have hr6 := hr.mono (show 6 ≤ 12 by decide)
  have hr7 := hr.mono (show 7 ≤ 12 by decide)
  have hr8 := hr.mono (show 8 ≤ 12 by decide)
  have hr9 := hr.mono (show 9 ≤ 12 by decide)
  have hr10 := hr.mono (show 10 ≤ 12 by decide)
  have hu := hu_of hr
  have EW : ∀ X : Cx, X.prog = P → X.w = w → X.K = K → X.mg = mg → X.base = base → Room 8 X.A → ∀ C, C = CW → EqC X C (spWEq K ks CF CW) := fun X h1 h2 h3 h4 h5 hr C e => by
    subst e h1 h2 h3 h4 h5
    exact T.wd.eq.eqC hr
  refine ⟨_, pss_cons (ps_set (i := 1) scL8.nd rfl (Or.inr rfl) (pe_call GP hr1 rfl mP kP bP .nil pass0 (pa_cons (pv 0) pa_nil)))
    (pss_cut (ps_for PassesOwn.never rfl (pi_range1 rfl T.range (pa_cons pe_int pa_nil)) (pg_name (i := 2) scL8.nd rfl (Or.inl rfl))
      (pss_cons (ps_set (i := 3) scL8.nd rfl (Or.inr rfl) (pe_call GB hr3 rfl mB kB bB .nil pass0 (pa_cons (pv 1) (pa_cons pe_int pa_nil))))
      (pss_cons (ps_set (i := 4) scL8.nd rfl (Or.inl rfl) (pe_call GR hr7 rfl mR kR bR .nil pass0 (pa_cons (pv 3) pa_nil)))
      (pss_cons (ps_setLc (i := 5) (te := teLv8) (tt := tYes) (own := [("_law_time", 15)]) (g := gName 15) rfl scL8.nd rfl rfl (sw_true rfl rfl rfl (by decide +kernel)) (pi_range1 rfl T.range (pa_cons pe_int pa_nil)) (blkOk_by (N := nL8) (sc := defScope sLaw8) (by decide +kernel))
          (fun _ _ _ _ _ => pg_name (i := 15) scL8.nd rfl (Or.inl rfl)) (fun _ _ _ _ _ => pts_nil) (fun _ _ _ _ _ => pe_call GL hr3 rfl mL kL bL .nil pass0 (pa_cons (pv 1) (pa_cons (pv 3) pa_nil))))
      (pss_cons (ps_asg (pe_lc (te := teWr8 ks CF CW) (tt := tYes) (own := [("_law_row", 16)]) (g := gName 16) rfl scL8.nd (pi_list (pv 5)) (blkOk_by (N := nL8) (sc := defScope sLaw8) (by decide +kernel))
          (fun _ _ _ _ _ => pg_name (i := 16) scL8.nd rfl (Or.inl rfl)) (fun _ _ _ _ _ => pts_nil) (fun _ _ _ _ _ => pe_call GW hr9 rfl mWr kW bW .nil pass0 (pa_cons (pe_call GR hr7 rfl mR kR bR .nil pass0 (pa_cons (pv 3) pa_nil)) (pa_cons (pv 16) pa_nil))))
        (pg_lst rfl (pgs_cons (pg_name (i := 6) scL8.nd rfl (Or.inl rfl)) (pgs_cons (pg_name (i := 7) scL8.nd rfl (Or.inr rfl)) (pgs_cons (pg_name (i := 8) scL8.nd rfl (Or.inl rfl)) pgs_nil)))))
      (pss_cons (ps_par (by rfl) scL8.nd (i := 9) (j := 10) rfl rfl (by decide) rfl rfl (pa_cons (pe_cmethK (pe_glob rfl mW (v := .ref CW) rfl) crW cR T.wk.re0 hr8 pass0 (pa_cons (pv 4) pa_nil) pk_nil) (pa_cons (pe_binS (E := fun _ => E0) T.and hgu hr8 (pAt pass0) (pv 6) (pv 7)) pa_nil)) (by rfl))
      (pss_cons (ps_if (PW.pt (pw_or (pt_not (pt_val (pe_callG GT hgu hr10 rfl mT kT bT pass0 (pa_cons (pv 3) (pa_cons (pv 6) (pa_cons (pv 7) (pa_cons (pv 10) pa_nil)))))))
          (pw_or (pt_cmpR (op_ownE (.inr rfl) (S := fun C => C = CW) (spE := fun _ => spWEq K ks CF CW) (EW _ rfl rfl rfl rfl rfl hr8)) (pv 10) (pe_binS (E := fun _ => E0) T.and hgu hr8 (pAt pass0) (pv 7) (pv 6)) (nomark _))
          (pw_or1 (pt_cmpR (op_ownE (.inr rfl) (S := fun C => C = CW) (spE := fun _ => spWEq K ks CF CW) (EW _ rfl rfl rfl rfl rfl hr8)) (pe_binS (E := fun _ => E0) T.and hgu hr8 (pAt pass0) (pv 6) (pv 6)) (pv 6) (nomark _)))))) (pss_one (ps_ret pe_bl)) pss_nil)
      (pss_cons (ps_if (PW.pt (pw_or (pt_cmpR (op_ownE (.inr rfl) (S := fun C => C = CW) (spE := fun _ => spWEq K ks CF CW) (EW _ rfl rfl rfl rfl rfl hr8)) (pe_binS (E := fun _ => E0) T.and hgu hr8 (pAt pass0) (pe_binS (E := fun _ => E0) T.and hgu hr8 (pAt pass0) (pv 6) (pv 7)) (pv 8))
            (pe_binS (E := fun _ => E0) T.and hgu hr8 (pAt pass0) (pv 6) (pe_binS (E := fun _ => E0) T.and hgu hr8 (pAt pass0) (pv 7) (pv 8))) (nomark _))
          (pw_or (pt_cmpR (op_ownE (.inr rfl) (S := fun C => C = CW) (spE := fun _ => spWEq K ks CF CW) (EW _ rfl rfl rfl rfl rfl hr8)) (pe_binS (E := fun _ => E0) T.and hgu hr8 (pAt pass0) (pv 6) (pv 9)) (pv 6) (nomark _))
          (pw_or1 (pt_cmpR (op_ownE (.inr rfl) (S := fun C => C = CW) (spE := fun _ => spWEq K ks CF CW) (EW _ rfl rfl rfl rfl rfl hr8)) (pe_binS (E := fun _ => E0) T.and hgu hr8 (pAt pass0) (pv 9) (pv 6)) (pv 6) (nomark _)))))) (pss_one (ps_ret pe_bl)) pss_nil)
      (pss_cons (ps_set (i := 11) scL8.nd rfl (Or.inl rfl) (pv 9))
      (pss_cons (ps_for PassesOwn.never rfl (pi_list (pe_call GO hr10 rfl mO kO bO .nil pass0 (pa_cons (pv 3) (pa_cons (pv 4) (pa_cons (pe_ix ix_list (pv 5) pe_int (fun _ _ => rfl)) pa_nil))))) (pg_name (i := 12) scL8.nd rfl (Or.inl rfl))
        (pss_one (ps_set (i := 11) scL8.nd rfl (Or.inl rfl) (pe_binS (E := fun _ => E0) T.and hgu hr8 (pAt pass0) (pv 11) (pv 12)))))
      (pss_cons (ps_if (PW.pt (pw_or (pt_cmpR (op_ownE (.inr rfl) (S := fun C => C = CW) (spE := fun _ => spWEq K ks CF CW) (EW _ rfl rfl rfl rfl rfl hr8)) (pv 11) (pv 6) (nomark _))
          (pw_or1 (pt_cmpR op_ne (pe_callTy (T := "str") (call_strOwn (S := fun C => C = CW) (spS := fun _ => spWStr ks CF CW id) (fun C e => by rw [e]; exact ⟨gS, fdS, 3, hS1, hS2, hS3, hr6, hS4⟩)) (by rfl) T.strN (by decide +kernel) (pa_cons (pv 11) pa_nil))
            (pe_callTy (T := "str") (call_strOwn (S := fun C => C = CW) (spS := fun _ => spWStr ks CF CW id) (fun C e => by rw [e]; exact ⟨gS, fdS, 3, hS1, hS2, hS3, hr6, hS4⟩)) (by rfl) T.strN (by decide +kernel) (pa_cons (pv 6) pa_nil)) (nomark _))))) (pss_one (ps_ret pe_bl)) pss_nil)
      (pss_one (ps_for PassesOwn.never rfl (pi_tup (pe_tup (pa_cons (pe_binS (E := fun _ => E0) T.add hgu hr6 (pAt (passNo rfl rfl)) (pv 4) (pe_make MI GI hr5 rfl mI bI .nil (passNo rfl rfl) (pa_cons pe_str pa_nil)))
            (pa_cons (pe_binS (E := fun _ => E0) T.add hgu hr6 (pAt (passNo rfl rfl)) (pv 4) (pe_make MD GD hr5 rfl mD bD .nil (passNo rfl rfl) (pa_cons pe_str pa_nil))) pa_nil)))) (pg_name (i := 13) scL8.nd rfl (Or.inl rfl))
        (pss_cons (ps_set (i := 14) scL8.nd rfl (Or.inr rfl) (pe_call GW hr9 rfl mWr kW bW .nil pass0 (pa_cons (pv 13) (pa_cons (pe_ix ix_list (pv 5) pe_int (fun _ _ => rfl)) pa_nil))))
        (pss_cons (ps_if (pt_cmpR (op_neD hr.units) (pe_lc (te := teGt K ks CF CW CN 14) (tt := tYes) (own := [("_law_tag", 17)]) (g := gName 17) rfl scL8.nd (pi_list (pe_call GG hr1 rfl mG kG bG .nil pass0 (pa_cons (pv 3) pa_nil))) (blkOk_by (N := nL8) (sc := defScope sLaw8) (by decide +kernel))
              (fun _ _ _ _ _ => pg_name (i := 17) scL8.nd rfl (Or.inl rfl)) (fun _ _ _ _ _ => pts_nil) (fun _ _ _ _ _ => pe_itO T.wd.get hgu hr4 (passNo rfl rfl) (pv 14) (pv 17)))
            (pe_lc (te := teGt K ks CF CW CN 7) (tt := tYes) (own := [("_law_tag", 17)]) (g := gName 17) rfl scL8.nd (pi_list (pe_call GG hr1 rfl mG kG bG .nil pass0 (pa_cons (pv 3) pa_nil))) (blkOk_by (N := nL8) (sc := defScope sLaw8) (by decide +kernel))
              (fun _ _ _ _ _ => pg_name (i := 17) scL8.nd rfl (Or.inl rfl)) (fun _ _ _ _ _ => pts_nil) (fun _ _ _ _ _ => pe_itO T.wd.get hgu hr4 (passNo rfl rfl) (pv 7) (pv 17))) (nomark _)) (pss_one (ps_ret pe_bl)) pss_nil)
        (pss_cons (ps_if (PW.pt (pw_or (pt_cmpR op_ne (pe_itO T.wd.get hgu hr4 (passNo rfl rfl) (pv 14) pe_str) (pe_dget hu (pv 3) pe_str (fun _ _ => rfl)) (nomark _))
            (pw_or (pt_cmpR op_ne (pe_callTy (T := "str") (call_strOwn (S := fun C => C = CW) (spS := fun _ => spWStr ks CF CW id) (fun C e => by rw [e]; exact ⟨gS, fdS, 3, hS1, hS2, hS3, hr6, hS4⟩)) (by rfl) T.strN (by decide +kernel) (pa_cons (pv 14) pa_nil))
              (pe_callTy (T := "str") (call_strOwn (S := fun C => C = CW) (spS := fun _ => spWStr ks CF CW id) (fun C e => by rw [e]; exact ⟨gS, fdS, 3, hS1, hS2, hS3, hr6, hS4⟩)) (by rfl) T.strN (by decide +kernel) (pa_cons (pv 7) pa_nil)) (nomark _))
            (pw_or1 (pt_cmpR (op_ownE (.inl rfl) (S := fun C => C = CW) (spE := fun _ => spWEq K ks CF CW) (EW _ rfl rfl rfl rfl rfl hr8)) (pv 14) (pv 7) (nomark _)))))) (pss_one (ps_ret pe_bl)) pss_nil)
        (pss_one (ps_if (pt_cmpR (op_neD hr.units) (pe_propS (S := fun C => C = CW) (spP := fun _ => spWLow ks CF CW) (pe_binS (E := fun _ => E0) T.and hgu hr8 (pAt pass0) (pv 14) (pe_call GW hr9 rfl mWr kW bW .nil pass0 (pa_cons (pv 13) (pa_cons (pe_ix ix_list (pv 5) pe_int (fun _ _ => rfl)) pa_nil)))) (fun C e => by rw [e]; exact T.wd.low) hr2)
            (pe_propS (S := fun C => C = CW) (spP := fun _ => spWLow ks CF CW) (pv 10) (fun C e => by rw [e]; exact T.wd.low) hr2) (nomark _)) (pss_one (ps_ret pe_bl)) pss_nil))))))))))))))))))
    (pss_one (ps_ret pe_bl))), ?_⟩
  refine ⟨_, rfl, sc, ns, rfl, hS, hlen, fun p l cs H1 hP s1 => ?_⟩
  refine ⟨fun _ _ => True, ?_, fun _ H' _ => k H'⟩
  refine ⟨5, rfl, by decide, by decide, for_range (n := 5) (fun i σ H' => (∃ o2 o3 o4 o5 o6 o7 o8 o9 o10 o11 o12 o13 o14, σ = stL8 sc p o2 o3 o4 o5 o6 o7 o8 o9 o10 o11 o12 o13 o14) ∧ Pen H' p l cs (300 * i)) ⟨⟨_, _, _, _, _, _, _, _, _, _, _, _, _, rfl⟩, hP⟩ ?_ (fun _ _ _ => trivial)⟩
  rintro i σ H2 hi ⟨⟨o2, o3, o4, o5, o6, o7, o8, o9, o10, o11, o12, o13, o14, rfl⟩, P2⟩
  -- bare, made
  refine ⟨_, rfl, p, l, cs, 300 * i, 9, rfl, P2, by decide, by omega, fun b d H3 ok hl9 hb2 hB3 P3 b23 => ?_⟩
  have t1 := ok.t1
  have t3 := ok.t3
  have ndd : d.ds.Nodup := (List.nodup_append.mp ok.nd).1
  have hd16 := ok.le
  refine ⟨_, rfl, b, d, p, rfl, hB3, ok, fun m ys H4 hF4 hk hm3 s34 => ?_⟩
  have P4 := P3.same s34
  have hB4 := hB3.same s34
  have told : Told ks ys d := told_of ok T.ne hF4.so hk
  -- rows
  refine ⟨3, rfl, by decide, by decide, fun D hD => ?_⟩
  have hDp : D ≠ p := nep P4 hD
  have hDl : D ≠ l := fun z => by
    obtain ⟨_, _, _, z2, _⟩ := P4
    rw [← z, hD] at z2
    cases z2
  refine lc_it (walk_range (lo := 0) (n := 3)) (fun j H' => Pen H' p l cs (300 * i + 40 + 60 * j) ∧ But H4 H' p ∧ ∃ Ls : List (Addr × List (Str × Int)), H' D = some (.lst (Ls.map fun x => V.ref x.1)) ∧ Ls.length = j ∧ ∀ x ∈ Ls, LvAt H' x.1 x.2 ∧ LvB d x.2 ∧ (x.2.map (·.1)).Nodup)
    ⟨P4.same (same_at hD), But.of (same_at hD), [], upd_same, rfl, fun x hx => by cases hx⟩ (fun j H' _ q => True.intro) ?_ ?_
  · rintro j x Hao Ha hj ⟨Pa, ba, Ls, da, hlen, hLs⟩ ⟨rfl, rfl⟩
    refine ⟨rfl, ?_⟩
    unfold tYes
    dsimp only
    rw [if_pos rfl]
    refine ⟨_, rfl, _, rfl, p, l, cs, _, b, d, rfl, Pa, hB4.but P4 ba, ok, by omega, fun L gv Hb hv hnd hL hL0 Pb bab => ?_⟩
    have db := bab _ _ hDp da
    have bd : But Hb (upd Hb D (.lst (Ls.map (fun x => V.ref x.1) ++ [.ref L]))) D := .upd _ _ _
    refine ⟨_, db, ?_, Pb.off bd hDp hDl |>.mono (by omega), fun c o hc e => ?_, Ls ++ [(L, gv)], ?_, ?_, fun x hx => ?_⟩
    · rw [List.length_map, hlen]
      exact Nat.lt_trans hj (by decide)
    · rw [upd_ne (ne_of_none e hD)]
      exact bab _ _ hc (ba _ _ hc e)
    · rw [upd_same, List.map_append]
      rfl
    · rw [List.length_append, hlen]
      rfl
    · rcases List.mem_append.mp hx with hx | hx
      · obtain ⟨q1, q2⟩ := hLs x hx
        have q3 : LvAt Hb x.1 x.2 := bab.keep Pa q1 (fun ys z => by cases z)
        exact ⟨bd _ _ (ne_of q3 db (by intro z; cases z)) q3, q2⟩
      · rw [List.mem_singleton.mp hx]
        exact ⟨bd _ _ (ne_of hL db (by intro z; cases z)) hL, hv, hnd⟩
  rintro H5 ⟨P5, b45, Ls, d5, hlen, hLs⟩
  have hB5 := hB4.but P4 b45
  have hF5 := hF4.but P4 b45
  -- the words
  refine ⟨_, rfl, D, rfl, ⟨_, SqL.of d5⟩, fun E hE => ?_⟩
  have hLm : (Ls.map fun x => V.ref x.1).length = Ls.length := List.length_map _
  refine lc_it (walk_list (K := K) (a := D) (xs := Ls.map fun x => V.ref x.1)) (fun j H' => Same H5 H' ∧ ∃ ws : List Addr, H' E = some (.lst (ws.map V.ref)) ∧ Paired (fun a (x : Addr × List (Str × Int)) => WdT ks CF CW H' a d x.2) ws (Ls.take j)) ⟨same_at hE, [], upd_same, .nil⟩ (fun j H' _ q => SqL.of (q.1 _ _ d5)) ?_ ?_
  · rintro j x Hao Ha hj ⟨sa, ws, da, hpr⟩ ⟨rfl, hx⟩
    rw [hLm] at hj
    have ex : (Ls.map fun x => V.ref x.1)[j]? = some (.ref Ls[j].1) := by rw [List.getElem?_map, List.getElem?_eq_getElem hj]; rfl
    rw [ex] at hx
    obtain rfl := Option.some.inj hx
    obtain ⟨q1, q2, q3⟩ := hLs _ (List.getElem_mem hj)
    refine ⟨rfl, ?_⟩
    unfold tYes
    dsimp only
    rw [if_pos rfl]
    refine ⟨_, rfl, b, d, p, rfl, hB5.same sa, ok, fun a zs Hb hFb hkb ha0 sab => ⟨_, rfl, ?_⟩⟩
    have tb : Told ks zs d := told_of ok T.ne hFb.so hkb
    refine ⟨a, Ls[j].1, ⟨zs, d.t, d.g, d.r⟩, Ls[j].2, rfl, hFb, (sa.trans sab) _ _ q1, lvok tb q2, t1, t3, fun wa Hc hwa Wa sbc => ?_⟩
    have sac := sab.trans sbc
    have dc := sac _ _ da
    have bd : But Hc (upd Hc E (.lst (ws.map V.ref ++ [.ref wa]))) E := .upd _ _ _
    have hlw : ws.length = j := by
      have := Paired.length hpr
      rw [List.length_take] at this
      omega
    refine ⟨_, dc, ?_, fun c o e => ?_, ws ++ [wa], ?_, ?_⟩
    · rw [List.length_map, hlw]
      exact Nat.lt_trans (show j < 3 by omega) (by decide)
    · rw [upd_ne (ne_of_none e hE)]
      exact sac _ _ (sa _ _ e)
    · rw [upd_same, List.map_append]
      rfl
    · rw [List.take_add_one, List.getElem?_eq_getElem hj]
      exact paired_snoc (paired_imp hpr fun a x hw => (hw.same sac).butq dc bd) (WdT.butq ⟨zs, hkb, tb, Wa⟩ dc bd)
  rintro H6 ⟨s56, ws, d6, hpr⟩
  rw [hLm, List.take_length] at hpr
  match Ls, hlen, hLs, d5, ws, hpr, d6 with
  | [(L1, g1), (L2, g2), (L3, g3)], _, hLs, d5, [w1, w2, w3], .cons W1 (.cons W2 (.cons W3 .nil)), d6 =>
  obtain ⟨hL1, v1, nd1⟩ := hLs _ List.mem_cons_self
  obtain ⟨hL2, v2, nd2⟩ := hLs _ (List.mem_cons_of_mem _ List.mem_cons_self)
  obtain ⟨hL3, v3, nd3⟩ := hLs _ (List.mem_cons_of_mem _ (List.mem_cons_of_mem _ List.mem_cons_self))
  dsimp only at hL1 hL2 hL3 v1 v2 v3 nd1 nd2 nd3 W1 W2 W3
  refine ⟨E, _, rfl, SqL.of d6, rfl, _, _, rfl, _, _, rfl, _, _, rfl, rfl, ?_⟩
  have P6 := P5.same s56
  have hB6 := hB5.same s56
  have hF6 := hF5.same s56
  have icW := T.wd.icW
  have nfW := T.wd.nfW
  have l1 := fun z => (lvlB v1 ok z).2
  have l2 := fun z => (lvlB v2 ok z).2
  -- rest, both
  refine ⟨rfl, _, rfl, rfl, rfl, m, ⟨ys, d.t, d.g, d.r⟩, rfl, hF6, t1, t3, fun wr H7 hwr WR s67 => ?_⟩
  have WRt : WdT ks CF CW H7 wr d [] := ⟨ys, hk, told, WR⟩
  refine ⟨_, rfl, _, rfl, and_rd icW ok (W1.same s67) (W2.same s67) fun wb gb H8 hwb WB eb s78 => ⟨_, _, rfl, ?_⟩⟩
  have s68 := s67.trans s78
  have X1 := W1.same s68
  have X2 := W2.same s68
  have X3 := W3.same s68
  have XR := WRt.same s78
  refine ⟨_, rfl, _, rfl, _, rfl, _, rfl, b, d, p, w1, g1, w2, g2, wb, gb, rfl, hB6.same s68, ok, X1, X2, WB, v1, v2, eb, fun H9 s89 => ⟨_, rfl, iteF ?_⟩⟩
  refine ⟨_, rfl, _, rfl, _, rfl, and_rd icW ok (X2.same s89) (X1.same s89) fun r g HA _ R e sA => ?_⟩
  have s8A := s89.trans sA
  refine wdT_eq icW nfW (WB.same s8A) R (fun z hz => by rw [eb z hz, e z hz, min_comm]) fun HB sB => ⟨_, rfl, iteF ?_⟩
  have s8B := s8A.trans sB
  refine ⟨_, rfl, _, rfl, and_rd icW ok (X1.same s8B) (X1.same s8B) fun r g HC _ R e sC => ⟨_, rfl, ?_⟩⟩
  have s8C := s8B.trans sC
  refine wdT_eq icW nfW R (X1.same s8C) (fun z hz => by rw [e z hz, min_self]) fun HD sD => ⟨_, rfl, iteF ?_⟩
  have s8D := s8C.trans sD
  -- in any order
  refine ⟨_, rfl, _, rfl, and_rd icW ok (X1.same s8D) (X2.same s8D) fun r12 g12 HE _ R12 e12 sE => ⟨_, rfl, ?_⟩⟩
  have s8E := s8D.trans sE
  refine and_rd icW ok R12 (X3.same s8E) fun ra ga HF _ RA ea sF => ⟨_, rfl, _, rfl, _, rfl, ?_⟩
  have s8F := s8E.trans sF
  refine and_rd icW ok (X2.same s8F) (X3.same s8F) fun r23 g23 HG _ R23 e23 sG => ?_
  have s8G := s8F.trans sG
  refine and_rd icW ok (X1.same s8G) R23 fun rb gb' HH _ RB eb' sH => ?_
  have s8H := s8G.trans sH
  refine wdT_eq icW nfW (RA.same (sG.trans sH)) RB (fun z hz => by rw [ea z hz, e12 z hz, eb' z hz, e23 z hz, min_assoc]) fun HI sI => ⟨_, rfl, iteF ?_⟩
  have s8I := s8H.trans sI
  refine ⟨_, rfl, _, rfl, and_rd icW ok (X1.same s8I) (XR.same s8I) fun r g HJ _ R e sJ => ⟨_, rfl, ?_⟩⟩
  have s8J := s8I.trans sJ
  refine wdT_eq icW nfW R (X1.same s8J) (fun z hz => by rw [e z hz]; exact min_top (l1 z)) fun HK sK => ⟨_, rfl, iteF ?_⟩
  have s8K := s8J.trans sK
  refine ⟨_, rfl, _, rfl, and_rd icW ok (XR.same s8K) (X1.same s8K) fun r g HL _ R e sL => ⟨_, rfl, ?_⟩⟩
  have s8L := s8K.trans sL
  refine wdT_eq icW nfW R (X1.same s8L) (fun z hz => by rw [e z hz, min_comm]; exact min_top (l1 z)) fun HM sM => ⟨_, rfl, iteF ?_⟩
  have s8M := s8L.trans sM
  have s5M := (s56.trans s68).trans s8M
  have s6M := s68.trans s8M
  -- of lone words
  refine ⟨_, rfl, _, rfl, _, rfl, _, rfl, D, _, 0, .ref L1, rfl, rfl, SqL.of (s5M _ _ d5), (show atI _ ((0 : Nat) : Int) = _ from atI_nat rfl), b, m, L1, ⟨ys, d.t, d.g, d.r⟩, g1, rfl, hF6.same s6M, s5M _ _ hL1, nd1, lvok told v1, t1, t3, fun q as zs HN hp hprL hq hq0 sMN => ⟨q, rfl, ⟨_, SqL.of hq⟩, ?_⟩⟩
  have s8N := s8M.trans sMN
  have s6N := s6M.trans sMN
  have s5N := s5M.trans sMN
  have hasl : (as.map V.ref).length = zs.length := by rw [List.length_map]; exact Paired.length hprL
  refine for_list (xs := as.map V.ref) (fun j σ H' => Same HN H' ∧ ∃ q2 wf q12 q13 q14 gf, σ = stL8 sc p q2 (some (.ref b)) (some (.ref m)) (some (.ref D)) (some (.ref w1)) (some (.ref w2)) (some (.ref w3)) (some (.ref wr)) (some (.ref wb)) (some (.ref wf)) q12 q13 q14 ∧ WdT ks CF CW H' wf d gf ∧ ∀ z ∈ d.ds, lvl gf d.t z = if z ∈ zs.take j then lvl g1 d.t z else d.t)
    ⟨Same.refl _, _, _, _, _, _, [], rfl, XR.same s8N, fun z _ => rfl⟩ (fun j σ H' _ h => SqL.of (h.1 _ _ hq)) ?_ ?_
  · rintro j x σ Ha hx ⟨sa, q2, wf, q12, q13, q14, gf, rfl, Wf, ef⟩
    obtain ⟨a, ha, rfl⟩ : ∃ a, as[j]? = some a ∧ x = .ref a := by
      rw [List.getElem?_map] at hx
      cases h : as[j]? with
      | none => rw [h] at hx; cases hx
      | some a => rw [h] at hx; exact ⟨a, rfl, (Option.some.inj hx).symm⟩
    obtain ⟨y, hy, hw⟩ := paired_at hprL ha
    have Wl : WdT ks CF CW Ha a d [(y, lvl g1 d.t y)] := ⟨ys, hk, told, hw.same sa⟩
    refine ⟨_, rfl, _, rfl, and_rd icW ok Wf Wl fun r g Hb _ R e sb => ⟨sa.trans sb, _, r, _, _, _, g, rfl, R, fun z hz => ?_⟩⟩
    rw [e z hz, ef z hz]
    exact lone_step (f := fun z => lvl g1 d.t z) hy l1
  rintro σ HO ⟨sNO, q2, wf, q12, q13, q14, gf, rfl, Wf, ef⟩
  rw [hasl, List.take_length] at ef
  have ef1 : ∀ z ∈ d.ds, lvl gf d.t z = lvl g1 d.t z := fun z hz => by
    rw [ef z hz]
    by_cases h : z ∈ zs
    · rw [if_pos h]
    · rw [if_neg h, lvl_out fun q => h (hp.mem_iff.mpr q)]
  have s8O := s8N.trans sNO
  refine ⟨_, rfl, _, rfl, wdT_eq icW nfW Wf (X1.same s8O) ef1 fun HP sOP => ⟨_, rfl, iteF ?_⟩⟩
  refine ⟨_, rfl, strT_rd ok (Wf.same sOP) fun HQ sPQ => ⟨_, rfl, ?_⟩⟩
  refine ⟨_, rfl, strT_rd ok (X1.same ((s8O.trans sOP).trans sPQ)) fun HR sQR => ⟨_, rfl, rfl, _, rfl, ?_⟩⟩
  rw [bAll_eq ef1, decide_eq_true rfl]
  have s8R := ((s8O.trans sOP).trans sPQ).trans sQR
  have s6R := s68.trans s8R
  have s5R := s56.trans s6R
  refine iteF ?_
  -- one leg more
  refine ⟨_, rfl, ?_⟩
  refine mk_rd (by exact fun _ q => q) (by decide +kernel) (by decide +kernel) fun a1 HS ha1 la1 sRS => ?_
  refine more_rd ok (T.icl _ (.inr rfl)) (T.nb _ (.inr rfl)) (.inr rfl) told (hF6.same (s6R.trans sRS)) la1 fun f1 HT M1 sST => ⟨_, rfl, ?_⟩
  have s6T := (s6R.trans sRS).trans sST
  refine mk_rd (by exact fun _ q => q) (by decide +kernel) (by decide +kernel) fun a2 HU ha2 la2 sTU => ?_
  refine more_rd ok (T.icl _ (.inl rfl)) (T.nb _ (.inl rfl)) (.inl rfl) told (hF6.same (s6T.trans sTU)) la2 fun f2 HV M2 sUV => ⟨by show 2 ≤ sizeLine; decide, fun t ht => ⟨t, rfl, ⟨_, SqT.of upd_same⟩, ?_⟩⟩
  have sVX := same_at (o := .tup [V.ref f1, .ref f2]) ht
  obtain ⟨HX, eX⟩ : ∃ HX, HX = upd HV t (.tup [V.ref f1, .ref f2]) := ⟨_, rfl⟩
  have htX : HX t = some (.tup [V.ref f1, .ref f2]) := by rw [eX, upd_same]
  rw [← eX] at sVX ⊢
  have N1 := (M1.same (sTU.trans sUV)).same sVX
  have N2 := M2.same sVX
  have s6X := ((s6T.trans sTU).trans sUV).trans sVX
  have s5X := s56.trans s6X
  have s8X := (((((s8R.trans sRS).trans sST).trans sTU).trans sUV).trans sVX)
  refine for_it (walk_tup (K := K) (a := t) (xs := [V.ref f1, .ref f2])) (fun j σ H' => Same HX H' ∧ ∃ q2 q11 q12 q13 q14, σ = stL8 sc p q2 (some (.ref b)) (some (.ref m)) (some (.ref D)) (some (.ref w1)) (some (.ref w2)) (some (.ref w3)) (some (.ref wr)) (some (.ref wb)) q11 q12 q13 q14) ⟨Same.refl _, _, _, _, _, _, rfl⟩ (fun j σ H' _ h => .inl (.inl (h.1 _ _ htX))) ?_ ?_
  · rintro j x σ Hao Ha hj ⟨sXa, q2, q11, q12, q13, q14, rfl⟩ ⟨rfl, hx⟩
    obtain ⟨fm, rfl, hM⟩ : ∃ fm, x = .ref fm ∧ MoreF ks CF HX fm ys d := by
      match j, hj, hx with
      | 0, _, hx => exact ⟨f1, (Option.some.inj hx).symm, N1⟩
      | 1, _, hx => exact ⟨f2, (Option.some.inj hx).symm, N2⟩
    obtain ⟨ysw, C, an, hFw, hpw, hC⟩ := hM.same sXa
    have s5a := s5X.trans sXa
    have s6a := s6X.trans sXa
    have s8a := s8X.trans sXa
    refine ⟨_, rfl, _, rfl, D, _, 1, .ref L2, rfl, rfl, SqL.of (s5a _ _ d5), (show atI _ ((1 : Nat) : Int) = _ from atI_nat rfl), fm, L2, ⟨ysw, d.t, d.g, d.r⟩, g2, rfl, hFw, s5a _ _ hL2, more_ok told hpw v2, t1, t3, fun ww Hb hww WW sab => ?_⟩
    obtain ⟨dxw, fsw, eww⟩ := WW.ins
    have s6b := s6a.trans sab
    have s8b := s8a.trans sab
    have s5b := s5a.trans sab
    -- the same levels
    refine ⟨_, rfl, b, d, p, rfl, hB6.same s6b, ok, fun ls qa Hc hlsp hlso hqa0 hqa sbc => ⟨qa, rfl, ⟨_, SqL.of hqa⟩, fun Ea hEa => ?_⟩⟩
    obtain ⟨vals, evals⟩ : ∃ vals, vals = ls.map (legLv d g2) := ⟨_, rfl⟩
    have hlsl : (strv ls).length = ls.length := List.length_map _
    have hvl : (vals.map V.int).length = ls.length := by rw [List.length_map, evals, List.length_map]
    have hls16 : ls.length ≤ 16 := by rw [hlsp.length_eq, List.length_append]; omega
    have at_ : ∀ {j : Nat} {x : V} (hj : j < (vals.map V.int).length), (strv ls)[j]? = some x → ∃ z ∈ d.ds ++ d.ls, x = .str z ∧ (vals.map V.int)[j] = .int (legLv d g2 z) := fun {j x} hj hx => by
      have hj2 : j < ls.length := by omega
      have ex : (strv ls)[j]? = some (.str ls[j]) := by show (ls.map V.str)[j]? = _; rw [List.getElem?_map, List.getElem?_eq_getElem hj2]; rfl
      rw [ex] at hx
      refine ⟨ls[j], hlsp.mem_iff.mp (List.getElem_mem hj2), (Option.some.inj hx).symm, ?_⟩
      subst evals
      rw [List.getElem_map, List.getElem_map]
    have s8c := s8b.trans sbc
    refine map_walk (vs := vals.map V.int) (walk_list (K := K) (a := qa) (xs := strv ls)) (by omega) (by omega) hEa (fun H' s => SqL.of (s _ _ hqa)) ?_ (fun Hd scd dd => ?_) (gName_mono 17)
    · rintro j x Hx Hy hj sx ⟨rfl, hx⟩
      refine ⟨rfl, fun Q' hQ => ?_⟩
      obtain ⟨z, hz, rfl, ev⟩ := at_ hj hx
      rw [ev] at hQ
      have sy := sbc.trans sx
      exact ⟨_, rfl, _, rfl, ww, dxw, fsw, rfl, sy _ _ eww, getM_rd ok told hpw (WW.same sy) hz (hQ _ (Same.refl _))⟩
    have s8d := s8c.trans scd
    refine ⟨_, rfl, b, d, p, rfl, (hB6.same s6b).same (sbc.trans scd), ok, fun ls' qb He hlsp' hlso' hqb0 hqb sde => ⟨qb, rfl, ⟨_, SqL.of hqb⟩, fun Eb hEb => ?_⟩⟩
    obtain rfl : ls' = ls := OrdS.uniq (hlsp'.trans hlsp.symm) hlso' hlso
    have s8e := s8d.trans sde
    refine map_walk (vs := vals.map V.int) (walk_list (K := K) (a := qb) (xs := strv ls')) (by omega) (by omega) hEb (fun H' s => SqL.of (s _ _ hqb)) ?_ (fun Hf sef df => ?_) (gName_mono 17)
    · rintro j x Hx Hy hj sx ⟨rfl, hx⟩
      refine ⟨rfl, fun Q' hQ => ?_⟩
      obtain ⟨z, hz, rfl, ev⟩ := at_ hj hx
      rw [ev] at hQ
      have Y2 := X2.same (s8e.trans sx)
      obtain ⟨dx2, fs2, ew2⟩ := Y2.ins
      exact ⟨_, rfl, _, rfl, w2, dx2, fs2, rfl, ew2, getD_rd Y2 hz (hQ _ (Same.refl _))⟩
    have s8f := s8e.trans sef
    have hbd : ∀ v ∈ vals, 0 ≤ v ∧ v ≤ 3 := fun v hv => by
      rw [evals] at hv
      obtain ⟨z, _, rfl⟩ := List.mem_map.mp hv
      exact legLv_bd v2 ok z
    have idt := ints_data vals hbd
    refine ⟨.list (vals.map PyData.int), .list (vals.map PyData.int), .lst (SqL.of (sef _ _ (sde _ _ dd))) (dp_ints _), .lst (SqL.of df) (dp_ints _), idt.1, idt.1, _, rfl, ?_⟩
    rw [idt.2]
    have sbf := ((sbc.trans scd).trans sde).trans sef
    have WWf := WW.same sbf
    obtain ⟨dl, ll, rl, hbb, _⟩ := ((hB6.same s6b).same sbf).ex
    -- what the other one tells
    refine iteF ⟨_, rfl, ww, dxw, fsw, rfl, sbf _ _ eww, getO_rd ok v2 hpw WWf ?_⟩
    refine ⟨_, rfl, b, _, rfl, DGet.k (k := Sum.inr "top") hbb, rfl, _, rfl, ?_⟩
    rw [decide_eq_true rfl]
    refine iteF ⟨_, rfl, str_rd WWf (fun z hz => ?_) fun Hg sfg => ⟨_, rfl, ?_⟩⟩
    · rcases more_inv told hpw hz with h | rfl
      · exact pool_len _ (ok.po _ (List.mem_append_left _ h))
      · decide +kernel
    refine ⟨_, rfl, strT_rd ok (X2.same (s8f.trans sfg)) fun Hh sgh => ⟨_, rfl, rfl, _, rfl, ?_⟩⟩
    rw [show V.str (wdTx (lvAll ks ⟨ysw, d.t, d.g, d.r⟩ g2) d.t) = V.str (wdTx (bAll d g2) d.t) by rw [more_tx ok told hFw hpw v2], decide_eq_true rfl]
    have s8h := (s8f.trans sfg).trans sgh
    have sbh := (sbf.trans sfg).trans sgh
    have Y2 := X2.same s8h
    obtain ⟨ys2, hk2, told2, Z2⟩ := Y2
    have nel : ysw.length ≠ ys2.length := by
      have n1 : ysw.length = ys.length + 1 := by rw [hpw.length_eq, List.length_append]; rfl
      have n2 := told.pm.length_eq
      have n3 := told2.pm.length_eq
      have n4 : (names ys).length = ys.length := List.length_map _
      have n5 : (names ys2).length = ys2.length := List.length_map _
      omega
    refine iteF ⟨_, rfl, _, rfl, wd_eq (v := false) icW nfW (WW.same sbh) Z2 (eqWd_fr (eqFr_legs (eqLegs_len nel))) fun Hi shi => ⟨_, rfl, iteF ?_⟩⟩
    have sbi := sbh.trans shi
    have s5i := s5b.trans sbi
    have s8i := s8h.trans shi
    have hFi := (hFw.same sab).same sbi
    -- what is low
    refine ⟨_, rfl, _, rfl, _, rfl, D, _, 0, .ref L1, rfl, rfl, SqL.of (s5i _ _ d5), (show atI _ ((0 : Nat) : Int) = _ from atI_nat rfl), fm, L1, ⟨ysw, d.t, d.g, d.r⟩, g1, rfl, hFi, s5i _ _ hL1, more_ok told hpw v1, t1, t3, fun wo Hj hwo WO sij => ?_⟩
    have sbj := sbi.trans sij
    obtain ⟨dxo, fso, ewo⟩ := WO.ins
    refine ⟨ww, dxw, fsw, .ref CW, rfl, sbj _ _ eww, .base (.ins ewo icW.cl icW.ca icW.cn icW.ct icW.cm), .inr rfl, ww, ⟨ysw, d.t, d.g, d.r⟩, g2, wo, ⟨ysw, d.t, d.g, d.r⟩, g1, rfl, WW.same sbj, WO, eqFr_self rfl rfl rfl (eqLegs_refl ysw), fun rr Hk hrr RR sjk => ⟨rr, rfl, ?_⟩⟩
    obtain ⟨dxr, fsr, ewr⟩ := RR.ins
    refine ⟨rr, CW, dxr, fsr, rfl, ewr, rfl, rr, ⟨ysw, d.t, d.g, d.r⟩, _, rfl, RR, fun pl Hl hpl hvl skl => ?_⟩
    have elow : lowZ (lvAll ks ⟨ysw, d.t, d.g, d.r⟩ (minL ks ⟨ysw, d.t, d.g, d.r⟩ ⟨ysw, d.t, d.g, d.r⟩ g2 g1)) d.t = lowD d gb := by
      have e1 : lvAll ks ⟨ysw, d.t, d.g, d.r⟩ (minL ks ⟨ysw, d.t, d.g, d.r⟩ ⟨ysw, d.t, d.g, d.r⟩ g2 g1) = (kindZ ks true ysw).map fun z => (z, lvMin (lvl g2 d.t z) (lvl g1 d.t z)) := by
        show (kindZ ks true ysw).map (fun z => (z, lvl ((kindZ ks true ysw).map fun z => (z, lvMin (lvl g2 d.t z) (lvl g1 d.t z))) d.t z)) = _
        exact List.map_congr_left fun z hz => by rw [lvl_map (f := fun z => lvMin (lvl g2 d.t z) (lvl g1 d.t z)) (kind_nd hFw.nd) hz]
      rw [e1, lowZ_map, more_low ok told hFw hpw (f := fun z => lvMin (lvl g2 d.t z) (lvl g1 d.t z)) (by rw [min_lt, lvl_other ok v1, lvl_other ok v2]; omega)]
      unfold lowD bAll
      rw [lowZ_map]
      exact List.filter_congr fun z hz => by rw [eb z hz, min_comm]
    rw [elow] at hvl
    have s8l := ((s8i.trans sij).trans sjk).trans skl
    refine ⟨_, rfl, low_rd (WB.same s8l) fun pm Hm hpm hvm slm => ?_⟩
    have sd := strs_dataT (zs := lowD d gb) fun z hz => pool_lay z (ok.po z (List.mem_append_left _ (low_mem.mp hz).1))
    refine ⟨.tuple ((lowD d gb).map PyData.str), .tuple ((lowD d gb).map PyData.str), .tup (SqT.of (slm _ _ hvl)) (dp_strv _), .tup (SqT.of hvm) (dp_strv _), sd.1, sd.1, _, rfl, ?_⟩
    rw [sd.2]
    exact iteF ⟨(((sXa.trans sab).trans sbj).trans sjk).trans (skl.trans slm), _, _, _, _, _, rfl⟩
  · rintro σ HY ⟨sXY, q2, q11, q12, q13, q14, rfl⟩
    exact ⟨⟨_, _, _, _, _, _, _, _, _, _, _, _, _, rfl⟩, (P6.same (s6X.trans sXY)).mono (by omega)⟩
end
end Sj
namespace Sj
open PySem L2 Sup StK Own Shw Exg Grd KepE
open NdefX (NF NScope ncx envF startF nscope_by)
abbrev sNl : Stmt := inClass (top 6) 0
theorem in_of {st : Stmt} (h : (defScope st).kind = .function) : ∀ env : Env, env.scope = defScope st → interactive env = false := fun env e => by
  unfold interactive
  rw [e, h]
  rfl
theorem mkNL {P : Program} {w : World} {K : PySem.W.Frag} {mg : Str → Option Value} {base : Heap} {f c cc C : Addr} {fd : FuncData} (F : FunS P K "__init__" "NoLeg.__init__" sNl f fd c cc C) (T : ErrT P K mg "LookupError" "LookupError.__new__" "LookupError.__init__" tlL C) (hno : PySem.W.findIn K (.ref C) "name" = some none) : FnG P w K mg base CX0 1 f fd ["self", "name"] (spOne K C "name") :=
  ok_one bL F T (nscope_by (by decide +kernel)) rfl (by decide +kernel) rfl rfl rfl rfl (by decide) (by decide) ⟨_, rfl, rfl⟩ hno rfl (in_of rfl) fun _ => rfl
theorem all_mk8 {P : Program} {w : World} {K : PySem.W.Frag} {h : Heap} {mg : Str → Option Value} {fa : Addr} (X : K.In h) (G : h.Ns mainGlobals mg) (hfa : mg "law" = some (.ref fa))
    {CI : Addr}
    {CL : Addr}
    {CD : Addr}
    {CS : Addr}
    {CF : Addr}
    {CN : Addr}
    {CW : Addr}
    {tL tN : Tok} {aR : Addr} {dR : Option Addr} {itsR : Array Value} {nR : Nat} {slR : Array (Option Value)}
    {mcW : Value}
    {fN : Addr} {odN anN : Option Addr} {slN : Array (Option Value)} {ocN kVN dcN pmN cdN ctN : Value}
    {fIi : Addr} {odIi anIi : Option Addr} {slIi : Array (Option Value)} {ocIi kVIi dcIi pmIi cdIi ctIi : Value}
    {fBt : Addr} {odBt anBt : Option Addr} {slBt : Array (Option Value)} {ocBt kVBt dcBt pmBt cdBt ctBt : Value}
    {fWr : Addr} {odWr anWr : Option Addr} {slWr : Array (Option Value)} {ocWr kVWr dcWr pmWr cdWr ctWr : Value}
    {fLI : Addr} {odLI anLI : Option Addr} {slLI : Array (Option Value)} {ocLI kVLI dcLI pmLI cdLI ctLI : Value}
    {fPn : Addr} {odPn anPn : Option Addr} {slPn : Array (Option Value)} {ocPn kVPn dcPn pmPn cdPn ctPn : Value}
    {fDr : Addr} {odDr anDr : Option Addr} {slDr : Array (Option Value)} {ocDr kVDr dcDr pmDr cdDr ctDr : Value}
    {fPk : Addr} {odPk anPk : Option Addr} {slPk : Array (Option Value)} {ocPk kVPk dcPk pmPk cdPk ctPk : Value}
    {fTg : Addr} {odTg anTg : Option Addr} {slTg : Array (Option Value)} {ocTg kVTg dcTg pmTg cdTg ctTg : Value}
    {fBa : Addr} {odBa anBa : Option Addr} {slBa : Array (Option Value)} {ocBa kVBa dcBa pmBa cdBa ctBa : Value}
    {fFm : Addr} {odFm anFm : Option Addr} {slFm : Array (Option Value)} {ocFm kVFm dcFm pmFm cdFm ctFm : Value}
    {fLg : Addr} {odLg anLg : Option Addr} {slLg : Array (Option Value)} {ocLg kVLg dcLg pmLg cdLg ctLg : Value}
    {fId : Addr} {odId anId : Option Addr} {slId : Array (Option Value)} {ocId kVId dcId pmId cdId ctId : Value}
    {fDl : Addr} {odDl anDl : Option Addr} {slDl : Array (Option Value)} {ocDl kVDl dcDl pmDl cdDl ctDl : Value}
    {fLv : Addr} {odLv anLv : Option Addr} {slLv : Array (Option Value)} {ocLv kVLv dcLv pmLv cdLv ctLv : Value}
    {fIw : Addr} {odIw anIw : Option Addr} {slIw : Array (Option Value)} {ocIw kVIw dcIw pmIw cdIw ctIw : Value}
    {fWq : Addr} {odWq anWq : Option Addr} {slWq : Array (Option Value)} {ocWq kVWq dcWq pmWq cdWq ctWq : Value}
    {fLl : Addr} {odLl anLl : Option Addr} {slLl : Array (Option Value)} {ocLl kVLl dcLl pmLl cdLl ctLl : Value}
    {fBo : Addr} {odBo anBo : Option Addr} {slBo : Array (Option Value)} {ocBo kVBo dcBo pmBo cdBo ctBo : Value}
    {fLw : Addr} {odLw anLw : Option Addr} {slLw : Array (Option Value)} {ocLw kVLw dcLw pmLw cdLw ctLw : Value}
    {fgL : Addr} {odgL angL : Option Addr} {slgL : Array (Option Value)} {ocgL kVgL dcgL pmgL cdgL ctgL : Value}
    {pgL : Addr} {rsgL : List Value}
    {fgD : Addr} {odgD angD : Option Addr} {slgD : Array (Option Value)} {ocgD kVgD dcgD pmgD cdgD ctgD : Value}
    {pgD : Addr} {rsgD : List Value}
    {fgR : Addr} {odgR angR : Option Addr} {slgR : Array (Option Value)} {ocgR kVgR dcgR pmgR cdgR ctgR : Value}
    {pgR : Addr} {rsgR : List Value}
    {fmC : Addr} {odmC anmC : Option Addr} {slmC : Array (Option Value)} {ocmC kVmC dcmC pmmC cdmC ctmC : Value}
    {fmG : Addr} {odmG anmG : Option Addr} {slmG : Array (Option Value)} {ocmG kVmG dcmG pmmG cdmG ctmG : Value}
    {fmE : Addr} {odmE anmE : Option Addr} {slmE : Array (Option Value)} {ocmE kVmE dcmE pmmE cdmE ctmE : Value}
    {fmA : Addr} {odmA anmA : Option Addr} {slmA : Array (Option Value)} {ocmA kVmA dcmA pmmA cdmA ctmA : Value}
    {fDvD : Addr} {odDvD anDvD : Option Addr} {slDvD : Array (Option Value)} {ocDvD kVDvD dcDvD pmDvD cdDvD ctDvD : Value}
    {pDvD : Addr} {rsDvD : List Value}
    {fDvS : Addr} {odDvS anDvS : Option Addr} {slDvS : Array (Option Value)} {ocDvS kVDvS dcDvS pmDvS cdDvS ctDvS : Value}
    {pDvS : Addr} {rsDvS : List Value}
    {fEqD : Addr} {odEqD anEqD : Option Addr} {slEqD : Array (Option Value)} {ocEqD kVEqD dcEqD pmEqD cdEqD ctEqD : Value}
    {fEqS : Addr} {odEqS anEqS : Option Addr} {slEqS : Array (Option Value)} {ocEqS kVEqS dcEqS pmEqS cdEqS ctEqS : Value}
    {fwL : Addr} {odwL anwL : Option Addr} {slwL : Array (Option Value)} {ocwL kVwL dcwL pmwL cdwL ctwL : Value}
    {pwL : Addr} {rswL : List Value}
    {fwI : Addr} {odwI anwI : Option Addr} {slwI : Array (Option Value)} {ocwI kVwI dcwI pmwI cdwI ctwI : Value}
    {fwG : Addr} {odwG anwG : Option Addr} {slwG : Array (Option Value)} {ocwG kVwG dcwG pmwG cdwG ctwG : Value}
    {fwB : Addr} {odwB anwB : Option Addr} {slwB : Array (Option Value)} {ocwB kVwB dcwB pmwB cdwB ctwB : Value}
    {fwE : Addr} {odwE anwE : Option Addr} {slwE : Array (Option Value)} {ocwE kVwE dcwE pmwE cdwE ctwE : Value}
    {fwA : Addr} {odwA anwA : Option Addr} {slwA : Array (Option Value)} {ocwA kVwA dcwA pmwA cdwA ctwA : Value}
    {fwS : Addr} {odwS anwS : Option Addr} {slwS : Array (Option Value)} {ocwS kVwS dcwS pmwS cdwS ctwS : Value}
    {fwR : Addr} {odwR anwR : Option Addr} {slwR : Array (Option Value)} {ocwR kVwR dcwR pmwR cdwR ctwR : Value}
    {fwO : Addr} {odwO anwO : Option Addr} {slwO : Array (Option Value)} {ocwO kVwO dcwO pmwO cdwO ctwO : Value}
    {pwO : Addr} {rswO : List Value}
    {fwT : Addr} {odwT anwT : Option Addr} {slwT : Array (Option Value)} {ocwT kVwT dcwT pmwT cdwT ctwT : Value}
    {pwT : Addr} {rswT : List Value}
    {fFI DFI : Addr} {odFI anFI : Option Addr} {slFI : Array (Option Value)} {ocFI dcFI pmFI cdFI ctFI x1FI x2FI x3FI : Value}
    {fO DO : Addr} {odO anO : Option Addr} {slO : Array (Option Value)} {ocO dcO pmO cdO ctO x1O x2O x3O : Value}
    {pO : Addr} {rsO : List Value} {mcF uM : Value}
    {fIE xIE yIE : Addr} {odIE anIE : Option Addr} {slIE : Array (Option Value)} {ocIE kVIE dcIE pmIE ctIE : Value}
    {u1IE u2IE : Value} {v1IE v2IE : Option Addr} {vsIE : Array Value} {w1IE w2IE : Array (Option Value)} {flIE : Str} {tfIE : Tok}
    {fDI xDI yDI : Addr} {odDI anDI : Option Addr} {slDI : Array (Option Value)} {ocDI kVDI dcDI pmDI ctDI : Value}
    {u1DI u2DI : Value} {v1DI v2DI : Option Addr} {vsDI : Array Value} {w1DI w2DI : Array (Option Value)} {flDI : Str} {tfDI : Tok}
    {fSI xSI ySI : Addr} {odSI anSI : Option Addr} {slSI : Array (Option Value)} {ocSI kVSI dcSI pmSI ctSI : Value}
    {u1SI u2SI : Value} {v1SI v2SI : Option Addr} {vsSI : Array Value} {w1SI w2SI : Array (Option Value)} {flSI : Str} {tfSI : Tok}
    {fNL xNL yNL : Addr} {odNL anNL : Option Addr} {slNL : Array (Option Value)} {ocNL kVNL dcNL pmNL ctNL : Value}
    {u1NL u2NL : Value} {v1NL v2NL : Option Addr} {vsNL : Array Value} {w1NL w2NL : Array (Option Value)} {flNL : Str} {tfNL : Tok}
    {cdCI : ClassData}
    {cdCD : ClassData}
    {cdCS : ClassData}
    {cdCL : ClassData}
    {cdCN : ClassData}
    {nm q : Str} {Ns : Addr} {bs bm sub : List Value} {sn : List Str} {ab : Bool} {col : Option Bool} {dd : Option Addr} {k0 k1 k2 k3 k5 : Option Value}
    {fwN pwN TwN : Addr} {rswN : List Value} {odwN anwN dwN : Option Addr} {slwN s2wN : Array (Option Value)} {ocwN kVwN dcwN pmwN cdwN ctwN : Value} {itwN : Array Value} {nwN : Nat}
    (gCI : PySem.W.nsIn K mainGlobals "InvalidFrame" = some (some (.ref CI)))
    (gCL : PySem.W.nsIn K mainGlobals "Leg" = some (some (.ref CL)))
    (gCD : PySem.W.nsIn K mainGlobals "Driver" = some (some (.ref CD)))
    (gCS : PySem.W.nsIn K mainGlobals "Listener" = some (some (.ref CS)))
    (gCF : PySem.W.nsIn K mainGlobals "Frame" = some (some (.ref CF)))
    (gCN : PySem.W.nsIn K mainGlobals "NoLeg" = some (some (.ref CN)))
    (gCW : PySem.W.nsIn K mainGlobals "Word" = some (some (.ref CW)))
    (gLet : PySem.W.nsIn K mainGlobals "LETTERS" = some (some (.str lettersS tL)))
    (gLon : PySem.W.nsIn K mainGlobals "LONGEST" = some (some (.int 8 tN)))
    (gRes : PySem.W.nsIn K mainGlobals "RESERVED" = some (some (.ref aR)))
    (lRes : K.lookup aR = some ⟨.type "tuple", dR, .seq itsR nR, slR⟩)
    (sRes : itsR.size ≤ sizeLine)
    (vRes : Vals reservedV itsR.toList)
    (z_dict : PySem.W.nsIn K mainGlobals "dict" = some none)
    (z_min : PySem.W.nsIn K mainGlobals "min" = some none)
    (z_set : PySem.W.nsIn K mainGlobals "set" = some none)
    (z_isinstance : PySem.W.nsIn K mainGlobals "isinstance" = some none)
    (z_str : PySem.W.nsIn K mainGlobals "str" = some none)
    (z_len : PySem.W.nsIn K mainGlobals "len" = some none)
    (z_all : PySem.W.nsIn K mainGlobals "all" = some none)
    (z_bool : PySem.W.nsIn K mainGlobals "bool" = some none)
    (z_int : PySem.W.nsIn K mainGlobals "int" = some none)
    (z_abs : PySem.W.nsIn K mainGlobals "abs" = some none)
    (z_range : PySem.W.nsIn K mainGlobals "range" = some none)
    (z_list : PySem.W.nsIn K mainGlobals "list" = some none)
    (z_tuple : PySem.W.nsIn K mainGlobals "tuple" = some none)
    (z_sorted : PySem.W.nsIn K mainGlobals "sorted" = some none)
    (z_super : PySem.W.nsIn K mainGlobals "super" = some none)
    (z_repr : PySem.W.nsIn K mainGlobals "repr" = some none)
    (tyW : PySem.W.typeIn K (.ref CW) = some mcW)
    (rdW : PySem.W.readsIn K CW mcW = true)
    (gaW : PySem.W.specialIn K (.ref CW) "__getattribute__" = some (some (.builtin "type.__getattribute__")))
    (aN : PySem.W.nsIn K mainGlobals "is_name" = some (some (.ref fN)))
    (lN : K.lookup fN = some ⟨ocN, odN, .func (PySem.W.fnOf "is_name" "is_name" (defArgs sIsName) (defBody sIsName) (defScope sIsName) .none kVN dcN pmN anN cdN ctN), slN⟩)
    (cN : PySem.W.codeIn K cdN "is_name" = true)
    (kN : PySem.W.keepIn K (.ref fN) = true)
    (aIi : PySem.W.nsIn K mainGlobals "is_integer" = some (some (.ref fIi)))
    (lIi : K.lookup fIi = some ⟨ocIi, odIi, .func (PySem.W.fnOf "is_integer" "is_integer" (defArgs sIsInt) (defBody sIsInt) (defScope sIsInt) .none kVIi dcIi pmIi anIi cdIi ctIi), slIi⟩)
    (cIi : PySem.W.codeIn K cdIi "is_integer" = true)
    (kIi : PySem.W.keepIn K (.ref fIi) = true)
    (aBt : PySem.W.nsIn K mainGlobals "is_between" = some (some (.ref fBt)))
    (lBt : K.lookup fBt = some ⟨ocBt, odBt, .func (PySem.W.fnOf "is_between" "is_between" (defArgs sBetw) (defBody sBetw) (defScope sBetw) .none kVBt dcBt pmBt anBt cdBt ctBt), slBt⟩)
    (cBt : PySem.W.codeIn K cdBt "is_between" = true)
    (kBt : PySem.W.keepIn K (.ref fBt) = true)
    (aWr : PySem.W.nsIn K mainGlobals "wrong_frame" = some (some (.ref fWr)))
    (lWr : K.lookup fWr = some ⟨ocWr, odWr, .func (PySem.W.fnOf "wrong_frame" "wrong_frame" (defArgs sWrong) (defBody sWrong) (defScope sWrong) .none kVWr dcWr pmWr anWr cdWr ctWr), slWr⟩)
    (cWr : PySem.W.codeIn K cdWr "wrong_frame" = true)
    (kWr : PySem.W.keepIn K (.ref fWr) = true)
    (aLI : PySem.W.findIn K (.ref CL) "__init__" = some (some (.ref fLI)))
    (iLI : PySem.W.isFn K (.ref fLI) = true)
    (lLI : K.lookup fLI = some ⟨ocLI, odLI, .func (PySem.W.fnOf "__init__" "Leg.__init__" (defArgs sLegI) (defBody sLegI) (defScope sLegI) .none kVLI dcLI pmLI anLI cdLI ctLI), slLI⟩)
    (cLI : PySem.W.codeIn K cdLI "Leg.__init__" = true)
    (kLI : PySem.W.keepIn K (.ref fLI) = true)
    (aPn : PySem.W.nsIn K mainGlobals "_law_pen" = some (some (.ref fPn)))
    (lPn : K.lookup fPn = some ⟨ocPn, odPn, .func (PySem.W.fnOf "_law_pen" "_law_pen" (defArgs sPen) (defBody sPen) (defScope sPen) .none kVPn dcPn pmPn anPn cdPn ctPn), slPn⟩)
    (cPn : PySem.W.codeIn K cdPn "_law_pen" = true)
    (kPn : PySem.W.keepIn K (.ref fPn) = true)
    (aDr : PySem.W.nsIn K mainGlobals "_law_draw" = some (some (.ref fDr)))
    (lDr : K.lookup fDr = some ⟨ocDr, odDr, .func (PySem.W.fnOf "_law_draw" "_law_draw" (defArgs sDraw) (defBody sDraw) (defScope sDraw) .none kVDr dcDr pmDr anDr cdDr ctDr), slDr⟩)
    (cDr : PySem.W.codeIn K cdDr "_law_draw" = true)
    (kDr : PySem.W.keepIn K (.ref fDr) = true)
    (aPk : PySem.W.nsIn K mainGlobals "_law_pick" = some (some (.ref fPk)))
    (lPk : K.lookup fPk = some ⟨ocPk, odPk, .func (PySem.W.fnOf "_law_pick" "_law_pick" (defArgs sPick) (defBody sPick) (defScope sPick) .none kVPk dcPk pmPk anPk cdPk ctPk), slPk⟩)
    (cPk : PySem.W.codeIn K cdPk "_law_pick" = true)
    (kPk : PySem.W.keepIn K (.ref fPk) = true)
    (aTg : PySem.W.nsIn K mainGlobals "_law_tags" = some (some (.ref fTg)))
    (lTg : K.lookup fTg = some ⟨ocTg, odTg, .func (PySem.W.fnOf "_law_tags" "_law_tags" (defArgs sTags) (defBody sTags) (defScope sTags) .none kVTg dcTg pmTg anTg cdTg ctTg), slTg⟩)
    (cTg : PySem.W.codeIn K cdTg "_law_tags" = true)
    (kTg : PySem.W.keepIn K (.ref fTg) = true)
    (aBa : PySem.W.nsIn K mainGlobals "_law_bare" = some (some (.ref fBa)))
    (lBa : K.lookup fBa = some ⟨ocBa, odBa, .func (PySem.W.fnOf "_law_bare" "_law_bare" (defArgs sBare) (defBody sBare) (defScope sBare) .none kVBa dcBa pmBa anBa cdBa ctBa), slBa⟩)
    (cBa : PySem.W.codeIn K cdBa "_law_bare" = true)
    (kBa : PySem.W.keepIn K (.ref fBa) = true)
    (aFm : PySem.W.nsIn K mainGlobals "_law_frame" = some (some (.ref fFm)))
    (lFm : K.lookup fFm = some ⟨ocFm, odFm, .func (PySem.W.fnOf "_law_frame" "_law_frame" (defArgs sFrm) (defBody sFrm) (defScope sFrm) .none kVFm dcFm pmFm anFm cdFm ctFm), slFm⟩)
    (cFm : PySem.W.codeIn K cdFm "_law_frame" = true)
    (kFm : PySem.W.keepIn K (.ref fFm) = true)
    (aLg : PySem.W.nsIn K mainGlobals "_law_legs" = some (some (.ref fLg)))
    (lLg : K.lookup fLg = some ⟨ocLg, odLg, .func (PySem.W.fnOf "_law_legs" "_law_legs" (defArgs sLgs) (defBody sLgs) (defScope sLgs) .none kVLg dcLg pmLg anLg cdLg ctLg), slLg⟩)
    (cLg : PySem.W.codeIn K cdLg "_law_legs" = true)
    (kLg : PySem.W.keepIn K (.ref fLg) = true)
    (aId : PySem.W.nsIn K mainGlobals "is_driver" = some (some (.ref fId)))
    (lId : K.lookup fId = some ⟨ocId, odId, .func (PySem.W.fnOf "is_driver" "is_driver" (defArgs sIsD) (defBody sIsD) (defScope sIsD) .none kVId dcId pmId anId cdId ctId), slId⟩)
    (cId : PySem.W.codeIn K cdId "is_driver" = true)
    (kId : PySem.W.keepIn K (.ref fId) = true)
    (aDl : PySem.W.nsIn K mainGlobals "driver_levels" = some (some (.ref fDl)))
    (lDl : K.lookup fDl = some ⟨ocDl, odDl, .func (PySem.W.fnOf "driver_levels" "driver_levels" (defArgs sDL) (defBody sDL) (defScope sDL) .none kVDl dcDl pmDl anDl cdDl ctDl), slDl⟩)
    (cDl : PySem.W.codeIn K cdDl "driver_levels" = true)
    (kDl : PySem.W.keepIn K (.ref fDl) = true)
    (aLv : PySem.W.nsIn K mainGlobals "_law_levels" = some (some (.ref fLv)))
    (lLv : K.lookup fLv = some ⟨ocLv, odLv, .func (PySem.W.fnOf "_law_levels" "_law_levels" (defArgs sLvs) (defBody sLvs) (defScope sLvs) .none kVLv dcLv pmLv anLv cdLv ctLv), slLv⟩)
    (cLv : PySem.W.codeIn K cdLv "_law_levels" = true)
    (kLv : PySem.W.keepIn K (.ref fLv) = true)
    (aIw : PySem.W.nsIn K mainGlobals "is_word_of" = some (some (.ref fIw)))
    (lIw : K.lookup fIw = some ⟨ocIw, odIw, .func (PySem.W.fnOf "is_word_of" "is_word_of" (defArgs sIsW) (defBody sIsW) (defScope sIsW) .none kVIw dcIw pmIw anIw cdIw ctIw), slIw⟩)
    (cIw : PySem.W.codeIn K cdIw "is_word_of" = true)
    (kIw : PySem.W.keepIn K (.ref fIw) = true)
    (aWq : PySem.W.nsIn K mainGlobals "_law_word" = some (some (.ref fWq)))
    (lWq : K.lookup fWq = some ⟨ocWq, odWq, .func (PySem.W.fnOf "_law_word" "_law_word" (defArgs sWrd) (defBody sWrd) (defScope sWrd) .none kVWq dcWq pmWq anWq cdWq ctWq), slWq⟩)
    (cWq : PySem.W.codeIn K cdWq "_law_word" = true)
    (kWq : PySem.W.keepIn K (.ref fWq) = true)
    (aLl : PySem.W.nsIn K mainGlobals "_law_lone_words" = some (some (.ref fLl)))
    (lLl : K.lookup fLl = some ⟨ocLl, odLl, .func (PySem.W.fnOf "_law_lone_words" "_law_lone_words" (defArgs sLon) (defBody sLon) (defScope sLon) .none kVLl dcLl pmLl anLl cdLl ctLl), slLl⟩)
    (cLl : PySem.W.codeIn K cdLl "_law_lone_words" = true)
    (kLl : PySem.W.keepIn K (.ref fLl) = true)
    (aBo : PySem.W.nsIn K mainGlobals "_law_both_right" = some (some (.ref fBo)))
    (lBo : K.lookup fBo = some ⟨ocBo, odBo, .func (PySem.W.fnOf "_law_both_right" "_law_both_right" (defArgs sBth) (defBody sBth) (defScope sBth) .none kVBo dcBo pmBo anBo cdBo ctBo), slBo⟩)
    (cBo : PySem.W.codeIn K cdBo "_law_both_right" = true)
    (kBo : PySem.W.keepIn K (.ref fBo) = true)
    (aLw : PySem.W.nsIn K mainGlobals "law" = some (some (.ref fLw)))
    (lLw : K.lookup fLw = some ⟨ocLw, odLw, .func (PySem.W.fnOf "law" "law" (defArgs sLaw8) (defBody sLaw8) (defScope sLaw8) .none kVLw dcLw pmLw anLw cdLw ctLw), slLw⟩)
    (cLw : PySem.W.codeIn K cdLw "law" = true)
    (kLw : PySem.W.keepIn K (.ref fLw) = true)
    (agL : PySem.W.findIn K (.ref CF) "legs" = some (some (.ref pgL)))
    (bgL : PySem.W.specialIn K (.ref pgL) "__get__" = some (some (.builtin "property.__get__")))
    (dgL : PySem.W.takesIn K (.ref pgL) = some true)
    (egL : PySem.W.recIn K pgL "property" = some (.ref fgL :: rsgL))
    (lgL : K.lookup fgL = some ⟨ocgL, odgL, .func (PySem.W.fnOf "legs" "Frame.legs" (defArgs (sFr 3)) (defBody (sFr 3)) (defScope (sFr 3)) .none kVgL dcgL pmgL angL cdgL ctgL), slgL⟩)
    (cgL : PySem.W.codeIn K cdgL "Frame.legs" = true)
    (kgL : PySem.W.keepIn K (.ref fgL) = true)
    (agD : PySem.W.findIn K (.ref CF) "drivers" = some (some (.ref pgD)))
    (bgD : PySem.W.specialIn K (.ref pgD) "__get__" = some (some (.builtin "property.__get__")))
    (dgD : PySem.W.takesIn K (.ref pgD) = some true)
    (egD : PySem.W.recIn K pgD "property" = some (.ref fgD :: rsgD))
    (lgD : K.lookup fgD = some ⟨ocgD, odgD, .func (PySem.W.fnOf "drivers" "Frame.drivers" (defArgs (sFr 5)) (defBody (sFr 5)) (defScope (sFr 5)) .none kVgD dcgD pmgD angD cdgD ctgD), slgD⟩)
    (cgD : PySem.W.codeIn K cdgD "Frame.drivers" = true)
    (kgD : PySem.W.keepIn K (.ref fgD) = true)
    (agR : PySem.W.findIn K (.ref CF) "rails" = some (some (.ref pgR)))
    (bgR : PySem.W.specialIn K (.ref pgR) "__get__" = some (some (.builtin "property.__get__")))
    (dgR : PySem.W.takesIn K (.ref pgR) = some true)
    (egR : PySem.W.recIn K pgR "property" = some (.ref fgR :: rsgR))
    (lgR : K.lookup fgR = some ⟨ocgR, odgR, .func (PySem.W.fnOf "rails" "Frame.rails" (defArgs (sFr 7)) (defBody (sFr 7)) (defScope (sFr 7)) .none kVgR dcgR pmgR angR cdgR ctgR), slgR⟩)
    (cgR : PySem.W.codeIn K cdgR "Frame.rails" = true)
    (kgR : PySem.W.keepIn K (.ref fgR) = true)
    (amC : PySem.W.findIn K (.ref CF) "__contains__" = some (some (.ref fmC)))
    (imC : PySem.W.isFn K (.ref fmC) = true)
    (jmC : PySem.W.fnIn K fmC = true)
    (lmC : K.lookup fmC = some ⟨ocmC, odmC, .func (PySem.W.fnOf "__contains__" "Frame.__contains__" (defArgs (sFr 9)) (defBody (sFr 9)) (defScope (sFr 9)) .none kVmC dcmC pmmC anmC cdmC ctmC), slmC⟩)
    (cmC : PySem.W.codeIn K cdmC "Frame.__contains__" = true)
    (kmC : PySem.W.keepIn K (.ref fmC) = true)
    (amG : PySem.W.findIn K (.ref CF) "__getitem__" = some (some (.ref fmG)))
    (imG : PySem.W.isFn K (.ref fmG) = true)
    (jmG : PySem.W.fnIn K fmG = true)
    (lmG : K.lookup fmG = some ⟨ocmG, odmG, .func (PySem.W.fnOf "__getitem__" "Frame.__getitem__" (defArgs (sFr 10)) (defBody (sFr 10)) (defScope (sFr 10)) .none kVmG dcmG pmmG anmG cdmG ctmG), slmG⟩)
    (cmG : PySem.W.codeIn K cdmG "Frame.__getitem__" = true)
    (kmG : PySem.W.keepIn K (.ref fmG) = true)
    (amE : PySem.W.findIn K (.ref CF) "__eq__" = some (some (.ref fmE)))
    (imE : PySem.W.isFn K (.ref fmE) = true)
    (lmE : K.lookup fmE = some ⟨ocmE, odmE, .func (PySem.W.fnOf "__eq__" "Frame.__eq__" (defArgs (sFr 13)) (defBody (sFr 13)) (defScope (sFr 13)) .none kVmE dcmE pmmE anmE cdmE ctmE), slmE⟩)
    (cmE : PySem.W.codeIn K cdmE "Frame.__eq__" = true)
    (kmE : PySem.W.keepIn K (.ref fmE) = true)
    (amA : PySem.W.findIn K (.ref CF) "__add__" = some (some (.ref fmA)))
    (imA : PySem.W.isFn K (.ref fmA) = true)
    (lmA : K.lookup fmA = some ⟨ocmA, odmA, .func (PySem.W.fnOf "__add__" "Frame.__add__" (defArgs (sFr 14)) (defBody (sFr 14)) (defScope (sFr 14)) .none kVmA dcmA pmmA anmA cdmA ctmA), slmA⟩)
    (cmA : PySem.W.codeIn K cdmA "Frame.__add__" = true)
    (kmA : PySem.W.keepIn K (.ref fmA) = true)
    (aDvD : PySem.W.findIn K (.ref CD) "drives" = some (some (.ref pDvD)))
    (bDvD : PySem.W.specialIn K (.ref pDvD) "__get__" = some (some (.builtin "property.__get__")))
    (dDvD : PySem.W.takesIn K (.ref pDvD) = some true)
    (eDvD : PySem.W.recIn K pDvD "property" = some (.ref fDvD :: rsDvD))
    (lDvD : K.lookup fDvD = some ⟨ocDvD, odDvD, .func (PySem.W.fnOf "drives" "Driver.drives" (defArgs (sDrv 2)) (defBody (sDrv 2)) (defScope (sDrv 2)) .none kVDvD dcDvD pmDvD anDvD cdDvD ctDvD), slDvD⟩)
    (cDvD : PySem.W.codeIn K cdDvD "Driver.drives" = true)
    (kDvD : PySem.W.keepIn K (.ref fDvD) = true)
    (aDvS : PySem.W.findIn K (.ref CS) "drives" = some (some (.ref pDvS)))
    (bDvS : PySem.W.specialIn K (.ref pDvS) "__get__" = some (some (.builtin "property.__get__")))
    (dDvS : PySem.W.takesIn K (.ref pDvS) = some true)
    (eDvS : PySem.W.recIn K pDvS "property" = some (.ref fDvS :: rsDvS))
    (lDvS : K.lookup fDvS = some ⟨ocDvS, odDvS, .func (PySem.W.fnOf "drives" "Listener.drives" (defArgs (sLis 2)) (defBody (sLis 2)) (defScope (sLis 2)) .none kVDvS dcDvS pmDvS anDvS cdDvS ctDvS), slDvS⟩)
    (cDvS : PySem.W.codeIn K cdDvS "Listener.drives" = true)
    (kDvS : PySem.W.keepIn K (.ref fDvS) = true)
    (aEqD : PySem.W.findIn K (.ref CD) "__eq__" = some (some (.ref fEqD)))
    (iEqD : PySem.W.isFn K (.ref fEqD) = true)
    (lEqD : K.lookup fEqD = some ⟨ocEqD, odEqD, .func (PySem.W.fnOf "__eq__" "Driver.__eq__" (defArgs (sDrv 3)) (defBody (sDrv 3)) (defScope (sDrv 3)) .none kVEqD dcEqD pmEqD anEqD cdEqD ctEqD), slEqD⟩)
    (cEqD : PySem.W.codeIn K cdEqD "Driver.__eq__" = true)
    (kEqD : PySem.W.keepIn K (.ref fEqD) = true)
    (aEqS : PySem.W.findIn K (.ref CS) "__eq__" = some (some (.ref fEqS)))
    (iEqS : PySem.W.isFn K (.ref fEqS) = true)
    (lEqS : K.lookup fEqS = some ⟨ocEqS, odEqS, .func (PySem.W.fnOf "__eq__" "Listener.__eq__" (defArgs (sLis 3)) (defBody (sLis 3)) (defScope (sLis 3)) .none kVEqS dcEqS pmEqS anEqS cdEqS ctEqS), slEqS⟩)
    (cEqS : PySem.W.codeIn K cdEqS "Listener.__eq__" = true)
    (kEqS : PySem.W.keepIn K (.ref fEqS) = true)
    (awL : PySem.W.findIn K (.ref CW) "low" = some (some (.ref pwL)))
    (bwL : PySem.W.specialIn K (.ref pwL) "__get__" = some (some (.builtin "property.__get__")))
    (dwL : PySem.W.takesIn K (.ref pwL) = some true)
    (ewL : PySem.W.recIn K pwL "property" = some (.ref fwL :: rswL))
    (lwL : K.lookup fwL = some ⟨ocwL, odwL, .func (PySem.W.fnOf "low" "Word.low" (defArgs (sWd 4)) (defBody (sWd 4)) (defScope (sWd 4)) .none kVwL dcwL pmwL anwL cdwL ctwL), slwL⟩)
    (cwL : PySem.W.codeIn K cdwL "Word.low" = true)
    (kwL : PySem.W.keepIn K (.ref fwL) = true)
    (awI : PySem.W.findIn K (.ref CW) "__init__" = some (some (.ref fwI)))
    (iwI : PySem.W.isFn K (.ref fwI) = true)
    (lwI : K.lookup fwI = some ⟨ocwI, odwI, .func (PySem.W.fnOf "__init__" "Word.__init__" (defArgs (sWd 0)) (defBody (sWd 0)) (defScope (sWd 0)) .none kVwI dcwI pmwI anwI cdwI ctwI), slwI⟩)
    (cwI : PySem.W.codeIn K cdwI "Word.__init__" = true)
    (kwI : PySem.W.keepIn K (.ref fwI) = true)
    (awG : PySem.W.findIn K (.ref CW) "__getitem__" = some (some (.ref fwG)))
    (iwG : PySem.W.isFn K (.ref fwG) = true)
    (jwG : PySem.W.fnIn K fwG = true)
    (lwG : K.lookup fwG = some ⟨ocwG, odwG, .func (PySem.W.fnOf "__getitem__" "Word.__getitem__" (defArgs (sWd 5)) (defBody (sWd 5)) (defScope (sWd 5)) .none kVwG dcwG pmwG anwG cdwG ctwG), slwG⟩)
    (cwG : PySem.W.codeIn K cdwG "Word.__getitem__" = true)
    (kwG : PySem.W.keepIn K (.ref fwG) = true)
    (awB : PySem.W.findIn K (.ref CW) "__bool__" = some (some (.ref fwB)))
    (iwB : PySem.W.isFn K (.ref fwB) = true)
    (lwB : K.lookup fwB = some ⟨ocwB, odwB, .func (PySem.W.fnOf "__bool__" "Word.__bool__" (defArgs (sWd 7)) (defBody (sWd 7)) (defScope (sWd 7)) .none kVwB dcwB pmwB anwB cdwB ctwB), slwB⟩)
    (cwB : PySem.W.codeIn K cdwB "Word.__bool__" = true)
    (kwB : PySem.W.keepIn K (.ref fwB) = true)
    (awE : PySem.W.findIn K (.ref CW) "__eq__" = some (some (.ref fwE)))
    (iwE : PySem.W.isFn K (.ref fwE) = true)
    (lwE : K.lookup fwE = some ⟨ocwE, odwE, .func (PySem.W.fnOf "__eq__" "Word.__eq__" (defArgs (sWd 8)) (defBody (sWd 8)) (defScope (sWd 8)) .none kVwE dcwE pmwE anwE cdwE ctwE), slwE⟩)
    (cwE : PySem.W.codeIn K cdwE "Word.__eq__" = true)
    (kwE : PySem.W.keepIn K (.ref fwE) = true)
    (awA : PySem.W.findIn K (.ref CW) "__and__" = some (some (.ref fwA)))
    (iwA : PySem.W.isFn K (.ref fwA) = true)
    (lwA : K.lookup fwA = some ⟨ocwA, odwA, .func (PySem.W.fnOf "__and__" "Word.__and__" (defArgs (sWd 9)) (defBody (sWd 9)) (defScope (sWd 9)) .none kVwA dcwA pmwA anwA cdwA ctwA), slwA⟩)
    (cwA : PySem.W.codeIn K cdwA "Word.__and__" = true)
    (kwA : PySem.W.keepIn K (.ref fwA) = true)
    (awS : PySem.W.findIn K (.ref CW) "__str__" = some (some (.ref fwS)))
    (iwS : PySem.W.isFn K (.ref fwS) = true)
    (lwS : K.lookup fwS = some ⟨ocwS, odwS, .func (PySem.W.fnOf "__str__" "Word.__str__" (defArgs (sWd 10)) (defBody (sWd 10)) (defScope (sWd 10)) .none kVwS dcwS pmwS anwS cdwS ctwS), slwS⟩)
    (cwS : PySem.W.codeIn K cdwS "Word.__str__" = true)
    (kwS : PySem.W.keepIn K (.ref fwS) = true)
    (awR : PySem.W.findIn K (.ref CW) "__repr__" = some (some (.ref fwR)))
    (iwR : PySem.W.isFn K (.ref fwR) = true)
    (lwR : K.lookup fwR = some ⟨ocwR, odwR, .func (PySem.W.fnOf "__repr__" "Word.__repr__" (defArgs (sWd 11)) (defBody (sWd 11)) (defScope (sWd 11)) .none kVwR dcwR pmwR anwR cdwR ctwR), slwR⟩)
    (cwR : PySem.W.codeIn K cdwR "Word.__repr__" = true)
    (kwR : PySem.W.keepIn K (.ref fwR) = true)
    (awO : PySem.W.findCls K (.ref CW) mcW "of" = some (.get (.builtin "classmethod.__get__") (.ref pwO) .none (.ref CW)))
    (rwO : PySem.W.recIn K pwO "classmethod" = some (.ref fwO :: rswO))
    (jwO : PySem.W.fnIn K fwO = true)
    (lwO : K.lookup fwO = some ⟨ocwO, odwO, .func (PySem.W.fnOf "of" "Word.of" (defArgs (sWd 1)) (defBody (sWd 1)) (defScope (sWd 1)) .none kVwO dcwO pmwO anwO cdwO ctwO), slwO⟩)
    (cwO : PySem.W.codeIn K cdwO "Word.of" = true)
    (kwO : PySem.W.keepIn K (.ref fwO) = true)
    (awT : PySem.W.findCls K (.ref CW) mcW "rest" = some (.get (.builtin "classmethod.__get__") (.ref pwT) .none (.ref CW)))
    (rwT : PySem.W.recIn K pwT "classmethod" = some (.ref fwT :: rswT))
    (jwT : PySem.W.fnIn K fwT = true)
    (lwT : K.lookup fwT = some ⟨ocwT, odwT, .func (PySem.W.fnOf "rest" "Word.rest" (defArgs (sWd 2)) (defBody (sWd 2)) (defScope (sWd 2)) .none kVwT dcwT pmwT anwT cdwT ctwT), slwT⟩)
    (cwT : PySem.W.codeIn K cdwT "Word.rest" = true)
    (kwT : PySem.W.keepIn K (.ref fwT) = true)
    (aFI : PySem.W.findIn K (.ref CF) "__init__" = some (some (.ref fFI)))
    (iFI : PySem.W.isFn K (.ref fFI) = true)
    (lFI : K.lookup fFI = some ⟨ocFI, odFI, .func (PySem.W.fnOf "__init__" "Frame.__init__" (defArgs sFrI) (defBody sFrI) (defScope sFrI) .none (.ref DFI) dcFI pmFI anFI cdFI ctFI), slFI⟩)
    (cFI : PySem.W.codeIn K cdFI "Frame.__init__" = true)
    (kFI : PySem.W.keepIn K (.ref fFI) = true)
    (n1FI : PySem.W.nsIn K DFI "top" = some (some x1FI))
    (r1FI : RelV (.int 1) x1FI)
    (n2FI : PySem.W.nsIn K DFI "ground" = some (some x2FI))
    (r2FI : RelV (.bl false) x2FI)
    (n3FI : PySem.W.nsIn K DFI "power" = some (some x3FI))
    (r3FI : RelV (.bl false) x3FI)
    (tyF : PySem.W.typeIn K (.ref CF) = some mcF)
    (rdF : PySem.W.readsIn K CF mcF = true)
    (gaF : PySem.W.specialIn K (.ref CF) "__getattribute__" = some (some (.builtin "type.__getattribute__")))
    (moF : PySem.W.findCls K (.ref CF) mcF "MOST" = some (.val uM))
    (rmF : RelV (.int 40) uM)
    (aO : PySem.W.findCls K (.ref CF) mcF "of" = some (.get (.builtin "classmethod.__get__") (.ref pO) .none (.ref CF)))
    (rO : PySem.W.recIn K pO "classmethod" = some (.ref fO :: rsO))
    (fO_ : PySem.W.fnIn K fO = true)
    (lO : K.lookup fO = some ⟨ocO, odO, .func (PySem.W.fnOf "of" "Frame.of" (defArgs sOf) (defBody sOf) (defScope sOf) .none (.ref DO) dcO pmO anO cdO ctO), slO⟩)
    (cO : PySem.W.codeIn K cdO "Frame.of" = true)
    (kO : PySem.W.keepIn K (.ref fO) = true)
    (n1O : PySem.W.nsIn K DO "top" = some (some x1O))
    (r1O : RelV (.int 1) x1O)
    (n2O : PySem.W.nsIn K DO "ground" = some (some x2O))
    (r2O : RelV (.bl false) x2O)
    (n3O : PySem.W.nsIn K DO "power" = some (some x3O))
    (r3O : RelV (.bl false) x3O)
    (aIE : PySem.W.findIn K (.ref CI) "__init__" = some (some (.ref fIE)))
    (iIE : PySem.W.isFn K (.ref fIE) = true)
    (tIE : PySem.W.typeIn K (.ref fIE) = some (.type "function"))
    (lIE : K.lookup fIE = some ⟨ocIE, odIE, .func (PySem.W.fnX "__init__" "InvalidFrame.__init__" (defArgs sInv) (defBody sInv) (defScope sInv) [("__class__", yIE)] .none kVIE dcIE pmIE anIE (.ref xIE) ctIE), slIE⟩)
    (cIE : PySem.W.codeIn K (.ref xIE) "InvalidFrame.__init__" = true)
    (mIE : K.lookup xIE = some ⟨u1IE, v1IE, .fields vsIE, w1IE⟩)
    (nIE : vsIE[2]? = some (.str flIE tfIE))
    (pIE : ((P.main.file : Str) == flIE) = true)
    (qIE : K.lookup yIE = some ⟨u2IE, v2IE, .cell (some (.ref CI)), w2IE⟩)
    (kIE : PySem.W.keepIn K (.ref fIE) = true)
    (aDI : PySem.W.findIn K (.ref CD) "__init__" = some (some (.ref fDI)))
    (iDI : PySem.W.isFn K (.ref fDI) = true)
    (tDI : PySem.W.typeIn K (.ref fDI) = some (.type "function"))
    (lDI : K.lookup fDI = some ⟨ocDI, odDI, .func (PySem.W.fnX "__init__" "Driver.__init__" (defArgs sDrvI) (defBody sDrvI) (defScope sDrvI) [("__class__", yDI)] .none kVDI dcDI pmDI anDI (.ref xDI) ctDI), slDI⟩)
    (cDI : PySem.W.codeIn K (.ref xDI) "Driver.__init__" = true)
    (mDI : K.lookup xDI = some ⟨u1DI, v1DI, .fields vsDI, w1DI⟩)
    (nDI : vsDI[2]? = some (.str flDI tfDI))
    (pDI : ((P.main.file : Str) == flDI) = true)
    (qDI : K.lookup yDI = some ⟨u2DI, v2DI, .cell (some (.ref CD)), w2DI⟩)
    (kDI : PySem.W.keepIn K (.ref fDI) = true)
    (aSI : PySem.W.findIn K (.ref CS) "__init__" = some (some (.ref fSI)))
    (iSI : PySem.W.isFn K (.ref fSI) = true)
    (tSI : PySem.W.typeIn K (.ref fSI) = some (.type "function"))
    (lSI : K.lookup fSI = some ⟨ocSI, odSI, .func (PySem.W.fnX "__init__" "Listener.__init__" (defArgs sLisI) (defBody sLisI) (defScope sLisI) [("__class__", ySI)] .none kVSI dcSI pmSI anSI (.ref xSI) ctSI), slSI⟩)
    (cSI : PySem.W.codeIn K (.ref xSI) "Listener.__init__" = true)
    (mSI : K.lookup xSI = some ⟨u1SI, v1SI, .fields vsSI, w1SI⟩)
    (nSI : vsSI[2]? = some (.str flSI tfSI))
    (pSI : ((P.main.file : Str) == flSI) = true)
    (qSI : K.lookup ySI = some ⟨u2SI, v2SI, .cell (some (.ref CS)), w2SI⟩)
    (kSI : PySem.W.keepIn K (.ref fSI) = true)
    (aNL : PySem.W.findIn K (.ref CN) "__init__" = some (some (.ref fNL)))
    (iNL : PySem.W.isFn K (.ref fNL) = true)
    (tNL : PySem.W.typeIn K (.ref fNL) = some (.type "function"))
    (lNL : K.lookup fNL = some ⟨ocNL, odNL, .func (PySem.W.fnX "__init__" "NoLeg.__init__" (defArgs sNl) (defBody sNl) (defScope sNl) [("__class__", yNL)] .none kVNL dcNL pmNL anNL (.ref xNL) ctNL), slNL⟩)
    (cNL : PySem.W.codeIn K (.ref xNL) "NoLeg.__init__" = true)
    (mNL : K.lookup xNL = some ⟨u1NL, v1NL, .fields vsNL, w1NL⟩)
    (nNL : vsNL[2]? = some (.str flNL tfNL))
    (pNL : ((P.main.file : Str) == flNL) = true)
    (qNL : K.lookup yNL = some ⟨u2NL, v2NL, .cell (some (.ref CN)), w2NL⟩)
    (kNL : PySem.W.keepIn K (.ref fNL) = true)
    (top_ : (P.main.scope.names.lookup ("super" : Str)).isSome = false)
    (third : PySem.W.nsIn K cStatics "thirdparty.any" = some none)
    (clsCI : PySem.W.clsIn K CI = some cdCI)
    (mrCI : PySem.W.mroIn K CI (.ref CI) = some true)
    (clsCD : PySem.W.clsIn K CD = some cdCD)
    (mrCD : PySem.W.mroIn K CD (.ref CD) = some true)
    (clsCS : PySem.W.clsIn K CS = some cdCS)
    (mrCS : PySem.W.mroIn K CS (.ref CS) = some true)
    (clsCL : PySem.W.clsIn K CL = some cdCL)
    (mrCL : PySem.W.mroIn K CL (.ref CL) = some true)
    (clsCN : PySem.W.clsIn K CN = some cdCN)
    (mrCN : PySem.W.mroIn K CN (.ref CN) = some true)
    (exL : K.lookup CI = some (excClassObj nm q CI Ns bs bm true sn sub ab col dd k0 k1 k2 k3 k5 "ValueError.__new__"))
    (exR : PySem.HandSPX.refsVE bm = true)
    (exS : PySem.W.findIn K (.ref CI) "__setattr__" = some (some (.builtin "object.__setattr__")))
    (exB : PySem.W.subIn K (.ref CI) (.type "BaseException") = some true)
    (exV : PySem.W.subIn K (.ref CI) (.type "ValueError") = some true)
    (exT : PySem.W.typeIn K (.ref CI) = some (.type "type"))
    (exK : PySem.W.keepIn K (.ref CI) = true)
    (exN : PySem.W.findIn K (.ref CI) "reason" = some none)
    (exU : PySem.W.ks_superIn K CI CI "__init__" = some (some (.builtin "ValueError.__init__")))
    (iniN : PySem.W.excInitIn K CN tlL "LookupError.__new__" = true)
    (ovN : PySem.W.excOver K CN tlL = true)
    (saN : PySem.W.findIn K (.ref CN) "__setattr__" = some (some (.builtin "object.__setattr__")))
    (exCN : PySem.W.subIn K (.ref CN) (.type "BaseException") = some true)
    (tyN : PySem.W.typeIn K (.ref CN) = some (.type "type"))
    (kN_ : PySem.W.keepIn K (.ref CN) = true)
    (hdN : PySem.W.hasDictIn K CN = true)
    (sBN : PySem.W.subIn K (.ref CN) (.type "LookupError") = some true)
    (hmN : PySem.W.ks_superIn K CN CN "__init__" = some (some (.builtin "LookupError.__init__")))
    (noN : PySem.W.findIn K (.ref CN) "name" = some none)
    (exmN : PySem.W.exmOne K (.ref CN) (.ref CN) = some true)
    (gaN : PySem.W.findIn K (.ref CN) "__getattribute__" = some (some (.builtin "BaseException.__getattribute__")))
    (ggN : PySem.W.findIn K (.ref CN) "__getattr__" = some none)
    (caN : PySem.W.findIn K (.ref CN) "__class__" = some (some (.builtin "object.__class__")))
    (obN : PySem.W.mroIn K CN (.type "object") = some true)
    (fnLI : PySem.W.fnIn K fLI = true)
    (tyLI : PySem.W.typeIn K (.ref fLI) = some (.type "function"))
    (suCD : PySem.W.ks_superIn K CD CD "__init__" = some (some (.ref fLI)))
    (suCS : PySem.W.ks_superIn K CS CS "__init__" = some (some (.ref fLI)))
    (pgCD : PySem.W.plainGet K CD Str.empty = true)
    (hdCD : PySem.W.hasDictIn K CD = true)
    (poCD : PySem.W.plainOver K CD = true)
    (saCD : PySem.W.findIn K (.ref CD) "__setattr__" = some (some (.builtin "object.__setattr__")))
    (mkCD : PySem.W.makesIn K CD = true)
    (kcCD : PySem.W.keepIn K (.ref CD) = true)
    (caCD : PySem.W.findIn K (.ref CD) "__class__" = some (some (.builtin "object.__class__")))
    (obCD : PySem.W.mroIn K CD (.type "object") = some true)
    (neCD : PySem.W.findIn K (.ref CD) "__ne__" = some (some (.builtin "object.__ne__")))
    (nnCD : PySem.W.findIn K (.ref CD) "name" = some none)
    (pgCS : PySem.W.plainGet K CS Str.empty = true)
    (hdCS : PySem.W.hasDictIn K CS = true)
    (poCS : PySem.W.plainOver K CS = true)
    (saCS : PySem.W.findIn K (.ref CS) "__setattr__" = some (some (.builtin "object.__setattr__")))
    (mkCS : PySem.W.makesIn K CS = true)
    (kcCS : PySem.W.keepIn K (.ref CS) = true)
    (caCS : PySem.W.findIn K (.ref CS) "__class__" = some (some (.builtin "object.__class__")))
    (obCS : PySem.W.mroIn K CS (.type "object") = some true)
    (neCS : PySem.W.findIn K (.ref CS) "__ne__" = some (some (.builtin "object.__ne__")))
    (nnCS : PySem.W.findIn K (.ref CS) "name" = some none)
    (pgCF : PySem.W.plainGet K CF Str.empty = true)
    (hdCF : PySem.W.hasDictIn K CF = true)
    (poCF : PySem.W.plainOver K CF = true)
    (saCF : PySem.W.findIn K (.ref CF) "__setattr__" = some (some (.builtin "object.__setattr__")))
    (mkCF : PySem.W.makesIn K CF = true)
    (kcCF : PySem.W.keepIn K (.ref CF) = true)
    (caCF : PySem.W.findIn K (.ref CF) "__class__" = some (some (.builtin "object.__class__")))
    (obCF : PySem.W.mroIn K CF (.type "object") = some true)
    (neCF : PySem.W.findIn K (.ref CF) "__ne__" = some (some (.builtin "object.__ne__")))
    (pgCW : PySem.W.plainGet K CW Str.empty = true)
    (hdCW : PySem.W.hasDictIn K CW = true)
    (poCW : PySem.W.plainOver K CW = true)
    (saCW : PySem.W.findIn K (.ref CW) "__setattr__" = some (some (.builtin "object.__setattr__")))
    (mkCW : PySem.W.makesIn K CW = true)
    (kcCW : PySem.W.keepIn K (.ref CW) = true)
    (caCW : PySem.W.findIn K (.ref CW) "__class__" = some (some (.builtin "object.__class__")))
    (obCW : PySem.W.mroIn K CW (.type "object") = some true)
    (neCW : PySem.W.findIn K (.ref CW) "__ne__" = some (some (.builtin "object.__ne__")))
    (nwframe : PySem.W.findIn K (.ref CW) "frame" = some none)
    (nw_levels : PySem.W.findIn K (.ref CW) "_levels" = some none)
    (nf_legs : PySem.W.findIn K (.ref CF) "_legs" = some none)
    (nftop : PySem.W.findIn K (.ref CF) "top" = some none)
    (nfground : PySem.W.findIn K (.ref CF) "ground" = some none)
    (nfpower : PySem.W.findIn K (.ref CF) "power" = some none)
    (cn : PySem.W.specialIn K (.builtin "object.__class__") "__get__" = some (some (.builtin "getset_descriptor.__get__")))
    (ct : PySem.W.takesIn K (.builtin "object.__class__") = some true)
    (kdd : PySem.W.kitAny K (.ref CD) [.ref CD, .ref CS] = some true)
    (kii : PySem.W.kitAny K (.ref CS) [.ref CD, .ref CS] = some true)
    (klt : PySem.W.kitAny K (.type "list") [.type "list", .type "tuple"] = some true)
    (ktt : PySem.W.kitAny K (.type "tuple") [.type "list", .type "tuple"] = some true)
    (kkCDCD : PySem.W.kitOne K (.ref CD) (.ref CD) = some true)
    (kkCSCS : PySem.W.kitOne K (.ref CS) (.ref CS) = some true)
    (kkCFCF : PySem.W.kitOne K (.ref CF) (.ref CF) = some true)
    (kkCWCW : PySem.W.kitOne K (.ref CW) (.ref CW) = some true)
    (kkCDCS : PySem.W.kitOne K (.ref CD) (.ref CS) = some false)
    (kkCSCD : PySem.W.kitOne K (.ref CS) (.ref CD) = some false)
    (nfCDCD : PySem.W.notFirst K CD (.ref CD) = true)
    (nfCDCS : PySem.W.notFirst K CD (.ref CS) = true)
    (nfCSCD : PySem.W.notFirst K CS (.ref CD) = true)
    (nfCSCS : PySem.W.notFirst K CS (.ref CS) = true)
    (nfCFCF : PySem.W.notFirst K CF (.ref CF) = true)
    (nfCWCW : PySem.W.notFirst K CW (.ref CW) = true)
    (neDS : CD ≠ CS)
    (foW : PySem.W.findIn K (.ref CW) "__format__" = some (some (.builtin "object.__format__")))
    (nbCD : Own.noBin K CD "add" = true)
    (nefCD : CD ≠ CF)
    (nbCS : Own.noBin K CS "add" = true)
    (nefCS : CS ≠ CF)
    (sfW : PySem.W.selfFirst K CW = true)
    (sfF : PySem.W.selfFirst K CF = true)
    (wf1 : CW ≠ CF)
    (wf2 : CW ≠ CD)
    (wf3 : CW ≠ CS)
    (awN : PySem.W.findCls K (.ref CW) mcW "lone" = some (.get (.builtin "classmethod.__get__") (.ref pwN) .none (.ref CW)))
    (rwN : PySem.W.recIn K pwN "classmethod" = some (.ref fwN :: rswN))
    (jwN : PySem.W.fnIn K fwN = true)
    (lwN : K.lookup fwN = some ⟨ocwN, odwN, .func (PySem.W.fnOf "lone" "Word.lone" (defArgs (sWd 3)) (defBody (sWd 3)) (defScope (sWd 3)) (.ref TwN) kVwN dcwN pmwN anwN cdwN ctwN), slwN⟩)
    (cwN : PySem.W.codeIn K cdwN "Word.lone" = true)
    (kwN : PySem.W.keepIn K (.ref fwN) = true)
    (twN : K.lookup TwN = some ⟨.type "tuple", dwN, .seq itwN nwN, s2wN⟩)
    (vwN : Vals [.int 0] itwN.toList) :
    ∀ base : Heap, K.In base → base.Ns mainGlobals mg → AtCall P w K mg base fa (spLaw1 K) := by
  intro base _ _
  have e := hfa.symm.trans (PySem.W.mg_of X G aLw)
  cases e
  have mCI := PySem.W.mg_of X G gCI
  have mCL := PySem.W.mg_of X G gCL
  have mCD := PySem.W.mg_of X G gCD
  have mCS := PySem.W.mg_of X G gCS
  have mCF := PySem.W.mg_of X G gCF
  have mCN := PySem.W.mg_of X G gCN
  have mCW := PySem.W.mg_of X G gCW
  have y_dict := PySem.W.mg_none_of X G z_dict
  have y_min := PySem.W.mg_none_of X G z_min
  have y_set := PySem.W.mg_none_of X G z_set
  have y_isinstance := PySem.W.mg_none_of X G z_isinstance
  have y_str := PySem.W.mg_none_of X G z_str
  have y_len := PySem.W.mg_none_of X G z_len
  have y_all := PySem.W.mg_none_of X G z_all
  have y_bool := PySem.W.mg_none_of X G z_bool
  have y_int := PySem.W.mg_none_of X G z_int
  have y_abs := PySem.W.mg_none_of X G z_abs
  have y_range := PySem.W.mg_none_of X G z_range
  have y_list := PySem.W.mg_none_of X G z_list
  have y_tuple := PySem.W.mg_none_of X G z_tuple
  have y_sorted := PySem.W.mg_none_of X G z_sorted
  have y_super := PySem.W.mg_none_of X G z_super
  have y_repr := PySem.W.mg_none_of X G z_repr
  have FN := fun_mk (x := "is_name") (qual := "is_name") (st := sIsName) lN cN kN
  have mN := PySem.W.mg_of X G aN
  have bN_ := FN.binds (ps := ["value"]) fun _ _ _ _ _ _ us hl => match us, hl with | [_], _ => rfl
  have FIi := fun_mk (x := "is_integer") (qual := "is_integer") (st := sIsInt) lIi cIi kIi
  have mIi := PySem.W.mg_of X G aIi
  have bIi_ := FIi.binds (ps := ["value"]) fun _ _ _ _ _ _ us hl => match us, hl with | [_], _ => rfl
  have FBt := fun_mk (x := "is_between") (qual := "is_between") (st := sBetw) lBt cBt kBt
  have mBt := PySem.W.mg_of X G aBt
  have bBt_ := FBt.binds (ps := ["value", "least", "most"]) fun _ _ _ _ _ _ us hl => match us, hl with | [_, _, _], _ => rfl
  have FWr := fun_mk (x := "wrong_frame") (qual := "wrong_frame") (st := sWrong) lWr cWr kWr
  have mWr := PySem.W.mg_of X G aWr
  have bWr_ := FWr.binds (ps := ["legs", "top", "ground", "power"]) fun _ _ _ _ _ _ us hl => match us, hl with | [_, _, _, _], _ => rfl
  have FLI := fun_mk (x := "__init__") (qual := "Leg.__init__") (st := sLegI) lLI cLI kLI
  have bLI_ := FLI.binds (ps := ["self", "name"]) fun _ _ _ _ _ _ us hl => match us, hl with | [_, _], _ => rfl
  have FPn := fun_mk (x := "_law_pen") (qual := "_law_pen") (st := sPen) lPn cPn kPn
  have mPn := PySem.W.mg_of X G aPn
  have bPn_ := FPn.binds (ps := ["_law_script"]) fun _ _ _ _ _ _ us hl => match us, hl with | [_], _ => rfl
  have FDr := fun_mk (x := "_law_draw") (qual := "_law_draw") (st := sDraw) lDr cDr kDr
  have mDr := PySem.W.mg_of X G aDr
  have bDr_ := FDr.binds (ps := ["_law_pen_here", "_law_many"]) fun _ _ _ _ _ _ us hl => match us, hl with | [_, _], _ => rfl
  have FPk := fun_mk (x := "_law_pick") (qual := "_law_pick") (st := sPick) lPk cPk kPk
  have mPk := PySem.W.mg_of X G aPk
  have bPk_ := FPk.binds (ps := ["_law_pen_here", "_law_some"]) fun _ _ _ _ _ _ us hl => match us, hl with | [_, _], _ => rfl
  have FTg := fun_mk (x := "_law_tags") (qual := "_law_tags") (st := sTags) lTg cTg kTg
  have mTg := PySem.W.mg_of X G aTg
  have bTg_ := FTg.binds (ps := ["_law_pen_here", "_law_many"]) fun _ _ _ _ _ _ us hl => match us, hl with | [_, _], _ => rfl
  have FBa := fun_mk (x := "_law_bare") (qual := "_law_bare") (st := sBare) lBa cBa kBa
  have mBa := PySem.W.mg_of X G aBa
  have bBa_ := FBa.binds (ps := ["_law_pen_here", "_law_most"]) fun _ _ _ _ _ _ us hl => match us, hl with | [_, _], _ => rfl
  have FFm := fun_mk (x := "_law_frame") (qual := "_law_frame") (st := sFrm) lFm cFm kFm
  have mFm := PySem.W.mg_of X G aFm
  have bFm_ := FFm.binds (ps := ["_law_bare_here"]) fun _ _ _ _ _ _ us hl => match us, hl with | [_], _ => rfl
  have FLg := fun_mk (x := "_law_legs") (qual := "_law_legs") (st := sLgs) lLg cLg kLg
  have mLg := PySem.W.mg_of X G aLg
  have bLg_ := FLg.binds (ps := ["_law_bare_here"]) fun _ _ _ _ _ _ us hl => match us, hl with | [_], _ => rfl
  have FId := fun_mk (x := "is_driver") (qual := "is_driver") (st := sIsD) lId cId kId
  have mId := PySem.W.mg_of X G aId
  have bId_ := FId.binds (ps := ["frame", "value"]) fun _ _ _ _ _ _ us hl => match us, hl with | [_, _], _ => rfl
  have FDl := fun_mk (x := "driver_levels") (qual := "driver_levels") (st := sDL) lDl cDl kDl
  have mDl := PySem.W.mg_of X G aDl
  have bDl_ := FDl.binds (ps := ["frame", "levels"]) fun _ _ _ _ _ _ us hl => match us, hl with | [_, _], _ => rfl
  have FLv := fun_mk (x := "_law_levels") (qual := "_law_levels") (st := sLvs) lLv cLv kLv
  have mLv := PySem.W.mg_of X G aLv
  have bLv_ := FLv.binds (ps := ["_law_pen_here", "_law_bare_here"]) fun _ _ _ _ _ _ us hl => match us, hl with | [_, _], _ => rfl
  have FIw := fun_mk (x := "is_word_of") (qual := "is_word_of") (st := sIsW) lIw cIw kIw
  have mIw := PySem.W.mg_of X G aIw
  have bIw_ := FIw.binds (ps := ["frame", "value"]) fun _ _ _ _ _ _ us hl => match us, hl with | [_, _], _ => rfl
  have FWq := fun_mk (x := "_law_word") (qual := "_law_word") (st := sWrd) lWq cWq kWq
  have mWq := PySem.W.mg_of X G aWq
  have bWq_ := FWq.binds (ps := ["_law_made", "_law_levels_so"]) fun _ _ _ _ _ _ us hl => match us, hl with | [_, _], _ => rfl
  have FLl := fun_mk (x := "_law_lone_words") (qual := "_law_lone_words") (st := sLon) lLl cLl kLl
  have mLl := PySem.W.mg_of X G aLl
  have bLl_ := FLl.binds (ps := ["_law_bare_here", "_law_made", "_law_levels_so"]) fun _ _ _ _ _ _ us hl => match us, hl with | [_, _, _], _ => rfl
  have FBo := fun_mk (x := "_law_both_right") (qual := "_law_both_right") (st := sBth) lBo cBo kBo
  have mBo := PySem.W.mg_of X G aBo
  have bBo_ := FBo.binds (ps := ["_law_bare_here", "_law_one", "_law_two", "_law_both"]) fun _ _ _ _ _ _ us hl => match us, hl with | [_, _, _, _], _ => rfl
  have FLw := fun_mk (x := "law") (qual := "law") (st := sLaw8) lLw cLw kLw
  have mLw := PySem.W.mg_of X G aLw
  have FgL := fun_mk (x := "legs") (qual := "Frame.legs") (st := (sFr 3)) lgL cgL kgL
  have bgL_ := FgL.binds (ps := ["self"]) fun _ _ _ _ _ _ us hl => match us, hl with | [_], _ => rfl
  have FgD := fun_mk (x := "drivers") (qual := "Frame.drivers") (st := (sFr 5)) lgD cgD kgD
  have bgD_ := FgD.binds (ps := ["self"]) fun _ _ _ _ _ _ us hl => match us, hl with | [_], _ => rfl
  have FgR := fun_mk (x := "rails") (qual := "Frame.rails") (st := (sFr 7)) lgR cgR kgR
  have bgR_ := FgR.binds (ps := ["self"]) fun _ _ _ _ _ _ us hl => match us, hl with | [_], _ => rfl
  have FmC := fun_mk (x := "__contains__") (qual := "Frame.__contains__") (st := (sFr 9)) lmC cmC kmC
  have bmC_ := FmC.binds (ps := ["self", "x"]) fun _ _ _ _ _ _ us hl => match us, hl with | [_, _], _ => rfl
  have FmG := fun_mk (x := "__getitem__") (qual := "Frame.__getitem__") (st := (sFr 10)) lmG cmG kmG
  have bmG_ := FmG.binds (ps := ["self", "at"]) fun _ _ _ _ _ _ us hl => match us, hl with | [_, _], _ => rfl
  have FmE := fun_mk (x := "__eq__") (qual := "Frame.__eq__") (st := (sFr 13)) lmE cmE kmE
  have bmE_ := FmE.binds (ps := ["self", "other"]) fun _ _ _ _ _ _ us hl => match us, hl with | [_, _], _ => rfl
  have FmA := fun_mk (x := "__add__") (qual := "Frame.__add__") (st := (sFr 14)) lmA cmA kmA
  have bmA_ := FmA.binds (ps := ["self", "other"]) fun _ _ _ _ _ _ us hl => match us, hl with | [_, _], _ => rfl
  have FDvD := fun_mk (x := "drives") (qual := "Driver.drives") (st := (sDrv 2)) lDvD cDvD kDvD
  have bDvD_ := FDvD.binds (ps := ["self"]) fun _ _ _ _ _ _ us hl => match us, hl with | [_], _ => rfl
  have FDvS := fun_mk (x := "drives") (qual := "Listener.drives") (st := (sLis 2)) lDvS cDvS kDvS
  have bDvS_ := FDvS.binds (ps := ["self"]) fun _ _ _ _ _ _ us hl => match us, hl with | [_], _ => rfl
  have FEqD := fun_mk (x := "__eq__") (qual := "Driver.__eq__") (st := (sDrv 3)) lEqD cEqD kEqD
  have bEqD_ := FEqD.binds (ps := ["self", "other"]) fun _ _ _ _ _ _ us hl => match us, hl with | [_, _], _ => rfl
  have FEqS := fun_mk (x := "__eq__") (qual := "Listener.__eq__") (st := (sLis 3)) lEqS cEqS kEqS
  have bEqS_ := FEqS.binds (ps := ["self", "other"]) fun _ _ _ _ _ _ us hl => match us, hl with | [_, _], _ => rfl
  have FwL := fun_mk (x := "low") (qual := "Word.low") (st := (sWd 4)) lwL cwL kwL
  have bwL_ := FwL.binds (ps := ["self"]) fun _ _ _ _ _ _ us hl => match us, hl with | [_], _ => rfl
  have FwI := fun_mk (x := "__init__") (qual := "Word.__init__") (st := (sWd 0)) lwI cwI kwI
  have FwG := fun_mk (x := "__getitem__") (qual := "Word.__getitem__") (st := (sWd 5)) lwG cwG kwG
  have bwG_ := FwG.binds (ps := ["self", "at"]) fun _ _ _ _ _ _ us hl => match us, hl with | [_, _], _ => rfl
  have FwB := fun_mk (x := "__bool__") (qual := "Word.__bool__") (st := (sWd 7)) lwB cwB kwB
  have bwB_ := FwB.binds (ps := ["self"]) fun _ _ _ _ _ _ us hl => match us, hl with | [_], _ => rfl
  have FwE := fun_mk (x := "__eq__") (qual := "Word.__eq__") (st := (sWd 8)) lwE cwE kwE
  have bwE_ := FwE.binds (ps := ["self", "other"]) fun _ _ _ _ _ _ us hl => match us, hl with | [_, _], _ => rfl
  have FwA := fun_mk (x := "__and__") (qual := "Word.__and__") (st := (sWd 9)) lwA cwA kwA
  have bwA_ := FwA.binds (ps := ["self", "other"]) fun _ _ _ _ _ _ us hl => match us, hl with | [_, _], _ => rfl
  have FwS := fun_mk (x := "__str__") (qual := "Word.__str__") (st := (sWd 10)) lwS cwS kwS
  have bwS_ := FwS.binds (ps := ["self"]) fun _ _ _ _ _ _ us hl => match us, hl with | [_], _ => rfl
  have FwR := fun_mk (x := "__repr__") (qual := "Word.__repr__") (st := (sWd 11)) lwR cwR kwR
  have bwR_ := FwR.binds (ps := ["self"]) fun _ _ _ _ _ _ us hl => match us, hl with | [_], _ => rfl
  have FwO := fun_mk (x := "of") (qual := "Word.of") (st := (sWd 1)) lwO cwO kwO
  have FwT := fun_mk (x := "rest") (qual := "Word.rest") (st := (sWd 2)) lwT cwT kwT
  have FIE : FunS P K "__init__" "InvalidFrame.__init__" sInv fIE _ xIE yIE CI := ⟨⟨ocIE, odIE, kVIE, dcIE, pmIE, anIE, ctIE, slIE, rfl, lIE⟩, cIE, ⟨u1IE, v1IE, vsIE, w1IE, flIE, tfIE, mIE, nIE, pIE⟩, ⟨u2IE, v2IE, w2IE, qIE⟩, kIE⟩
  have bIE_ : Binds K (PySem.W.fnX "__init__" "InvalidFrame.__init__" (defArgs sInv) (defBody sInv) (defScope sInv) [("__class__", yIE)] .none kVIE dcIE pmIE anIE (.ref xIE) ctIE) ["self", "reason"] [] := .all fun us hl => match us, hl with | [_, _], _ => rfl
  have FDI : FunS P K "__init__" "Driver.__init__" sDrvI fDI _ xDI yDI CD := ⟨⟨ocDI, odDI, kVDI, dcDI, pmDI, anDI, ctDI, slDI, rfl, lDI⟩, cDI, ⟨u1DI, v1DI, vsDI, w1DI, flDI, tfDI, mDI, nDI, pDI⟩, ⟨u2DI, v2DI, w2DI, qDI⟩, kDI⟩
  have bDI_ : Binds K (PySem.W.fnX "__init__" "Driver.__init__" (defArgs sDrvI) (defBody sDrvI) (defScope sDrvI) [("__class__", yDI)] .none kVDI dcDI pmDI anDI (.ref xDI) ctDI) ["self", "name"] [] := .all fun us hl => match us, hl with | [_, _], _ => rfl
  have FSI : FunS P K "__init__" "Listener.__init__" sLisI fSI _ xSI ySI CS := ⟨⟨ocSI, odSI, kVSI, dcSI, pmSI, anSI, ctSI, slSI, rfl, lSI⟩, cSI, ⟨u1SI, v1SI, vsSI, w1SI, flSI, tfSI, mSI, nSI, pSI⟩, ⟨u2SI, v2SI, w2SI, qSI⟩, kSI⟩
  have bSI_ : Binds K (PySem.W.fnX "__init__" "Listener.__init__" (defArgs sLisI) (defBody sLisI) (defScope sLisI) [("__class__", ySI)] .none kVSI dcSI pmSI anSI (.ref xSI) ctSI) ["self", "name"] [] := .all fun us hl => match us, hl with | [_, _], _ => rfl
  have FNL : FunS P K "__init__" "NoLeg.__init__" sNl fNL _ xNL yNL CN := ⟨⟨ocNL, odNL, kVNL, dcNL, pmNL, anNL, ctNL, slNL, rfl, lNL⟩, cNL, ⟨u1NL, v1NL, vsNL, w1NL, flNL, tfNL, mNL, nNL, pNL⟩, ⟨u2NL, v2NL, w2NL, qNL⟩, kNL⟩
  have bNL_ : Binds K (PySem.W.fnX "__init__" "NoLeg.__init__" (defArgs sNl) (defBody sNl) (defScope sNl) [("__class__", yNL)] .none kVNL dcNL pmNL anNL (.ref xNL) ctNL) ["self", "name"] [] := .all fun us hl => match us, hl with | [_, _], _ => rfl
  have FFI : FunD K "__init__" "Frame.__init__" (defArgs sFrI) (defBody sFrI) (defScope sFrI) [] kwsF fFI _ := ⟨⟨ocFI, odFI, _, _, dcFI, pmFI, anFI, cdFI, ctFI, slFI, rfl, lFI, cFI, .inl ⟨rfl, rfl⟩, .inr ⟨DFI, rfl, fun p hp => by
      rcases List.mem_cons.mp hp with rfl | hp
      · exact ⟨_, n1FI, r1FI⟩
      rcases List.mem_cons.mp hp with rfl | hp
      · exact ⟨_, n2FI, r2FI⟩
      obtain rfl := List.mem_singleton.mp hp
      exact ⟨_, n3FI, r3FI⟩⟩⟩, kFI⟩
  have FO : FunD K "of" "Frame.of" (defArgs sOf) (defBody sOf) (defScope sOf) [] kwsF fO _ := ⟨⟨ocO, odO, _, _, dcO, pmO, anO, cdO, ctO, slO, rfl, lO, cO, .inl ⟨rfl, rfl⟩, .inr ⟨DO, rfl, fun p hp => by
      rcases List.mem_cons.mp hp with rfl | hp
      · exact ⟨_, n1O, r1O⟩
      rcases List.mem_cons.mp hp with rfl | hp
      · exact ⟨_, n2O, r2O⟩
      obtain rfl := List.mem_singleton.mp hp
      exact ⟨_, n3O, r3O⟩⟩⟩, kO⟩
  have NT : NmT K mg := ⟨y_isinstance, y_str, y_len, y_all, ⟨tL, PySem.W.mg_of X G gLet⟩, ⟨tN, PySem.W.mg_of X G gLon⟩, ⟨aR, PySem.W.mg_of X G gRes, fun H => .inr ⟨_, itsR, nR, lRes, rfl, rfl, sRes, vRes⟩⟩⟩
  have suCI_ : SupT P K mg CI := ⟨top_, y_super, ⟨cdCI, clsCI⟩, third⟩
  have suCD_ : SupT P K mg CD := ⟨top_, y_super, ⟨cdCD, clsCD⟩, third⟩
  have suCS_ : SupT P K mg CS := ⟨top_, y_super, ⟨cdCS, clsCS⟩, third⟩
  have suCN_ : SupT P K mg CN := ⟨top_, y_super, ⟨cdCN, clsCN⟩, third⟩
  have OE : OexC K CI := ⟨⟨nm, q, Ns, bs, bm, sn, sub, ab, col, dd, k0, k1, k2, k3, k5, exL, exR⟩, exS, exB, exT, exK⟩
  have ET : ExT P K mg CI "reason" := ⟨suCI_, OE, exU, exV, mrCI, exN⟩
  have LT : LgT P K mg CI fIE fLI fN := ⟨ET, aIE, tIE, mCI, mN⟩
  have clCD : Cls K CD := ⟨pgCD, hdCD, poCD, saCD⟩
  have isCD : IsiC K CD := ⟨clCD, caCD, cn, ct, obCD⟩
  have clCS : Cls K CS := ⟨pgCS, hdCS, poCS, saCS⟩
  have isCS : IsiC K CS := ⟨clCS, caCS, cn, ct, obCS⟩
  have clCF : Cls K CF := ⟨pgCF, hdCF, poCF, saCF⟩
  have isCF : IsiC K CF := ⟨clCF, caCF, cn, ct, obCF⟩
  have clCW : Cls K CW := ⟨pgCW, hdCW, poCW, saCW⟩
  have isCW : IsiC K CW := ⟨clCW, caCW, cn, ct, obCW⟩
  have glCD : FnOk P w K mg base (L2.CX P w) 3 fLI _ ["self", "name"] (spLegI K CI CD) := ok_legI FLI LT NT ⟨clCD, nnCD⟩ FN bN_ FIE bIE_
  have glCS : FnOk P w K mg base (L2.CX P w) 3 fLI _ ["self", "name"] (spLegI K CI CS) := ok_legI FLI LT NT ⟨clCS, nnCS⟩ FN bN_ FIE bIE_
  have hD := ok_drvI FDI ⟨suCD_, suCD, tyLI, fnLI, mrCD⟩ bLI_ glCD
  have hS := ok_lisI FSI ⟨suCS_, suCS, tyLI, fnLI, mrCS⟩ bLI_ glCS
  let ks : Kinds := ⟨CD, CS, CL⟩
  have MD : MkL P w K mg base CI CD "Driver" := ⟨⟨fDI, _, ⟨mkCD, aDI, iDI, kcCD⟩, hD, bDI_⟩, mCD⟩
  have MS : MkL P w K mg base CI CS "Listener" := ⟨⟨fSI, _, ⟨mkCS, aSI, iSI, kcCS⟩, hS, bSI_⟩, mCS⟩
  have BI : Bi mg := ⟨y_int, y_len, y_abs⟩
  have gI : FnOk P w K mg base CX0 1 fIE _ ["self", "reason"] (spInv K CI) := ok_inv FIE ET
  have gII : FnOk P w K mg base CX0 1 fIi _ ["value"] (spIsInt K) := ok_isint FIi y_isinstance y_int y_bool
  have gBt : FnOk P w K mg base CX0 2 fBt _ ["value", "least", "most"] (spBetw K) := ok_betw FBt gII mIi kIi bIi_
  have WT : WrT P w K mg base ks CF := { isi := y_isinstance, all := y_all, len := y_len, bool := y_bool, mD := mCD, mI := mCS, mF := mCF, most := ⟨mcF, uM, ⟨rdF, gaF⟩, ⟨moF, rmF⟩⟩, icD := isCD, icI := isCS, nD := nnCD, nI := nnCS, dd := kdd, ii := kii, betw := ⟨fBt, _, mBt, kBt, bBt_, gBt⟩ }
  have gWr : FnOk P w K mg base CX0 3 fWr _ ["legs", "top", "ground", "power"] (spWrong K ks) := ok_wrong FWr WT
  have FT : FrT P w K mg base ks CI fIE CF := { wr := WT, sorted := y_sorted, mI := mCI, ex := ET, iC := aIE, tI := tIE, inv := ⟨_, bIE_, gI⟩, wrong := ⟨fWr, _, mWr, kWr, bWr_, gWr⟩, cl := clCF, nL := nf_legs, nT := nftop, nG := nfground, nP := nfpower }
  have kB := fr_kwB (w := w) (base := base) FFI FT
  have kA := fr_kwA (w := w) (base := base) FFI FT
  have k0 := fr_kw0 (w := w) (base := base) FFI FT
  have MF : Mk K CF fFI := ⟨mkCF, aFI, iFI, kcCF⟩
  have OT : OfT P w K mg base ks CI fIE CF fFI := { isi := y_isinstance, list := y_list, tuple := y_tuple, mI := mCI, ex := ET, iC := aIE, tI := tIE, inv := ⟨_, bIE_, gI⟩, mkc := MF, kt := klt, kt2 := ktt }
  have gO := ok_of FO OT kB
  have gDr : FnOk P w K mg base CX0 1 fDr _ ["_law_pen_here", "_law_many"] spDraw := ok_draw FDr BI
  have DW : DwT P w K mg base := { bi := BI, sorted := y_sorted, draw := ⟨fDr, _, mDr, kDr, bDr_, gDr⟩, pick := ⟨fPk, _, mPk, kPk, bPk_, ok_pick FPk BI FDr bDr_ mDr⟩, tags := ⟨fTg, _, mTg, kTg, bTg_, ok_tags FTg BI y_range FDr bDr_ mDr⟩ }
  have CR : ClX.CRead K CF mcF := ⟨rdF, gaF⟩
  have CM : ClX.CMet K CF mcF "of" pO fO := ⟨aO, ⟨rsO, rO⟩, fO_⟩
  have TK : FkT P w K mg base ks CI CF := { d := MD, i := MS, mF := mCF, of := ⟨mcF, pO, fO, CR, CM, of_kwB FO gO⟩ }
  have two : ∀ {R : Addr → Prop}, R CD → R CS → ∀ C, (C = CD ∨ C = CS) → R C := by
    rintro R a b C (rfl | rfl)
    · exact a
    · exact b
  have dvD : PropN P w K mg base 1 CD "drives" (spDr CD (decide (CD = CD))) := ⟨clCD, pDvD, fDvD, _, ⟨aDvD, bDvD, dDvD, _, eDvD⟩, by rw [decide_eq_true rfl]; exact ok_drives FDvD rfl rfl, bDvD_⟩
  have dvS : PropN P w K mg base 1 CS "drives" (spDr CS (decide (CS = CD))) := ⟨clCS, pDvS, fDvS, _, ⟨aDvS, bDvS, dDvS, _, eDvS⟩, by rw [decide_eq_false (Ne.symm neDS)]; exact ok_drives FDvS rfl rfl, bDvS_⟩
  have DV : ∀ C, (C = ks.drv ∨ C = ks.lis) → PropN P w K mg base 1 C "drives" (spDr C (decide (C = ks.drv))) := two dvD dvS
  have eqD : EqN P w K mg base 1 CD (spEq K CD) := ⟨⟨fEqD, _, aEqD, iEqD, ok_eqD FEqD ⟨y_isinstance, mCD, isCD, kkCDCD, nnCD⟩, bEqD_⟩, neCD, obCD⟩
  have eqS : EqN P w K mg base 1 CS (spEq K CS) := ⟨⟨fEqS, _, aEqS, iEqS, ok_eqI FEqS ⟨y_isinstance, mCS, isCS, kkCSCS, nnCS⟩, bEqS_⟩, neCS, obCS⟩
  have LQ : LqT P w K mg base ks := { eq := two eqD eqS, ic := two isCD isCS, nf := fun C D hc hd => two (R := fun C => PySem.W.notFirst K C (.ref D) = true) (two (R := fun D => PySem.W.notFirst K CD (.ref D) = true) nfCDCD nfCDCS D hd) (two (R := fun D => PySem.W.notFirst K CS (.ref D) = true) nfCSCD nfCSCS D hd) C hc, un := fun C D hc hd => two (R := fun C => C ≠ D → PySem.W.kitOne K (.ref D) (.ref C) = some false) (two (R := fun D => CD ≠ D → PySem.W.kitOne K (.ref D) (.ref CD) = some false) (fun z => absurd rfl z) (fun _ => kkCSCD) D hd) (two (R := fun D => CS ≠ D → PySem.W.kitOne K (.ref D) (.ref CS) = some false) (fun _ => kkCDCS) (fun z => absurd rfl z) D hd) C hc }
  have FP : FpT P w K mg base ks CF := { cl := clCF, nL := nf_legs, nG := nfground, nP := nfpower, tuple := y_tuple, sorted := y_sorted, dv := DV }
  have pLg : PropN P w K mg base 1 CF "legs" (spLegs ks CF) := ⟨clCF, pgL, fgL, _, ⟨agL, bgL, dgL, _, egL⟩, ok_flegs FgL FP, bgL_⟩
  have pRa : PropN P w K mg base 1 CF "rails" (spTup ks CF fun d => railsZ d.g d.r) := ⟨clCF, pgR, fgR, _, ⟨agR, bgR, dgR, _, egR⟩, ok_frails FgR FP, bgR_⟩
  have pDr : PropN P w K mg base 3 CF "drivers" (spTup ks CF fun d => kindZ ks true d.ys) := ⟨clCF, pgD, fgD, _, ⟨agD, bgD, dgD, _, egD⟩, ok_fdrv FgD FP, bgD_⟩
  have FM : FmT K mg CF := ⟨clCF, nf_legs, y_len, y_isinstance, y_str⟩
  have tIn : MetN P w K mg base CX0 1 CF "__contains__" ["self", "x"] (spFIs K ks CF) := ⟨fmC, _, amC, imC, jmC, ⟨fun vs H Q E q => (ok_fin (P := P) (w := w) (mg := mg) (base := base) FmC FM).len vs H Q E (spFIs_of q), fun A outer s H args us vs Q E hr he hb hv hs => (ok_fin (P := P) (w := w) (mg := mg) (base := base) FmC FM).run A outer s H args us vs Q E hr he hb hv (spFIs_of hs)⟩, bmC_⟩
  have OX : Oex K CN "LookupError" "LookupError.__new__" tlL := ⟨iniN, ovN, saN, exCN, tyN, kN_, hdN, sBN⟩
  have ER : ErrT P K mg "LookupError" "LookupError.__new__" "LookupError.__init__" tlL CN := ⟨suCN_, OX, hmN, mrCN⟩
  have NL : NlT P w K mg base CN fNL := ⟨OX, aNL, tNL, ⟨_, mkNL FNL ER noN, bNL_⟩, mCN⟩
  have tGet : MetN P w K mg base CX0 2 CF "__getitem__" ["self", "at"] (spFGetI ks CF) := ⟨fmG, _, amG, imG, jmG, ok_fgetI FmG clCF nf_legs tIn, bmG_⟩
  have FE : FeT P w K mg base ks CF := { ic := isCF, nT := nftop, nL := nf_legs, isi := y_isinstance, mF := mCF, self := kkCFCF, lq := LQ, rails := pRa }
  have eqF : EqN P w K mg base 4 CF (spFEq K ks CF) := ⟨⟨fmE, _, amE, imE, ok_feq FmE FE, bmE_⟩, neCF, obCF⟩
  have gLg : FnOk P w K mg base CX0 1 fLg _ ["_law_bare_here"] spLgs := ok_lgs FLg y_sorted
  have dn_add : PySem.dunder "add" = ("__add__" : Str) := by decide +kernel
  have FA : FaT P w K mg base ks CI CF fFI := { cl := clCF, nT := nftop, nG := nfground, nP := nfpower, legs := pLg, mF := mCF, mkc := MF, init := kB, isl := fun H r hr => ⟨.ref r.C, hr.2.ty (two (R := IsiC K) isCD isCS r.C hr.1), two (R := fun C => PySem.W.kitAny K (.ref C) [.ref CD, .ref CS] = some true) kdd kii r.C hr.1⟩ }
  have AD : BinG P w K mg base (L2.CX P w) 6 CF "add" ["self", "other"] (spFAdd K ks CI CF) := ⟨⟨fmA, _, by rw [dn_add]; exact amA, imA, FnG.of (ok_fadd FmA FA), bmA_⟩, sfF⟩
  -- words
  have gId := ok_isd FId (w := w) (base := base) (ks := ks) ⟨tIn, tGet, DV⟩
  have gBg : FnOk P w K mg base CX0 2 fBt _ ["value", "least", "most"] (spBetG K) := ok_betG FBt gII mIi kIi bIi_
  have ID : ∃ f fd, mg "is_driver" = some (.ref f) ∧ PySem.W.keepIn K (.ref f) = true ∧ Binds K fd ["frame", "value"] [] ∧ FnOk P w K mg base CX0 4 f fd ["frame", "value"] (spIsD K ks CF) := ⟨fId, _, mId, kId, bId_, gId⟩
  have gDl := ok_dl FDl (w := w) (base := base) (ks := ks) { cl := clCF, nT := nftop, isi := y_isinstance, dict := y_dict, str := y_str, all := y_all, sorted := y_sorted, isd := ID, bet := ⟨fBt, _, mBt, kBt, bBt_, gBg⟩, drv := pDr }
  have IT : WiT6 P w K mg base ks CF CW := { cl := clCW, nF := nwframe, nL := nw_levels, dl := ⟨fDl, _, mDl, kDl, bDl_, gDl⟩ }
  have MW : Mk K CW fwI := ⟨mkCW, awI, iwI, kcCW⟩
  have W0 := ok_wdI FwI IT wf1 wf2 wf3 [] (by decide) (by decide) wdI_b0
  have WmT_ : WmT P w K mg base ks CF CW fwI := ⟨IT, MW, W0⟩
  have CRW : ClX.CRead K CW mcW := ⟨rdW, gaW⟩
  have CMO : ClX.CMet K CW mcW "of" pwO fwO := ⟨awO, ⟨rswO, rwO⟩, jwO⟩
  have gOf := ok_wof FwO WmT_
  have gRe := ok_wrest FwT WmT_
  have FwN : FunD K "lone" "Word.lone" (defArgs (sWd 3)) (defBody (sWd 3)) (defScope (sWd 3)) [.int 0] [] fwN _ := ⟨⟨ocwN, odwN, _, _, dcwN, pmwN, anwN, cdwN, ctwN, slwN, rfl, lwN, cwN, .inr ⟨by decide, TwN, _, itwN.toList, nwN, rfl, twN, rfl, vwN⟩, .inl rfl⟩, kwN⟩
  have gLo := ok_wlone (mcW := CW) (x := "lone") (qual := "Word.lone") FwN CRW CMO (wof_k0 FwO gOf) ID
  have WK : W8K P w K mg base ks CF CW fwO fwT fwN := { mW := mCW, cls := ⟨mcW, pwO, pwT, pwN, CRW, CMO, ⟨awT, ⟨rswT, rwT⟩, jwT⟩, ⟨awN, ⟨rswN, rwN⟩, jwN⟩⟩, of0 := wof_k0 FwO gOf, re0 := wre_k0 FwT gRe, lo0 := wlo_k0 FwN gLo }
  have WF : WfT P w K mg base ks CF CW := { cw := clCW, nF := nwframe, nL := nw_levels, cf := clCF, nT := nftop, tuple := y_tuple, bool := y_bool }
  have pLo : PropN P w K mg base 1 CW "low" (spWLow ks CF CW) := ⟨clCW, pwL, fwL, _, ⟨awL, bwL, dwL, _, ewL⟩, ok_wlow FwL WF, bwL_⟩
  have gWS := ok_wstr FwS WF pLo
  have SC : ∀ X : Cx, X.prog = P → X.w = w → X.K = K → X.mg = mg → X.base = base → Room 6 X.A → StrC X CW "__str__" (spWStr ks CF CW id) := fun X h1 h2 h3 h4 h5 hr => by
    subst h1 h2 h3 h4 h5
    exact ⟨fwS, _, 3, awS, iwS, gWS, hr, bwS_⟩
  have gWR := ok_wrepr FwR SC ⟨foW, obCW⟩
  have WG : WgT P w K mg base ks CF CW CN fNL := { f := WF, in_ := tIn, rails := pRa, nl := NL }
  have gWE := ok_weq FwE (w := w) (base := base) (ks := ks) { f := WF, isi := y_isinstance, mW := mCW, icW := isCW, self := kkCWCW, eqF := eqF, icF := isCF, nf := nfCFCF }
  have tWG : MetG P w K mg base (L2.CX P w) 3 CW "__getitem__" ["self", "at"] (spWGet K ks CF CW CN) := ⟨fwG, _, awG, iwG, jwG, ok_wget FwG WG, bwG_⟩
  have WD : WdP P w K mg base ks CF CW CN := { f := WF, low := pLo, get := tWG, boo := ⟨fwB, _, awB, iwB, ok_wbool FwB WF pLo, bwB_⟩, str := ⟨fwS, _, awS, iwS, gWS, bwS_⟩, rep := ⟨fwR, _, awR, iwR, gWR, bwR_⟩, eq := ⟨⟨fwE, _, awE, iwE, gWE, bwE_⟩, neCW, obCW⟩, icW := isCW, nfW := nfCWCW, eqF := eqF, icF := isCF, nfF := nfCFCF }
  have WA : WaT P w K mg base ks CF CW fwI := { f := WF, isi := y_isinstance, min := y_min, mW := mCW, icW := isCW, self := kkCWCW, eqF := eqF, icF := isCF, nf := nfCFCF, mkc := MW, i0 := W0 }
  have gIw := ok_isw FIw WA
  have dn_and : PySem.dunder "and" = ("__and__" : Str) := by decide +kernel
  have AN : BinG P w K mg base CX0 8 CW "and" ["self", "other"] (spWAnd ks CF CW) := ⟨⟨fwA, _, by rw [dn_and]; exact awA, iwA, FnG.of (ok_wand FwA WA ⟨fIw, _, mIw, kIw, bIw_, gIw⟩), bwA_⟩, sfW⟩
  have BT : BtT P w K mg base ks CF CW CN := { wd := WD, and := AN, repr := y_repr, min := y_min, sorted := y_sorted, set := y_set, list := y_list, bool := y_bool }
  refine at_law FLw (fun s u => .of_eq rfl) (CI := CI) (CF := CF) (CW := CW) (CN := CN) (gO := fwO) (gR := fwT) (gL := fwN) (ks := ks) ?_
  exact { pen := ⟨fPn, _, mPn, kPn, bPn_, ok_pen FPn y_list⟩, bare := ⟨fBa, _, mBa, kBa, bBa_, ok_bare FBa DW⟩, frm := ⟨fFm, _, mFm, kFm, bFm_, ok_frm FFm TK⟩, lvs := ⟨fLv, _, mLv, kLv, bLv_, ok_lvs FLv DW⟩, wrd := ⟨fWq, _, mWq, kWq, bWq_, ok_wrd FWq WK⟩, lon := ⟨fLl, _, mLl, kLl, bLl_, ok_lon FLl WK y_sorted y_list⟩, lgs := ⟨fLg, _, mLg, kLg, bLg_, gLg⟩, bth := ⟨fBo, _, mBo, kBo, bBo_, ok_bth FBo BT⟩, d := MD, i := MS, add := AD, and := AN, nb := two (R := fun C => Own.noBin K C "add" = true ∧ C ≠ CF) ⟨nbCD, nefCD⟩ ⟨nbCS, nefCS⟩, icl := two isCD isCS, wk := WK, wd := WD, ne := neDS, strN := y_str, range := y_range }
end Sj
open PySem PySem.W PyProof.Rows in
set_option maxRecDepth 100000 in
set_option maxHeartbeats 0 in
theorem PySem.Challenge.cw_strayjoins_k08_whole_words_held_together_holds : PySem.Challenge.rw_strayjoins_k08_whole_words_held_together.Holds := by
  w_on; o_law; k_head; (case hw => w_witness2)
  k_fill
  refine Sup.walk_at (l := PySem.Challenge.rw_strayjoins_k08_whole_words_held_together) (sp := Sj.spLaw1) rfl (by decide) rfl (fun w h Y => PySem.W.kIn_of Y) ?F ?W
  case W => exact fun K H a ns hl hS => ⟨a, ns, rfl, hS, hl, fun _ => rfl⟩
  case F =>
    intro w mg f h KX G hmg
    refine' Sj.all_mk8 KX G hmg ?gCI ?gCL ?gCD ?gCS ?gCF ?gCN ?gCW ?gLet ?gLon ?gRes ?lRes ?sRes ?vRes ?z_dict ?z_min ?z_set ?z_isinstance ?z_str ?z_len ?z_all ?z_bool ?z_int ?z_abs ?z_range ?z_list ?z_tuple ?z_sorted ?z_super ?z_repr ?tyW ?rdW ?gaW ?aN ?lN ?cN ?kN ?aIi ?lIi ?cIi ?kIi ?aBt ?lBt ?cBt ?kBt ?aWr ?lWr ?cWr ?kWr ?aLI ?iLI ?lLI ?cLI ?kLI ?aPn ?lPn ?cPn ?kPn ?aDr ?lDr ?cDr ?kDr ?aPk ?lPk ?cPk ?kPk ?aTg ?lTg ?cTg ?kTg ?aBa ?lBa ?cBa ?kBa ?aFm ?lFm ?cFm ?kFm ?aLg ?lLg ?cLg ?kLg ?aId ?lId ?cId ?kId ?aDl ?lDl ?cDl ?kDl ?aLv ?lLv ?cLv ?kLv ?aIw ?lIw ?cIw ?kIw ?aWq ?lWq ?cWq ?kWq ?aLl ?lLl ?cLl ?kLl ?aBo ?lBo ?cBo ?kBo ?aLw ?lLw ?cLw ?kLw ?agL ?bgL ?dgL ?egL ?lgL ?cgL ?kgL ?agD ?bgD ?dgD ?egD ?lgD ?cgD ?kgD ?agR ?bgR ?dgR ?egR ?lgR ?cgR ?kgR ?amC ?imC ?jmC ?lmC ?cmC ?kmC ?amG ?imG ?jmG ?lmG ?cmG ?kmG ?amE ?imE ?lmE ?cmE ?kmE ?amA ?imA ?lmA ?cmA ?kmA ?aDvD ?bDvD ?dDvD ?eDvD ?lDvD ?cDvD ?kDvD ?aDvS ?bDvS ?dDvS ?eDvS ?lDvS ?cDvS ?kDvS ?aEqD ?iEqD ?lEqD ?cEqD ?kEqD ?aEqS ?iEqS ?lEqS ?cEqS ?kEqS ?awL ?bwL ?dwL ?ewL ?lwL ?cwL ?kwL ?awI ?iwI ?lwI ?cwI ?kwI ?awG ?iwG ?jwG ?lwG ?cwG ?kwG ?awB ?iwB ?lwB ?cwB ?kwB ?awE ?iwE ?lwE ?cwE ?kwE ?awA ?iwA ?lwA ?cwA ?kwA ?awS ?iwS ?lwS ?cwS ?kwS ?awR ?iwR ?lwR ?cwR ?kwR ?awO ?rwO ?jwO ?lwO ?cwO ?kwO ?awT ?rwT ?jwT ?lwT ?cwT ?kwT ?aFI ?iFI ?lFI ?cFI ?kFI ?n1FI ?r1FI ?n2FI ?r2FI ?n3FI ?r3FI ?tyF ?rdF ?gaF ?moF ?rmF ?aO ?rO ?fO_ ?lO ?cO ?kO ?n1O ?r1O ?n2O ?r2O ?n3O ?r3O ?aIE ?iIE ?tIE ?lIE ?cIE ?mIE ?nIE ?pIE ?qIE ?kIE ?aDI ?iDI ?tDI ?lDI ?cDI ?mDI ?nDI ?pDI ?qDI ?kDI ?aSI ?iSI ?tSI ?lSI ?cSI ?mSI ?nSI ?pSI ?qSI ?kSI ?aNL ?iNL ?tNL ?lNL ?cNL ?mNL ?nNL ?pNL ?qNL ?kNL ?top_ ?third ?clsCI ?mrCI ?clsCD ?mrCD ?clsCS ?mrCS ?clsCL ?mrCL ?clsCN ?mrCN ?exL ?exR ?exS ?exB ?exV ?exT ?exK ?exN ?exU ?iniN ?ovN ?saN ?exCN ?tyN ?kN_ ?hdN ?sBN ?hmN ?noN ?exmN ?gaN ?ggN ?caN ?obN ?fnLI ?tyLI ?suCD ?suCS ?pgCD ?hdCD ?poCD ?saCD ?mkCD ?kcCD ?caCD ?obCD ?neCD ?nnCD ?pgCS ?hdCS ?poCS ?saCS ?mkCS ?kcCS ?caCS ?obCS ?neCS ?nnCS ?pgCF ?hdCF ?poCF ?saCF ?mkCF ?kcCF ?caCF ?obCF ?neCF ?pgCW ?hdCW ?poCW ?saCW ?mkCW ?kcCW ?caCW ?obCW ?neCW ?nwframe ?nw_levels ?nf_legs ?nftop ?nfground ?nfpower ?cn ?ct ?kdd ?kii ?klt ?ktt ?kkCDCD ?kkCSCS ?kkCFCF ?kkCWCW ?kkCDCS ?kkCSCD ?nfCDCD ?nfCDCS ?nfCSCD ?nfCSCS ?nfCFCF ?nfCWCW ?neDS ?foW ?nbCD ?nefCD ?nbCS ?nefCS ?sfW ?sfF ?wf1 ?wf2 ?wf3 ?awN ?rwN ?jwN ?lwN ?cwN ?kwN ?twN ?vwN
    case gCI => k_is
    case gCL => k_is
    case gCD => k_is
    case gCS => k_is
    case gCF => k_is
    case gCN => k_is
    case gCW => k_is
    case gLet => k_is
    case gLon => k_is
    case gRes => k_is
    case lRes => k_is
    case sRes => decide
    case vRes => exact .cons ⟨_, rfl⟩ (.cons ⟨_, rfl⟩ (.cons ⟨_, rfl⟩ .nil))
    case z_dict => k_is
    case z_min => k_is
    case z_set => k_is
    case z_isinstance => k_is
    case z_str => k_is
    case z_len => k_is
    case z_all => k_is
    case z_bool => k_is
    case z_int => k_is
    case z_abs => k_is
    case z_range => k_is
    case z_list => k_is
    case z_tuple => k_is
    case z_sorted => k_is
    case z_super => k_is
    case z_repr => k_is
    case tyW => k_is
    case rdW => k_is
    case gaW => k_is
    case aN => k_is
    case lN => k_is
    case cN => k_is
    case kN => k_is
    case aIi => k_is
    case lIi => k_is
    case cIi => k_is
    case kIi => k_is
    case aBt => k_is
    case lBt => k_is
    case cBt => k_is
    case kBt => k_is
    case aWr => k_is
    case lWr => k_is
    case cWr => k_is
    case kWr => k_is
    case aLI => k_is
    case iLI => k_is
    case lLI => k_is
    case cLI => k_is
    case kLI => k_is
    case aPn => k_is
    case lPn => k_is
    case cPn => k_is
    case kPn => k_is
    case aDr => k_is
    case lDr => k_is
    case cDr => k_is
    case kDr => k_is
    case aPk => k_is
    case lPk => k_is
    case cPk => k_is
    case kPk => k_is
    case aTg => k_is
    case lTg => k_is
    case cTg => k_is
    case kTg => k_is
    case aBa => k_is
    case lBa => k_is
    case cBa => k_is
    case kBa => k_is
    case aFm => k_is
    case lFm => k_is
    case cFm => k_is
    case kFm => k_is
    case aLg => k_is
    case lLg => k_is
    case cLg => k_is
    case kLg => k_is
    case aId => k_is
    case lId => k_is
    case cId => k_is
    case kId => k_is
    case aDl => k_is
    case lDl => k_is
    case cDl => k_is
    case kDl => k_is
    case aLv => k_is
    case lLv => k_is
    case cLv => k_is
    case kLv => k_is
    case aIw => k_is
    case lIw => k_is
    case cIw => k_is
    case kIw => k_is
    case aWq => k_is
    case lWq => k_is
    case cWq => k_is
    case kWq => k_is
    case aLl => k_is
    case lLl => k_is
    case cLl => k_is
    case kLl => k_is
    case aBo => k_is
    case lBo => k_is
    case cBo => k_is
    case kBo => k_is
    case aLw => k_is
    case lLw => k_is
    case cLw => k_is
    case kLw => k_is
    case agL => k_is
    case bgL => k_is
    case dgL => k_is
    case egL => k_is
    case lgL => k_is
    case cgL => k_is
    case kgL => k_is
    case agD => k_is
    case bgD => k_is
    case dgD => k_is
    case egD => k_is
    case lgD => k_is
    case cgD => k_is
    case kgD => k_is
    case agR => k_is
    case bgR => k_is
    case dgR => k_is
    case egR => k_is
    case lgR => k_is
    case cgR => k_is
    case kgR => k_is
    case amC => k_is
    case imC => k_is
    case jmC => k_is
    case lmC => k_is
    case cmC => k_is
    case kmC => k_is
    case amG => k_is
    case imG => k_is
    case jmG => k_is
    case lmG => k_is
    case cmG => k_is
    case kmG => k_is
    case amE => k_is
    case imE => k_is
    case lmE => k_is
    case cmE => k_is
    case kmE => k_is
    case amA => k_is
    case imA => k_is
    case lmA => k_is
    case cmA => k_is
    case kmA => k_is
    case aDvD => k_is
    case bDvD => k_is
    case dDvD => k_is
    case eDvD => k_is
    case lDvD => k_is
    case cDvD => k_is
    case kDvD => k_is
    case aDvS => k_is
    case bDvS => k_is
    case dDvS => k_is
    case eDvS => k_is
    case lDvS => k_is
    case cDvS => k_is
    case kDvS => k_is
    case aEqD => k_is
    case iEqD => k_is
    case lEqD => k_is
    case cEqD => k_is
    case kEqD => k_is
    case aEqS => k_is
    case iEqS => k_is
    case lEqS => k_is
    case cEqS => k_is
    case kEqS => k_is
    case awL => k_is
    case bwL => k_is
    case dwL => k_is
    case ewL => k_is
    case lwL => k_is
    case cwL => k_is
    case kwL => k_is
    case awI => k_is
    case iwI => k_is
    case lwI => k_is
    case cwI => k_is
    case kwI => k_is
    case awG => k_is
    case iwG => k_is
    case jwG => k_is
    case lwG => k_is
    case cwG => k_is
    case kwG => k_is
    case awB => k_is
    case iwB => k_is
    case lwB => k_is
    case cwB => k_is
    case kwB => k_is
    case awE => k_is
    case iwE => k_is
    case lwE => k_is
    case cwE => k_is
    case kwE => k_is
    case awA => k_is
    case iwA => k_is
    case lwA => k_is
    case cwA => k_is
    case kwA => k_is
    case awS => k_is
    case iwS => k_is
    case lwS => k_is
    case cwS => k_is
    case kwS => k_is
    case awR => k_is
    case iwR => k_is
    case lwR => k_is
    case cwR => k_is
    case kwR => k_is
    case awO => k_is
    case rwO => k_is
    case jwO => k_is
    case lwO => k_is
    case cwO => k_is
    case kwO => k_is
    case awT => k_is
    case rwT => k_is
    case jwT => k_is
    case lwT => k_is
    case cwT => k_is
    case kwT => k_is
    case aFI => k_is
    case iFI => k_is
    case lFI => k_is
    case cFI => k_is
    case kFI => k_is
    case n1FI => k_is
    case r1FI => exact ⟨_, rfl⟩
    case n2FI => k_is
    case r2FI => rfl
    case n3FI => k_is
    case r3FI => rfl
    case tyF => k_is
    case rdF => k_is
    case gaF => k_is
    case moF => k_is
    case rmF => exact ⟨_, rfl⟩
    case aO => k_is
    case rO => k_is
    case fO_ => k_is
    case lO => k_is
    case cO => k_is
    case kO => k_is
    case n1O => k_is
    case r1O => exact ⟨_, rfl⟩
    case n2O => k_is
    case r2O => rfl
    case n3O => k_is
    case r3O => rfl
    case aIE => k_is
    case iIE => k_is
    case tIE => k_is
    case lIE => k_is
    case cIE => k_is
    case mIE => k_is
    case nIE => rfl
    case pIE => first | rfl | decide +kernel
    case qIE => k_is
    case kIE => k_is
    case aDI => k_is
    case iDI => k_is
    case tDI => k_is
    case lDI => k_is
    case cDI => k_is
    case mDI => k_is
    case nDI => rfl
    case pDI => first | rfl | decide +kernel
    case qDI => k_is
    case kDI => k_is
    case aSI => k_is
    case iSI => k_is
    case tSI => k_is
    case lSI => k_is
    case cSI => k_is
    case mSI => k_is
    case nSI => rfl
    case pSI => first | rfl | decide +kernel
    case qSI => k_is
    case kSI => k_is
    case aNL => k_is
    case iNL => k_is
    case tNL => k_is
    case lNL => k_is
    case cNL => k_is
    case mNL => k_is
    case nNL => rfl
    case pNL => first | rfl | decide +kernel
    case qNL => k_is
    case kNL => k_is
    case top_ => first | rfl | decide +kernel
    case third => k_is
    case clsCI => k_is
    case mrCI => k_is
    case clsCD => k_is
    case mrCD => k_is
    case clsCS => k_is
    case mrCS => k_is
    case clsCL => k_is
    case mrCL => k_is
    case clsCN => k_is
    case mrCN => k_is
    case exL => k_is
    case exR => decide +kernel
    case exS => k_is
    case exB => k_is
    case exV => k_is
    case exT => k_is
    case exK => k_is
    case exN => k_is
    case exU => kernel_rfl
    case iniN => kernel_rfl
    case ovN => kernel_rfl
    case saN => k_is
    case exCN => k_is
    case tyN => k_is
    case kN_ => k_is
    case hdN => k_is
    case sBN => k_is
    case hmN => kernel_rfl
    case noN => k_is
    case exmN => kernel_rfl
    case gaN => k_is
    case ggN => k_is
    case caN => k_is
    case obN => k_is
    case fnLI => k_is
    case tyLI => k_is
    case suCD => kernel_rfl
    case suCS => kernel_rfl
    case pgCD => k_is
    case hdCD => k_is
    case poCD => k_is
    case saCD => k_is
    case mkCD => k_is
    case kcCD => k_is
    case caCD => k_is
    case obCD => k_is
    case neCD => k_is
    case nnCD => k_is
    case pgCS => k_is
    case hdCS => k_is
    case poCS => k_is
    case saCS => k_is
    case mkCS => k_is
    case kcCS => k_is
    case caCS => k_is
    case obCS => k_is
    case neCS => k_is
    case nnCS => k_is
    case pgCF => k_is
    case hdCF => k_is
    case poCF => k_is
    case saCF => k_is
    case mkCF => k_is
    case kcCF => k_is
    case caCF => k_is
    case obCF => k_is
    case neCF => k_is
    case pgCW => k_is
    case hdCW => k_is
    case poCW => k_is
    case saCW => k_is
    case mkCW => k_is
    case kcCW => k_is
    case caCW => k_is
    case obCW => k_is
    case neCW => k_is
    case nwframe => k_is
    case nw_levels => k_is
    case nf_legs => k_is
    case nftop => k_is
    case nfground => k_is
    case nfpower => k_is
    case cn => k_is
    case ct => k_is
    case kdd => kernel_rfl
    case kii => kernel_rfl
    case klt => kernel_rfl
    case ktt => kernel_rfl
    case kkCDCD => kernel_rfl
    case kkCSCS => kernel_rfl
    case kkCFCF => kernel_rfl
    case kkCWCW => kernel_rfl
    case kkCDCS => kernel_rfl
    case kkCSCD => kernel_rfl
    case nfCDCD => k_is
    case nfCDCS => k_is
    case nfCSCD => k_is
    case nfCSCS => k_is
    case nfCFCF => k_is
    case nfCWCW => k_is
    case neDS => decide
    case foW => k_is
    case nbCD => first | kernel_rfl | decide +kernel
    case nefCD => decide
    case nbCS => first | kernel_rfl | decide +kernel
    case nefCS => decide
    case sfW => first | kernel_rfl | decide +kernel
    case sfF => first | kernel_rfl | decide +kernel
    case wf1 => decide
    case wf2 => decide
    case wf3 => decide
    case awN => k_is
    case rwN => k_is
    case jwN => k_is
    case lwN => k_is
    case cwN => k_is
    case kwN => k_is
    case twN => k_is
    case vwN => exact .cons ⟨_, rfl⟩ .nil
