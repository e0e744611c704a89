import PyProof.Rows.All
import Wide.All
import OpenK.AllK
import Wide.FinOn
import KE.KSuper
import HandS.ForMost
import HandS.Codes
import HandS.Nested
import KE.KExcSuper
import HandS.Exc
import HandS.ExcInit
import HandS.FStr
import HandS.WordsExc
import HandS.ExcOwn
import HandS.TryOnly
import HandS.IsInst
import HandS.MakeKw
import HandS.MakeKwOnly
import HandS.Property
import HandS.ClsMeth
import HandS.RaiseMore
import HandS.Walk
import PyProof.ReprRoads
import KE.KCallOwn
import HandS.SetBool
import HandS.SetKeys
import HandS.DictComp
import HandS.Star
import HandS.MethStar
import HandS.CallLocal
import HandS.WordsList
import HandS.More
import HandS.WordsDict
import HandS.Conv
import HandS.Iter
import HandS.DictEq
import HandS.OwnEq
import HandS.Lambda
import KE.KDictSum
import PyProof.TupleOfSeq
import HandS.TupAny
import KE.KExcInit
import HandS.ExcField
import HandS.ExcIs
import HandS.ExcValue
import KE.KExcIs
import PyProof.Rows.SortStr
import HandS.BoundList
import PyProof.ReprBulk
import KE.KOpsOwn
import KE.KParD
import HandS.Words
import HandS.Deep
import HandS.Strs
import HandS.SetFor
import KE.KSortTupG
import HandS.Flow
import KE.KFmtOwn
import HandS.Style
import KE.KTupTruth
import HandS.Comp
import PyProof.FactsAll.set_2
import PyProof.IsRules
import HandS.NoneIn
import HandS.ListItems
import PySem.Challenge.RW_strayjoins_k15_whole_joined_boards_read
set_option Elab.async false
set_option linter.all false
set_option maxRecDepth 100000
set_option maxHeartbeats 8000000
namespace Sup
open PySem PySem.Spec PyProof.Rows L2
open NdefX (NF NScope ncx envF startF CellsAt inv_startN)
/-! ### a def of a class body that says super(): it closes over the class -/
structure FunS (P : Program) (K : PySem.W.Frag) (x qual : Str) (st : Stmt) (f : Addr) (fd : FuncData) (c cc D : Addr) : Prop where
  ex : ∃ (oc : Value) (od : Option Addr) (kV doc pm : Value) (an : Option Addr) (ct : Value) (osl : Array (Option Value)),
    fd = PySem.W.fnX x qual (defArgs st) (defBody st) (defScope st) [("__class__", cc)] .none kV doc pm an (.ref c) ct ∧ K.lookup f = some ⟨oc, od, .func fd, osl⟩
  cd : PySem.W.codeIn K (.ref c) qual = true
  file : ∃ (ccl : Value) (cdd : Option Addr) (vs : Array Value) (ccs : Array (Option Value)) (fl : Str) (tf : Tok), K.lookup c = some ⟨ccl, cdd, .fields vs, ccs⟩ ∧ vs[2]? = some (.str fl tf) ∧ ((P.main.file : Str) == fl) = true
  cell : ∃ (cl : Value) (cld : Option Addr) (csl : Array (Option Value)), K.lookup cc = some ⟨cl, cld, .cell (some (.ref D)), csl⟩
  kp : PySem.W.keepIn K (.ref f) = true
def nf (x qual : Str) (st : Stmt) (c cc : Addr) : NF := ⟨x, qual, defArgs st, defBody st, defScope st, [("__class__", cc)], c⟩
section
variable {P : Program} {w : World} {K : PySem.W.Frag} {mg : Str → Option Value} {base : Heap} {CX : CXT} {x qual : Str} {st : Stmt} {f c cc D : Addr} {fd : FuncData} {N ps : List Str} {k : Nat} {sp : Sp}
theorem fn_super (F : FunS P K x qual st f fd c cc D) (S : NScope N ps ["__class__"] (defScope st)) (len : ∀ vs H Q E, sp vs H Q E → vs.length = ps.length)
    (hbody : ∀ (A : Around) (outer : List Env) (s : Shared) (H : Hp) (vs : List V) (Q : VK) (E : XK), Room k (A.deeper (envF (nf x qual st c cc) f s.heap.objs.size)) → sp vs H Q E → ∀ s1,
      Inv (ncx CX P w K mg base N (nf x qual st c cc) f A outer s H E) [] (startF N vs [some (.ref D)]) H s1 →
      PySem.wpAt (model P w) (A.deeper (envF (nf x qual st c cc) f s.heap.objs.size)) (.func (defBody st) (envF (nf x qual st c cc) f s.heap.objs.size)) (execs (defBody st) (envF (nf x qual st c cc) f s.heap.objs.size))
        (SP (ncx CX P w K mg base N (nf x qual st c cc) f A outer s H E) [] { nx := fun _ H' => Q .non H', rt := Q }) (ncx CX P w K mg base N (nf x qual st c cc) f A outer s H E).xe s1) :
    FnOk P w K mg base CX (k + 1) f fd ps sp := by
  obtain ⟨oc, od, kV, doc, pm, an, ct, osl, rfl, lk⟩ := F.ex
  obtain ⟨cl, cld, csl, lc⟩ := F.cell
  refine ⟨len, fun A outer s H args us vs Q E hr e0 hb r hsp => ?_⟩
  have hl := len _ _ _ _ hsp
  have KX : K.In s.heap := e0.mod.kin.keeps fun b o e => (e0.bs b o e).1
  have lim : s.heap.NoLimit := e0.mod.nolimit.keeps fun b o e => (e0.bs b o e).1
  have hcc : s.heap.get? cc = some ⟨cl, cld, .cell (some (.ref D)), csl⟩ := KX _ _ lc
  have C : CellsAt (nf x qual st c cc).cl ["__class__"] [some (V.ref D)] s.heap H := by
    refine ⟨rfl, fun y b e => ?_, fun a b q h1 h2 => ?_, fun i y hy => ?_⟩
    · have e : (if y == "__class__" then some cc else none) = some b := by
        have q : List.lookup y [(("__class__" : Str), cc)] = some b := e
        rw [List.lookup_cons] at q
        cases z : y == ("__class__" : Str) with
        | true => rw [z] at q; rw [if_pos rfl]; exact q
        | false => rw [z] at q; cases q
      split at e
      · cases e
        exact ⟨(e0.bs _ _ (e0.mod.kin _ _ lc)).2, _, _, hcc, rfl⟩
      · cases e
    · have key : ∀ {y : Str} {b : Addr}, List.lookup y [(("__class__" : Str), cc)] = some b → y = "__class__" := fun {y b} q => by
        rw [List.lookup_cons] at q
        cases z : y == ("__class__" : Str) with
        | true => exact eq_of_beq z
        | false => rw [z] at q; cases q
      exact (key h1).trans (key h2).symm
    · match i, hy with
      | 0, hy =>
        have e : (("__class__" : Str)) = y := Option.some.inj hy
        subst e
        refine ⟨cc, by show List.lookup _ [(("__class__" : Str), cc)] = some cc; rw [List.lookup_cons, beq_self_eq_true], fun v hv => ?_⟩
        have e : V.ref D = v := Option.some.inj (Option.some.inj hv)
        subst e
        exact ⟨_, rfl, _, hcc, rfl⟩
  refine ks_codeAny_call_defAt (fd := PySem.W.fnX x qual (defArgs st) (defBody st) (defScope st) [("__class__", cc)] .none kV doc pm an (.ref c) ct) (body := defBody st) (binds := ps.zip us) hr.depth (KX _ _ lk) rfl lim (PySem.W.codeRec_of KX F.cd) rfl hb
    S.nocell (fun ⟨n, _⟩ hy => S.par n (List.of_mem_zip hy).1) (fun h₁ hns kp => ?_) S.co S.gen S.kind
  have I : Inv (ncx CX P w K mg base N (nf x qual st c cc) f A outer s H E) [] (startF N vs [some (.ref D)]) H { s with heap := h₁, toks := s.toks + (ps.zip us).length } := inv_startN S hr.hd e0 hl r C hns kp
  refine ks_wpAt_mono (hbody A outer s H vs Q E (hr.deeper _) hsp _ I) (fun fl s' hs => ?_) fun e s' hs => hs
  have fin : ∀ {σ' : L2.St} {H' : Hp} {v : V} {u : Value}, Inv (ncx CX P w K mg base N (nf x qual st c cc) f A outer s H E) [] σ' H' s' → L2.RelV v u → Q v H' → CE outer P w H s Q u s' :=
    fun {σ' H' v u} J rv q => ⟨v, H', J.os, J.bare, J.base, J.hok, rv, q⟩
  cases fl with
  | ret u =>
    obtain ⟨v, σ', H', J, rv, q⟩ := hs
    exact fin J rv q
  | next =>
    obtain ⟨σ', H', J, q⟩ := hs
    exact fin (v := V.non) (u := Value.none) J rfl q
  | brk =>
    obtain ⟨_, _, _, q⟩ := hs
    exact False.elim q
  | cont =>
    obtain ⟨_, _, _, q⟩ := hs
    exact False.elim q
end
/-! ### super().m(e, ..) as the first statement, m a def of a class above -/
/-- facts of the running def, by the context -/
structure AtS (X : Cx) (body : List Stmt) (f c cc D : Addr) (me : Str) : Prop where
  hk : X.env.scope.kind = .function
  hks : X.env.kindOf "super" = some .globalImplicit
  hkc : X.env.kindOf "__class__" = some .free
  hfu : X.env.func = some f
  hco : X.env.code = .ref c
  cl : X.env.cells.lookup ("__class__" : Str) = some cc
  hkl : X.env.kindOf me = some .local
  fn : ∃ (oc : Value) (od : Option Addr) (fd : FuncData) (osl : Array (Option Value)) (ar : Arg), X.K.lookup f = some ⟨oc, od, .func fd, osl⟩ ∧ (fd.params.posonlyargs ++ fd.params.args).head? = some ar ∧ ar.arg = me
  file : ∃ (ccl : Value) (cdd : Option Addr) (vs : Array Value) (ccs : Array (Option Value)) (fl : Str) (tf : Tok), X.K.lookup c = some ⟨ccl, cdd, .fields vs, ccs⟩ ∧ vs[2]? = some (.str fl tf) ∧ ((X.prog.main.file : Str) == fl) = true
  cell : ∃ (l : Value) (ld : Option Addr) (csl : Array (Option Value)), X.K.lookup cc = some ⟨l, ld, .cell (some (.ref D)), csl⟩
/-- facts of the text -/
structure SupT (prog : Program) (K : PySem.W.Frag) (mg : Str → Option Value) (D : Addr) : Prop where
  top : (prog.main.scope.names.lookup ("super" : Str)).isSome = false
  mg : mg "super" = none
  cls : ∃ cdD, PySem.W.clsIn K D = some cdD
  third : PySem.W.nsIn K cStatics "thirdparty.any" = some none
section
variable {X : Cx} {body : List Stmt} {f c cc D : Addr} {me : Str} {pins : List (Addr × Obj)} {s : Shared} {σ : L2.St} {H : Hp}
/-- super() itself: a new object, kept aside -/
theorem super_base {attr : Str} {whole : Sem Value} {p0 p1 : Pos} {x C : Addr} {ox : Obj} {Q : Value → Shared → Prop} (a : AtS X body f c cc D me) (t : SupT X.prog X.K X.mg D) (I : Inv X pins σ H s)
    (hN : X.N[0]? = some me) (hx : σ[0]? = some (some (.ref x))) (ho : s.heap.get? x = some ox) (hc : ox.cls = .ref C) (hnc : ∀ c, ox.data ≠ .cls c)
    (hsub : PySem.W.mroIn X.K C (.ref D) = some true) (hat : (attr == ("__class__" : Str)) = false)
    (h : ∀ so h', so = s.heap.objs.size → h'.get? so = some (PySem.W.ks_superObj D x C) → (∀ b o, s.heap.get? b = some o → h'.get? b = some o) → Inv X pins σ H { s with heap := h' } → Q (.ref so) { s with heap := h' }) :
    PySem.wpAt (model X.prog X.w) X.A (.func body X.env) (attributeBase (.Call (.Name "super" p0) [] [] p1) attr X.env whole) Q X.xe s := by
  obtain ⟨oc, od, fd, osl, ar, lf, hp, hself⟩ := a.fn
  obtain ⟨ccl, cdd, vs, ccs, fl, tf, lc, hvs, hfile⟩ := a.file
  obtain ⟨l, ld, csl, lcc⟩ := a.cell
  obtain ⟨cdD, hD⟩ := t.cls
  have KX := I.kIn
  obtain ⟨oD, hD1, hD2⟩ : ∃ oD, s.heap.get? D = some oD ∧ oD.data = .cls cdD := by
    unfold PySem.W.clsIn at hD
    split at hD
    · rename_i c d cd' sl ho
      cases hD
      exact ⟨_, KX _ _ ho, rfl⟩
    · cases hD
  obtain ⟨m, hns, hl⟩ := I.loc
  obtain ⟨u, ru, lk⟩ := hl 0 me _ hN hx (.inl a.hkl)
  obtain rfl : u = Value.ref x := ru
  have hm : m me = some (Value.ref x) := by
    rcases lk with ⟨_, e⟩ | ⟨e, _⟩
    · exact e
    · rw [a.hkl] at e
      rcases e with e | e <;> cases e
  refine ks_wpAt_super_base a.hks a.hkc hat a.hfu (KX _ _ lf) rfl hp a.hco (KX _ _ lc) rfl hvs hfile t.top ?_
  obtain ⟨mb, b1, b2⟩ := I.mod.blt
  refine PySem.W.ks_loadName_global a.hk a.hks (Calls.loadGlobal_builtin (by rw [I.ok.glob]; exact I.mod.glob.keeps I.bk) t.mg (by rw [I.ok.blt]; exact b1.keeps I.bk) ((b2 _ (by decide)).trans (by decide +kernel : bootBuiltins "super" = some (.type "super"))) ⟨rfl, ?_⟩)
  refine wpAny_loadName_free a.hk a.hkc a.cl ⟨_, KX _ _ lcc, rfl⟩ ?_
  rw [hself]
  refine wpAny_loadName_local a.hk a.hkl hns hm ?_
  refine ks_wpAny_isType_cls hD1 hD2 ⟨rfl, ?_⟩
  obtain ⟨hh, g, d, tk, os⟩ := s
  exact ks_wpAny_call_super hD1 hD2 ho hc hnc (PySem.W.looks_mroIn KX hsub) fun h' e k => h _ _ rfl e k (I.kept (t' := tk) k)
/-- super().m: the def of the class above, bound; kept aside -/
theorem super_meth {name : Str} {pl : Sem Bool} {x C so f2 : Addr} {ox : Obj} {Q : Value × List Value → Shared → Prop} (I : Inv X pins σ H s) (hso : s.heap.get? so = some (PySem.W.ks_superObj D x C))
    (ho : s.heap.get? x = some ox) (hnc : ∀ c, ox.data ≠ .cls c) (third : PySem.W.nsIn X.K cStatics "thirdparty.any" = some none)
    (hm : PySem.W.ks_superIn X.K C D name = some (some (.ref f2))) (ht : PySem.W.typeIn X.K (.ref f2) = some (.type "function")) (hn : (name == ("__class__" : Str)) = false)
    (h : ∀ q s', q = s.heap.objs.size → s'.heap.get? q = some (PySem.W.methodObj (.ref f2) (.ref x)) → (∀ b o, s.heap.get? b = some o → s'.heap.get? b = some o) → Inv X pins σ H s' → Q (.ref q, []) s') :
    wpAny (model X.prog X.w) X.A (getMethod (.ref so) name pl) Q X.xe s := by
  have KX := I.kIn
  obtain ⟨hh, g, d, tk, os⟩ := s
  cases hc : PySem.W.clsIn X.K C with
  | none => unfold PySem.W.ks_superIn at hm; rw [hc] at hm; cases hm
  | some cd =>
    unfold PySem.W.ks_superIn at hm
    rw [hc] at hm
    have hxC : x ≠ C := by
      rintro rfl
      unfold PySem.W.clsIn at hc
      split at hc
      · rename_i c d cd' sl hoc
        have e := KX _ _ hoc
        rw [ho] at e
        cases e
        exact hnc _ rfl
      · cases hc
    obtain ⟨of, hof, hofc⟩ : ∃ of, hh.get? f2 = some of ∧ of.cls = .type "function" := by
      have ht' : (X.K.lookup f2).map (·.cls) = some (.type "function") := ht
      cases z : X.K.lookup f2 with
      | none => rw [z] at ht'; cases ht'
      | some of => rw [z] at ht'; exact ⟨of, KX _ _ z, Option.some.inj ht'⟩
    refine ks_wpAny_getMethod_super hso (PySem.W.looks_opaque KX third) (l₀ := cd.mro) ?_ rfl KX hm hof hofc hxC hn ?_
    · exact fun A Q E s k q => wpAny_bind ((PySem.W.looks_clsIn KX hc) A _ E s k (wpAny_pure q))
    · have kp : ∀ b o, hh.get? b = some o → (hh.push (PySem.W.methodObj (.ref f2) (.ref x))).get? b = some o := fun b o e => Heap.get?_push_of_some _ e
      exact h _ _ rfl (Heap.get?_push_at rfl rfl) kp (I.kept (t' := tk + 1) kp)
/-- an instance that is tracked: what super() asks of it -/
theorem ins_obj {a C dx : Addr} {fs : List (Str × V)} (I : Inv X pins σ H s) (e : H a = some (.ins C dx fs)) : ∃ ox : Obj, s.heap.get? a = some ox ∧ ox.cls = .ref C ∧ ∀ c, ox.data ≠ .cls c := by
  obtain ⟨d, z, ne, ob, _⟩ := (show ObjOk X.prog X.w H s.heap a (.ins C dx fs) from I.hok a _ e)
  exact ⟨_, ob, rfl, fun c h => by cases h⟩
/-- super().m(e, ..), then the rest -/
theorem super_own {CX : CXT} {k : Nat} {f2 x C : Addr} {fd2 : FuncData} {ps2 : List Str} {sp2 : Sp} {dvs : List V} {ds : List Value} {E : XK} {attr : Str} {e : Expr} {es : List Expr} {t : TA} {rest : List Stmt} {u : TS} {D' : Ends} {p0 p1 p2 p3 p4 : Pos}
    (a : AtS X body f c cc D me) (T : SupT X.prog X.K X.mg D) (F : FnOk X.prog X.w X.K X.mg X.base CX k f2 fd2 ps2 sp2) (hr : Room k X.A) (hb : Binds X.K fd2 ps2 ds) (hd : Vals dvs ds) (hx : Passes CX X E)
    (hN : X.N[0]? = some me) (hm : PySem.W.ks_superIn X.K C D attr = some (some (.ref f2))) (ht : PySem.W.typeIn X.K (.ref f2) = some (.type "function")) (hfn : PySem.W.fnIn X.K f2 = true)
    (hsub : PySem.W.mroIn X.K C (.ref D) = some true) (hat : (attr == ("__class__" : Str)) = false) (ha : PA X (e :: es) t) (hrest : PSs X rest u)
    (I : Inv X pins σ H s) (hσ : σ[0]? = some (some (.ref x))) (hins : ∃ ox : Obj, s.heap.get? x = some ox ∧ ox.cls = .ref C ∧ ∀ c, ox.data ≠ .cls c)
    (hq : t σ H fun vs H1 => sp2 (.ref x :: (vs ++ dvs)) H1 (fun _ H2 => u D' σ H2) E)
    (hi : interactive X.env = false) (hs : swapsWith (.Call (.Attribute (.Call (.Name "super" p0) [] [] p1) attr p2) (e :: es) [] p3) none p4.line X.env = pure false)
    (he : eval (.Call (.Attribute (.Call (.Name "super" p0) [] [] p1) attr p2) (e :: es) [] p3) X.env = (do
      let ov ← attributeBase (.Call (.Name "super" p0) [] [] p1) attr X.env (eval (.Call (.Name "super" p0) [] [] p1) X.env)
      standAt p2.atName
      let (f, first) ← holding [ov] (getMethod ov attr (pure false))
      callWith p3 f first (backTo p3 (starEach (e :: es) X.env)) []))
    (hst : starEach (e :: es) X.env = (false, eval e X.env) :: starEach es X.env) (hpl : (backTo p3 (starEach es X.env)).any (·.1) = false) :
    PySem.wpAt (model X.prog X.w) X.A (.func body X.env) (execs (.Expr (.Call (.Attribute (.Call (.Name "super" p0) [] [] p1) attr p2) (e :: es) [] p3) p4 :: rest) X.env) (SP X pins D') X.xe s := by
  obtain ⟨ox, ho, hc, hnc⟩ := hins
  refine ks_wpAt_execs_cons (ks_wpAt_Expr_any (ks_wpAt_MethodCall (pl := pure false) (super_base a T I hN hσ ho hc hnc hsub hat fun so h' eso hso kp I1 => ?_) he) hi hs)
  refine super_meth (x := x) (C := C) (D := D) I1 hso (kp _ _ ho) hnc T.third hm ht hat fun q s2 eq hq2 kp2 I2 => ?_
  have hqn : H q = none := by rw [eq]; exact I1.hok.fresh (Nat.le_refl _)
  have hq0 : X.s_0.heap.objs.size ≤ q := by rw [eq]; exact I1.sz
  have hqL : q ≠ X.env.locals := by rw [eq]; exact (Nat.ne_of_lt I1.lt).symm
  have hqf : q ∉ X.fs := by rw [eq]; exact I1.nofs (Nat.le_refl _)
  have J : Inv X (pins ++ [(q, PySem.W.methodObj (.ref f2) (.ref x))]) σ H s2 := I2.pins_of fun p hp => by
    rcases List.mem_append.mp hp with hp | hp
    · exact I2.pin p (List.mem_append_right _ hp)
    · obtain rfl := List.mem_singleton.mp hp
      exact ⟨hq2, hqn, hqL, hqf, fun v hv => by cases hv⟩
  refine PySem.W.callWith_M (h₀ := X.base) (L := X.env.locals) (news := [(q, PySem.W.methodObj (.ref f2) (.ref x))]) I.ok.mod.kin ?_ (List.mem_singleton.mpr rfl) hfn ?_ hst hpl
  · intro p hp
    obtain rfl := List.mem_singleton.mp hp
    exact ⟨hq2, hqL, Heap.get?_none_of_le (Nat.le_trans I.ok.bsz hq0)⟩
  refine thn (ha.run p3 _ s2 σ H _ J hq) fun us s3 ⟨vs, H3, I3, r, q3⟩ => ?_
  have hq3 : s3.heap.get? q = some (PySem.W.methodObj (.ref f2) (.ref x)) := (I3.pin _ (List.mem_append_right _ (List.mem_append_right _ (List.mem_singleton.mpr rfl)))).1
  refine ⟨⟨hq3, I3.kIn⟩, ?_⟩
  refine wpAny_call (PySem.W.method_call hq3 ?_)
  have r2 : Vals (V.ref x :: (vs ++ dvs)) (Value.ref x :: (us ++ ds)) := .cons rfl (r.append hd)
  have hl : (Value.ref x :: (us ++ ds)).length = ps2.length := by rw [← r2.length]; exact F.len _ _ _ _ q3
  have I4 : Inv X pins σ H3 s3 := I3.pins_of fun p hp => I3.pin p (List.mem_append_right _ (List.mem_append_left _ hp))
  refine codeAny_mono (F.run X.A X.stack s3 H3 ⟨.ref x :: us, []⟩ (.ref x :: (us ++ ds)) (.ref x :: (vs ++ dvs)) _ E hr I3.env0 (hb s3 (.ref x :: us) I3.kIn hl) r2 q3) fun r s' hq' => ?_
  cases r with
  | error e => exact hx pins σ H3 s3 e s' I4 hq'
  | ok fl =>
    cases fl with
    | ret v =>
      obtain ⟨v', H', I5, _, q5⟩ := I4.after hq'
      exact wpAt_of_wpAny (hrest.run pins s' σ H' D' I5 q5)
    | next => exact False.elim hq'
    | brk => exact False.elim hq'
    | cont => exact False.elim hq'
end
end Sup
namespace Sup
open PySem PySem.Spec PyProof.Rows L2
open NdefX (NF NScope ncx envF startF CellsAt inv_startN)
section
variable {X : Cx} {body : List Stmt} {f c cc D : Addr} {me : Str} {pins : List (Addr × Obj)} {s : Shared} {σ : L2.St} {H : Hp}
/-- an exception that is being made: what super() asks of it -/
theorem exo_obj {a C : Addr} {d : Option Addr} (I : Inv X pins σ H s) (e : H a = some (exo a C d)) : ∃ ox : Obj, s.heap.get? a = some ox ∧ ox.cls = .ref C ∧ ∀ c, ox.data ≠ .cls c := by
  obtain ⟨t1, ho⟩ := exo_at I.hok e
  exact ⟨_, ho, rfl, fun c h => by cases h⟩
/-- super().__init__, ValueError's, bound; kept aside -/
theorem super_methX {pl : Sem Bool} {x C so : Addr} {Q : Value × List Value → Shared → Prop} (I : Inv X pins σ H s) (hso : s.heap.get? so = some (PySem.W.ks_superObj D x C))
    (hx : H x = some (exo x C none)) (third : PySem.W.nsIn X.K cStatics "thirdparty.any" = some none)
    (hm : PySem.W.ks_superIn X.K C D "__init__" = some (some (.builtin "ValueError.__init__"))) (hB : PySem.W.subIn X.K (.ref C) (.type "ValueError") = some true)
    (h : ∀ q s', q = s.heap.objs.size → s'.heap.get? q = some (PySem.W.kxs_mw "ValueError.__init__" x) → Inv X pins σ H s' → Q (.ref q, []) s') :
    wpAny (model X.prog X.w) X.A (getMethod (.ref so) "__init__" pl) Q X.xe s := by
  have KX := I.kIn
  obtain ⟨t1, ho⟩ := exo_at I.hok hx
  have hI : PySem.W.Looks (model X.prog X.w) s.heap (isInstance (.ref x) (.type "ValueError")) true :=
    (PySem.W.InstAt.type (ox := { cls := .ref C, dict := none, data := .fields #[.ref t1, .none, .none, .none, .bool false, .none] }) (od := none) ⟨ho, rfl, rfl, trivial⟩).andThen (PySem.W.looks_subIn KX hB)
  obtain ⟨hh, g, d, tk, os⟩ := s
  cases hc : PySem.W.clsIn X.K C with
  | none => unfold PySem.W.ks_superIn at hm; rw [hc] at hm; cases hm
  | some cd =>
    unfold PySem.W.ks_superIn at hm
    rw [hc] at hm
    have hxC : x ≠ C := by
      rintro rfl
      unfold PySem.W.clsIn at hc
      split at hc
      · rename_i c d cd' sl hoc
        have e := KX _ _ hoc
        rw [ho] at e
        cases e
      · cases hc
    refine PySem.W.kxs_getMethod PySem.W.kxs_ValueError hso (PySem.W.looks_opaque KX third) (l₀ := cd.mro) ?_ rfl KX hm hI hxC (by decide) ?_
    · exact fun A Q E s k q => wpAny_bind ((PySem.W.looks_clsIn KX hc) A _ E s k (wpAny_pure q))
    · have kp : ∀ b o, hh.get? b = some o → (hh.push (PySem.W.kxs_mw "ValueError.__init__" x)).get? b = some o := fun b o e => Heap.get?_push_of_some _ e
      exact h _ _ rfl (Heap.get?_push_at rfl rfl) (I.kept (t' := tk + 1) kp)
/-- it is called: nothing of it is told -/
theorem call_mw {u a C : Addr} {us : List Value} {Q : Value → Shared → Prop} (T : OexC X.K C) (I : Inv X pins σ H s) (hu : s.heap.get? u = some (PySem.W.kxs_mw "ValueError.__init__" a)) (e : H a = some (exo a C none)) (hl : us.length ≤ sizeLine)
    (h : ∀ s', Inv X pins σ H s' → Q .none s') : wpAny (model X.prog X.w) X.A (call (.ref u) us) Q X.xe s := by
  obtain ⟨nm, q, N, bs, bm, sn, sub, ab, col, dd, k0, k1, k2, k3, k5, hC, hbm⟩ := T.cls
  obtain ⟨t1, ho⟩ := exo_at I.hok e
  have hCs := I.kIn _ _ hC
  obtain ⟨hh, g, d, tk, os⟩ := s
  refine wpAny_call (codeAny_of_tree ?_)
  show wpAny _ X.A.in1 (callAny (.ref u) ⟨us, []⟩) _ _ _
  simp only [callAny]
  refine wpAny_bind (wpAny_load hu ?_)
  simp only [PySem.W.kxs_mw, show (Value.type "method-wrapper" == Value.type "method" || Value.type "method-wrapper" == Value.type "builtin_function_or_method" || Value.type "method-wrapper" == Value.type "method-wrapper") = true by decide, if_true]
  refine PySem.W.KFB.if_so (by decide) ?_
  refine wpAny_bind (PySem.W.check_bound_init F.excBase_ValueError.toExcCallFacts hCs ho rfl ?_)
  refine wpAny_bind (wpAny_pure (wpAny_pure ?_))
  refine ⟨plainId_quiet F.excBase_ValueError.init.plain _, codeAny_builtin F.excBase_ValueError.initEntry ?_⟩
  refine PySem.W.exc_init_tree (cls := .ref C) (t0 := t1) (dv := none) (c2 := .none) (c3 := .none) (b4 := .bool false) ho hl fun h' k e' t' => ?_
  have J := I.write (t' := tk) (x := a) (e := a) (o := exo a C none) (by rw [e]; exact True.intro) (.inl rfl) k ⟨_, e'⟩ (exo_ok e')
  have eu : upd H a (exo a C none) = H := by
    funext b
    by_cases hb : b = a
    · rw [hb, upd_same, e]
    · rw [upd_ne hb]
  rw [eu] at J
  exact h _ J
end
end Sup
namespace Sup
open PySem PySem.Spec PyProof.Rows L2
open NdefX (NF NScope ncx envF startF CellsAt inv_startN)
section
variable {X : Cx} {body : List Stmt} {f c cc D : Addr} {me : Str} {pins : List (Addr × Obj)} {s : Shared} {σ : L2.St} {H : Hp}
/-- super().__init__(e, ..) of an exception, then the rest -/
theorem super_exc {x C : Addr} {e : Expr} {es : List Expr} {t : TA} {rest : List Stmt} {u : TS} {D' : Ends} {p0 p1 p2 p3 p4 : Pos}
    (a : AtS X body f c cc D me) (T : SupT X.prog X.K X.mg D) (TC : OexC X.K C)
    (hN : X.N[0]? = some me) (hm : PySem.W.ks_superIn X.K C D "__init__" = some (some (.builtin "ValueError.__init__"))) (hB : PySem.W.subIn X.K (.ref C) (.type "ValueError") = some true)
    (hsub : PySem.W.mroIn X.K C (.ref D) = some true) (ha : PA X (e :: es) t) (hrest : PSs X rest u)
    (I : Inv X pins σ H s) (hσ : σ[0]? = some (some (.ref x))) (hx : H x = some (exo x C none))
    (hq : t σ H fun vs H1 => vs.length ≤ 1000 ∧ H1 x = some (exo x C none) ∧ u D' σ H1)
    (hi : interactive X.env = false) (hs : swapsWith (.Call (.Attribute (.Call (.Name "super" p0) [] [] p1) "__init__" p2) (e :: es) [] p3) none p4.line X.env = pure false)
    (he : eval (.Call (.Attribute (.Call (.Name "super" p0) [] [] p1) "__init__" p2) (e :: es) [] p3) X.env = (do
      let ov ← attributeBase (.Call (.Name "super" p0) [] [] p1) "__init__" X.env (eval (.Call (.Name "super" p0) [] [] p1) X.env)
      standAt p2.atName
      let (f, first) ← holding [ov] (getMethod ov "__init__" (pure false))
      callWith p3 f first (backTo p3 (starEach (e :: es) X.env)) []))
    (hst : starEach (e :: es) X.env = (false, eval e X.env) :: starEach es X.env) (hpl : (backTo p3 (starEach es X.env)).any (·.1) = false) :
    PySem.wpAt (model X.prog X.w) X.A (.func body X.env) (execs (.Expr (.Call (.Attribute (.Call (.Name "super" p0) [] [] p1) "__init__" p2) (e :: es) [] p3) p4 :: rest) X.env) (SP X pins D') X.xe s := by
  obtain ⟨ox, ho, hc, hnc⟩ := exo_obj I hx
  refine ks_wpAt_execs_cons (ks_wpAt_Expr_any (ks_wpAt_MethodCall (pl := pure false) (super_base a T I hN hσ ho hc hnc hsub (by decide) fun so h' eso hso kp I1 => ?_) he) hi hs)
  refine super_methX (x := x) (C := C) (D := D) I1 hso hx T.third hm hB fun q s2 eq hq2 I2 => ?_
  have hqn : H q = none := by rw [eq]; exact I1.hok.fresh (Nat.le_refl _)
  have hq0 : X.s_0.heap.objs.size ≤ q := by rw [eq]; exact I1.sz
  have hqL : q ≠ X.env.locals := by rw [eq]; exact (Nat.ne_of_lt I1.lt).symm
  have hqf : q ∉ X.fs := by rw [eq]; exact I1.nofs (Nat.le_refl _)
  have J : Inv X (pins ++ [(q, PySem.W.kxs_mw "ValueError.__init__" x)]) σ H s2 := I2.pins_of fun p hp => by
    rcases List.mem_append.mp hp with hp | hp
    · exact I2.pin p (List.mem_append_right _ hp)
    · obtain rfl := List.mem_singleton.mp hp
      exact ⟨hq2, hqn, hqL, hqf, fun v hv => by cases hv⟩
  refine PySem.W.kxs_callWith1 (h₀ := X.base) (L := X.env.locals) (news := [(q, PySem.W.kxs_mw "ValueError.__init__" x)]) (i := "ValueError.__init__") (x := x) ?_ (List.mem_singleton.mpr rfl) ?_ hst hpl
  · intro p hp
    obtain rfl := List.mem_singleton.mp hp
    exact ⟨hq2, hqL, Heap.get?_none_of_le (Nat.le_trans I.ok.bsz hq0)⟩
  refine thn (ha.run p3 _ s2 σ H _ J hq) fun us s3 ⟨vs, H3, I3, r, hl, hx3, q3⟩ => ?_
  have hq3 : s3.heap.get? q = some (PySem.W.kxs_mw "ValueError.__init__" x) := (I3.pin _ (List.mem_append_right _ (List.mem_append_right _ (List.mem_singleton.mpr rfl)))).1
  have I4 : Inv X pins σ H3 s3 := I3.pins_of fun p hp => I3.pin p (List.mem_append_right _ (List.mem_append_left _ hp))
  refine ⟨hq3, ?_⟩
  exact call_mw TC I4 hq3 hx3 (by rw [← r.length]; exact Nat.le_trans hl (by decide)) fun s' I5 => wpAt_of_wpAny (hrest.run pins s' σ H3 D' I5 q3)
end
theorem atS_of {P : Program} {w : World} {K : PySem.W.Frag} {mg : Str → Option Value} {base : Heap} {CX : CXT} {x qual : Str} {st : Stmt} {f c cc D : Addr} {fd : FuncData} {N : List Str} {A : Around} {outer : List Env} {s : Shared} {H : Hp} {E : XK} {me : Str} {body : List Stmt}
    (F : FunS P K x qual st f fd c cc D) (hk : (defScope st).kind = .function) (hs : (defScope st).names.lookup ("super" : Str) = some .globalImplicit) (hc : (defScope st).names.lookup ("__class__" : Str) = some .free)
    (hm : (defScope st).names.lookup me = some .local) (ha : ∃ ar, ((defArgs st).posonlyargs ++ (defArgs st).args).head? = some ar ∧ ar.arg = me) : AtS (ncx CX P w K mg base N (nf x qual st c cc) f A outer s H E) body f c cc D me := by
  obtain ⟨oc, od, kV, doc, pm, an, ct, osl, rfl, lk⟩ := F.ex
  obtain ⟨ar, h1, h2⟩ := ha
  refine ⟨hk, hs, hc, rfl, rfl, ?_, hm, ⟨oc, od, _, osl, ar, lk, h1, h2⟩, F.file, F.cell⟩
  show List.lookup _ [(("__class__" : Str), cc)] = some cc
  rw [List.lookup_cons, beq_self_eq_true]
end Sup
namespace Sj
open PySem L2
open C8 (pss_cut tCut)
def top (i : Nat) : Stmt := PySem.Challenge.pw_strayjoins_k15_whole_joined_boards_read.main.body.getD i (.Pass ⟨0, 0, 0, 0⟩)
abbrev sPen : Stmt := top 35
abbrev sDraw : Stmt := top 36
abbrev sPick : Stmt := top 37
/-! ### the pen: its cells, the next place, what is left of a great one -/
def penO (l : Addr) (i g : Int) : HO := .lst [.ref l, .int i, .int g]
def Pen (H : Hp) (p l : Addr) (cs : List Int) (n : Nat) : Prop :=
  ∃ i g : Int, H p = some (penO l i g) ∧ H l = some (.lst (cs.map V.int)) ∧ cs.length ≤ 63 ∧ 0 ≤ i ∧ i ≤ n
/-- all that stood but at p stands as it was -/
def But (H H' : Hp) (p : Addr) : Prop := ∀ b o, b ≠ p → H b = some o → H' b = some o
theorem But.upd (H : Hp) (p : Addr) (o : HO) : But H (upd H p o) p := fun b _ h e => by rw [upd_ne h]; exact e
theorem But.trans {H H1 H2 : Hp} {p : Addr} (a : But H H1 p) (b : But H1 H2 p) : But H H2 p := fun c o h e => b c o h (a c o h e)
theorem But.put {H H1 : Hp} {p : Addr} (a : But H H1 p) (o : HO) : But H (L2.upd H1 p o) p := a.trans (.upd _ _ _)
theorem But.new {H H1 : Hp} {p q : Addr} (a : But H H1 p) (hq : H1 q = none) (o : HO) : But H (L2.upd H1 q o) p := fun b _ h e => by
  have e1 := a b _ h e
  rw [upd_ne (ne_of_none e1 hq)]
  exact e1
def spDraw : Sp := fun vs H Q _ => ∃ (p l : Addr) (cs : List Int) (n : Nat) (m : Int), vs = [.ref p, .int m] ∧ Pen H p l cs n ∧ 0 < m ∧ m < 1073741824 ∧ n < 1000000 ∧
  ∀ (d i g : Int) (H' : Hp), 0 ≤ d → d < m → 0 ≤ i → i ≤ n + 1 → H' p = some (penO l i g) → But H H' p → Q (.int d) H'
structure Bi (mg : Str → Option Value) : Prop where
  int : mg "int" = none
  len : mg "len" = none
  abs : mg "abs" = none
theorem dp_ints {K : PySem.W.Frag} {H : Hp} : ∀ cs : List Int, DpAll K H (cs.map V.int) (cs.map PyData.int)
  | [] => .nil
  | c :: cs => .cons (.int c) (dp_ints cs)
theorem shaped_ints (cs : List Int) : SeqAt.shaped (.list (cs.map PyData.int)) = true := by
  unfold SeqAt.shaped
  rw [Bool.and_eq_true]
  refine ⟨?_, decide_eq_true ?_⟩
  · show PyData.canLayAll0 (cs.map PyData.int) = true
    induction cs with
    | nil => rfl
    | cons c cs ih => exact Bool.and_eq_true_iff.mpr ⟨rfl, ih⟩
  · have e : PyData.depthAll (cs.map PyData.int) ≤ 1 := by
      induction cs with
      | nil => exact Nat.zero_le _
      | cons c cs ih => exact Nat.max_le.mpr ⟨(show (0 : Nat) ≤ 1 by decide), ih⟩
    show PyData.depthAll (cs.map PyData.int) + 1 ≤ 64
    omega
theorem small1 {b c i m : Int} {n : Nat} {x : Int} (i0 : 0 ≤ i) (i1 : i ≤ n) (n1 : n < 1000000) (hm : 0 < m ∧ m < 4294967296 := by decide) (hb : 0 ≤ b ∧ b < 100000 := by decide) (hc : 0 ≤ c ∧ c < 100000 := by decide) :
    (x % m + b * i + c).natAbs < 2 ^ 64 := by
  have h1 := Int.emod_nonneg x (show m ≠ 0 by omega)
  have h2 := Int.emod_lt_of_pos x hm.1
  have h3 : 0 ≤ b * i := Int.mul_nonneg hb.1 i0
  have h4 : b * i ≤ 100000 * 1000000 := Int.mul_le_mul (by omega) (by omega) i0 (by decide)
  have h5 : (2 : Nat) ^ 64 = 18446744073709551616 := by decide
  omega
theorem small3 {b i : Int} (i0 : 0 ≤ i) (hb : 0 ≤ b ∧ b < 100000 := by decide) : -(2 ^ 64) < b * i := by
  have h3 : 0 ≤ b * i := Int.mul_nonneg hb.1 i0
  have h5 : (2 : Int) ^ 64 = 18446744073709551616 := by decide
  omega
theorem small4 {b i : Int} {n : Nat} (i1 : i ≤ n) (n1 : n < 1000000) (hb : 0 ≤ b ∧ b < 100000 := by decide) : b * i < 2 ^ 64 := by
  have h4 : b * i ≤ b * 1000000 := Int.mul_le_mul_of_nonneg_left (by omega) hb.1
  have h5 : (2 : Int) ^ 64 = 18446744073709551616 := by decide
  omega
theorem small2 {a b c e i y : Int} {n : Nat} (i0 : 0 ≤ i) (i1 : i ≤ n) (n1 : n < 1000000) (y0 : 0 ≤ y) (y1 : y < 2147483648) (ha : 0 ≤ a ∧ a < 10 := by decide) (hb : 0 ≤ b ∧ b < 100000 := by decide)
    (hc : 0 ≤ c ∧ c < 100000 := by decide) (he : 0 ≤ e ∧ e < 100000 := by decide) : (y * (a * i + b) + c * i * i + e).natAbs < 2 ^ 64 := by
  have h3 : 0 ≤ a * i := Int.mul_nonneg ha.1 i0
  have h4 : a * i ≤ 10 * 1000000 := Int.mul_le_mul (by omega) (by omega) i0 (by decide)
  have h6 : 0 ≤ y * (a * i + b) := Int.mul_nonneg y0 (by omega)
  have h7 : y * (a * i + b) ≤ 2147483648 * 20000000 := Int.mul_le_mul (by omega) (by omega) (by omega) (by decide)
  have h8 : 0 ≤ c * i := Int.mul_nonneg hc.1 i0
  have h9 : c * i ≤ 100000 * 1000000 := Int.mul_le_mul (by omega) (by omega) i0 (by decide)
  have h10 : 0 ≤ c * i * i := Int.mul_nonneg h8 i0
  have h11 : c * i * i ≤ (100000 * 1000000) * 1000000 := Int.mul_le_mul h9 (by omega) i0 (by decide)
  have h5 : (2 : Nat) ^ 64 = 18446744073709551616 := by decide
  omega
theorem cut_ints (ns : List Int) (a b : Option Int) : ∃ cs : List Int, cutV (ns.map V.int) a b = cs.map V.int ∧ cs.length ≤ ns.length := by
  unfold cutV
  rw [← List.map_drop, ← List.map_take]
  exact ⟨_, rfl, by rw [List.length_take, List.length_drop]; omega⟩
theorem cell_at {cs : List Int} {i : Int} (h0 : 0 ≤ i) (hn : cs ≠ []) : ∃ v : Int, atI (cs.map V.int) (i % ((cs.map V.int).length : Nat)) = some (.int v) := by
  have hl : 0 < cs.length := List.length_pos_iff.mpr hn
  have e : (cs.map V.int).length = cs.length := List.length_map _
  have hb := Int.emod_lt_of_pos i (show (0 : Int) < (cs.length : Int) by omega)
  have hp := Int.emod_nonneg i (show (cs.length : Int) ≠ 0 by omega)
  obtain ⟨j, hj⟩ : ∃ j : Nat, i % (cs.length : Int) = (j : Int) := ⟨(i % (cs.length : Int)).toNat, by omega⟩
  have hjl : j < cs.length := by omega
  refine ⟨cs[j], ?_⟩
  rw [e, hj]
  exact atI_nat (by simp [hjl])
section
variable {P : Program} {w : World} {K : PySem.W.Frag} {mg : Str → Option Value} {base : Heap}
theorem scDraw : FnScope ["_law_pen_here", "_law_many", "_law_digit", "_law_at", "_law_cell", "_law_great", "_law_mixed"] ["_law_pen_here", "_law_many"] (defScope sDraw) :=
  ⟨rfl, rfl, rfl, by decide +kernel, rfl, by decide +kernel, by decide +kernel⟩
theorem ok_draw {f : Addr} {fd : FuncData} (F : Fun K "_law_draw" "_law_draw" sDraw f fd) (B : Bi mg) : FnOk P w K mg base CX0 1 f fd ["_law_pen_here", "_law_many"] spDraw := by
  refine F.ok scDraw (fun vs H Q E h => ?_) (fun cdv A outer s H vs Q E hr h => ?_)
  · obtain ⟨p, l, cs, n, m, rfl, _⟩ := h
    rfl
  · obtain ⟨p, l, cs, n, m, rfl, ⟨i, g, hp, hl, hz, i0, i1⟩, m0, m1, n1, k⟩ := h
    have npl : p ≠ l := fun q => by
      subst q
      rw [hp] at hl
      have e := List.map_eq_cons_iff.mp (HO.lst.inj (Option.some.inj hl)).symm
      obtain ⟨_, _, _, h1, _⟩ := e
      cases h1
    refine ⟨_, pss_cut
        (ps_if (pt_cmpR op_gt (pe_ix ix_list (pv 0) pe_int (fun _ _ => rfl)) pe_int (nomark _))
          (pss_cons (ps_set (i := 2) scDraw.nd rfl (Or.inl rfl) (pe_op op_mod (pe_callTy call_int1 (by rfl) B.int (by decide +kernel) (pa_cons (pe_ix ix_list (pv 0) pe_int (fun _ _ => rfl)) pa_nil)) (pv 1)))
          (pss_cons (ps_asg (pe_op op_fdiv (pe_callTy call_int1 (by rfl) B.int (by decide +kernel) (pa_cons (pe_ix ix_list (pv 0) pe_int (fun _ _ => rfl)) pa_nil)) (pv 1)) (pg_sub (pv 0) pe_int set_list))
          (pss_one (ps_ret (pv 2)))))
          pss_nil)
      (pss_cons (ps_set (i := 3) scDraw.nd rfl (Or.inl rfl) (pe_ix ix_list (pv 0) pe_int (fun _ _ => rfl)))
      (pss_cons (ps_asg (pe_op op_add (pv 3) pe_int) (pg_sub (pv 0) pe_int set_list))
      (pss_cons (ps_set (i := 4) scDraw.nd rfl (Or.inl rfl) (pe_op op_add (pe_op op_mul pe_int (pv 3)) pe_int))
      (pss_cut (ps_if (pt_cmpR (op_neD hr.units) (pe_ix ix_list (pv 0) pe_int (fun _ _ => rfl)) (pe_lst pa_nil) (nomark _))
          (pss_one (ps_set (i := 4) scDraw.nd rfl (Or.inl rfl) (pe_ix ix_list (pe_ix ix_list (pv 0) pe_int (fun _ _ => rfl))
            (pe_op op_mod (pe_callTy call_int1 (by rfl) B.int (by decide +kernel) (pa_cons (pv 3) pa_nil)) (pe_callB call_len_seq (by rfl) B.len PySem.boot_len (pa_cons (pe_ix ix_list (pv 0) pe_int (fun _ _ => rfl)) pa_nil))) (fun _ _ => rfl))))
          pss_nil)
      (pss_cut (ps_if (PW.pt (pw_and (pt_cmpR op_lt (pv 3) (pe_callB call_len_seq (by rfl) B.len PySem.boot_len (pa_cons (pe_ix ix_list (pv 0) pe_int (fun _ _ => rfl)) pa_nil)) (nomark _))
            (pw_and1 (pt_cmpR op_ge (pe_callB call_abs (by rfl) B.abs (by decide +kernel) (pa_cons (pv 4) pa_nil)) (pe_op op_pow pe_int pe_int) (nomark _)))))
          (pss_cons (ps_set (i := 5) scDraw.nd rfl (Or.inl rfl) (pe_op op_add (pe_op op_mul pe_int (pe_callB call_abs (by rfl) B.abs (by decide +kernel) (pa_cons (pv 4) pa_nil)))
              (pe_callTy call_int1 (by rfl) B.int (by decide +kernel) (pa_cons (pe_cmpR op_lt (pv 4) pe_int (nomark _)) pa_nil))))
          (pss_cons (ps_asg (pe_op op_fdiv (pe_callTy call_int1 (by rfl) B.int (by decide +kernel) (pa_cons (pv 5) pa_nil)) (pv 1)) (pg_sub (pv 0) pe_int set_list))
          (pss_one (ps_ret (pe_op op_mod (pe_callTy call_int1 (by rfl) B.int (by decide +kernel) (pa_cons (pv 5) pa_nil)) (pv 1))))))
          pss_nil)
      (pss_cut (ps_set (i := 6) scDraw.nd rfl (Or.inl rfl) (pe_op op_mod (pe_op op_pow (pe_callTy call_int1 (by rfl) B.int (by decide +kernel) (pa_cons
          (pe_op op_add (pe_op op_add (pe_op op_mod (pe_callTy call_int1 (by rfl) B.int (by decide +kernel) (pa_cons (pv 4) pa_nil)) pe_int) (pe_op op_mul pe_int (pv 3))) pe_int) pa_nil)) pe_int) pe_int))
      (pss_cut (ps_set (i := 6) scDraw.nd rfl (Or.inl rfl) (pe_op op_mod (pe_op op_pow (pe_callTy call_int1 (by rfl) B.int (by decide +kernel) (pa_cons
          (pe_op op_add (pe_op op_add (pe_op op_mul (pv 6) (pe_op op_add (pe_op op_mul pe_int (pv 3)) pe_int)) (pe_op op_mul (pe_op op_mul pe_int (pv 3)) (pv 3))) pe_int) pa_nil)) pe_int) pe_int))
      (pss_one (ps_ret (pe_op op_mod (pe_callTy call_int1 (by rfl) B.int (by decide +kernel) (pa_cons (pe_op op_fdiv (pv 6) pe_int) pa_nil)) (pv 1))))))))))), ?_⟩
    refine ⟨fun σ' H' => σ' = start ["_law_pen_here", "_law_many", "_law_digit", "_law_at", "_law_cell", "_law_great", "_law_mixed"] [.ref p, .int m] ∧ H' = H,
      ⟨_, rfl, p, _, _, .int g, rfl, rfl, SqL.of hp, rfl, _, _, rfl, rfl, _, rfl, ite2 (fun _ => ?_) (fun _ => ⟨rfl, rfl⟩)⟩, ?_⟩
    · refine ⟨_, rfl, p, _, _, .int g, rfl, rfl, SqL.of hp, rfl, .inl ⟨_, rfl, _, rfl, _, _, rfl, rfl, m0, ?_⟩⟩
      refine ⟨_, rfl, p, _, _, .int g, rfl, rfl, SqL.of hp, rfl, .inl ⟨_, rfl, _, rfl, _, _, rfl, rfl, ⟨m0, m1⟩, ?_⟩⟩
      refine ⟨_, rfl, p, _, _, 2, rfl, rfl, hp, rfl, ?_⟩
      refine ⟨_, rfl, ?_⟩
      exact k _ _ _ _ (Int.emod_nonneg _ (by omega)) (Int.emod_lt_of_pos _ m0) i0 (by omega) upd_same (.upd _ _ _)
    · rintro σ' H' ⟨rfl, rfl⟩
      refine ⟨_, rfl, p, _, _, .int i, rfl, rfl, SqL.of hp, rfl, ?_⟩
      refine ⟨_, rfl, _, _, rfl, rfl, _, rfl, p, _, _, 1, rfl, rfl, hp, rfl, ?_⟩
      have b1 : But H' (upd H' p (penO l (i + 1) g)) p := .upd _ _ _
      have hp1 : upd H' p (penO l (i + 1) g) p = some (penO l (i + 1) g) := upd_same
      have hl1 : upd H' p (penO l (i + 1) g) l = some (.lst (cs.map V.int)) := b1 _ _ npl.symm hl
      refine ⟨_, rfl, _, _, rfl, rfl, .inl ⟨by decide, by decide⟩, _, _, rfl, rfl, ?_⟩
      refine ⟨fun σ2 H2 => ∃ c : Int, σ2 = [some (.ref p), some (.int m), none, some (.int i), some (.int c), none, none] ∧ H2 p = some (penO l (i + 1) g) ∧ H2 l = some (.lst (cs.map V.int)) ∧ But H' H2 p, ?_, ?_⟩
      · refine ⟨_, rfl, p, _, _, .ref l, rfl, rfl, SqL.of hp1, rfl, Nat.zero_le _, fun q hq => ?_⟩
        have npq : p ≠ q := ne_of_none hp1 hq
        have nlq : l ≠ q := ne_of_none hl1 hq
        have hp2 : upd (upd H' p (penO l (i + 1) g)) q (.lst []) p = some (penO l (i + 1) g) := by rw [upd_ne npq]; exact hp1
        have hl2 : upd (upd H' p (penO l (i + 1) g)) q (.lst []) l = some (.lst (cs.map V.int)) := by rw [upd_ne nlq]; exact hl1
        have b2 := b1.new hq (.lst [])
        refine ⟨.list (cs.map PyData.int), .list [], .lst (SqL.of hl2) (dp_ints cs), .lst (SqL.of upd_same) .nil, shaped_ints cs, rfl, _, rfl, ?_⟩
        cases cs with
        | nil => exact ⟨_, rfl, hp2, hl2, b2⟩
        | cons c cs =>
          refine iteT ?_
          obtain ⟨v, hv⟩ := cell_at (cs := c :: cs) i0 (by simp)
          refine ⟨_, rfl, p, _, _, .ref l, rfl, rfl, SqL.of hp2, rfl, _, rfl, .inl ⟨_, rfl, _, rfl, p, _, _, .ref l, rfl, rfl, SqL.of hp2, rfl, l, _, rfl, .inl (SqL.of hl2), _, _, rfl, rfl, ?_, ?_⟩⟩
          · show (0 : Int) < (((c :: cs).map V.int).length : Nat)
            simp
          · exact ⟨l, _, _, .int v, rfl, rfl, SqL.of hl2, hv, v, rfl, hp2, hl2, b2⟩
      · rintro σ2 H2 ⟨c, rfl, hp2, hl2, b2⟩
        have len63 : (cs.map V.int).length = cs.length := List.length_map _
        refine ⟨fun σ3 H3 => σ3 = [some (.ref p), some (.int m), none, some (.int i), some (.int c), none, none] ∧ H3 = H2, ?_, ?_⟩
        · refine ⟨_, rfl, _, rfl, p, _, _, .ref l, rfl, rfl, SqL.of hp2, rfl, l, _, rfl, .inl (SqL.of hl2), _, _, rfl, rfl, _, rfl, ite2 (fun _ => ?_) (fun _ => ⟨rfl, rfl⟩)⟩
          refine ⟨_, rfl, _, rfl, _, _, rfl, rfl, ⟨by decide, by decide, by decide⟩, _, _, rfl, rfl, _, rfl, ite2 (fun _ => ?_) (fun _ => ⟨rfl, rfl⟩)⟩
          refine ⟨_, rfl, _, rfl, _, _, rfl, rfl, .inl ⟨by decide, by decide⟩, _, rfl, _, _, rfl, rfl, .inr ⟨_, rfl, _, _, rfl, rfl, ?_⟩⟩
          refine ⟨_, rfl, .inl ⟨_, rfl, _, rfl, _, _, rfl, rfl, ⟨m0, m1⟩, _, rfl, p, _, _, 2, rfl, rfl, hp2, rfl, ?_⟩⟩
          refine ⟨_, rfl, .inl ⟨_, rfl, _, rfl, _, _, rfl, rfl, m0, ?_⟩⟩
          exact k _ _ _ _ (Int.emod_nonneg _ (by omega)) (Int.emod_lt_of_pos _ m0) (by omega) (by omega) upd_same (b2.put _)
        · rintro σ3 H3 ⟨rfl, rfl⟩
          refine ⟨fun σ4 H4 => ∃ y : Int, 0 ≤ y ∧ y < 2147483648 ∧ σ4 = [some (.ref p), some (.int m), none, some (.int i), some (.int c), none, some (.int y)] ∧ H4 = H3, ?_, ?_⟩
          · refine ⟨_, rfl, .inl ⟨_, rfl, _, _, rfl, rfl, (by show (0 : Int) < 2147483563; decide), _, rfl, _, _, rfl, rfl, .inl ⟨by decide, by decide⟩, _, _, rfl, rfl, _, _, rfl, rfl, .inl ⟨_, rfl, _, _, rfl, rfl,
              ⟨by decide, by decide, ?_⟩, _, _, rfl, rfl, (by show (0 : Int) < 2147483579; decide), _, Int.emod_nonneg _ (by decide), Int.lt_trans (Int.emod_lt_of_pos _ (by decide)) (by decide), rfl, rfl⟩⟩⟩
            exact small1 i0 i1 n1
          · rintro σ4 H4 ⟨y, y0, y1, rfl, rfl⟩
            refine ⟨fun σ5 H5 => ∃ y : Int, 0 ≤ y ∧ y < 2147483648 ∧ σ5 = [some (.ref p), some (.int m), none, some (.int i), some (.int c), none, some (.int y)] ∧ H5 = H4, ?_, ?_⟩
            · refine ⟨_, rfl, _, rfl, _, _, rfl, rfl, .inl ⟨by decide, by decide⟩, _, _, rfl, rfl, _, _, rfl, rfl, .inl ⟨?_, ?_⟩, _, rfl, _, _, rfl, rfl, .inl ⟨by decide, by decide⟩, _, rfl, _, _, rfl, rfl, .inl ⟨?_, ?_⟩,
                _, _, rfl, rfl, _, _, rfl, rfl, .inl ⟨_, rfl, _, _, rfl, rfl, ⟨by decide, by decide, ?_⟩, _, _, rfl, rfl, (by show (0 : Int) < 2147483629; decide), _, Int.emod_nonneg _ (by decide), Int.lt_trans (Int.emod_lt_of_pos _ (by decide)) (by decide), rfl, rfl⟩⟩
              · exact Int.lt_of_lt_of_le (by decide) y0
              · exact Int.lt_trans y1 (by decide)
              · exact small3 i0
              · exact small4 i1 n1
              · exact small2 i0 i1 n1 y0 y1
            · rintro σ5 H5 ⟨y, y0, y1, rfl, rfl⟩
              refine ⟨_, rfl, _, _, rfl, rfl, ⟨by decide, by decide⟩, .inl ⟨_, rfl, _, rfl, _, _, rfl, rfl, m0, ?_⟩⟩
              exact k _ _ _ _ (Int.emod_nonneg _ (by omega)) (Int.emod_lt_of_pos _ m0) (by omega) (by omega) hp2 b2
theorem scPick : FnScope ["_law_pen_here", "_law_some"] ["_law_pen_here", "_law_some"] (defScope sPick) := ⟨rfl, rfl, rfl, by decide +kernel, rfl, by decide +kernel, by decide +kernel⟩
def spPick : Sp := fun vs H Q _ => ∃ (p l q : Addr) (cs : List Int) (n : Nat) (xs : List V), vs = [.ref p, .ref q] ∧ Pen H p l cs n ∧ H q = some (.lst xs) ∧ q ≠ p ∧ 0 < xs.length ∧ xs.length < 1000 ∧ n < 1000000 ∧
  ∀ (j : Nat) (x : V) (H' : Hp), xs[j]? = some x → Pen H' p l cs (n + 1) → But H H' p → Q x H'
theorem Pen.next {H H' : Hp} {p l : Addr} {cs : List Int} {n : Nat} {i g : Int} (h : Pen H p l cs n) (i0 : 0 ≤ i) (i1 : i ≤ n + 1) (hp : H' p = some (penO l i g)) (b : But H H' p) : Pen H' p l cs (n + 1) := by
  obtain ⟨i', g', h1, h2, h3, h4, h5⟩ := h
  refine ⟨i, g, hp, b _ _ ?_ h2, h3, i0, by omega⟩
  intro e
  subst e
  rw [h1] at h2
  have e := List.map_eq_cons_iff.mp (HO.lst.inj (Option.some.inj h2)).symm
  obtain ⟨_, _, _, q, _⟩ := e
  cases q
theorem ok_pick {f fD : Addr} {fd fdD : FuncData} (F : Fun K "_law_pick" "_law_pick" sPick f fd) (B : Bi mg) (FD : Fun K "_law_draw" "_law_draw" sDraw fD fdD) (bD : Binds K fdD ["_law_pen_here", "_law_many"] []) (mD : mg "_law_draw" = some (.ref fD)) :
    FnOk P w K mg base CX0 2 f fd ["_law_pen_here", "_law_some"] spPick := by
  have GD : FnOk P w K mg base CX0 1 fD fdD ["_law_pen_here", "_law_many"] spDraw := ok_draw FD B
  refine F.ok scPick (fun vs H Q E h => ?_) (fun cdv A outer s H vs Q E hr h => ?_)
  · obtain ⟨p, l, q, cs, n, xs, rfl, _⟩ := h
    rfl
  · obtain ⟨p, l, q, cs, n, xs, rfl, hP, hq, nqp, x0, x1, n1, k⟩ := h
    refine ⟨_, pss_one (ps_ret (pe_ix ix_list (pv 1) (pe_call GD hr rfl mD FD.kp bD .nil pass0 (pa_cons (pv 0) (pa_cons (pe_callB call_len_seq (by rfl) B.len PySem.boot_len (pa_cons (pv 1) pa_nil)) pa_nil))) (fun _ _ => rfl))), ?_⟩
    refine ⟨_, rfl, _, rfl, _, rfl, q, _, rfl, .inl (SqL.of hq), p, l, cs, n, _, rfl, hP, by omega, by omega, n1, fun d i g H' d0 d1 i0 i1 hp b => ?_⟩
    obtain ⟨j, rfl⟩ : ∃ j : Nat, d = j := ⟨d.toNat, by omega⟩
    have hj : j < xs.length := by omega
    exact ⟨q, xs, _, xs[j], rfl, rfl, SqL.of (b _ _ nqp hq), atI_nat (by simp [hj]), k j _ _ (by simp [hj]) (hP.next i0 i1 hp b) b⟩
theorem scPen : FnScope ["_law_script"] ["_law_script"] (defScope sPen) := ⟨rfl, rfl, rfl, by decide +kernel, rfl, by decide +kernel, by decide +kernel⟩
def spPen (K : PySem.W.Frag) : Sp := fun vs H Q _ => ∃ (a : Addr) (ns : List Int), vs = [.ref a] ∧ SqL K H a (ns.map V.int) ∧ ns.length ≤ 63 ∧ ∀ (p l : Addr) (cs : List Int) (H' : Hp), Pen H' p l cs 0 → Same H H' → Q (.ref p) H'
theorem ok_pen {f : Addr} {fd : FuncData} (F : Fun K "_law_pen" "_law_pen" sPen f fd) (mL : mg "list" = none) : FnOk P w K mg base CX0 1 f fd ["_law_script"] (spPen K) := by
  refine F.ok scPen (fun vs H Q E h => ?_) (fun cdv A outer s H vs Q E hr h => ?_)
  · obtain ⟨a, ns, rfl, _⟩ := h
    rfl
  · obtain ⟨a, ns, rfl, hS, hz, k⟩ := h
    refine ⟨_, pss_one (ps_ret (pe_lst (pa_cons (pe_callTy call_list_of (by rfl) mL (by decide +kernel) (pa_cons (pe_slice sl_list (pv 0) po_none (po_some pe_int)) pa_nil)) (pa_cons pe_int (pa_cons pe_int pa_nil))))), ?_⟩
    refine ⟨_, rfl, _, rfl, a, _, rfl, hS, fun q hq => ?_⟩
    refine ⟨q, _, rfl, .inl (SqL.of upd_same), fun l hl => ⟨(by show 3 ≤ sizeLine; decide), fun p hp => ?_⟩⟩
    have nql : q ≠ l := ne_of_none upd_same hl
    have nlp : l ≠ p := ne_of_none upd_same hp
    have hHl : H l = none := by rw [upd_ne nql.symm] at hl; exact hl
    have hHp : H p = none := by
      have h1 : p ≠ l := nlp.symm
      rw [upd_ne h1] at hp
      have h2 : p ≠ q := fun e => by rw [e, upd_same] at hp; cases hp
      rw [upd_ne h2] at hp
      exact hp
    refine k p l _ _ ⟨0, 0, upd_same, Eq.trans (upd_ne nlp) (Eq.trans upd_same (congrArg (fun z => some (HO.lst z)) (cut_ints ns none (some 63)).choose_spec.1)), Nat.le_trans (cut_ints ns none (some 63)).choose_spec.2 hz, Int.le_refl _, Int.le_refl _⟩ fun b o e => ?_
    rw [upd_ne (ne_of_none e hHp), upd_ne (ne_of_none e hHl), upd_ne (ne_of_none e hq)]
    exact e
end
end Sj
namespace Sj
open PySem L2 Sup
open NdefX (NF NScope ncx envF startF nscope_by)
abbrev sInv : Stmt := inClass (top 3) 0
abbrev sIsName : Stmt := top 14
abbrev sLegI : Stmt := inClass (top 16) 1
abbrev sDrvI : Stmt := inClass (top 17) 1
abbrev sLisI : Stmt := inClass (top 18) 1
theorem strLen (a b : Str) : (a ++ b).length = a.length + b.length := by
  exact strLen_append a b
section
variable {P : Program} {w : World} {K : PySem.W.Frag} {mg : Str → Option Value} {base : Heap}
theorem scInv : NScope ["self", "reason", "__class__"] ["self", "reason"] ["__class__"] (defScope sInv) := nscope_by (by decide +kernel)
/-- InvalidFrame(reason), reason a text -/
def spInv (K : PySem.W.Frag) (C : Addr) : Sp := fun vs H Q _ => ∃ (a : Addr) (z : Str), vs = [.ref a, .str z] ∧ (reprText z).length ≤ 1000 ∧ H a = some (exo a C none) ∧
  ∀ (dx : Addr), H dx = none → dx ≠ a → Q .non (upd (upd H dx (exd dx [("reason", .str z)])) a (exo a C (some dx)))
structure ExT (P : Program) (K : PySem.W.Frag) (mg : Str → Option Value) (C : Addr) (fld : Str) : Prop where
  sup : SupT P K mg C
  oex : OexC K C
  hm : PySem.W.ks_superIn K C C "__init__" = some (some (.builtin "ValueError.__init__"))
  hB : PySem.W.subIn K (.ref C) (.type "ValueError") = some true
  hs : PySem.W.mroIn K C (.ref C) = some true
  no : PySem.W.findIn K (.ref C) fld = some none
theorem ok_inv {f c cc C : Addr} {fd : FuncData} (F : FunS P K "__init__" "InvalidFrame.__init__" sInv f fd c cc C) (T : ExT P K mg C "reason") : FnOk P w K mg base CX0 1 f fd ["self", "reason"] (spInv K C) := by
  refine fn_super F scInv (fun vs H Q E h => ?_) (fun A outer s H vs Q E hr h s1 I => ?_)
  · obtain ⟨a, z, rfl, _⟩ := h
    rfl
  · obtain ⟨a, z, rfl, hz, ha, k⟩ := h
    refine super_exc (me := "self") (x := a) (C := C) (atS_of F rfl rfl rfl rfl ⟨_, rfl, rfl⟩) T.sup T.oex rfl T.hm T.hB T.hs
      (pa_cons (pe_joined (.cons pe_str (.cons (pe_fmtR (pv 1)) .nil))) pa_nil) (pss_one (ps_ost (pv 0) (pv 1))) I rfl ha ?_ rfl rfl rfl rfl rfl
    refine ⟨_, rfl, by decide +kernel, _, rfl, .inl ⟨z, rfl, Nat.le_trans hz (by decide), _, rfl, ?_, by show 1 ≤ 1000; decide, ha, ?_⟩⟩
    · have e1 : ((Str.empty ++ ("invalid frame: " : Str)) ++ reprText z).length ≤ 15 + (reprText z).length := by
        rw [strLen]
        exact Nat.add_le_add_right (by decide +kernel) _
      exact Nat.le_trans e1 (Nat.le_trans (Nat.add_le_add_left hz 15) (by decide))
    · exact ⟨_, rfl, _, rfl, a, C, rfl, T.oex, T.no, .inl ⟨ha, fun dx hd hne => k dx hd hne⟩⟩
end
end Sj
namespace Sj
open PySem L2 Sup
open NdefX (NF NScope ncx envF startF nscope_by)
open C8 (pss_cut tCut)
def lettersS : Str := "abcdefghijklmnopqrstuvwxyz"
def reservedV : List V := [.str "ground", .str "power", .str "nothing"]
/-- whether a text is a name -/
def isName (z : Str) : Bool := decide ((1 : Int) ≤ z.length) && decide ((z.length : Int) ≤ 8) && !inV (.str z) reservedV && z.cps.toList.all fun c => decide (c ∈ lettersS.cps.toList)
structure NmT (K : PySem.W.Frag) (mg : Str → Option Value) : Prop where
  isi : mg "isinstance" = none
  str : mg "str" = none
  len : mg "len" = none
  all : mg "all" = none
  letters : ∃ t, mg "LETTERS" = some (.str lettersS t)
  longest : ∃ t, mg "LONGEST" = some (.int 8 t)
  reserved : ∃ a, mg "RESERVED" = some (.ref a) ∧ ∀ H, SqT K H a reservedV
def spIsName (K : PySem.W.Frag) : Sp := fun vs H Q _ => ∃ x : V, vs = [x] ∧
  ((∃ z : Str, x = .str z ∧ z.length ≤ 1000 ∧ ∀ H', Same H H' → Q (.bl (isName z)) H') ∨
   ∃ t : String, TyX K H x (.type t) ∧ kitB t "str" = some false ∧ Q (.bl false) H)
section
variable {P : Program} {w : World} {K : PySem.W.Frag} {mg : Str → Option Value} {base : Heap}
theorem scIsName : FnScope ["value", "sign"] ["value"] (defScope sIsName) := ⟨rfl, rfl, rfl, by decide +kernel, rfl, by decide +kernel, by decide +kernel⟩
theorem ok_isname {f : Addr} {fd : FuncData} (F : Fun K "is_name" "is_name" sIsName f fd) (T : NmT K mg) : FnOk P w K mg base CX0 1 f fd ["value"] (spIsName K) := by
  obtain ⟨tL, gL⟩ := T.letters
  obtain ⟨tN, gN⟩ := T.longest
  obtain ⟨aR, gR, hR⟩ := T.reserved
  refine F.ok scIsName (fun vs H Q E h => ?_) (fun cdv A outer s H vs Q E hr h => ?_)
  · obtain ⟨x, rfl, _⟩ := h
    rfl
  · obtain ⟨x, rfl, h⟩ := h
    refine ⟨_, pss_cons
      (ps_if (PW.pt (pw_or (pt_not (pt_val (pe_callB call_isi (by rfl) T.isi (by decide +kernel) (pa_cons (pv 0) (pa_cons (pe_bltn (by rfl) T.str (by decide +kernel) (v := .ty "str") rfl) pa_nil)))))
          (pw_or1 (pt_not (pt_chain op_le op_le pe_int (pe_callB call_len_str (by rfl) T.len PySem.boot_len (pa_cons (pv 0) pa_nil)) (pe_glob rfl gN (v := .int 8) ⟨_, rfl⟩))))))
        (pss_one (ps_ret pe_bl)) pss_nil)
      (pss_one (ps_ret (pe_and (pe_cmpR op_notIn_seq (pv 0) (pe_glob rfl gR (v := .ref aR) rfl) (by rfl))
        (pe_one (pe_callB (cr_all rfl) (by rfl) T.all (by decide +kernel) (pa_cons
          (pe_lc (own := [("sign", 1)]) (g := gName 1) (tt := tYes) rfl scIsName.nd (pi_str (pv 0)) (blkOk_by (N := ["value", "sign"]) (sc := defScope sIsName) (by decide +kernel))
            (fun _ _ _ _ _ => pg_name (i := 1) scIsName.nd rfl (Or.inl rfl)) (fun _ _ _ _ _ => pts_nil) (fun _ _ _ _ _ => pe_cmpR op_in_sign (pv 1) (pe_glob rfl gL (v := .str lettersS) ⟨_, rfl⟩) (by rfl))) pa_nil)))))), ?_⟩
    rcases h with ⟨z, rfl, hz, k⟩ | ⟨t, ht, hk, k⟩
    · have hzl : z.length ≤ sizeLine := small1000 hz |> Nat.le_of_lt
      refine ⟨_, rfl, _, _, .type "str", .type "str", true, rfl, .ty _, .base (.str _), kit_ty (by decide +kernel), _, rfl, iteF ?_⟩
      refine ⟨_, rfl, _, rfl, hzl, _, _, rfl, rfl, _, rfl, ?_⟩
      have e0 : isName z = (decide ((1 : Int) ≤ z.length) && decide ((z.length : Int) ≤ 8) && !inV (.str z) reservedV && z.cps.toList.all fun c => decide (c ∈ lettersS.cps.toList)) := rfl
      by_cases h1 : (1 : Int) ≤ z.length
      · rw [decide_eq_true h1]
        refine iteT ⟨_, _, rfl, rfl, _, rfl, ?_⟩
        by_cases h2 : (z.length : Int) ≤ 8
        · rw [decide_eq_true h2]
          refine iteF ⟨_, rfl, aR, _, rfl, .inr (hR _), rfl, rfl, _, rfl, ?_⟩
          rw [decide_eq_true h1, decide_eq_true h2] at e0
          cases h3 : inV (.str z) reservedV with
          | true =>
            rw [h3] at e0
            refine iteF ?_
            rw [show isName z = false from e0] at k
            exact k _ (Same.refl _)
          | false =>
            rw [h3] at e0
            refine iteT ?_
            refine ⟨_, rfl, z, rfl, fun D hD => lc_it walk_str (fun i H' => Same H H' ∧ H' D = some (.lst (((z.cps.toList.take i).map fun c => decide (c ∈ lettersS.cps.toList)).map V.bl))) ⟨?_, ?_⟩ (fun _ _ _ _ => True.intro) ?_ ?_⟩
            · exact fun b o e => by rw [upd_ne (ne_of_none e hD)]; exact e
            · rw [upd_same]; rfl
            · rintro i x H1 H2 hi ⟨s1, d1⟩ ⟨rfl, c, hc, rfl⟩
              refine ⟨rfl, ?_⟩
              unfold tYes
              dsimp only
              rw [if_pos rfl]
              refine ⟨_, rfl, c, lettersS, rfl, rfl, _, d1, ?_, ?_, ?_⟩
              · rw [List.length_map, List.length_map, List.length_take]
                exact Nat.lt_of_le_of_lt (Nat.min_le_right _ _) (Nat.lt_of_le_of_lt (show z.cps.toList.length ≤ 1000 from hz) (by decide))
              · exact fun b o e => by rw [upd_ne (ne_of_none e hD)]; exact s1 _ _ e
              · rw [upd_same]
                have hc' : z.cps.toList[i]? = some c := by rw [Array.getElem?_toList]; exact hc
                rw [List.take_add_one, hc', List.map_append, List.map_append]
                rfl
            · rintro H1 ⟨s1, d1⟩
              refine ⟨D, (z.cps.toList.take z.cps.size).map (fun c => decide (c ∈ lettersS.cps.toList)), rfl, SqL.of d1, ?_⟩
              have e2 : (z.cps.toList.take z.cps.size) = z.cps.toList := List.take_of_length_le (by rw [Array.length_toList]; exact Nat.le_refl _)
              have e1 : List.all ((z.cps.toList.take z.cps.size).map (fun c => decide (c ∈ lettersS.cps.toList))) id = z.cps.toList.all fun c => decide (c ∈ lettersS.cps.toList) := by
                rw [e2, List.all_map]; rfl
              have e3 : isName z = List.all ((z.cps.toList.take z.cps.size).map (fun c => decide (c ∈ lettersS.cps.toList))) id := by
                rw [e0, e1]; simp
              show Q (.bl (List.all _ id)) H1
              rw [← e3]
              exact k _ s1
        · rw [decide_eq_false h2]
          rw [decide_eq_false h2, Bool.and_false] at e0
          rw [show isName z = false from by rw [e0]; rfl] at k
          exact iteT (k _ (Same.refl _))
      · rw [decide_eq_false h1] at e0 ⊢
        rw [show isName z = false from e0] at k
        exact iteF ⟨_, rfl, iteT (k _ (Same.refl _))⟩
    · refine ⟨_, rfl, _, _, .type t, .type "str", false, rfl, .ty _, ht, kit_ty hk, _, rfl, iteT ?_⟩
      exact iteT k
end
end Sj
namespace Sj
open PySem L2 Sup
open NdefX (NF NScope ncx envF startF nscope_by)
open C8 (pss_cut tCut)
/-- a leg's attributes -/
def legF (z : Str) : List (Str × V) := putF "name" (.str z) []
theorem legF_name (z : Str) : (legF z).lookup ("name" : Str) = some (.str z) := by
  unfold legF
  rw [lookup_putF, if_pos rfl]
def errH (H H' : Hp) (d : Addr) (fld : Str) (v : V) : Prop := H d = none ∧ H' d = some (.xd [(fld, v)]) ∧ Same H H'
/-- X.__init__(self, name) of a leg's class: the wish of an error -/
def spLegI (K : PySem.W.Frag) (CI C : Addr) : Sp := fun vs H Q E => ∃ (p dx : Addr) (x : V), vs = [.ref p, x] ∧ H p = some (.ins C dx []) ∧
  ((∃ z : Str, x = .str z ∧ z.length ≤ 1000 ∧ (isName z = true → ∀ H', H' p = some (.ins C dx (legF z)) → But H H' p → Q .non H') ∧
      (isName z = false → ∀ d H', errH H H' d "reason" (.str "name") → E (.ref CI) (some d) H')) ∨
   ∃ t : String, TyX K H x (.type t) ∧ kitB t "str" = some false ∧ ∀ d H', errH H H' d "reason" (.str "name") → E (.ref CI) (some d) H')
structure LgT (P : Program) (K : PySem.W.Frag) (mg : Str → Option Value) (CI fI f n : Addr) : Prop where
  ex : ExT P K mg CI "reason"
  iC : PySem.W.findIn K (.ref CI) "__init__" = some (some (.ref fI))
  tI : PySem.W.typeIn K (.ref fI) = some (.type "function")
  mI : mg "InvalidFrame" = some (.ref CI)
  mN : mg "is_name" = some (.ref n)
structure LegC (K : PySem.W.Frag) (C : Addr) : Prop where
  cl : Cls K C
  nN : NoAttr K C "name"
section
variable {P : Program} {w : World} {K : PySem.W.Frag} {mg : Str → Option Value} {base : Heap}
theorem scLegI : FnScope ["self", "name"] ["self", "name"] (defScope sLegI) := ⟨rfl, rfl, rfl, by decide +kernel, rfl, by decide +kernel, by decide +kernel⟩
theorem ok_legI {f fI fN CI C c cc : Addr} {fd fdI fdN : FuncData} (F : Fun K "__init__" "Leg.__init__" sLegI f fd) (T : LgT P K mg CI fI f fN) (NT : NmT K mg) (LC : LegC K C)
    (FN : Fun K "is_name" "is_name" sIsName fN fdN) (bN : Binds K fdN ["value"] []) (FI : FunS P K "__init__" "InvalidFrame.__init__" sInv fI fdI c cc CI) (bI : Binds K fdI ["self", "reason"] []) :
    FnOk P w K mg base (L2.CX P w) 3 f fd ["self", "name"] (spLegI K CI C) := by
  have GN : FnOk P w K mg base CX0 1 fN fdN ["value"] (spIsName K) := ok_isname FN NT
  have GI : FnOk P w K mg base CX0 1 fI fdI ["self", "reason"] (spInv K CI) := ok_inv FI T.ex
  refine F.okX scLegI (fun vs H Q E h => ?_) (fun cdv A outer s H vs Q E hr h => ?_)
  · obtain ⟨p, dx, x, rfl, _⟩ := h
    rfl
  · obtain ⟨p, dx, x, rfl, hp, h⟩ := h
    have hr1 : Room 1 _ := hr.mono (by decide)
    refine ⟨_, pss_cons (ps_if (pt_not (pt_val (pe_call GN hr1 rfl T.mN FN.kp bN .nil pass0 (pa_cons (pv 1) pa_nil))))
        (pss_one (ps_raise rfl (takes_of rfl rfl rfl rfl) (pmk_oex T.ex.oex T.iC T.tI GI hr bI .nil pass0 rfl T.mI (pa_cons pe_str pa_nil)))) pss_nil)
      (pss_one (ps_fld (pv 0) (pv 1) rfl)), ?_⟩
    have fin : ∀ H1, Same H H1 → (∀ d H', errH H H' d "reason" (.str "name") → E (.ref CI) (some d) H') →
        tMkO CI (spInv K CI) [] (tCons (tC (.str "name")) tNil) (start ["self", "name"] [.ref p, x]) H1 fun cls d H' => E cls d H' := fun H1 s1 k => by
      refine ⟨by show 1 ≤ 1000; decide, fun a ha => ⟨a, "name", rfl, by decide +kernel, upd_same, fun d hd hda => ⟨rfl, d, [("reason", .str "name")], upd_same, ?_, ?_, ?_⟩⟩⟩
      · rw [upd_ne hda, upd_same]
      · rw [upd_ne hda] at hd
        exact hd
      · refine k d _ ⟨?_, upd_same, fun b o e => ?_⟩
        · rw [upd_ne hda] at hd
          exact s1.free hd
        · rw [upd_ne hda] at hd
          have e1 := s1 _ _ e
          have nbd : b ≠ d := ne_of_none e1 hd
          have nba : b ≠ a := ne_of_none e1 ha
          rw [upd_ne nbd, del_ne nba, upd_ne nba, upd_ne nbd, upd_ne nba]
          exact e1
    rcases h with ⟨z, rfl, hz, k1, k2⟩ | ⟨t, ht, hk, k2⟩
    · refine ⟨_, rfl, _, rfl, .inl ⟨z, rfl, hz, fun H1 s1 => ⟨_, rfl, ?_⟩⟩⟩
      cases hn : isName z with
      | true =>
        refine iteF ⟨_, rfl, _, rfl, p, C, dx, _, rfl, s1 _ _ hp, LC.cl, LC.nN, by show 0 < 1000; decide, ?_⟩
        exact k1 hn _ upd_same fun b o hb e => by rw [upd_ne hb]; exact s1 _ _ e
      | false => exact iteT (fin H1 s1 (k2 hn))
    · refine ⟨_, rfl, _, rfl, .inr ⟨t, ht, hk, ⟨_, rfl, ?_⟩⟩⟩
      exact iteT (fin H (Same.refl _) k2)
end
end Sj
namespace Sj
open PySem L2 Sup
open NdefX (NF NScope ncx envF startF nscope_by)
open C8 (pss_cut tCut)
structure SubT (P : Program) (K : PySem.W.Frag) (mg : Str → Option Value) (C f : Addr) : Prop where
  sup : SupT P K mg C
  hm : PySem.W.ks_superIn K C C "__init__" = some (some (.ref f))
  tf : PySem.W.typeIn K (.ref f) = some (.type "function")
  ff : PySem.W.fnIn K f = true
  hs : PySem.W.mroIn K C (.ref C) = some true
section
variable {P : Program} {w : World} {K : PySem.W.Frag} {mg : Str → Option Value} {base : Heap}
theorem scDrvI : NScope ["self", "name", "__class__"] ["self", "name"] ["__class__"] (defScope sDrvI) := nscope_by (by decide +kernel)
theorem scLisI : NScope ["self", "name", "__class__"] ["self", "name"] ["__class__"] (defScope sLisI) := nscope_by (by decide +kernel)
theorem ok_drvI {fL f CI C c cc : Addr} {fd fdL : FuncData} (F : FunS P K "__init__" "Driver.__init__" sDrvI f fd c cc C) (T : SubT P K mg C fL) (bL : Binds K fdL ["self", "name"] [])
    (GL : FnOk P w K mg base (L2.CX P w) 3 fL fdL ["self", "name"] (spLegI K CI C)) : FnOk P w K mg base (L2.CX P w) 4 f fd ["self", "name"] (spLegI K CI C) := by
  refine fn_super F scDrvI (fun vs H Q E h => ?_) (fun A outer s H vs Q E hr h s1 I => ?_)
  · obtain ⟨p, dx, x, rfl, _⟩ := h
    rfl
  · obtain ⟨p, dx, x, rfl, hp, h⟩ := h
    refine super_own (me := "self") (x := p) (C := C) (E := E) (atS_of F rfl rfl rfl rfl ⟨_, rfl, rfl⟩) T.sup GL hr bL .nil (passes_call (takes_of rfl rfl rfl rfl) fun _ _ _ _ h => h) rfl T.hm T.tf T.ff T.hs (by decide)
      (pa_cons (pv 1) pa_nil) pss_nil I rfl (ins_obj I hp) ?_ rfl rfl rfl rfl rfl
    exact ⟨_, rfl, p, dx, x, rfl, hp, h⟩
theorem ok_lisI {fL f CI C c cc : Addr} {fd fdL : FuncData} (F : FunS P K "__init__" "Listener.__init__" sLisI f fd c cc C) (T : SubT P K mg C fL) (bL : Binds K fdL ["self", "name"] [])
    (GL : FnOk P w K mg base (L2.CX P w) 3 fL fdL ["self", "name"] (spLegI K CI C)) : FnOk P w K mg base (L2.CX P w) 4 f fd ["self", "name"] (spLegI K CI C) := by
  refine fn_super F scLisI (fun vs H Q E h => ?_) (fun A outer s H vs Q E hr h s1 I => ?_)
  · obtain ⟨p, dx, x, rfl, _⟩ := h
    rfl
  · obtain ⟨p, dx, x, rfl, hp, h⟩ := h
    refine super_own (me := "self") (x := p) (C := C) (E := E) (atS_of F rfl rfl rfl rfl ⟨_, rfl, rfl⟩) T.sup GL hr bL .nil (passes_call (takes_of rfl rfl rfl rfl) fun _ _ _ _ h => h) rfl T.hm T.tf T.ff T.hs (by decide)
      (pa_cons (pv 1) pa_nil) pss_nil I rfl (ins_obj I hp) ?_ rfl rfl rfl rfl rfl
    exact ⟨_, rfl, p, dx, x, rfl, hp, h⟩
end
end Sj
namespace Sup
open PySem PySem.Spec PyProof.Rows L2
/-! ### x == y, x != y where x or y is an instance with an __eq__ of its own -/
section
variable {M : Model} {prog : Program} {w : World} {A : Around} {E : Value → Shared → Prop} {s : Shared} {K : PySem.W.Frag} {x C g : Addr} {ox : Obj} {od : Option Obj} {b : Value}
/-- the answer, as it is or turned -/
def ansOf (op : CmpOp) (k : Bool) : Bool := match op with
  | .NotEq => !k
  | _ => k
/-- g gives a truth value that R takes -/
def GivesB (prog : Program) (w : World) (A : Around) (E : Value → Shared → Prop) (g x : Addr) (b : Value) (R : Bool → Shared → Prop) (s : Shared) : Prop :=
  wpAny (model prog w) A (call (.ref g) [.ref x, b]) (fun v s' => ∃ k, v = .bool k ∧ R k s') E s
theorem objNe_own (X : K.In s.heap) (I : PySem.W.InstAt s.heap x ox C od) (hs : PySem.W.findIn K (.ref C) "__eq__" = some (some (.ref g))) (hf : PySem.W.isFn K (.ref g) = true) (hu : A.units < cLine) {Q : Fin → Shared → Prop}
    (h : GivesB prog w A E g x b (fun k s' => Q (.done (.ret (.bool (!k)))) s') s) : wpAny (model prog w) A (Builtin.«object.__ne__» ⟨[.ref x, b], []⟩) Q E s := by
  unfold Builtin.«object.__ne__»
  repeat (first
    | with_reducible refine wpAny_cRoomFor hu ?_
    | (refine wpAny_bind (m := callSpecialIfBound? (.ref x) (Str.ofString "__eq__") [b])
        (PySem.W.ifBound_K X I hs hf (wpAny_mono h (fun r s' hr => by
          obtain ⟨k, rfl, hq⟩ := hr
          repeat (first | exact hq | exact wpAny_pure hq | exact wpAny_truthy_bool hq | (refine wpAny_bind (m := truthy (.bool _)) (wpAny_truthy_bool ?_)) | wp_step)) fun _ _ e => e)))
    | wp_step)
theorem ifBound_objNe {args : List Value} {Q : Option Value → Shared → Prop} (X : K.In s.heap) (I : PySem.W.InstAt s.heap x ox C od) (hs : PySem.W.findIn K (.ref C) "__ne__" = some (some (.builtin "object.__ne__")))
    (h : wpAny M A (call (.builtin "object.__ne__") (.ref x :: args)) (fun v => Q (some v)) E s) : wpAny M A (callSpecialIfBound? (.ref x) "__ne__" args) Q E s := by
  simp only [callSpecialIfBound?, bindSpecialIfBound?]
  refine wpAny_holding (wpAny_bind (wpAny_bind (wpAny_bind (I.type.here ((PySem.W.looks_findIn X hs).here ?_)))))
  refine wpAny_bind (wpAny_askSetting (wpAny_ite ?_))
  have fin : wpAny M A (call (.builtin "object.__ne__") ([.ref x] ++ args) >>= fun v => pure (some v)) Q E s := wpAny_bind (wpAny_mono h (fun v s' h' => wpAny_pure h') fun _ _ h' => h')
  split
  · exact wpAny_bind (wpAny_of_eq (F.cmp_object.ne.bind _) (wpAny_pure (by exact fin)))
  · exact wpAny_tryCatch (wpAny_bind (wpAny_of_eq (F.cmp_object.ne.bind _) (wpAny_pure (by exact fin))))
/-- the instance's own answer -/
theorem try_own {op : CmpOp} (hop : op = .Eq ∨ op = .NotEq) (X : K.In s.heap) (I : PySem.W.InstAt s.heap x ox C od) (hs : PySem.W.findIn K (.ref C) "__eq__" = some (some (.ref g))) (hf : PySem.W.isFn K (.ref g) = true)
    (hn : PySem.W.findIn K (.ref C) "__ne__" = some (some (.builtin "object.__ne__"))) (hm : PySem.W.mroIn K C (.type "object") = some true) (hu : A.in1.units < cLine) {R : Bool → Shared → Prop}
    (h : ∀ A', A' = A ∨ A' = A.in1 → GivesB prog w A' E g x b R s) :
    wpAny (model prog w) A (tryCompare (.ref x) (cmpInfo op).2.1 b) (fun r s' => ∃ k, r = some (.bool (ansOf op k)) ∧ R k s') E s := by
  rcases hop with rfl | rfl
  · unfold tryCompare
    refine wpAny_bind (PySem.W.ifBound_K X I hs hf (wpAny_mono (h A (.inl rfl)) (fun v s' hv => ?_) fun _ _ e => e))
    obtain ⟨k, rfl, hq⟩ := hv
    exact wpAny_pure ⟨k, rfl, hq⟩
  · unfold tryCompare
    refine wpAny_bind (ifBound_objNe X I hn (wpAny_call (codeAny_call_builtin F.cmp_object.ne.plain F.cmpEntry_ne (PySem.W.check_slot F.cmpKind_ne F.cmpSplit_ne (I.type.andThen (PySem.W.looks_mroIn X hm)) (F.cmpArgs_ne _ _)
      (objNe_own X I hs hf hu (wpAny_mono (h A.in1 (.inr rfl)) (fun v s' hv => ?_) fun _ _ e => e))))))
    obtain ⟨k, rfl, hq⟩ := hv
    exact ⟨k, rfl, wpAny_pure ⟨k, rfl, hq⟩⟩
theorem rc_own_left {op : CmpOp} (hop : op = .Eq ∨ op = .NotEq) {tb : Value} {Q : Value → Shared → Prop} (hu : A.units < cLine) (X : K.In s.heap) (I : PySem.W.InstAt s.heap x ox C od) (hb : PySem.W.Looks (model prog w) s.heap (typeOf b) tb) (hn : PySem.W.notFirst K C tb = true)
    {R : Bool → Shared → Prop} (one : wpAny (model prog w) A (tryCompare (.ref x) (cmpInfo op).2.1 b) (fun r s' => ∃ k, r = some (.bool (ansOf op k)) ∧ R k s') E s) (h : ∀ k s', R k s' → Q (.bool (ansOf op k)) s') :
    wpAny (model prog w) A (richCompare op (.ref x) b) Q E s := by
  unfold richCompare
  simp only [oneThing_ref]
  refine wpAny_holding (wpAny_bind (wpAny_cRoomFor hu ?_))
  refine wpAny_bind (I.type.here (wpAny_bind (hb.here ?_)))
  split
  · rename_i q
    have e : PySem.W.subIn K tb (.ref C) = some false := by
      rcases Bool.or_eq_true_iff.mp hn with e | e
      · rw [beq_iff_eq.mp e] at q; simp at q
      · exact beq_iff_eq.mp e
    refine wpAny_bind ((PySem.W.looks_subIn X e).here ?_)
    simp only [Bool.false_eq_true, if_false]
    refine wpAny_bind (wpAny_mono one (fun r s' z => ?_) fun _ _ e => e)
    obtain ⟨k, rfl, hq⟩ := z
    exact wpAny_pure (h _ _ hq)
  · refine wpAny_bind (wpAny_pure ?_)
    simp only [Bool.false_eq_true, if_false]
    refine wpAny_bind (wpAny_mono one (fun r s' z => ?_) fun _ _ e => e)
    obtain ⟨k, rfl, hq⟩ := z
    exact wpAny_pure (h _ _ hq)
/-- the right one's class is below the left one's: it is asked first -/
theorem rc_own_right {op : CmpOp} (hop : op = .Eq ∨ op = .NotEq) {a' D : Addr} {oy : Obj} {od' : Option Obj} {Q : Value → Shared → Prop} (hu : A.units < cLine) (X : K.In s.heap) (I : PySem.W.InstAt s.heap x ox C od) (J : PySem.W.InstAt s.heap a' oy D od')
    (hne : D ≠ C) (hsub : PySem.W.subIn K (.ref D) (.ref C) = some true)
    {R : Bool → Shared → Prop} (one : wpAny (model prog w) A (tryCompare (.ref a') (cmpInfo op).2.1 (.ref x)) (fun r s' => ∃ k, r = some (.bool (ansOf op k)) ∧ R k s') E s) (h : ∀ k s', R k s' → Q (.bool (ansOf op k)) s') :
    wpAny (model prog w) A (richCompare op (.ref x) (.ref a')) Q E s := by
  have hr : (cmpInfo op).2.2 = (cmpInfo op).2.1 := by rcases hop with rfl | rfl <;> rfl
  unfold richCompare
  simp only [oneThing_ref]
  refine wpAny_holding (wpAny_bind (wpAny_cRoomFor hu ?_))
  refine wpAny_bind (I.type.here (wpAny_bind (J.type.here ?_)))
  split
  · refine wpAny_bind ((PySem.W.looks_subIn X hsub).here ?_)
    simp only [if_true]
    rw [hr]
    refine wpAny_bind (wpAny_mono one (fun r s' z => ?_) fun _ _ e => e)
    obtain ⟨k, rfl, hq⟩ := z
    exact wpAny_bind (wpAny_rule (wpAny_pure (h _ _ hq)))
  · rename_i q
    exact absurd (show (Value.ref C != Value.ref D) = true by simp [Ne.symm hne]) q
end
/-- what == asks of the class at C -/
structure EqC (X : Cx) (C : Addr) (sp : Sp) : Prop where
  ex : ∃ (g : Addr) (fd : FuncData) (k : Nat), PySem.W.findIn X.K (.ref C) "__eq__" = some (some (.ref g)) ∧ PySem.W.isFn X.K (.ref g) = true ∧ FnOk X.prog X.w X.K X.mg X.base CX0 k g fd ["self", "other"] sp ∧ Room (k + 1) X.A ∧ Binds X.K fd ["self", "other"] []
  ne : PySem.W.findIn X.K (.ref C) "__ne__" = some (some (.builtin "object.__ne__"))
  ob : PySem.W.mroIn X.K C (.type "object") = some true
def rOwnE (K : PySem.W.Frag) (op : CmpOp) (S : Addr → Prop) (spE : Addr → Sp) : R2 := fun x y H Q => ∃ a C dx fs, x = .ref a ∧ H a = some (.ins C dx fs) ∧ S C ∧
  ((∃ t, TyX K H y t ∧ PySem.W.notFirst K C t = true ∧ spE C [x, y] H (fun z H' => ∃ k, z = .bl k ∧ Q (.bl (ansOf op k)) H') E0) ∨
   ∃ b D dy gs, y = .ref b ∧ H b = some (.ins D dy gs) ∧ S D ∧ D ≠ C ∧ PySem.W.subIn K (.ref D) (.ref C) = some true ∧ spE D [y, x] H (fun z H' => ∃ k, z = .bl k ∧ Q (.bl (ansOf op k)) H') E0)
section
variable {X : Cx} {pins : List (Addr × Obj)} {σ : L2.St} {H : Hp} {s : Shared}
theorem gives_own {A : Around} {g a : Addr} {fd : FuncData} {k : Nat} {sp : Sp} {y : V} {b : Value} {Q' : Bool → Hp → Prop} {E' : Value → Shared → Prop} (F : FnOk X.prog X.w X.K X.mg X.base CX0 k g fd ["self", "other"] sp) (hr : Room k A) (hb : Binds X.K fd ["self", "other"] []) (e0 : Env0 X.prog X.w X.K X.mg X.base A X.stack s H)
    (I : Inv X pins σ H s) (ry : RelV y b) (h : sp [.ref a, y] H (fun z H' => ∃ k, z = .bl k ∧ Q' k H') E0) :
    GivesB X.prog X.w A E' g a b (fun k s' => ∃ H', Inv X pins σ H' s' ∧ Q' k H') s := by
  refine wpAny_call (codeAny_mono (F.run A X.stack s H ⟨[.ref a, b], []⟩ [.ref a, b] [.ref a, y] _ E0 hr e0 (by simpa using hb s [.ref a, b] I.kIn rfl) (.cons rfl (.cons ry .nil)) h) fun r s' hq => ?_)
  cases r with
  | error e => exact False.elim hq
  | ok fl =>
    cases fl with
    | ret u =>
      obtain ⟨v, H', I', rv, k, ev, q⟩ := I.after hq
      subst ev
      exact ⟨k, rv, H', I', q⟩
    | next => exact False.elim hq
    | brk => exact False.elim hq
    | cont => exact False.elim hq
theorem op_ownE {op : CmpOp} (hop : op = .Eq ∨ op = .NotEq) {S : Addr → Prop} {spE : Addr → Sp} (T : ∀ C, S C → EqC X C (spE C)) : OpR X (compareOp op) (rOwnE X.K op S spE) := by
  intro pins s σ H x y v u Q I rx ry h
  obtain ⟨a, C, dx, fs, rfl, ha, hS, h⟩ := h
  obtain rfl : v = Value.ref a := rx
  obtain ⟨mA, O, _⟩ := ins_get I.hok ha
  obtain ⟨od, J, _⟩ := O.look
  have hcmp : compareOp op (.ref a) u = richCompare op (.ref a) u := by rcases hop with rfl | rfl <;> rfl
  rw [hcmp]
  have KX := I.kIn
  rcases h with ⟨t, ht, hn, q⟩ | ⟨b, D, dy, gs, rfl, hb, hSD, hne, hsub, q⟩
  · obtain ⟨⟨g, fd, k, h1, h2, GF, hr, hbd⟩, h3, h4⟩ := T C hS
    obtain ⟨P, KP, hP, _⟩ := kit_of I ry ht
    refine rc_own_left hop hr.units0 KX J (KP.ty _ _ KX hP) hn (R := fun k s' => ∃ H', Inv X pins σ H' s' ∧ Q (.bl (ansOf op k)) H') (try_own hop KX J h1 h2 h3 h4 (Room.in1 hr).units0 fun A' hA => ?_) fun k s' ⟨H', I', qq⟩ => ⟨.bl (ansOf op k), H', I', rfl, qq⟩
    rcases hA with rfl | rfl
    · exact gives_own GF (hr.mono (Nat.le_succ _)) hbd I.env0 I ry q
    · exact gives_own GF (Room.in1 hr) hbd I.env0.in1 I ry q
  · obtain rfl : u = Value.ref b := ry
    obtain ⟨⟨g, fd, k, h1, h2, GF, hr, hbd⟩, h3, h4⟩ := T D hSD
    obtain ⟨mB, O', _⟩ := ins_get I.hok hb
    obtain ⟨od', J', _⟩ := O'.look
    refine rc_own_right hop hr.units0 KX J J' hne hsub (R := fun k s' => ∃ H', Inv X pins σ H' s' ∧ Q (.bl (ansOf op k)) H') (try_own hop KX J' h1 h2 h3 h4 (Room.in1 hr).units0 fun A' hA => ?_) fun k s' ⟨H', I', qq⟩ => ⟨.bl (ansOf op k), H', I', rfl, qq⟩
    rcases hA with rfl | rfl
    · exact gives_own GF (hr.mono (Nat.le_succ _)) hbd I.env0 I (y := .ref a) rfl q
    · exact gives_own GF (Room.in1 hr) hbd I.env0.in1 I (y := .ref a) rfl q
end
end Sup
namespace Sup
open PySem PySem.Spec PyProof.Rows L2
end Sup
namespace Sj
open PySem L2 Sup
open NdefX (NF NScope ncx envF startF nscope_by)
open C8 (pss_cut tCut)
abbrev sLeg (i : Nat) : Stmt := inClass (top 16) i
abbrev sDrv (i : Nat) : Stmt := inClass (top 17) i
abbrev sLis (i : Nat) : Stmt := inClass (top 18) i
/-- a leg of the class at C with the name z stands at a -/
def LegAt (H : Hp) (a C : Addr) (z : Str) : Prop := ∃ dx, H a = some (.ins C dx (legF z))
theorem LegAt.same {H H' : Hp} {a C : Addr} {z : Str} (h : LegAt H a C z) (s : Same H H') : LegAt H' a C z := h.imp fun _ e => s _ _ e
def spDr (C : Addr) (b : Bool) : Sp := fun vs H Q _ => ∃ a z, vs = [.ref a] ∧ LegAt H a C z ∧ Q (.bl b) H
/-- the facts of a class that isinstance asks -/
structure IsiC (K : PySem.W.Frag) (C : Addr) : Prop where
  cl : Cls K C
  ca : PySem.W.findIn K (.ref C) "__class__" = some (some (.builtin "object.__class__"))
  cn : PySem.W.specialIn K (.builtin "object.__class__") "__get__" = some (some (.builtin "getset_descriptor.__get__"))
  ct : PySem.W.takesIn K (.builtin "object.__class__") = some true
  cm : PySem.W.mroIn K C (.type "object") = some true
theorem LegAt.ty {K : PySem.W.Frag} {H : Hp} {a C : Addr} {z : Str} (h : LegAt H a C z) (c : IsiC K C) : TyX K H (.ref a) (.ref C) := by
  obtain ⟨dx, e⟩ := h
  exact .base (.ins e c.cl c.ca c.cn c.ct c.cm)
/-- C's __eq__: a leg of the class at C itself, or a value that is no C -/
def spEq (K : PySem.W.Frag) (C : Addr) : Sp := fun vs H Q _ => ∃ a z y, vs = [.ref a, y] ∧ LegAt H a C z ∧
  ((∃ b z', y = .ref b ∧ LegAt H b C z' ∧ Q (.bl (decide (z = z'))) H) ∨ ∃ t, TyX K H y t ∧ PySem.W.kitOne K t (.ref C) = some false ∧ Q (.bl false) H)
structure EqT (K : PySem.W.Frag) (mg : Str → Option Value) (C : Addr) (nm : Str) : Prop where
  isi : mg "isinstance" = none
  mC : mg nm = some (.ref C)
  ic : IsiC K C
  self : PySem.W.kitOne K (.ref C) (.ref C) = some true
  nN : NoAttr K C "name"
section
variable {P : Program} {w : World} {K : PySem.W.Frag} {mg : Str → Option Value} {base : Heap}
theorem scS1 {st : Stmt} (h : defScope st = defScope (sLeg 2)) : FnScope ["self"] ["self"] (defScope st) := by
  rw [h]
  exact ⟨rfl, rfl, rfl, by decide +kernel, rfl, by decide +kernel, by decide +kernel⟩
theorem ok_drives {f C : Addr} {fd : FuncData} {st : Stmt} {q : Str} {b : Bool} {p1 p2 : Pos} {i1 : Nat} (F : Fun K "drives" q st f fd) (hs : defScope st = defScope (sLeg 2)) (hb : defBody st = [.Return (some (.Constant (.bool b) i1 p1)) p2]) :
    FnOk P w K mg base CX0 1 f fd ["self"] (spDr C b) := by
  refine F.ok (scS1 hs) (fun vs H Q E h => ?_) (fun cdv A outer s H vs Q E hr h => ?_)
  · obtain ⟨a, z, rfl, _⟩ := h
    rfl
  · obtain ⟨a, z, rfl, _, k⟩ := h
    rw [hb]
    exact ⟨_, pss_one (ps_ret pe_bl), k⟩
theorem scEqD : FnScope ["self", "other"] ["self", "other"] (defScope (sDrv 3)) := ⟨rfl, rfl, rfl, by decide +kernel, rfl, by decide +kernel, by decide +kernel⟩
theorem scEqI : FnScope ["self", "other"] ["self", "other"] (defScope (sLis 3)) := ⟨rfl, rfl, rfl, by decide +kernel, rfl, by decide +kernel, by decide +kernel⟩
theorem str_eq (z z' : Str) : decide (V.str z = V.str z') = decide (z = z') := by
  by_cases h : z = z'
  · rw [decide_eq_true h, h]; exact decide_eq_true rfl
  · rw [decide_eq_false h]; exact decide_eq_false fun e => h (V.str.inj e)
theorem ok_eqD {f C : Addr} {fd : FuncData} (F : Fun K "__eq__" "Driver.__eq__" (sDrv 3) f fd) (T : EqT K mg C "Driver") : FnOk P w K mg base CX0 1 f fd ["self", "other"] (spEq K C) := by
  refine F.ok scEqD (fun vs H Q E h => ?_) (fun cdv A outer s H vs Q E hr h => ?_)
  · obtain ⟨a, z, y, rfl, _⟩ := h
    rfl
  · obtain ⟨a, z, y, rfl, ha, h⟩ := h
    refine ⟨_, pss_one (ps_ret (pe_and (pe_callB call_isi (by rfl) T.isi (by decide +kernel) (pa_cons (pv 1) (pa_cons (pe_glob rfl T.mC (v := .ref C) rfl) pa_nil)))
      (pe_one (pe_cmpR op_eq (pe_fld (pv 0) rfl) (pe_fld (pv 1) rfl) (nomark _))))), ?_⟩
    rcases h with ⟨b, z', rfl, hb, k⟩ | ⟨t, ht, hk, k⟩
    · obtain ⟨dx, ea⟩ := id ha
      obtain ⟨dy, eb⟩ := id hb
      refine ⟨_, rfl, _, _, .ref C, .ref C, true, rfl, .own _, hb.ty T.ic, T.self, _, rfl, iteT ?_⟩
      refine ⟨_, rfl, a, C, dx, _, _, rfl, ea, T.ic.cl, T.nN, legF_name _, _, rfl, b, C, dy, _, _, rfl, eb, T.ic.cl, T.nN, legF_name _, rfl, ?_⟩
      show Q (.bl (decide (V.str z = V.str z'))) H
      rw [str_eq]
      exact k
    · exact ⟨_, rfl, _, _, t, .ref C, false, rfl, .own _, ht, hk, _, rfl, iteF k⟩
theorem ok_eqI {f C : Addr} {fd : FuncData} (F : Fun K "__eq__" "Listener.__eq__" (sLis 3) f fd) (T : EqT K mg C "Listener") : FnOk P w K mg base CX0 1 f fd ["self", "other"] (spEq K C) := by
  refine F.ok scEqI (fun vs H Q E h => ?_) (fun cdv A outer s H vs Q E hr h => ?_)
  · obtain ⟨a, z, y, rfl, _⟩ := h
    rfl
  · obtain ⟨a, z, y, rfl, ha, h⟩ := h
    refine ⟨_, pss_one (ps_ret (pe_and (pe_callB call_isi (by rfl) T.isi (by decide +kernel) (pa_cons (pv 1) (pa_cons (pe_glob rfl T.mC (v := .ref C) rfl) pa_nil)))
      (pe_one (pe_cmpR op_eq (pe_fld (pv 0) rfl) (pe_fld (pv 1) rfl) (nomark _))))), ?_⟩
    rcases h with ⟨b, z', rfl, hb, k⟩ | ⟨t, ht, hk, k⟩
    · obtain ⟨dx, ea⟩ := id ha
      obtain ⟨dy, eb⟩ := id hb
      refine ⟨_, rfl, _, _, .ref C, .ref C, true, rfl, .own _, hb.ty T.ic, T.self, _, rfl, iteT ?_⟩
      refine ⟨_, rfl, a, C, dx, _, _, rfl, ea, T.ic.cl, T.nN, legF_name _, _, rfl, b, C, dy, _, _, rfl, eb, T.ic.cl, T.nN, legF_name _, rfl, ?_⟩
      show Q (.bl (decide (V.str z = V.str z'))) H
      rw [str_eq]
      exact k
    · exact ⟨_, rfl, _, _, t, .ref C, false, rfl, .own _, ht, hk, _, rfl, iteF k⟩
end
end Sj
/-! {e for x in xs if ..}, e an int or a text (SetK), and len of such a set -/
namespace SetT
open PySem PySem.Spec PyProof.Rows L2
/-- the empty set at D -/
abbrev zeroK (P : Program) (w : World) (D : Addr) : HO := SetK P w D (fun _ => false) 0
/-- y is added to the set at D, then Nx -/
def rAdd (P : Program) (w : World) (D : Addr) (y : V) (H : Hp) (Nx : Hp → Prop) : Prop := ∃ (c : Key) (S : Key → Bool) (n : Nat), y = kV c ∧ H D = some (SetK P w D S n) ∧ n + 1 < scanBound ∧ Nx (upd H D (SetK P w D (fun j => S j || decide (j = c)) (if S c = true then n else n + 1)))
/-- one turn's reading -/
def turnT (P : Program) (w : World) (D : Addr) (g : TG) (tt : TT) (te : TE) (vs : List Nat) (σ : L2.St) (Nx : Hp → Prop) (x : V) (H : Hp) : Prop :=
  g x (wipe σ vs) H fun σ2 H2 => wipe σ2 vs = wipe σ vs ∧ tt σ2 H2 fun b H3 => if b = true then te σ2 H3 fun y H4 => rAdd P w D y H4 Nx else Nx H3
/-- all turns: W i m: ahead of turn i, m falls -/
def loopT (P : Program) (w : World) (D : Addr) (J : It) (g : TG) (tt : TT) (te : TE) (vs : List Nat) (σ : L2.St) (W : Nat → Nat → Hp → Prop) (Qd : Hp → Prop) : Prop :=
  ∀ i m H, W i m H → (J.stop i H ∧ Qd H) ∨ (J.go i H ∧ ∃ Nx : Hp → Prop, (∀ H', Nx H' → ∃ m', m' < m ∧ W (i + 1) m' H') ∧ ∀ x H', J.yld i H x H' → turnT P w D g tt te vs σ Nx x H')
def tSet (P : Program) (w : World) (wi : TI) (g : TG) (tt : TT) (te : TE) (vs : List Nat) : TE := fun σ H Q => wi σ H fun J H1 => ∀ D, H1 D = none → ∃ W : Nat → Nat → Hp → Prop, (∃ m, W 0 m (upd H1 D (zeroK P w D))) ∧ loopT P w D J g tt te vs σ W (Q (.ref D))
section
variable {X : Cx}
theorem zero_new {P : Program} {w : World} {h : Heap} : (h.push { cls := .type "set", dict := none, data := .set #[] 0 (.fresh 0 0 (!w.params.followText "set-order")) }).SetOf (mixKind P w) h.objs.size (fun _ => false) 0 :=
  ⟨_, #[], 0, _, Heap.get?_push_size _ rfl, ⟨rfl, rfl, rfl⟩, rfl, (fun e he => by simp at he), (fun k => by simp), (by decide), (by rfl), rfl⟩
/-- the loop in the block's context Y -/
theorem loop_run {Y : Cx} {elt tg iter : Expr} {ifs : List Expr} {scope : Scope} {pos : Pos} {it D : Addr} {J : It} {g : TG} {tt : TT} {te : TE} {vs : List Nat} {fp : List Addr} {tn : Nat → Heap → Prop} {σ : L2.St} {W : Nat → Nat → Hp → Prop} {Qd : Hp → Prop} {R : Result → Shared → Prop}
    (hc : Y.calm = true) (T : Turn Y.prog Y.w Y.K tg J fp it tn) (hg : PG Y tg g) (ht : PTs Y ifs tt) (he : PE Y elt te) (hl : loopT Y.prog Y.w D J g tt te vs σ W Qd)
    (xe : ∀ e s', Y.xe e s' → notedBy (model Y.prog Y.w) Y.A Y.env (fun e s' => R (.error e) s') e s')
    (stat : ∀ (σ' : L2.St) (H' : Hp) (s' : Shared), Inv Y [] σ' H' s' → (∀ b ∈ fp, H' b = none) → ∀ b ∈ fp, FpOk Y [] H' b)
    (fin : ∀ i s' H', Inv Y [] (wipe σ vs) H' s' → tn i s'.heap → (∀ b ∈ fp, H' b = none) → J.stop i H' → Qd H' → ∀ s6, Inv Y [] (wipe σ vs) H' s6 → R (.ok .next) s6)
    {i m : Nat} {H : Hp} {s : Shared} (I : Inv Y [] (wipe σ vs) H s) (st : tn i s.heap) (nf : ∀ b ∈ fp, H b = none) (hw : W i m H) :
    codeAny (model Y.prog Y.w) Y.A (.compLoop (.SetComp elt [⟨tg, iter, ifs, 0⟩] scope pos) 0 (.ref it) (.ref D) Y.env) R s := by
  refine PpSet.compLoopS_any (fun n s' => ∃ i H', Inv Y [] (wipe σ vs) H' s' ∧ tn i s'.heap ∧ (∀ b ∈ fp, H' b = none) ∧ W i n H') ?_ m ⟨i, H, I, st, nf, hw⟩
  rintro n s5 ⟨i, H5, I5, st5, n5, w5⟩
  rcases hl i n H5 w5 with ⟨stop, qq⟩ | ⟨go, Nx, hNx, step⟩
  · refine thnF (T.done Y rfl rfl rfl hc i [] s5 _ H5 (fun _ _ => False) I5 (stat _ _ _ I5 n5) st5 stop) fun r s6 ⟨hr, I6⟩ => ?_
    subst hr
    exact fin i s5 H5 I5 st5 n5 stop qq s6 I6
  · refine thnF (T.item Y rfl rfl rfl hc i [] s5 _ H5 (fun _ _ => False) I5 (stat _ _ _ I5 n5) st5 go) fun r s6 ⟨u, hr, h6⟩ => ?_
    subst hr
    refine thnF h6 fun _ s7 ⟨x, H7, I7, r7, y7, st7, n7⟩ => ?_
    have I7' := I7.pinned (stat _ _ _ I7 n7) (T.obj _ _ st7)
    refine wpAny_mono (hg.run _ s7 _ H7 x u _ I7' r7 (step x H7 y7)) (fun _ s8 ⟨σ8, H8, I8, hw8, q8⟩ => ?_) xe
    -- what stands when a turn is through
    have back : ∀ {s' : Shared} {H' : Hp}, Inv Y ([] ++ pinsAt fp s7.heap) σ8 H' s' → Nx H' → ∃ m, m < n ∧ ∃ i H', Inv Y [] (wipe σ vs) H' s' ∧ tn i s'.heap ∧ (∀ b ∈ fp, H' b = none) ∧ W i m H' := fun {s' H'} I' nx => by
      obtain ⟨m', hm, w'⟩ := hNx H' nx
      have held : ∀ b ∈ fp, ∀ o, s7.heap.get? b = some o → s'.heap.get? b = some o ∧ H' b = none := fun b hb o e => by
        have z := I'.pin (b, o) (List.mem_append_right _ (List.mem_append_right _ (mem_pinsAt hb e)))
        exact ⟨z.1, z.2.1⟩
      refine ⟨m', hm, i + 1, H', ?_, T.keep _ _ _ st7 fun b hb o e => (held b hb o e).1, fun b hb => ?_, w'⟩
      · refine (I'.unpinned (pins := [])).weak (by rw [← hw8, wipe_length]) fun j v e => ?_
        rw [← hw8] at e
        exact (wipe_some e).1
      · obtain ⟨o, e, _⟩ := T.obj _ _ st7 b hb
        exact (held b hb o e).2
    refine wpAny_mono (ht.run _ s8 σ8 H8 _ I8 q8) (fun b s9 ⟨H9, I9, q9⟩ => ?_) xe
    cases b with
    | false =>
      simp only [Bool.false_eq_true, if_false] at q9 ⊢
      exact back I9 q9
    | true =>
      simp only [if_true] at q9 ⊢
      refine wpAny_mono (he.run _ s9 σ8 H9 _ I9 q9) (fun z s10 ⟨yv, H10, I10, r10, c, S, n0, ey, hD, hz, nx⟩ => ?_) xe
      refine wpAny_mono (mt_saddK _ s10 σ8 H10 (.ref D) [yv] (.ref D) [z] (fun _ H' => Nx H') I10 rfl (.cons r10 .nil) ⟨D, c, S, n0, rfl, by rw [ey], hD, hz, nx⟩) (fun _ s11 ⟨_, H11, I11, _, q11⟩ => back I11 q11) xe
/-- the block's start, the set at D laid -/
theorem start_run {elt tg iter : Expr} {ifs : List Expr} {scope : Scope} {own : List (PySem.Str × Nat)} {pos : Pos} {J : It} {g : TG} {tt : TT} {te : TE} {pins : List (Addr × Obj)} {σ : L2.St} {s3 : Shared} {H3 : Hp} {it D : Addr} {fp : List Addr} {tn : Nat → Heap → Prop} {W : Nat → Nat → Hp → Prop} {m0 : Nat} {Q : VK}
    (hc : X.calm = true) (hN : X.N.Nodup) (ok : BlkOk X.N X.env.scope scope own) (I3 : Inv X pins σ H3 s3) (f3 : ∀ b ∈ fp, FpOk X pins H3 b ∧ b < s3.heap.objs.size) (T : Turn X.prog X.w X.K tg J fp it tn) (st3 : tn 0 s3.heap)
    (hg : ∀ (s : Shared) (H : Hp) (C : Addr) (cl : List (PySem.Str × Addr)) (fp : List Addr), PG (X.blk s H scope (compEnvC scope cl C X.env) fp) tg g) (ht : ∀ (s : Shared) (H : Hp) (C : Addr) (cl : List (PySem.Str × Addr)) (fp : List Addr), PTs (X.blk s H scope (compEnvC scope cl C X.env) fp) ifs tt)
    (he : ∀ (s : Shared) (H : Hp) (C : Addr) (cl : List (PySem.Str × Addr)) (fp : List Addr), PE (X.blk s H scope (compEnvC scope cl C X.env) fp) elt te) (w0 : W 0 m0 H3) (hl : loopT X.prog X.w D J g tt te (own.map (·.2)) σ W (Q (.ref D))) :
    codeAny (model X.prog X.w) X.A (.compStart (.SetComp elt [⟨tg, iter, ifs, 0⟩] scope pos) 0 (.ref it) (.ref D) (compEnvC scope (cellsFrom (s3.heap.objs.size + 1) scope.names (cloFrom X.env.cells scope.names [])) s3.heap.objs.size X.env))
      (compPost (model X.prog X.w) X.A X.xe none (EP X pins σ Q) (.ref D) s3.heap.objs.size) { s3 with heap := pushCells (s3.heap.push { cls := .type "dict", data := .dict #[] }) scope.names } := by
  have I4 := block_start I3 ok hN f3
  have st4 := T.keep _ _ (pushCells (s3.heap.push { cls := .type "dict", data := .dict #[] }) scope.names) st3 fun b _ o e => pushCells_keeps _ _ _ _ (Heap.get?_push_of_some _ e)
  have loop := loop_run (Y := X.blk s3 H3 scope (compEnvC scope (cellsFrom (s3.heap.objs.size + 1) scope.names (cloFrom X.env.cells scope.names [])) s3.heap.objs.size X.env) fp) (elt := elt) (iter := iter) (scope := scope) (pos := pos)
    (R := compPost (model X.prog X.w) X.A X.xe none (EP X pins σ Q) (.ref D) s3.heap.objs.size) hc T (hg _ _ _ _ _) (ht _ _ _ _ _) (he _ _ _ _ _) hl (fun _ _ z => False.elim z)
    (fun σ' H' s' I' hn b hb => ⟨hn b hb, (I'.ok.exf b hb).1, I'.ok.exfs b hb, .inl hb, fun x c e => (I'.ok.exf b hb).2 x c e, fun p hp => absurd (show p ∈ ([] : List (Addr × Obj)) ++ [] from hp) (by simp)⟩)
    (fun i s' H' I' _ _ _ qd s6 I6 => ?_) I4 st4 (fun b hb => (f3 b hb).1.1) w0
  · exact PpSet.codeAny_compStart_set loop (T.self X.A 0 _ _ _ st4 loop)
  · have I7 : Inv X pins σ H' s6 := I3.call' (ch := fp) I6.os I6.base I6.hok I6.bare fun b hb => ⟨(f3 b hb).1.2.2.2.1, (f3 b hb).1.2.1, (f3 b hb).1.2.2.2.2.1, (f3 b hb).1.2.2.2.2.2⟩
    have nC : H' s3.heap.objs.size = none := I6.free
    obtain ⟨m, hn, _⟩ := I6.loc
    obtain ⟨f0, f1, f2', f4, f5, f6⟩ := I3.fpOk (H' := H') (Nat.le_refl _) nC
    exact ⟨m, hn, fun h'' sb => ⟨.ref D, H', I7.turned (t' := s6.toks) (fun b o hb e => (sb.2 b hb).trans e) f0 f1 f4 f5 f6, rfl, qd⟩⟩
/-- {e for x in xs if ..} -/
theorem pe_set {elt tg iter : Expr} {ifs : List Expr} {scope : Scope} {own : List (PySem.Str × Nat)} {pos : Pos} {wi : TI} {g : TG} {tt : TT} {te : TE} (hc : X.calm = true) (hN : X.N.Nodup) (hi : PI X tg iter wi) (ok : BlkOk X.N X.env.scope scope own)
    (hg : ∀ (s : Shared) (H : Hp) (C : Addr) (cl : List (PySem.Str × Addr)) (fp : List Addr), PG (X.blk s H scope (compEnvC scope cl C X.env) fp) tg g) (ht : ∀ (s : Shared) (H : Hp) (C : Addr) (cl : List (PySem.Str × Addr)) (fp : List Addr), PTs (X.blk s H scope (compEnvC scope cl C X.env) fp) ifs tt)
    (he : ∀ (s : Shared) (H : Hp) (C : Addr) (cl : List (PySem.Str × Addr)) (fp : List Addr), PE (X.blk s H scope (compEnvC scope cl C X.env) fp) elt te) (hs : ∀ x, foldedSetIterable iter X.env x = pure x := by intro _; rfl) :
    PE X (.SetComp elt [⟨tg, iter, ifs, 0⟩] scope pos) (tSet X.prog X.w wi g tt te (own.map (·.2))) := by
  refine ⟨fun pins s σ H Q I h => ?_⟩
  have hfree : ∀ y ∈ scope.names, y.2 = .free → ∃ c, X.env.cells.lookup y.1 = some c := fun y hy e => (ok.free y hy e).elim (fun k => I.ok.has _ (.inl k)) fun k => I.ok.has _ (.inr k)
  rw [PpSet.eval_SetComp]
  refine wpAny_comprehension_free (use := none) rfl hs (closure_ok hfree) ok.kind (fun y hy e => by rw [ok.uniq y hy, e]) (thn (hi.run pins s σ H _ I h) fun xv s1 hx => thn hx fun itv s2 h2 => ?_)
  obtain ⟨it, fp, tn, J, H2, e, I2, T, st2, f2, q⟩ := h2
  subst e
  refine PpSet.newSet_ok (newEnv_comp ?_)
  obtain ⟨W, ⟨m0, w0⟩, hl⟩ := q _ (I2.hok.fresh (Nat.le_refl s2.heap.objs.size))
  have kp : ∀ b o, s2.heap.get? b = some o → (s2.heap.push { cls := .type "set", dict := none, data := .set #[] 0 (.fresh 0 0 (!X.w.params.followText "set-order")) }).get? b = some o := fun b o e => Heap.get?_push_of_some _ e
  refine start_run (s3 := { s2 with heap := s2.heap.push { cls := .type "set", dict := none, data := .set #[] 0 (.fresh 0 0 (!X.w.params.followText "set-order")) } }) hc hN ok
    (I2.laid (t' := s2.toks) kp (Nat.le_refl _) (setK_new (P := X.prog) (w := X.w) (H := upd H2 s2.heap.objs.size (zeroK X.prog X.w s2.heap.objs.size)) zero_new)) (fun b hb => ?_) T (T.keep _ _ _ st2 fun b _ o e => kp b o e) hg ht he w0 hl
  obtain ⟨o, e, _⟩ := T.obj _ _ st2 b hb
  have lt := Heap.lt_size e
  refine ⟨⟨?_, (f2 b hb).2⟩, by rw [Heap.size_push]; exact Nat.lt_succ_of_lt lt⟩
  rw [upd_ne (Nat.ne_of_lt lt)]
  exact (f2 b hb).1
/-- len of such a set -/
theorem call_len_setK : CallR X (.builtin "len") (fun xs H Q => ∃ p S n, xs = [.ref p] ∧ H p = some (SetK X.prog X.w p S n) ∧ Q (.int n) H) := by
  intro pins s σ H xs us Q I r h
  obtain ⟨p, S, n, rfl, hp, q⟩ := h
  obtain ⟨u, rfl, rx⟩ := vals1 r
  cases rx
  obtain ⟨o, es, ep, t, ho, hex, hd, _, _, hb, hf, hn⟩ := setK_get I hp
  exact call_len_set ho hex hd hf (Int.lt_trans (Int.ofNat_lt.mpr hb) (by decide)) ⟨.int n, H, I.tok _, ⟨_, by rw [hn]⟩, q⟩
end
/-- over a walk -/
theorem set_it {J : It} {n : Nat} {G : Hp → Prop} {Y : Nat → Hp → V → Hp → Prop} (wk : Walk J n G Y) {P : Program} {w : World} {g : TG} {tt : TT} {te : TE} {vs : List Nat} {σ : L2.St} {H1 : Hp} {D : Addr} {Qd : Hp → Prop} (Pv : Nat → Hp → Prop) (h0 : Pv 0 (upd H1 D (zeroK P w D))) (hG : ∀ i H, i ≤ n → Pv i H → G H)
    (hs : ∀ i x H H', i < n → Pv i H → Y i H x H' → turnT P w D g tt te vs σ (Pv (i + 1)) x H') (hd : ∀ H, Pv n H → Qd H) :
    ∃ W : Nat → Nat → Hp → Prop, (∃ m, W 0 m (upd H1 D (zeroK P w D))) ∧ loopT P w D J g tt te vs σ W Qd := by
  refine ⟨fun i m H => m + i = n ∧ Pv i H, ⟨n, rfl, h0⟩, fun i m H ⟨e, p⟩ => ?_⟩
  have q := hG i H (by omega) p
  match m, e with
  | 0, e =>
    obtain rfl : i = n := by omega
    exact .inl ⟨wk.stops H q, hd H p⟩
  | m + 1, e => exact .inr ⟨wk.goes i H (by omega) q, Pv (i + 1), fun H' p' => ⟨m, Nat.lt_succ_self m, by omega, p'⟩, fun x H' y => hs i x H H' (by omega) p (wk.yields i H x H' (by omega) q y)⟩
/-- {k: v for ..} over a walk -/
theorem dict_it {J : It} {n : Nat} {G : Hp → Prop} {Y : Nat → Hp → V → Hp → Prop} (wk : Walk J n G Y) {g : TG} {tt : TT} {tk tv : TE} {vs : List Nat} {σ : L2.St} {H1 : Hp} {D : Addr} {Qd : Hp → Prop} (Pv : Nat → Hp → Prop) (h0 : Pv 0 (upd H1 D (.dK []))) (hG : ∀ i H, i ≤ n → Pv i H → G H)
    (hs : ∀ i x H H', i < n → Pv i H → Y i H x H' → g x (wipe σ vs) H' fun σ2 H2 => wipe σ2 vs = wipe σ vs ∧ tt σ2 H2 fun b H3 =>
      if b = true then tk σ2 H3 fun y H4 => tv σ2 H4 fun z H5 => ∃ kvs k, y = kV k ∧ H5 D = some (.dK kvs) ∧ kvs.length < sizeLine ∧ Pv (i + 1) (upd H5 D (.dK (putK kvs k z))) else Pv (i + 1) H3) (hd : ∀ H, Pv n H → Qd H) :
    ∃ W : Nat → Nat → Hp → Prop, (∃ m, W 0 m (upd H1 D (.dK []))) ∧ ∀ i m H, W i m H →
      (J.stop i H ∧ Qd H) ∨ (J.go i H ∧ ∃ Nx : Hp → Prop, (∀ H', Nx H' → ∃ m', m' < m ∧ W (i + 1) m' H') ∧ ∀ x H', J.yld i H x H' → g x (wipe σ vs) H' fun σ2 H2 => wipe σ2 vs = wipe σ vs ∧ tt σ2 H2 fun b H3 =>
        if b = true then tk σ2 H3 fun y H4 => tv σ2 H4 fun z H5 => ∃ kvs k, y = kV k ∧ H5 D = some (.dK kvs) ∧ kvs.length < sizeLine ∧ Nx (upd H5 D (.dK (putK kvs k z))) else Nx H3) := by
  refine ⟨fun i m H => m + i = n ∧ Pv i H, ⟨n, rfl, h0⟩, fun i m H ⟨e, p⟩ => ?_⟩
  have q := hG i H (by omega) p
  match m, e with
  | 0, e =>
    obtain rfl : i = n := by omega
    exact .inl ⟨wk.stops H q, hd H p⟩
  | m + 1, e => exact .inr ⟨wk.goes i H (by omega) q, Pv (i + 1), fun H' p' => ⟨m, Nat.lt_succ_self m, by omega, p'⟩, fun x H' y => hs i x H H' (by omega) p (wk.yields i H x H' (by omega) q y)⟩
/-! ### how many unlike ones -/
def nd : List Str → Nat
  | [] => 0
  | x :: xs => if x ∈ xs then nd xs else nd xs + 1
theorem nd_le : ∀ xs : List Str, nd xs ≤ xs.length
  | [] => Nat.le_refl 0
  | x :: xs => by
    have := nd_le xs
    unfold nd
    rw [List.length_cons]
    split <;> omega
theorem nd_iff : ∀ xs : List Str, nd xs < xs.length ↔ ¬ xs.Nodup
  | [] => by simp [nd]
  | x :: xs => by
    have h1 := nd_le xs
    have h2 := nd_iff xs
    unfold nd
    rw [List.length_cons, List.nodup_cons]
    by_cases hx : x ∈ xs
    · rw [if_pos hx]
      exact ⟨fun _ z => z.1 hx, fun _ => by omega⟩
    · rw [if_neg hx]
      constructor
      · intro h z
        exact h2.mp (by omega) z.2
      · intro h
        have : nd xs < xs.length := h2.mpr fun z => h ⟨hx, z⟩
        omega
end SetT
/-! defs with *args and keyword-only parameters, called with keywords; C(*y, k = v), C.m(e, k = v) -/
namespace StK
open PySem PySem.Spec PyProof.Rows L2
open StX
/-- as KwChain, but r is what is left to be done -/
def KwEnd {α : Type} (D : Addr) : List (Str × Value) → Sem α → Sem α → Prop
  | [], t, r => t = r
  | q :: l, t, r => ∃ (β γ : Type) (k1 : Option Value → Sem β) (k2 : β → Sem γ) (k3 : γ → Sem α) (a : β), t = ((nsGet D q.1 >>= k1) >>= k2) >>= k3 ∧ k1 (some q.2) = pure a ∧ KwEnd D l (k2 a >>= k3) r
theorem KwEnd.run {α : Type} {K : PySem.W.Frag} {M : Model} {A : Around} {Ex : Value → Shared → Prop} {Q : α → Shared → Prop} {s : Shared} {D : Addr} (X : K.In s.heap) : ∀ {l : List (Str × Value)} {t r : Sem α}, (∀ q ∈ l, PySem.W.nsIn K D q.1 = some (some q.2)) → KwEnd D l t r → wpAny M A r Q Ex s → wpAny M A t Q Ex s
  | [], t, r, _, e, h => by
    obtain rfl : t = r := e
    exact h
  | q :: l, t, r, hl, e, h => by
    obtain ⟨β, γ, k1, k2, k3, a, e1, e2, e3⟩ := e
    have l1 : PySem.W.Looks M s.heap (nsGet D q.1 >>= k1) a := (PySem.W.looks_nsIn X (hl q (List.mem_cons_self ..))).andThen (PySem.W.Looks.of_pure e2)
    rw [e1, bind_assoc]
    exact wpAny_bind (l1.here (KwEnd.run X (fun p hp => hl p (List.mem_cons_of_mem _ hp)) e3 h))
/-- a promise by positional values and by the values of the keywords ks -/
def FnK (P : Program) (w : World) (K : PySem.W.Frag) (mg : Str → Option Value) (base : Heap) (CX : CXT) (k : Nat) (f : Addr) (ks : List Str) (sp : List V → List V → Hp → VK → XK → Prop) : Prop :=
  ∀ (A : Around) (outer : List Env) (s : Shared) (H : Hp) (us ws : List Value) (vs zs : List V) (Q : VK) (E : XK), Room k A → Env0 P w K mg base A outer s H → Vals vs us → Vals zs ws → zs.length = ks.length → sp vs zs H Q E →
    codeAny (model P w) A (.call (.ref f) ⟨us, ks.zip ws⟩) (CR CX outer P w H s Q E) s
section
variable {CX : CXT} {P : Program} {w : World} {K : PySem.W.Frag} {mg : Str → Option Value} {base : Heap} {k : Nat} {f : Addr} {x qual : Str} {params : Arguments} {body : List Stmt} {scope : Scope} {kws : List (Str × V)} {fd : FuncData} {N ps : List Str} {sp : Sp}
theorem FnK.mono {j : Nat} {ks : List Str} {sp : List V → List V → Hp → VK → XK → Prop} (F : FnK P w K mg base CX j f ks sp) (h : j ≤ k) : FnK P w K mg base CX k f ks sp := fun A outer s H us ws vs zs Q E hr => F A outer s H us ws vs zs Q E (hr.mono h)
theorem FnK.imp {ks : List Str} {sp sp' : List V → List V → Hp → VK → XK → Prop} (F : FnK P w K mg base CX k f ks sp) (h : ∀ vs zs H Q E, sp' vs zs H Q E → sp vs zs H Q E) : FnK P w K mg base CX k f ks sp' := fun A outer s H us ws vs zs Q E hr e0 r rz hl hs => F A outer s H us ws vs zs Q E hr e0 r rz hl (h _ _ _ _ _ hs)
/-- what a def with *v is promised of: the values ahead, a new tuple of the rest -/
def spStarK (n : Nat) (gV : List V → List V → List V) (sp : Sp) : List V → List V → Hp → VK → XK → Prop := fun vs zs H Q E => ∃ ws rest, vs = ws ++ rest ∧ ws.length = n ∧ rest.length ≤ sizeLine ∧ ∀ p, H p = Option.none → sp (gV ws zs ++ [V.ref p]) (upd H p (.tup rest)) Q E
/-- def f(a, .., *v, k = d, ..): n positional values ahead, keywords ks, ms: the keyword-only parameters that lack -/
theorem fn_starK {pv : Str} (F : FunD K x qual params body scope [] kws f fd) (S : FnScope N (ps ++ [pv]) scope) (hCX : CXUp CX) (n : Nat) (ks : List Str) (ms : List (Str × V)) (g : {α : Type} → List α → List α → List α → List α) (hk : kws ≠ []) (hms : ∀ q ∈ ms, q ∈ kws)
    (hrel : ∀ {vs mz zs : List V} {us mv ws : List Value}, Vals vs us → Vals mz mv → Vals zs ws → Vals (g vs mz zs) (g us mv ws))
    (hgl : ∀ (us mv ws : List Value), us.length = n → mv.length = ms.length → ws.length = ks.length → (g us mv ws).length = ps.length)
    (hb : ∀ (D : Addr) (doc pm : Value) (an : Option Addr) (cdv ct : Value) (us rest mv ws : List Value), us.length = n → mv.length = ms.length → ws.length = ks.length →
      KwEnd D ((ms.map (·.1)).zip mv) (bindArgs (PySem.W.fnOf x qual params body scope .none (.ref D) doc pm an cdv ct) ⟨us ++ rest, ks.zip ws⟩) (newTuple rest >>= fun t => pure (ps.zip (g us mv ws) ++ [(pv, t)])))
    (hbody : ∀ (cdv : Value) (A : Around) (outer : List Env) (s : Shared) (H : Hp) (vs : List V) (Q : VK) (E : XK), Room k (A.deeper (envOfC qual scope s.heap.objs.size f cdv)) → sp vs H Q E →
      ∃ t, PSs (cxOf CX P w K mg base N qual scope f cdv A outer s H E) body t ∧ t { nx := fun _ H' => Q .non H', rt := Q } (start N vs) H) :
    FnK P w K mg base CX (k + 1) f ks (spStarK n (fun vs zs => g vs (ms.map (·.2)) zs) sp) := by
  obtain ⟨oc, od, dV, kV, doc, pm, an, cdv, ct, osl, rfl, lk, hcd, hD, hK⟩ := F.ex
  rcases hD with ⟨_, rfl⟩ | ⟨e, _⟩
  case inr => exact absurd rfl e
  rcases hK with e | ⟨D, rfl, hq⟩
  · exact absurd e hk
  obtain ⟨mv, hl, rk, hks⟩ := kwd_vals (ms := ms) fun q hm => hq q (hms q hm)
  intro A outer s H us ws vs zs Q E hr e0 r rz hzl hsp
  obtain ⟨v1, rest, ev, hl1, hz, hsp⟩ := hsp
  subst ev
  obtain ⟨u1, u2, eu, r1, r2⟩ := vals_split r
  subst eu
  have hn : H s.heap.objs.size = Option.none := e0.hok.fresh (Nat.le_refl _)
  have l1 : u1.length = n := by rw [← r1.length]; exact hl1
  have l2 : u2.length ≤ sizeLine := by rw [← r2.length]; exact hz
  have l3 : ws.length = ks.length := by rw [← rz.length]; exact hzl
  have gl := hgl u1 mv ws l1 hl l3
  have gr := hrel r1 rk rz
  refine run_bnd lk hcd S hr e0 (G := fun xs H2 => ∃ p, H p = Option.none ∧ xs = g v1 (ms.map (·.2)) zs ++ [V.ref p] ∧ H2 = upd H p (.tup rest)) (fun A' Ex Q' h => ?_) fun s2 H2 xs ⟨p, hp, ex, eH⟩ hr' => ?_
  · refine KwEnd.run (e0.mod.kin.keeps fun b o e => (e0.bs b o e).1) hks (hb D doc pm an cdv ct u1 u2 mv ws l1 hl l3) ?_
    refine wpAny_bind (wpAny_newTuple (wpAny_pure ?_) l2)
    have new : ObjOk P w (upd H s.heap.objs.size (.tup rest)) (s.heap.push ({ cls := .type "tuple", data := .seq u2.toArray } : Obj)) s.heap.objs.size (.tup rest) := ⟨hz, u2, r2, ⟨_, Heap.get?_push_size _ rfl, rfl, _, rfl⟩⟩
    have un := un_laid (fs := frs outer) (s := s) (o := ({ cls := .type "tuple", data := .seq u2.toArray } : Obj)) (u := .tup rest) hn
    have z := h _ _ (g v1 (ms.map (·.2)) zs ++ [V.ref s.heap.objs.size]) (g u1 mv ws ++ [Value.ref s.heap.objs.size]) (env0_laid e0 new) un rfl (fun e s' => hCX outer s H _ _ E e s' un (fun b o q => Heap.get?_push_of_some _ q) rfl) (gr.append (.cons rfl .nil))
      (by rw [List.length_append, List.length_append, gr.length, gl] <;> rfl) ⟨_, hn, rfl, rfl⟩
    rw [List.zip_append gl.symm] at z
    exact z
  · subst ex eH
    exact hbody cdv A outer s2 _ _ Q E hr' (hsp p hp)
end
section
variable {CX : CXT} {P : Program} {w : World} {K : PySem.W.Frag} {mg : Str → Option Value} {base : Heap} {k n : Nat} {f : Addr} {fd : FuncData} {ps ks : List Str} {sp : Sp} {g : List Value → List Value → List Value} {gV : List V → List V → List V}
/-- a promise with its binding, as a promise by keywords -/
theorem fnK_of (F : FnOk P w K mg base CX k f fd ps sp) (hb : KBn K fd ps n ks g gV) : FnK P w K mg base CX k f ks (fun vs zs H Q E => vs.length = n ∧ sp (gV vs zs) H Q E) := fun A outer s H us ws vs zs Q E hr e0 r rz hl hs =>
  F.run A outer s H ⟨us, ks.zip ws⟩ (g us ws) (gV vs zs) Q E hr e0 (hb.to s us ws (e0.mod.kin.keeps fun b o e => (e0.bs b o e).1) (r.length.symm.trans hs.1) (rz.length.symm.trans hl)) (hb.rel r rz) hs.2
end
/-! ### the call's node -/
section
variable {M : Model} {A : Around} {E : Value → Shared → Prop} {s : Shared}
theorem sk_lone {f : Value} {x : Sem Value} {pos : Pos} {keywords : List (Option Str × Sem Value)} {Q : Args → Shared → Prop} (hall : keywords.all (·.1.isSome) = true)
    (h : wpAny M A x (fun v s₁ => wpAny M A (evalAll (keywords.map (·.2))) (fun ks s₂ => PySem.W.StarOf M A E v (fun vs s₃ => Q ⟨vs, (keywords.filterMap (·.1)).zip ks⟩ s₃) s₂) E s₁) E s) :
    wpAny M A (evalArgs f true [(true, (do let v ← x; standAt pos; pure v))] keywords) Q E s := by
  unfold evalArgs
  first
    | refine wpAny_bind (wpAny_bind (wpAny_mono h (fun v s₁ h₁ => wpAny_bind (wpAny_standAt (wpAny_pure ?_))) fun _ _ x => x))
    | refine wpAny_bind (wpAny_bind (wpAny_bind (wpAny_mono h (fun v s₁ h₁ => wpAny_bind (wpAny_standAt (wpAny_pure (wpAny_pure ?_)))) fun _ _ x => x)))
  refine wpAny_holding ?_
  simp only [hall, if_true]
  refine wpAny_bind (wpAny_mono h₁ (fun ks s₂ h₂ => ?_) fun _ _ x => x)
  unfold PySem.W.StarOf at h₂
  refine wpAny_bind ?_
  refine wpAny_bind (wpAny_mono h₂ (fun b s₃ h₃ => ?_) fun _ _ x => x)
  obtain ⟨rfl, h₃⟩ := h₃
  have z := wpAny_holding (vs := (((keywords.filterMap (·.1)).zip ks).map (·.2))) (wpAny_mono h₃ (fun vs s₄ h₄ => h₄) fun _ _ x => x)
  try simp only [Bool.false_eq_true, if_false]
  first
    | exact wpAny_mono z (fun vs s₄ h₄ => wpAny_pure h₄) fun _ _ x => x
    | exact wpAny_bind (wpAny_pure (wpAny_mono z (fun vs s₄ h₄ => wpAny_pure h₄) fun _ _ x => x))
theorem sk_call {f : Value} {first : List Value} {pos : Pos} {Q : Value → Shared → Prop} {P : Heap → Prop} {args : List (Bool × Sem Value)} {kws : List (Option Str × Sem Value)} (hst : args.any (·.1) = true)
    (hk : ∀ h, P h → ∃ k, (k = Keeper.frame ∨ k = Keeper.machine ∨ k = Keeper.boundFrame) ∧ PySem.W.Looks M h (keeperOf f) k)
    (h : wpAny M A (evalArgs f true args kws) (fun a s₁ => P s₁.heap ∧ wpAny M A (call f (first ++ a.pos) a.kw) Q E s₁) E s) : wpAny M A (callWith pos f first args kws) Q E s := by
  unfold callWith
  refine wpAny_bind (wpAny_holding (wpAny_mono h (fun a s₁ h₁ => wpAny_bind (wpAny_standAt ?_)) fun _ _ x => x))
  obtain ⟨k, hk', L⟩ := hk _ h₁.1
  simp only [hst, Bool.true_or]
  refine wpAny_bind (L.here ?_)
  have tail : ∀ {t : Sem Value}, wpAny M A t Q E s₁ → wpAny M A (t >>= fun r => holding [r] point >>= fun _ => pure r) Q E s₁ :=
    fun ht => wpAny_bind (wpAny_mono ht (fun r s₂ hr => wpAny_bind (wpAny_holding (wpAny_point (wpAny_pure hr)))) fun _ _ x => x)
  have marked (mk : Value) : wpAny M A (callMarked mk f (first ++ a.pos) a.kw) Q E s₁ := by unfold callMarked; exact Calls.wpAny_keep h₁.2
  rcases hk' with rfl | rfl | rfl <;> dsimp only <;> first | exact tail (marked _) | exact tail (wpAny_operating h₁.2)
end
/-! ### making -/
/-- what the making of a C asks: behind the values t gives and the keywords' values, a new instance and its dict -/
def spMk (C : Addr) (sp : List V → List V → Hp → VK → XK → Prop) (E : XK) (vs zs : List V) (H : Hp) (Q : VK) : Prop := ∀ x dx, H x = Option.none → H dx = Option.none → dx ≠ x →
  sp (V.ref x :: vs) zs (upd (upd H dx (.own x)) x (.ins C dx [])) (fun v H2 => v = .non ∧ Q (.ref x) H2) E
section
variable {X : Cx} {CX : CXT} {k n i : Nat} {f C : Addr} {ks : List Str} {sp : List V → List V → Hp → VK → XK → Prop} {E : XK} {x m : Str} {p pos sp_ apos : Pos} {e o : Expr} {es : List Expr} {kws : List Keyword} {te ta : TE} {t tk : TA} {mc : Value} {q g : Addr}
theorem run_makeK {pins : List (Addr × Obj)} {σ : L2.St} {H : Hp} {s : Shared} {Q : VK} {us ws : List Value} {vs zs : List V} (M : Mk X.K C f) (F : FnK X.prog X.w X.K X.mg X.base CX k f ks sp) (hr : Room (k + 1) X.A) (hx : Passes CX X E) (I : Inv X pins σ H s) (r : Vals vs us) (rz : Vals zs ws) (hl : zs.length = ks.length)
    (h : spMk C sp E vs zs H Q) : wpAny (model X.prog X.w) X.A (call (.ref C) us (ks.zip ws)) (EP X pins σ Q) X.xe s := by
  have hq := h (s.heap.objs.size + 1) s.heap.objs.size (I.hok.fresh (Nat.le_succ _)) (I.hok.fresh (Nat.le_refl _)) (Nat.ne_of_lt (Nat.lt_succ_self _))
  have I2 := Inv.made (C := C) I
  have r2 : Vals (V.ref (s.heap.objs.size + 1) :: vs) (Value.ref (s.heap.objs.size + 1) :: us) := .cons rfl r
  refine wpAny_call (make_map (f := f) I.kIn M.makes M.init (beq_iff_eq.mp M.fn) (codeAny_mono (F _ X.stack _ _ (Value.ref (s.heap.objs.size + 1) :: us) ws _ zs _ E (hr.make C us (ks.zip ws)) (I2.env0.make C us (ks.zip ws)) r2 rz hl hq) fun r s' hq' => ?_))
  cases r with
  | error e => exact hx pins σ _ _ e s' I2 hq'
  | ok fl =>
    cases fl with
    | ret u =>
      obtain ⟨v, H', I3, rv, ev, q3⟩ := I2.after hq'
      subst ev
      exact ⟨rv, ⟨V.ref (s.heap.objs.size + 1), H', I3, rfl, q3⟩⟩
    | next => exact False.elim hq'
    | brk => exact False.elim hq'
    | cont => exact False.elim hq'
/-- C(e, .., k = v, ..), C a name of the module -/
def tMakeS (C : Addr) (m : Nat) (sp : List V → List V → Hp → VK → XK → Prop) (E : XK) (t tk : TA) : TE := fun σ H Q => t σ H fun vs H1 => tk σ H1 fun zs H2 => zs.length = m ∧ spMk C sp E vs zs H2 Q
theorem pe_makeS (M : Mk X.K C f) (F : FnK X.prog X.w X.K X.mg X.base CX k f ks sp) (hr : Room (k + 1) X.A) (hg : Gl X x) (hm : X.mg x = some (.ref C)) (hx : Passes CX X E) (ha : PA X (e :: es) t) (hkw : PK X kws tk)
    (hall : (backToKw pos (keywordEach kws X.env)).all (·.1.isSome) = true := by rfl) (hks : (backToKw pos (keywordEach kws X.env)).filterMap (·.1) = ks := by rfl) (hdb : (x == ("__debug__" : Str)) = false := by decide)
    (he : starEach (e :: es) X.env = (false, eval e X.env) :: starEach es X.env := by rfl) (hpl : ((backTo pos (starEach (e :: es) X.env)).any (·.1) || (backToKw pos (keywordEach kws X.env)).any (·.1.isNone)) = false := by rfl) :
    PE X (.Call (.Name x p) (e :: es) kws pos) (tMakeS C ks.length sp E t tk) := by
  refine ⟨fun pins s σ H Q I h => ?_⟩
  refine wpAny_Call_Name_kw (ld_glob I hg hm ?_ hdb)
  refine PySem.W.callWith_KW (h₀ := X.base) I.ok.mod.kin M.kp hall (thn (ha.run pos pins s σ H _ I h) fun us s1 ⟨vs, H1, I1, r, q⟩ => ?_) hpl he
  refine thn (hkw.run pos pins s1 σ H1 _ I1 q) fun ws s2 ⟨zs, H2, I2, rz, l2, q2⟩ => ⟨I2.kIn, ?_⟩
  rw [hks]
  exact run_makeK M F hr hx I2 r rz l2 q2
/-- c(*e, k = v, ..), c a name whose value is the class at C -/
def tMakeT (K : PySem.W.Frag) (C : Addr) (m : Nat) (sp : List V → List V → Hp → VK → XK → Prop) (E : XK) (tf te : TE) (tk : TA) : TE := fun σ H Q => tf σ H fun c H0 => c = .ref C ∧ te σ H0 fun y H1 => tk σ H1 fun zs H2 => zs.length = m ∧ ∃ a xs, y = V.ref a ∧ (SqT K H2 a xs ∨ SqL K H2 a xs) ∧ spMk C sp E xs zs H2 Q
theorem pe_makeT {tf : TE} (M : Mk X.K C f) (F : FnK X.prog X.w X.K X.mg X.base CX k f ks sp) (hr : Room (k + 1) X.A) (hx : Passes CX X E) (hf : PE X (.Name x p) tf) (he : PE X e te) (hkw : PK X kws tk)
    (hall : (backToKw pos (keywordEach kws X.env)).all (·.1.isSome) = true := by rfl) (hks : (backToKw pos (keywordEach kws X.env)).filterMap (·.1) = ks := by rfl)
    (hst : starEach [.Starred e sp_] X.env = [(true, eval e X.env)] := by rfl) :
    PE X (.Call (.Name x p) [.Starred e sp_] kws pos) (tMakeT X.K C ks.length sp E tf te tk) := by
  refine ⟨fun pins s σ H Q I h => ?_⟩
  refine wpAny_Call_Name_kw (thn (hf.run pins s σ H _ I h) fun u s1 ⟨c, H1, I1, rc, ec, q1⟩ => ?_)
  subst ec
  obtain rfl : u = Value.ref C := rc
  rw [hst]
  refine sk_call (P := X.K.In) rfl (PySem.W.keeps_K M.kp) (sk_lone hall (thn (he.run pins s1 σ H1 _ I1 q1) fun v s2 ⟨y, H2, I2, ry, q2⟩ => ?_))
  refine thn (hkw.run pos pins s2 σ H2 _ I2 q2) fun ws s3 ⟨zs, H3, I3, rz, l2, a, xs, ey, hxs, q3⟩ => ?_
  subst ey
  obtain rfl : v = Value.ref a := ry
  refine star_any I3 hxs fun us s4 I4 rv => ⟨I4.kIn, ?_⟩
  rw [hks]
  exact run_makeK M F hr hx I4 rv rz l2 q3
/-! ### classmethods -/
theorem run_cmK {Q : VK} {pins : List (Addr × Obj)} {σ : L2.St} {H : Hp} {s : Shared} {us ws : List Value} {vs zs : List V} (F : FnK X.prog X.w X.K X.mg X.base CX k g ks sp) (hr : Room k X.A) (hx : Passes CX X E) (I : Inv X ((q, PySem.W.methodObj (.ref g) (.ref C)) :: pins) σ H s)
    (r : Vals vs us) (rz : Vals zs ws) (hl : zs.length = ks.length) (h : sp (.ref C :: vs) zs H Q E) : wpAny (model X.prog X.w) X.A (call (.ref q) us (ks.zip ws)) (EP X pins σ Q) X.xe s := by
  have z : wpAny (model X.prog X.w) X.A (call (.ref q) us (ks.zip ws)) (EP X ((q, PySem.W.methodObj (.ref g) (.ref C)) :: pins) σ Q) X.xe s := by
    refine wpAny_call (PySem.W.method_call (ClX.pin_at I) (codeAny_mono (F X.A X.stack s H (.ref C :: us) ws (.ref C :: vs) zs Q E hr I.env0 (.cons rfl r) rz hl h) fun r s' hq => ?_))
    cases r with
    | error e => exact hx _ σ H s e s' I hq
    | ok fl =>
      cases fl with
      | ret u => exact I.after hq
      | next => exact False.elim hq
      | brk => exact False.elim hq
      | cont => exact False.elim hq
  exact thn z fun _ _ y => ClX.unpinE y
/-- C.m(e, .., k = v, ..), m a classmethod of C -/
def tCMethK (C : Addr) (m : Nat) (sp : List V → List V → Hp → VK → XK → Prop) (E : XK) (ta : TE) (t tk : TA) : TE := fun σ H Q => ta σ H fun x H1 => x = .ref C ∧ t σ H1 fun vs H2 => tk σ H2 fun zs H3 => zs.length = m ∧ sp (.ref C :: vs) zs H3 Q E
theorem pe_cmethK {pl : Sem Bool} (he : PE X o ta) (r : ClX.CRead X.K C mc) (c : ClX.CMet X.K C mc m q g) (F : FnK X.prog X.w X.K X.mg X.base CX k g ks sp) (hr : Room k X.A) (hx : Passes CX X E) (ha : PA X (e :: es) t) (hkw : PK X kws tk)
    (hall : (backToKw pos (keywordEach kws X.env)).all (·.1.isSome) = true := by rfl) (hks : (backToKw pos (keywordEach kws X.env)).filterMap (·.1) = ks := by rfl)
    (hst : starEach (e :: es) X.env = (false, eval e X.env) :: starEach es X.env := by rfl) (hpl : ((backTo pos (starEach (e :: es) X.env)).any (·.1) || (backToKw pos (keywordEach kws X.env)).any (·.1.isNone)) = false := by rfl)
    (ht : eval (.Call (.Attribute o m apos) (e :: es) kws pos) X.env = (do
      let ov ← eval o X.env
      standAt apos.atName
      let (f, first) ← holding [ov] (getMethod ov m pl)
      callWith pos f first (backTo pos (starEach (e :: es) X.env)) (backToKw pos (keywordEach kws X.env))) := by rfl) :
    PE X (.Call (.Attribute o m apos) (e :: es) kws pos) (tCMethK C ks.length sp E ta t tk) := by
  refine ⟨fun pins s σ H Q I h => ?_⟩
  refine PySem.W.methodCall_KW (pl := pl) (thn (he.run pins s σ H _ I h) fun u s1 ⟨x, H1, I1, rx, ex, q1⟩ => ?_) ht
  subst ex
  obtain rfl : u = Value.ref C := rx
  refine ClX.getmethcm_ok I1 r c fun s2 I2 => ?_
  refine PySem.W.callWith_of (P := PySem.W.MethP X.K _ g (.ref C)) hpl (PySem.W.keeps_M c.fi) ?_
  have z := ha.run pos _ s2 σ H1 _ I2 q1
  rw [hst] at z ⊢
  refine evalArgs_kw hall ?_
  refine thn z fun us s3 ⟨vs, H2, I3, rv, q2⟩ => ?_
  refine thn (hkw.run pos _ s3 σ H2 _ I3 q2) fun ws s4 ⟨zs, H3, I4, rz, l2, q3⟩ => ⟨⟨ClX.pin_at I4, I4.kIn⟩, ?_⟩
  rw [hks]
  exact run_cmK F hr hx I4 rv rz l2 q3
end
end StK
namespace Sj
open PySem L2 Sup
open NdefX (NF NScope ncx envF startF nscope_by)
open C8 (pss_cut tCut)
abbrev sIsInt : Stmt := top 12
abbrev sBetw : Stmt := top 13
abbrev sWrong : Stmt := top 21
theorem tyx_same {K : PySem.W.Frag} {H H' : Hp} {x : V} {t : Value} (h : TyX K H x t) (s : Same H H') : TyX K H' x t := by
  cases h with
  | base b =>
    refine .base ?_
    cases b with
    | non => exact .non
    | bl x => exact .bl x
    | int i => exact .int i
    | str x => exact .str x
    | flt x => exact .flt x
    | lst e => exact .lst (s _ _ e)
    | frz e => exact .frz (s _ _ e)
    | tup e => exact .tup (s _ _ e)
    | dK e => exact .dK (s _ _ e)
    | dT e => exact .dT (s _ _ e)
    | ins e c h1 h2 h3 h4 => exact .ins (s _ _ e) c h1 h2 h3 h4
  | byt b => exact .byt b
  | set e => exact .set (s _ _ e)
  | kList e c => exact .kList e c
  | kTuple e c => exact .kTuple e c
  | kDict e c => exact .kDict e c
  | fTuple e => exact .fTuple (s _ _ e)
  | fDict e => exact .fDict (s _ _ e)
/-- the three classes of legs -/
structure Kinds where
  drv : Addr
  lis : Addr
  leg : Addr
/-- isinstance(x, (Driver, Listener)) -/
def IsL (K : PySem.W.Frag) (ks : Kinds) (H : Hp) (x : V) (b : Bool) : Prop := ∃ t, TyX K H x t ∧ PySem.W.kitAny K t [.ref ks.drv, .ref ks.lis] = some b
theorem IsL.same {K : PySem.W.Frag} {ks : Kinds} {H H' : Hp} {x : V} {b : Bool} (h : IsL K ks H x b) (s : Same H H') : IsL K ks H' x b := h.imp fun _ ⟨a, e⟩ => ⟨tyx_same a s, e⟩
/-- a driver or a listener -/
structure LegR where
  a : Addr
  C : Addr
  z : Str
def LegR.ok (ks : Kinds) (H : Hp) (r : LegR) : Prop := (r.C = ks.drv ∨ r.C = ks.lis) ∧ LegAt H r.a r.C r.z
theorem LegR.ok.same {ks : Kinds} {H H' : Hp} {r : LegR} (h : r.ok ks H) (s : Same H H') : r.ok ks H' := ⟨h.1, h.2.same s⟩
def refs (rs : List LegR) : List V := rs.map fun r => .ref r.a
def names (rs : List LegR) : List Str := rs.map (·.z)
/-- an integer from 1 to 3 -/
def TopIs (K : PySem.W.Frag) (H : Hp) (T : V) (b : Bool) : Prop := (∃ i : Int, T = .int i ∧ b = (decide (1 ≤ i) && decide (i ≤ 3))) ∨ ∃ (t : String) (m c : Bool), TyX K H T (.type t) ∧ kitB t "int" = some m ∧ kitB t "bool" = some c ∧ (m && !c) = false ∧ b = false
def RailIs (K : PySem.W.Frag) (H : Hp) (G : V) (b : Bool) : Prop := ∃ t : String, TyX K H G (.type t) ∧ kitB t "bool" = some b
theorem TopIs.same {K : PySem.W.Frag} {H H' : Hp} {T : V} {b : Bool} (h : TopIs K H T b) (s : Same H H') : TopIs K H' T b := h.imp id fun ⟨t, m, c, a, r⟩ => ⟨t, m, c, tyx_same a s, r⟩
theorem RailIs.same {K : PySem.W.Frag} {H H' : Hp} {T : V} {b : Bool} (h : RailIs K H T b) (s : Same H H') : RailIs K H' T b := h.imp fun _ ⟨a, r⟩ => ⟨tyx_same a s, r⟩
def spIsInt (K : PySem.W.Frag) : Sp := fun vs H Q _ => ∃ (x : V) (t : String) (b c : Bool), vs = [x] ∧ TyX K H x (.type t) ∧ kitB t "int" = some b ∧ kitB t "bool" = some c ∧ Q (.bl (b && !c)) H
def spBetw (K : PySem.W.Frag) : Sp := fun vs H Q _ => ∃ (T : V) (b : Bool), vs = [T, .int 1, .int 3] ∧ TopIs K H T b ∧ Q (.bl b) H
section
variable {P : Program} {w : World} {K : PySem.W.Frag} {mg : Str → Option Value} {base : Heap}
theorem scIsInt : FnScope ["value"] ["value"] (defScope sIsInt) := ⟨rfl, rfl, rfl, by decide +kernel, rfl, by decide +kernel, by decide +kernel⟩
theorem scBetw : FnScope ["value", "least", "most"] ["value", "least", "most"] (defScope sBetw) := ⟨rfl, rfl, rfl, by decide +kernel, rfl, by decide +kernel, by decide +kernel⟩
theorem ok_isint {f : Addr} {fd : FuncData} (F : Fun K "is_integer" "is_integer" sIsInt f fd) (mi : mg "isinstance" = none) (mn : mg "int" = none) (mb : mg "bool" = none) : FnOk P w K mg base CX0 1 f fd ["value"] (spIsInt K) := by
  refine F.ok scIsInt (fun vs H Q E h => ?_) (fun cdv A outer s H vs Q E hr h => ?_)
  · obtain ⟨x, t, b, c, rfl, _⟩ := h
    rfl
  · obtain ⟨x, t, b, c, rfl, ht, hb, hc, k⟩ := h
    refine ⟨_, pss_one (ps_ret (pe_and (pe_callB call_isi (by rfl) mi (by decide +kernel) (pa_cons (pv 0) (pa_cons (pe_bltn (by rfl) mn (by decide +kernel) (v := .ty "int") rfl) pa_nil)))
      (pe_one (pe_not (pe_callB call_isi (by rfl) mi (by decide +kernel) (pa_cons (pv 0) (pa_cons (pe_bltn (by rfl) mb (by decide +kernel) (v := .ty "bool") rfl) pa_nil))))))), ?_⟩
    refine ⟨_, rfl, _, _, _, _, b, rfl, .ty _, ht, kit_ty hb, _, rfl, ?_⟩
    cases b with
    | false => exact iteF k
    | true => exact iteT ⟨_, rfl, _, _, _, _, c, rfl, .ty _, ht, kit_ty hc, _, rfl, k⟩
theorem ok_betw {f fI : Addr} {fd fdI : FuncData} (F : Fun K "is_between" "is_between" sBetw f fd) (FI : FnOk P w K mg base CX0 1 fI fdI ["value"] (spIsInt K)) (mI : mg "is_integer" = some (.ref fI)) (kI : PySem.W.keepIn K (.ref fI) = true) (bI : Binds K fdI ["value"] []) :
    FnOk P w K mg base CX0 2 f fd ["value", "least", "most"] (spBetw K) := by
  refine F.ok scBetw (fun vs H Q E h => ?_) (fun cdv A outer s H vs Q E hr h => ?_)
  · obtain ⟨T, b, rfl, _⟩ := h
    rfl
  · obtain ⟨T, b, rfl, ht, k⟩ := h
    refine ⟨_, pss_one (ps_ret (pe_and (pe_call FI hr rfl mI kI bI .nil pass0 (pa_cons (pv 0) pa_nil)) (pe_one (pe_chain op_le op_le (pv 1) (pv 0) (pv 2))))), ?_⟩
    rcases ht with ⟨i, rfl, rfl⟩ | ⟨t, m, c, ht, hm, hc, e, rfl⟩
    · refine ⟨_, rfl, _, _, _, _, rfl, .base (.int i), (by decide +kernel : kitB "int" "int" = some true), (by decide +kernel : kitB "int" "bool" = some false), _, rfl, ?_⟩
      refine iteT ⟨_, rfl, _, rfl, _, _, rfl, rfl, _, rfl, ?_⟩
      by_cases h1 : (1 : Int) ≤ i
      · rw [decide_eq_true h1] at k ⊢
        exact iteT ⟨_, rfl, _, _, rfl, rfl, k⟩
      · rw [decide_eq_false h1] at k ⊢
        exact iteF k
    · refine ⟨_, rfl, _, _, _, _, rfl, ht, hm, hc, _, rfl, ?_⟩
      rw [e]
      exact iteF k
end
end Sj
namespace Sj
open PySem L2 Sup
open NdefX (NF NScope ncx envF startF nscope_by)
open C8 (pss_cut tCut)
/-- the first reason, the legs being right -/
def due (zs : List Str) (tb rb : Bool) : V := if 40 < zs.length then .str "many" else if zs.Nodup then (if tb = false then .str "top" else if rb = false then .str "rails" else .non) else .str "name"
/-- wrong_frame(legs, top, ground, power) -/
def spWrong (K : PySem.W.Frag) (ks : Kinds) : Sp := fun vs H Q _ => ∃ (t : Addr) (xs : List V) (T G R : V) (tb gb pb : Bool), vs = [.ref t, T, G, R] ∧ H t = some (.tup xs) ∧ xs.length ≤ 1000 ∧ TopIs K H T tb ∧ RailIs K H G gb ∧ RailIs K H R pb ∧
  ((∃ bs : List Bool, bs.length = xs.length ∧ bs.all id = false ∧ (∀ (i : Nat) (x : V) (b : Bool), xs[i]? = some x → bs[i]? = some b → IsL K ks H x b) ∧ ∀ H', Same H H' → Q (.str "legs") H') ∨
   ∃ rs : List LegR, xs = refs rs ∧ (∀ r ∈ rs, r.ok ks H) ∧ ∀ H', Same H H' → Q (due (names rs) tb (gb && pb)) H')
/-- what the text gives -/
structure WrT (P : Program) (w : World) (K : PySem.W.Frag) (mg : Str → Option Value) (base : Heap) (ks : Kinds) (CF : Addr) : Prop where
  isi : mg "isinstance" = none
  all : mg "all" = none
  len : mg "len" = none
  bool : mg "bool" = none
  mD : mg "Driver" = some (.ref ks.drv)
  mI : mg "Listener" = some (.ref ks.lis)
  mF : mg "Frame" = some (.ref CF)
  most : ∃ mc u, ClX.CRead K CF mc ∧ ClX.CVal K CF mc "MOST" (.int 40) u
  icD : IsiC K ks.drv
  icI : IsiC K ks.lis
  nD : NoAttr K ks.drv "name"
  nI : NoAttr K ks.lis "name"
  dd : PySem.W.kitAny K (.ref ks.drv) [.ref ks.drv, .ref ks.lis] = some true
  ii : PySem.W.kitAny K (.ref ks.lis) [.ref ks.drv, .ref ks.lis] = some true
  betw : ∃ fB fdB, mg "is_between" = some (.ref fB) ∧ PySem.W.keepIn K (.ref fB) = true ∧ Binds K fdB ["value", "least", "most"] [] ∧ FnOk P w K mg base CX0 2 fB fdB ["value", "least", "most"] (spBetw K)
theorem LegR.ok.isl {P : Program} {w : World} {K : PySem.W.Frag} {mg : Str → Option Value} {base : Heap} {ks : Kinds} {CF : Addr} {H : Hp} {r : LegR} (h : r.ok ks H) (T : WrT P w K mg base ks CF) : IsL K ks H (.ref r.a) true := by
  obtain ⟨hc, hl⟩ := h
  rcases hc with e | e
  · rw [e] at hl
    exact ⟨_, hl.ty T.icD, T.dd⟩
  · rw [e] at hl
    exact ⟨_, hl.ty T.icI, T.ii⟩
/-- the reading of isinstance(leg, (Driver, Listener)) -/
def teIsL (K : PySem.W.Frag) (ks : Kinds) : TE := tCB (rIsiT K) (tCons (tVar 4) (tCons (tTup (tCons (tC (.ref ks.drv)) (tCons (tC (.ref ks.lis)) tNil))) tNil))
def teNm (K : PySem.W.Frag) : TE := tFld K (tVar 4) "name"
theorem isl_rd {K : PySem.W.Frag} {ks : Kinds} {σ : L2.St} {H : Hp} {x : V} {b : Bool} {Q : VK} (hx : σ[4]? = some (some x)) (h : IsL K ks H x b) (k : ∀ H', Same H H' → Q (.bl b) H') : teIsL K ks σ H Q := by
  obtain ⟨t, ty, e⟩ := h
  refine ⟨x, hx, by show 2 ≤ sizeLine; decide, fun p hp => ?_⟩
  have s1 : Same H (upd H p (.tup [.ref ks.drv, .ref ks.lis])) := fun b o e => by rw [upd_ne (ne_of_none e hp)]; exact e
  refine ⟨x, p, [.ref ks.drv, .ref ks.lis], t, [.ref ks.drv, .ref ks.lis], b, rfl, upd_same, .cons (.own _) (.cons (.own _) .nil), tyx_same ty s1, e, k _ s1⟩
abbrev stW (t : Addr) (T G R : V) : L2.St := L2.start ["legs", "top", "ground", "power", "leg"] [.ref t, T, G, R]
theorem isl_walk {K : PySem.W.Frag} {ks : Kinds} {t D : Addr} {T G R : V} {xs : List V} {bs : List Bool} {H : Hp} {Qd : Hp → Prop} (ht : H t = some (.tup xs)) (hD : H D = none) (hl : bs.length = xs.length) (hx : xs.length ≤ 1000)
    (hb : ∀ (i : Nat) (x : V) (b : Bool), xs[i]? = some x → bs[i]? = some b → IsL K ks H x b) (hd : ∀ H', Same H H' → H' D = some (.lst (bs.map V.bl)) → Qd H') :
    ∃ W : Nat → Nat → Hp → Prop, (∃ m, W 0 m (upd H D (.lst []))) ∧ ∀ i m H, W i m H →
      ((Itt K t).stop i H ∧ Qd H) ∨ ((Itt K t).go i H ∧ ∃ Nx : Hp → Prop, (∀ H', Nx H' → ∃ m', m' < m ∧ W (i + 1) m' H') ∧ ∀ x H', (Itt K t).yld i H x H' → gName 4 x (wipe (stW t T G R) [4]) H' fun σ2 H2 => wipe σ2 [4] = wipe (stW t T G R) [4] ∧ tYes σ2 H2 fun b H3 =>
        if b = true then teIsL K ks σ2 H3 fun y H4 => ∃ acc, H4 D = some (.lst acc) ∧ acc.length < sizeLine ∧ Nx (upd H4 D (.lst (acc ++ [y]))) else Nx H3) := by
  have sD : ∀ (o : HO), Same H (upd H D o) := fun o b u e => by rw [upd_ne (ne_of_none e hD)]; exact e
  refine lc_it (walk_tup (K := K) (a := t) (xs := xs)) (fun i H' => Same H H' ∧ H' D = some (.lst ((bs.take i).map V.bl))) ⟨sD _, by rw [upd_same]; rfl⟩ (fun i H' _ p => .inl (.inl (p.1 _ _ ht))) ?_ ?_
  · rintro i x H1 H2 hi ⟨s1, d1⟩ ⟨rfl, hx1⟩
    refine ⟨rfl, ?_⟩
    have hi' : i < bs.length := by omega
    have hb1 : bs[i]? = some bs[i] := List.getElem?_eq_getElem hi'
    unfold tYes
    dsimp only
    rw [if_pos rfl]
    refine isl_rd rfl ((hb i x _ hx1 hb1).same s1) fun H3 s3 => ⟨_, s3 _ _ d1, ?_, ?_, ?_⟩
    · rw [List.length_map, List.length_take]
      exact Nat.lt_of_le_of_lt (Nat.min_le_right _ _) (Nat.lt_of_le_of_lt (show bs.length ≤ 1000 by omega) (by decide))
    · exact fun b o e => by
        rw [upd_ne (ne_of_none e hD)]
        exact s3 _ _ (s1 _ _ e)
    · rw [upd_same, List.take_add_one, hb1, List.map_append]
      rfl
  · rintro H1 ⟨s1, d1⟩
    rw [← hl, List.take_length] at d1
    exact hd H1 s1 d1
/-- the set of the names -/
theorem names_walk {P : Program} {w : World} {K : PySem.W.Frag} {ks : Kinds} {t D : Addr} {T G R : V} {rs : List LegR} {H : Hp} {Qd : Hp → Prop} (ht : H t = some (.tup (refs rs))) (hD : H D = none) (hx : rs.length ≤ 1000) (hr : ∀ r ∈ rs, r.ok ks H)
    (cD : Cls K ks.drv) (cI : Cls K ks.lis) (nD : NoAttr K ks.drv "name") (nI : NoAttr K ks.lis "name") (hd : ∀ H' S, Same H H' → H' D = some (SetK P w D S (SetT.nd (names rs).reverse)) → Qd H') :
    ∃ W : Nat → Nat → Hp → Prop, (∃ m, W 0 m (upd H D (SetT.zeroK P w D))) ∧ SetT.loopT P w D (Itt K t) (gName 4) tYes (teNm K) [4] (stW t T G R) W Qd := by
  have sD : ∀ (o : HO), Same H (upd H D o) := fun o b u e => by rw [upd_ne (ne_of_none e hD)]; exact e
  have hlen : (refs rs).length = rs.length := by unfold refs; rw [List.length_map]
  refine SetT.set_it (walk_tup (K := K) (a := t) (xs := refs rs)) (fun i H' => Same H H' ∧ H' D = some (SetK P w D (fun j : Key => (names (rs.take i)).any fun z => decide (j = Sum.inr z)) (SetT.nd (names (rs.take i)).reverse))) ⟨sD _, ?_⟩ (fun i H' _ p => .inl (.inl (p.1 _ _ ht))) ?_ ?_
  · rw [upd_same]
    rfl
  · rintro i x H1 H2 hi ⟨s1, d1⟩ ⟨rfl, hx1⟩
    rw [hlen] at hi
    have e1 : (refs rs)[i]? = some (.ref rs[i].a) := by unfold refs; rw [List.getElem?_map, List.getElem?_eq_getElem hi]; rfl
    rw [e1] at hx1
    obtain rfl := Option.some.inj hx1
    obtain ⟨hc, dx, ea⟩ := (hr _ (List.getElem_mem hi)).same s1
    have fld : ∃ C, H2 rs[i].a = some (.ins C dx (legF rs[i].z)) ∧ Cls K C ∧ NoAttr K C "name" := by
      refine ⟨_, ea, ?_⟩
      rcases hc with e | e <;> rw [e]
      · exact ⟨cD, nD⟩
      · exact ⟨cI, nI⟩
    obtain ⟨C, ea', cl, nn⟩ := fld
    unfold SetT.turnT tYes
    refine ⟨rfl, ?_⟩
    dsimp only
    rw [if_pos rfl]
    refine ⟨_, rfl, _, C, dx, _, _, rfl, ea', cl, nn, legF_name _, ?_⟩
    have et : names (rs.take (i + 1)) = names (rs.take i) ++ [rs[i].z] := by
      unfold names
      rw [List.take_add_one, List.getElem?_eq_getElem hi, List.map_append]
      rfl
    refine ⟨Sum.inr rs[i].z, _, _, rfl, d1, ?_, ?_, ?_⟩
    · have h1 := SetT.nd_le (names (rs.take i)).reverse
      rw [List.length_reverse] at h1
      have h2 : (names (rs.take i)).length ≤ 1000 := by
        unfold names
        rw [List.length_map, List.length_take]
        omega
      exact Nat.lt_of_le_of_lt (show _ ≤ 1001 by omega) (by decide)
    · exact fun b o e => by
        rw [upd_ne (ne_of_none e hD)]
        exact s1 _ _ e
    · rw [upd_same, et]
      congr 2
      · funext j
        rw [List.any_append]
        simp
      · rw [List.reverse_append]
        show _ = if rs[i].z ∈ (names (rs.take i)).reverse then SetT.nd (names (rs.take i)).reverse else SetT.nd (names (rs.take i)).reverse + 1
        have e9 : ((names (rs.take i)).any fun z => decide ((Sum.inr rs[i].z : Key) = Sum.inr z)) = true ↔ rs[i].z ∈ (names (rs.take i)).reverse := by
          rw [List.any_eq_true, List.mem_reverse]
          constructor
          · rintro ⟨z, hz, e⟩
            have e := of_decide_eq_true e
            injection e with e
            rw [e]
            exact hz
          · exact fun h => ⟨_, h, decide_eq_true rfl⟩
        by_cases h9 : rs[i].z ∈ (names (rs.take i)).reverse
        · rw [if_pos h9, if_pos (e9.mpr h9)]
        · rw [if_neg h9, if_neg fun z => h9 (e9.mp z)]
  · rintro H1 ⟨s1, d1⟩
    rw [hlen, List.take_length] at d1
    exact hd H1 _ s1 d1
section
variable {P : Program} {w : World} {K : PySem.W.Frag} {mg : Str → Option Value} {base : Heap}
theorem scWrong : FnScope ["legs", "top", "ground", "power", "leg"] ["legs", "top", "ground", "power"] (defScope sWrong) := ⟨rfl, rfl, rfl, by decide +kernel, rfl, by decide +kernel, by decide +kernel⟩
theorem ok_wrong {f CF : Addr} {fd : FuncData} {ks : Kinds} (F : Fun K "wrong_frame" "wrong_frame" sWrong f fd) (T : WrT P w K mg base ks CF) : FnOk P w K mg base CX0 3 f fd ["legs", "top", "ground", "power"] (spWrong K ks) := by
  obtain ⟨fB, fdB, mB, kB, bB, GB⟩ := T.betw
  obtain ⟨mc, u, cr, cv⟩ := T.most
  refine F.ok scWrong (fun vs H Q E h => ?_) (fun cdv A outer s H vs Q E hr h => ?_)
  · obtain ⟨t, xs, T, G, R, tb, gb, pb, rfl, _⟩ := h
    rfl
  · obtain ⟨t, xs, TT, G, R, tb, gb, pb, rfl, ht, hlen, hT, hG, hR, h⟩ := h
    refine ⟨_, pss_cons (ps_if (pt_not (pt_val (pe_callB (cr_all rfl) (by rfl) T.all (by decide +kernel) (pa_cons
          (pe_lc (te := teIsL K ks) (own := [("leg", 4)]) (g := gName 4) (tt := tYes) rfl scWrong.nd (pi_tup (pv 0)) (blkOk_by (N := ["legs", "top", "ground", "power", "leg"]) (sc := defScope sWrong) (by decide +kernel))
            (fun _ _ _ _ _ => pg_name (i := 4) scWrong.nd rfl (Or.inl rfl)) (fun _ _ _ _ _ => pts_nil) (fun _ _ _ _ _ => pe_callB call_isiT (by rfl) T.isi (by decide +kernel) (pa_cons (pv 4) (pa_cons (pe_tup (pa_cons (pe_glob rfl T.mD (v := .ref ks.drv) rfl) (pa_cons (pe_glob rfl T.mI (v := .ref ks.lis) rfl) pa_nil))) pa_nil)))) pa_nil))))
        (pss_one (ps_ret pe_str)) pss_nil)
      (pss_cons (ps_if (pt_cmpR op_gt (pe_callB call_len_seq (by rfl) T.len PySem.boot_len (pa_cons (pv 0) pa_nil)) (ClX.pe_cval (pe_glob rfl T.mF (v := .ref CF) rfl)) (nomark _)) (pss_one (ps_ret pe_str)) pss_nil)
      (pss_cons (ps_if (pt_cmpR op_lt (pe_callB SetT.call_len_setK (by rfl) T.len PySem.boot_len (pa_cons
          (SetT.pe_set (te := teNm K) (own := [("leg", 4)]) (g := gName 4) (tt := tYes) rfl scWrong.nd (pi_tup (pv 0)) (blkOk_by (N := ["legs", "top", "ground", "power", "leg"]) (sc := defScope sWrong) (by decide +kernel))
            (fun _ _ _ _ _ => pg_name (i := 4) scWrong.nd rfl (Or.inl rfl)) (fun _ _ _ _ _ => pts_nil) (fun _ _ _ _ _ => pe_fld (pv 4) rfl)) pa_nil)) (pe_callB call_len_seq (by rfl) T.len PySem.boot_len (pa_cons (pv 0) pa_nil)) (nomark _)) (pss_one (ps_ret pe_str)) pss_nil)
      (pss_cons (ps_if (pt_not (pt_val (pe_call GB (hr.mono (by decide)) rfl mB kB bB .nil pass0 (pa_cons (pv 1) (pa_cons pe_int (pa_cons pe_int pa_nil)))))) (pss_one (ps_ret pe_str)) pss_nil)
      (pss_cons (ps_if (PW.pt (pw_or (pt_not (pt_val (pe_callB call_isi (by rfl) T.isi (by decide +kernel) (pa_cons (pv 2) (pa_cons (pe_bltn (by rfl) T.bool (by decide +kernel) (v := .ty "bool") rfl) pa_nil)))))
          (pw_or1 (pt_not (pt_val (pe_callB call_isi (by rfl) T.isi (by decide +kernel) (pa_cons (pv 3) (pa_cons (pe_bltn (by rfl) T.bool (by decide +kernel) (v := .ty "bool") rfl) pa_nil)))))))) (pss_one (ps_ret pe_str)) pss_nil)
      (pss_one (ps_ret pe_non)))))), ?_⟩
    have sz : ∀ H' : Hp, Same H H' → ((SqL K H' t xs ∨ SqT K H' t xs)) := fun H' s1 => .inr (SqT.of (s1 _ _ ht))
    refine ⟨_, rfl, t, rfl, ⟨xs, SqT.of ht⟩, fun D hD => ?_⟩
    rcases h with ⟨bs, hbl, hall, hb, k⟩ | ⟨rs, rfl, hrs, k⟩
    · refine isl_walk ht hD hbl hlen hb fun H1 s1 d1 => ⟨D, bs, rfl, SqL.of d1, _, rfl, ?_⟩
      rw [hall]
      exact iteT (k H1 s1)
    · have hlr : (refs rs).length = rs.length := by unfold refs; rw [List.length_map]
      have hnl : (names rs).length = rs.length := by unfold names; rw [List.length_map]
      refine isl_walk (bs := List.replicate rs.length true) ht hD (by rw [List.length_replicate, hlr]) hlen (fun i x b hx hb => ?_) fun H1 s1 d1 => ⟨D, _, rfl, SqL.of d1, _, rfl, ?_⟩
      · have hi : i < rs.length := by
          have := (List.getElem?_eq_some_iff.mp hx).1
          rw [hlr] at this
          exact this
        have e1 : (refs rs)[i]? = some (.ref rs[i].a) := by unfold refs; rw [List.getElem?_map, List.getElem?_eq_getElem hi]; rfl
        rw [e1] at hx
        obtain rfl := Option.some.inj hx
        have e2 := (List.getElem?_replicate (n := rs.length) (a := true) (i := i)).symm.trans hb
        rw [if_pos hi] at e2
        obtain rfl := Option.some.inj e2
        exact (hrs _ (List.getElem_mem hi)).isl T
      · have ea : (List.replicate rs.length true).all id = true := by
          rw [List.all_eq_true]
          intro b hb
          rw [List.eq_of_mem_replicate hb]
          rfl
        rw [ea]
        refine iteF ⟨_, rfl, t, _, rfl, sz _ s1, CF, mc, _, u, rfl, cr, cv, _, _, rfl, rfl, _, rfl, ?_⟩
        have hdue : ∀ b : V, due (names rs) tb (gb && pb) = b → ∀ H', Same H H' → Q b H' := fun b e H' s => by rw [← e]; exact k H' s
        clear k
        by_cases h40 : 40 < rs.length
        · rw [decide_eq_true (show (40 : Int) < (refs rs).length by rw [hlr]; omega)]
          refine iteT (hdue _ ?_ _ s1)
          unfold due
          rw [hnl, if_pos h40]
        · rw [decide_eq_false (show ¬ (40 : Int) < (refs rs).length by rw [hlr]; omega)]
          refine iteF ⟨_, rfl, t, rfl, ⟨refs rs, SqT.of (s1 _ _ ht)⟩, fun D2 hD2 => ?_⟩
          refine names_walk (s1 _ _ ht) hD2 (by omega) (fun r hr => (hrs r hr).same s1) T.icD.cl T.icI.cl T.nD T.nI fun H2 S s2 d2 => ?_
          have s02 := s1.trans s2
          refine ⟨D2, S, _, rfl, d2, _, rfl, t, _, rfl, sz _ s02, _, _, rfl, rfl, _, rfl, ?_⟩
          have hnd := SetT.nd_iff (names rs).reverse
          rw [List.length_reverse, hnl, (List.reverse_perm (names rs)).nodup_iff] at hnd
          by_cases hno : (names rs).Nodup
          · rw [decide_eq_false (show ¬ ((SetT.nd (names rs).reverse : Int)) < (refs rs).length by rw [hlr]; exact fun z => hnd.mp (by omega) hno)]
            refine iteF ⟨_, rfl, _, _, rfl, hT.same s02, _, rfl, ?_⟩
            have hd2 : due (names rs) tb (gb && pb) = if tb = false then .str "top" else if (gb && pb) = false then .str "rails" else .non := by
              unfold due
              rw [hnl, if_neg h40, if_pos hno]
            rw [hd2] at hdue
            cases tb with
            | false => exact iteT (hdue _ rfl _ s02)
            | true =>
              obtain ⟨tg, tyg, eg⟩ := hG.same s02
              obtain ⟨tp, typ, ep⟩ := hR.same s02
              refine iteF ⟨_, rfl, _, _, _, _, gb, rfl, .ty _, tyg, kit_ty eg, _, rfl, ?_⟩
              cases gb with
              | false => exact iteT (hdue _ rfl _ s02)
              | true =>
                refine iteF ⟨_, rfl, _, _, _, _, pb, rfl, .ty _, typ, kit_ty ep, _, rfl, ?_⟩
                cases pb with
                | false => exact iteT (hdue _ rfl _ s02)
                | true => exact iteF (hdue _ rfl _ s02)
          · rw [decide_eq_true (show ((SetT.nd (names rs).reverse : Int)) < (refs rs).length by rw [hlr]; have := hnd.mpr hno; omega)]
            refine iteT (hdue _ ?_ _ s02)
            unfold due
            rw [hnl, if_neg h40, if_neg hno]
end
end Sj
namespace Sj
open PySem L2 Sup
open NdefX (NF NScope ncx envF startF nscope_by)
open C8 (pss_cut tCut)
abbrev sFrI : Stmt := inClass (top 20) 1
/-- raise InvalidFrame(e), e a short text -/
theorem raise_inv {K : PySem.W.Frag} {CI : Addr} {z : Str} {σ : L2.St} {H H1 : Hp} {te : TE} {Q : XK} (hte : ∀ Q' : VK, Q' (.str z) H1 → te σ H1 Q') (hz : (reprText z).length ≤ 1000) (s1 : Same H H1)
    (k : ∀ d H', errH H H' d "reason" (.str z) → Q (.ref CI) (some d) H') : tMkO CI (spInv K CI) [] (tCons te tNil) σ H1 Q := by
  refine hte _ ⟨by show 1 ≤ 1000; decide, fun a ha => ⟨a, z, rfl, hz, upd_same, fun d hd hda => ⟨rfl, d, [("reason", .str z)], upd_same, ?_, ?_, ?_⟩⟩⟩
  · rw [upd_ne hda, upd_same]
  · rw [upd_ne hda] at hd
    exact hd
  · refine k d _ ⟨?_, upd_same, fun b o e => ?_⟩
    · rw [upd_ne hda] at hd
      exact s1.free hd
    · rw [upd_ne hda] at hd
      have e1 := s1 _ _ e
      have nbd : b ≠ d := ne_of_none e1 hd
      have nba : b ≠ a := ne_of_none e1 ha
      rw [upd_ne nbd, del_ne nba, upd_ne nba, upd_ne nbd, upd_ne nba]
      exact e1
/-- a frame's attributes -/
def frF (D : Addr) (T G R : V) : List (Str × V) := putF "power" R (putF "ground" G (putF "top" T (putF "_legs" (.ref D) [])))
def legRow (r : LegR) : Key × V := (Sum.inr r.z, .ref r.a)
/-- a frame stands at a: its legs, sorted by name -/
def FrAt (H : Hp) (a C : Addr) (ys : List LegR) (T G R : V) : Prop := ∃ dx D, H a = some (.ins C dx (frF D T G R)) ∧ H D = some (.dK (ys.map legRow)) ∧ D ≠ a
theorem FrAt.same {H H' : Hp} {a C : Addr} {ys : List LegR} {T G R : V} (h : FrAt H a C ys T G R) (s : Same H H') : FrAt H' a C ys T G R := by
  obtain ⟨dx, D, h1, h2, h3⟩ := h
  exact ⟨dx, D, s _ _ h1, s _ _ h2, h3⟩
/-- rows put in order -/
def Ordd (rs ys : List LegR) : Prop := ys.Perm rs ∧ PyProof.Rows.sortedS (names ys) = true
/-- Frame.__init__ -/
def spFrI (K : PySem.W.Frag) (ks : Kinds) (CI CF : Addr) : Sp := fun vs H Q E => ∃ (a dx t : Addr) (xs : List V) (T G R : V) (tb gb pb : Bool), vs = [.ref a, T, G, R, .ref t] ∧ H a = some (.ins CF dx []) ∧ H t = some (.tup xs) ∧ xs.length ≤ 1000 ∧ TopIs K H T tb ∧ RailIs K H G gb ∧ RailIs K H R pb ∧
  ((∃ bs : List Bool, bs.length = xs.length ∧ bs.all id = false ∧ (∀ (i : Nat) (x : V) (b : Bool), xs[i]? = some x → bs[i]? = some b → IsL K ks H x b) ∧ ∀ d H', errH H H' d "reason" (.str "legs") → E (.ref CI) (some d) H') ∨
   ∃ rs : List LegR, xs = refs rs ∧ (∀ r ∈ rs, r.ok ks H) ∧ (∀ z, due (names rs) tb (gb && pb) = .str z → ∀ d H', errH H H' d "reason" (.str z) → E (.ref CI) (some d) H') ∧
     (due (names rs) tb (gb && pb) = .non → ∀ H' ys, Ordd rs ys → FrAt H' a CF ys T G R → But H H' a → Q .non H'))
structure FrT (P : Program) (w : World) (K : PySem.W.Frag) (mg : Str → Option Value) (base : Heap) (ks : Kinds) (CI fI CF : Addr) : Prop where
  wr : WrT P w K mg base ks CF
  sorted : mg "sorted" = none
  mI : mg "InvalidFrame" = some (.ref CI)
  ex : ExT P K mg CI "reason"
  iC : PySem.W.findIn K (.ref CI) "__init__" = some (some (.ref fI))
  tI : PySem.W.typeIn K (.ref fI) = some (.type "function")
  inv : ∃ fdI, Binds K fdI ["self", "reason"] [] ∧ FnOk P w K mg base CX0 1 fI fdI ["self", "reason"] (spInv K CI)
  wrong : ∃ f fd, mg "wrong_frame" = some (.ref f) ∧ PySem.W.keepIn K (.ref f) = true ∧ Binds K fd ["legs", "top", "ground", "power"] [] ∧ FnOk P w K mg base CX0 3 f fd ["legs", "top", "ground", "power"] (spWrong K ks)
  cl : Cls K CF
  nL : NoAttr K CF "_legs"
  nT : NoAttr K CF "top"
  nG : NoAttr K CF "ground"
  nP : NoAttr K CF "power"
theorem due_str {zs : List Str} {tb rb : Bool} {z : Str} (h : due zs tb rb = .str z) : (reprText z).length ≤ 1000 := by
  unfold due at h
  have hh : z = "many" ∨ z = "top" ∨ z = "rails" ∨ z = "name" := by
    split at h
    · exact .inl (V.str.inj h).symm
    · split at h
      · split at h
        · exact .inr (.inl (V.str.inj h).symm)
        · split at h
          · exact .inr (.inr (.inl (V.str.inj h).symm))
          · cases h
      · exact .inr (.inr (.inr (V.str.inj h).symm))
  rcases hh with rfl | rfl | rfl | rfl <;> decide +kernel
theorem due_cases (zs : List Str) (tb rb : Bool) : due zs tb rb = .non ∨ ∃ z, due zs tb rb = .str z := by
  unfold due
  split
  · exact .inr ⟨_, rfl⟩
  · split
    · split
      · exact .inr ⟨_, rfl⟩
      · split
        · exact .inr ⟨_, rfl⟩
        · exact .inl rfl
    · exact .inr ⟨_, rfl⟩
theorem due_non {zs : List Str} {tb rb : Bool} (h : due zs tb rb = .non) : zs.length ≤ 40 ∧ zs.Nodup := by
  unfold due at h
  split at h
  · cases h
  · split at h
    · rename_i h1 h2
      exact ⟨by omega, h2⟩
    · cases h
theorem perm_rows : ∀ (ys : List Str) (rs : List LegR), ys.Perm (names rs) → ∃ qs : List LegR, qs.Perm rs ∧ names qs = ys
  | [], rs, h => by
    have e := h.length_eq
    unfold names at e
    rw [List.length_map] at e
    obtain rfl : rs = [] := List.length_eq_zero_iff.mp e.symm
    exact ⟨[], .refl _, rfl⟩
  | y :: ys, rs, h => by
    have hy : y ∈ names rs := h.mem_iff.mp List.mem_cons_self
    obtain ⟨r, hr, e⟩ := List.mem_map.mp hy
    obtain ⟨l1, l2, rfl⟩ := List.append_of_mem hr
    have p1 : (l1 ++ r :: l2).Perm (r :: (l1 ++ l2)) := List.perm_middle
    have h2 : (y :: ys).Perm (y :: names (l1 ++ l2)) := by
      have q := h.trans (p1.map fun r : LegR => r.z)
      rw [List.map_cons, e] at q
      exact q
    obtain ⟨qs, hq, en⟩ := perm_rows ys (l1 ++ l2) h2.cons_inv
    refine ⟨r :: qs, (List.Perm.cons r hq).trans p1.symm, ?_⟩
    show r.z :: names qs = _
    rw [en, e]
theorem valV_rows : ∀ (rs : List LegR) (r : LegR), (names rs).Nodup → r ∈ rs → valV (rs.map legRow) (Sum.inr r.z) = some (.ref r.a)
  | q :: rs, r, hn, hr => by
    unfold names at hn
    rw [List.map_cons, List.nodup_cons] at hn
    rcases List.mem_cons.mp hr with rfl | hr
    · exact valV_pos rfl
    · have ne : ¬ (legRow q).1 = Sum.inr r.z := fun z => by
        injection z with z
        exact hn.1 (List.mem_map.mpr ⟨r, hr, z.symm⟩)
      rw [List.map_cons, valV_neg ne]
      exact valV_rows rs r hn.2 hr
theorem valV_out : ∀ (rs : List LegR) (z : Str), z ∉ names rs → valV (rs.map legRow) (Sum.inr z) = none
  | [], _, _ => rfl
  | q :: rs, z, h => by
    have ne : ¬ (legRow q).1 = Sum.inr z := fun e => by
      injection e with e
      exact h (List.mem_map.mpr ⟨q, List.mem_cons_self, e⟩)
    rw [List.map_cons, valV_neg ne]
    exact valV_out rs z fun hz => h (List.mem_cons_of_mem _ hz)
end Sj
namespace Sj
open PySem L2 Sup
open NdefX (NF NScope ncx envF startF nscope_by)
open C8 (pss_cut tCut)
abbrev nFr : List Str := ["self", "top", "ground", "power", "legs", "reason", "by_name", "leg", "name"]
theorem scFrI : FnScope nFr ["self", "top", "ground", "power", "legs"] (defScope sFrI) := ⟨rfl, rfl, rfl, by decide +kernel, rfl, by decide +kernel, by decide +kernel⟩
def teNm7 (K : PySem.W.Frag) : TE := tFld K (tVar 7) "name"
def teGet : TE := tDGet (tVar 6) (tVar 8)
section
variable {P : Program} {w : World} {K : PySem.W.Frag} {mg : Str → Option Value} {base : Heap}
theorem body_frI {CI fI CF f : Addr} {ks : Kinds} (T : FrT P w K mg base ks CI fI CF) (cdv : Value) (A : Around) (outer : List Env) (s : Shared) (H : Hp) (vs : List V) (Q : VK) (E : XK)
    (hr : Room 3 (A.deeper (PyProof.Rows.envOfC "Frame.__init__" (defScope sFrI) s.heap.objs.size f cdv))) (h : spFrI K ks CI CF vs H Q E) :
    ∃ t, PSs (cxOf (L2.CX P w) P w K mg base nFr "Frame.__init__" (defScope sFrI) f cdv A outer s H E) (defBody sFrI) t ∧ t { nx := fun _ H' => Q .non H', rt := Q } (start nFr vs) H := by
  obtain ⟨fdI, bI, GI⟩ := T.inv
  obtain ⟨fW, fdW, mW, kW, bW, GW⟩ := T.wrong
  have hr1 := hr.mono (show 2 ≤ 3 by decide)
  obtain ⟨a, dx, t, xs, TT, G, R, tb, gb, pb, rfl, ha, ht, hlen, hT, hG, hR, h⟩ := h
  refine ⟨_, pss_cons (ps_set (i := 5) scFrI.nd rfl (Or.inl rfl) (pe_call GW hr rfl mW kW bW .nil pass0 (pa_cons (pv 4) (pa_cons (pv 1) (pa_cons (pv 2) (pa_cons (pv 3) pa_nil))))))
      (pss_cons (ps_if (pt_cmpR op_notN (pv 5) pe_non (nomark _)) (pss_one (ps_raise rfl (takes_of rfl rfl rfl rfl) (pmk_oex T.ex.oex T.iC T.tI GI hr1 bI .nil pass0 rfl T.mI (pa_cons (pv 5) pa_nil)))) pss_nil)
      (pss_cons (ps_set (i := 6) scFrI.nd rfl (Or.inr rfl) (pe_dc (tk := teNm7 K) (tv := tVar 7) (own := [("leg", 7)]) (g := gName 7) (tt := tYes) rfl scFrI.nd (pi_tup (pv 4)) (blkOk_by (N := nFr) (sc := defScope sFrI) (by decide +kernel))
          (fun _ _ _ _ _ => pg_name (i := 7) scFrI.nd rfl (Or.inl rfl)) (fun _ _ _ _ _ => pts_nil) (fun _ _ _ _ _ => pe_fld (pv 7) rfl) (fun _ _ _ _ _ => pv 7)))
      (pss_cons (ps_fld (pv 0) (pe_dc (tk := tVar 8) (tv := teGet) (own := [("name", 8)]) (g := gName 8) (tt := tYes) rfl scFrI.nd (pi_list (pe_callB (call_sortedD rfl) (by rfl) T.sorted (by decide +kernel) (pa_cons (pv 6) pa_nil))) (blkOk_by (N := nFr) (sc := defScope sFrI) (by decide +kernel))
          (fun _ _ _ _ _ => pg_name (i := 8) scFrI.nd rfl (Or.inl rfl)) (fun _ _ _ _ _ => pts_nil) (fun _ _ _ _ _ => pv 8) (fun _ _ _ _ _ => pe_dget (hu_of hr) (pv 6) (pv 8) (fun _ _ => rfl))) rfl)
      (pss_cons (ps_fld (pv 0) (pv 1) rfl) (pss_cons (ps_fld (pv 0) (pv 2) rfl) (pss_one (ps_fld (pv 0) (pv 3) rfl))))))), ?_⟩
  rcases h with ⟨bs, hbl, hall, hb, k⟩ | ⟨rs, rfl, hrs, k1, k2⟩
  · refine ⟨_, rfl, _, rfl, _, rfl, _, rfl, t, xs, TT, G, R, tb, gb, pb, rfl, ht, hlen, hT, hG, hR, .inl ⟨bs, hbl, hall, hb, fun H1 s1 => ?_⟩⟩
    refine ⟨_, rfl, rfl, _, rfl, iteT ?_⟩
    exact raise_inv (fun Q' q => ⟨_, rfl, q⟩) (by decide +kernel) s1 k
  · have hlr : (refs rs).length = rs.length := by unfold refs; rw [List.length_map]
    have hnl : (names rs).length = rs.length := by unfold names; rw [List.length_map]
    refine ⟨_, rfl, _, rfl, _, rfl, _, rfl, t, refs rs, TT, G, R, tb, gb, pb, rfl, ht, hlen, hT, hG, hR, .inr ⟨rs, rfl, hrs, fun H1 s1 => ?_⟩⟩
    rcases due_cases (names rs) tb (gb && pb) with e | ⟨z, e⟩
    · rw [e]
      obtain ⟨h40, hno⟩ := due_non e
      rw [hnl] at h40
      refine ⟨_, rfl, rfl, _, rfl, iteF ⟨_, rfl, t, rfl, ⟨refs rs, SqT.of (s1 _ _ ht)⟩, fun D hD => ?_⟩⟩
      have sD : ∀ (o : HO), Same H1 (upd H1 D o) := fun o b u e => by rw [upd_ne (ne_of_none e hD)]; exact e
      refine SetT.dict_it (walk_tup (K := K) (a := t) (xs := refs rs)) (fun i H' => Same H1 H' ∧ H' D = some (.dK ((rs.take i).map legRow))) ⟨sD _, by rw [upd_same]; rfl⟩ (fun i H' _ p => .inl (.inl (p.1 _ _ (s1 _ _ ht)))) ?_ ?_
      · rintro i x H2 H3 hi ⟨s2, d2⟩ ⟨rfl, hx1⟩
        rw [hlr] at hi
        have e1 : (refs rs)[i]? = some (.ref rs[i].a) := by unfold refs; rw [List.getElem?_map, List.getElem?_eq_getElem hi]; rfl
        rw [e1] at hx1
        obtain rfl := Option.some.inj hx1
        obtain ⟨hc, dy, eb⟩ := (hrs _ (List.getElem_mem hi)).same (s1.trans s2)
        have fld : ∃ C, H3 rs[i].a = some (.ins C dy (legF rs[i].z)) ∧ Cls K C ∧ NoAttr K C "name" := by
          refine ⟨_, eb, ?_⟩
          rcases hc with e | e <;> rw [e]
          · exact ⟨T.wr.icD.cl, T.wr.nD⟩
          · exact ⟨T.wr.icI.cl, T.wr.nI⟩
        obtain ⟨C, eb', cl, nn⟩ := fld
        refine ⟨rfl, ?_⟩
        unfold tYes
        dsimp only
        rw [if_pos rfl]
        have hti : (names (rs.take i)) = (names rs).take i := by unfold names; rw [List.map_take]
        have hout : rs[i].z ∉ names (rs.take i) := by
          have hi' : i < (names rs).length := by rw [hnl]; exact hi
          have ez : (names rs)[i] = rs[i].z := List.getElem_map (fun r : LegR => r.z)
          rw [hti, ← ez]
          intro hm
          obtain ⟨j, hj, ej⟩ := List.getElem_of_mem hm
          rw [List.length_take] at hj
          rw [List.getElem_take] at ej
          have := (List.getElem_inj hno).mp ej
          omega
        refine ⟨_, rfl, _, C, dy, _, _, rfl, eb', cl, nn, legF_name _, _, rfl, _, Sum.inr rs[i].z, rfl, d2, ?_, ?_, ?_⟩
        · rw [List.length_map, List.length_take]
          exact Nat.lt_of_le_of_lt (Nat.min_le_right _ _) (Nat.lt_of_le_of_lt (show rs.length ≤ 1000 by omega) (by decide))
        · exact fun b o e => by
            rw [upd_ne (ne_of_none e hD)]
            exact s2 _ _ e
        · rw [upd_same, putK_new _ (valV_out _ _ hout), List.take_add_one, List.getElem?_eq_getElem hi, List.map_append]
          rfl
      · rintro H2 ⟨s2, d2⟩
        rw [hlr, List.take_length] at d2
        have s02 := s1.trans s2
        clear k1
        refine ⟨_, rfl, D, _, names rs, rfl, .inl d2, ?_, by rw [hnl]; omega, fun ys q hp hs hq => ?_⟩
        · unfold names
          rw [List.map_map, List.map_map]
          rfl
        obtain ⟨qs, hqs, rfl⟩ := perm_rows ys rs hp
        obtain ⟨H3, eH3⟩ : ∃ H3, H3 = upd H2 q (.lst ((names qs).map V.str)) := ⟨_, rfl⟩
        have s3 : Same H2 H3 := fun b o e => by rw [eH3, upd_ne (ne_of_none e hq)]; exact e
        have hq3 : H3 q = some (.lst ((names qs).map V.str)) := by rw [eH3, upd_same]
        rw [← eH3]
        have s03 := s02.trans s3
        have hql : ((names qs).map V.str).length = qs.length := by unfold names; rw [List.length_map, List.length_map]
        have hqr : qs.length = rs.length := hqs.length_eq
        have hnq : (names qs).Nodup := (hqs.map fun r : LegR => r.z).nodup_iff.mpr hno
        refine ⟨q, rfl, ⟨_, SqL.of hq3⟩, fun D2 hD2 => ?_⟩
        have sD2 : ∀ (o : HO), Same H3 (upd H3 D2 o) := fun o b u e => by rw [upd_ne (ne_of_none e hD2)]; exact e
        refine SetT.dict_it (walk_list (K := K) (a := q) (xs := (names qs).map V.str)) (fun i H' => Same H3 H' ∧ H' D2 = some (.dK ((qs.take i).map legRow))) ⟨sD2 _, by rw [upd_same]; rfl⟩ (fun i H' _ p => SqL.of (p.1 _ _ hq3)) ?_ ?_
        · rintro i x H4 H5 hi ⟨s4, d4⟩ ⟨rfl, hx1⟩
          rw [hql] at hi
          have e1 : ((names qs).map V.str)[i]? = some (.str qs[i].z) := by unfold names; rw [List.map_map, List.getElem?_map, List.getElem?_eq_getElem hi]; rfl
          rw [e1] at hx1
          obtain rfl := Option.some.inj hx1
          refine ⟨rfl, ?_⟩
          unfold tYes
          dsimp only
          rw [if_pos rfl]
          have hti : (names (qs.take i)) = (names qs).take i := by unfold names; rw [List.map_take]
          have hout : qs[i].z ∉ names (qs.take i) := by
            have hi' : i < (names qs).length := by unfold names; rw [List.length_map]; exact hi
            have ez : (names qs)[i] = qs[i].z := List.getElem_map (fun r : LegR => r.z)
            rw [hti, ← ez]
            intro hm
            obtain ⟨j, hj, ej⟩ := List.getElem_of_mem hm
            rw [List.length_take] at hj
            rw [List.getElem_take] at ej
            have := (List.getElem_inj hnq).mp ej
            omega
          have hg : DGet H5 D (.str qs[i].z) (some (.ref qs[i].a)) := by
            rw [← valV_rows rs qs[i] hno (hqs.mem_iff.mp (List.getElem_mem hi))]
            exact DGet.k (k := Sum.inr qs[i].z) (s4 _ _ (s3 _ _ d2))
          refine ⟨_, rfl, _, rfl, _, rfl, D, _, rfl, hg, _, Sum.inr qs[i].z, rfl, d4, ?_, ?_, ?_⟩
          · rw [List.length_map, List.length_take]
            exact Nat.lt_of_le_of_lt (Nat.min_le_right _ _) (Nat.lt_of_le_of_lt (show qs.length ≤ 1000 by omega) (by decide))
          · exact fun b o e => by
              rw [upd_ne (ne_of_none e hD2)]
              exact s4 _ _ e
          · rw [upd_same, putK_new _ (valV_out _ _ hout), List.take_add_one, List.getElem?_eq_getElem hi, List.map_append]
            rfl
        · rintro H4 ⟨s4, d4⟩
          rw [hql, List.take_length] at d4
          have s04 := s03.trans s4
          have ha4 := s04 _ _ ha
          have nDa : D2 ≠ a := fun z => by rw [z] at hD2; rw [s03 _ _ ha] at hD2; cases hD2
          refine ⟨_, rfl, a, CF, dx, [], rfl, ha4, T.cl, T.nL, by show 0 < 1000; decide, ?_⟩
          refine ⟨_, rfl, _, rfl, a, CF, dx, _, rfl, upd_same, T.cl, T.nT, by show 1 < 1000; decide, ?_⟩
          refine ⟨_, rfl, _, rfl, a, CF, dx, _, rfl, upd_same, T.cl, T.nG, by show 2 < 1000; decide, ?_⟩
          refine ⟨_, rfl, _, rfl, a, CF, dx, _, rfl, upd_same, T.cl, T.nP, by show 3 < 1000; decide, ?_⟩
          refine k2 e _ qs ⟨hqs, hs⟩ ⟨dx, D2, upd_same, ?_, nDa⟩ fun b o hb eb => ?_
          · rw [upd_ne nDa, upd_ne nDa, upd_ne nDa, upd_ne nDa]
            exact d4
          · rw [upd_ne hb, upd_ne hb, upd_ne hb, upd_ne hb]
            exact s04 _ _ eb
    · rw [e]
      refine ⟨_, rfl, rfl, _, rfl, iteT ?_⟩
      exact raise_inv (fun Q' q => ⟨_, rfl, q⟩) (due_str e) s1 (k1 z e)
end
end Sj
namespace Sj
open PySem L2 Sup StK
open NdefX (NF NScope ncx envF startF nscope_by)
open C8 (pss_cut tCut)
abbrev sOf : Stmt := inClass (top 20) 2
def kwsF : List (Str × V) := [("top", .int 1), ("ground", .bl false), ("power", .bl false)]
abbrev ksB : List Str := ["top", "ground", "power"]
theorem errH.of {H H1 H' : Hp} {d : Addr} {fld : Str} {v : V} (h : errH H1 H' d fld v) (s : Same H H1) : errH H H' d fld v := ⟨s.free h.1, h.2.1, s.trans h.2.2⟩
section
variable {P : Program} {w : World} {K : PySem.W.Frag} {mg : Str → Option Value} {base : Heap}
theorem fr_kwB {CI fI CF f : Addr} {fd : FuncData} {ks : Kinds} (F : FunD K "__init__" "Frame.__init__" (defArgs sFrI) (defBody sFrI) (defScope sFrI) [] kwsF f fd) (T : FrT P w K mg base ks CI fI CF) :
    FnK P w K mg base (L2.CX P w) 4 f ksB (spStarK 1 (fun vs zs => vs ++ zs) (spFrI K ks CI CF)) :=
  fn_starK (ps := ["self", "top", "ground", "power"]) (pv := "legs") F scFrI StX.cxUp 1 ksB [] (fun us mv ws => us ++ ws) (by decide) (fun q h => nomatch h) (fun r1 _ r3 => r1.append r3)
    (fun us mv ws h1 _ h3 => by rw [List.length_append, h1, h3] <;> rfl)
    (fun D doc pm an cdv ct us rest mv ws h1 h2 h3 => match us, rest, mv, ws, h1, h2, h3 with
      | [a], [], [], [x, y, z], _, _, _ => rfl
      | [a], r :: rs, [], [x, y, z], _, _, _ => rfl)
    (fun cdv A outer s H vs Q E hr h => body_frI T cdv A outer s H vs Q E hr h)
end
end Sj
namespace Sj
open PySem L2 Sup StK
open NdefX (NF NScope ncx envF startF nscope_by)
open C8 (pss_cut tCut)
/-- what is asked of legs xs, with top, rails: the outcomes of the making of a frame, from H on -/
def Outc (K : PySem.W.Frag) (ks : Kinds) (CI CF : Addr) (xs : List V) (T G R : V) (tb rb : Bool) (H : Hp) (Q : VK) (E : XK) : Prop :=
  (∃ bs : List Bool, bs.length = xs.length ∧ bs.all id = false ∧ (∀ (i : Nat) (x : V) (b : Bool), xs[i]? = some x → bs[i]? = some b → IsL K ks H x b) ∧ ∀ d H', errH H H' d "reason" (.str "legs") → E (.ref CI) (some d) H') ∨
   ∃ rs : List LegR, xs = refs rs ∧ (∀ r ∈ rs, r.ok ks H) ∧ (∀ z, due (names rs) tb rb = .str z → ∀ d H', errH H H' d "reason" (.str z) → E (.ref CI) (some d) H') ∧
     (due (names rs) tb rb = .non → ∀ a H' ys, H a = none → Ordd rs ys → FrAt H' a CF ys T G R → Same H H' → Q (.ref a) H')
/-- the making keeps its promise -/
theorem mk_outc {K : PySem.W.Frag} {ks : Kinds} {CI CF : Addr} {xs : List V} {T G R : V} {tb gb pb : Bool} {H0 H : Hp} {Q : VK} {E : XK} {gV : List V → List V → List V} {zs : List V} (hg : ∀ x : Addr, gV [.ref x] zs = [.ref x, T, G, R]) (s0 : Same H0 H) (hlen : xs.length ≤ 1000)
    (hT : TopIs K H0 T tb) (hG : RailIs K H0 G gb) (hR : RailIs K H0 R pb) (o : Outc K ks CI CF xs T G R tb (gb && pb) H0 Q E) : spMk CF (spStarK 1 gV (spFrI K ks CI CF)) E xs zs H Q := by
  intro x dx hx hdx hne
  have s1 : Same H (upd (upd H dx (.own x)) x (.ins CF dx [])) := fun b o e => by
    rw [upd_ne (ne_of_none e hx), upd_ne (ne_of_none e hdx)]
    exact e
  refine ⟨[.ref x], xs, rfl, rfl, Nat.le_trans hlen (by decide), fun p hp => ?_⟩
  obtain ⟨H2, e2⟩ : ∃ H2, H2 = upd (upd (upd H dx (.own x)) x (.ins CF dx [])) p (.tup xs) := ⟨_, rfl⟩
  have hxp : x ≠ p := ne_of_none upd_same hp
  have hx2 : H2 x = some (.ins CF dx []) := by rw [e2, upd_ne hxp, upd_same]
  have hp2 : H2 p = some (.tup xs) := by rw [e2, upd_same]
  have s2 : Same H H2 := fun b o e => by
    rw [e2, upd_ne (ne_of_none (s1 _ _ e) hp)]
    exact s1 _ _ e
  have s02 := s0.trans s2
  rw [hg, ← e2]
  refine ⟨x, dx, p, xs, T, G, R, tb, gb, pb, rfl, hx2, hp2, hlen, hT.same s02, hG.same s02, hR.same s02, ?_⟩
  rcases o with ⟨bs, h1, h2, h3, k⟩ | ⟨rs, h1, h2, k1, k2⟩
  · exact .inl ⟨bs, h1, h2, fun i x b e1 e2 => (h3 i x b e1 e2).same s02, fun d H' e => k d H' (e.of s02)⟩
  · refine .inr ⟨rs, h1, fun r hr => (h2 r hr).same s02, fun z hz d H' e => k1 z hz d H' (e.of s02), fun hd H' ys ho hf hb => ⟨rfl, k2 hd x H' ys (s0.free hx) ho hf fun b o e => ?_⟩⟩
    exact hb b o (ne_of_none e (s0.free hx)) (s02 _ _ e)
/-- Frame.of -/
def spOf (K : PySem.W.Frag) (ks : Kinds) (CI CF : Addr) : Sp := fun vs H Q E => ∃ (x T G R : V) (tb gb pb : Bool), vs = [.ref CF, x, T, G, R] ∧ TopIs K H T tb ∧ RailIs K H G gb ∧ RailIs K H R pb ∧
  ((∃ t, TyX K H x t ∧ PySem.W.kitAny K t [.type "list", .type "tuple"] = some false ∧ ∀ d H', errH H H' d "reason" (.str "legs") → E (.ref CI) (some d) H') ∨
   ∃ (l : Addr) (xs : List V), x = .ref l ∧ (H l = some (.lst xs) ∨ H l = some (.tup xs)) ∧ xs.length ≤ 1000 ∧ Outc K ks CI CF xs T G R tb (gb && pb) H Q E)
structure OfT (P : Program) (w : World) (K : PySem.W.Frag) (mg : Str → Option Value) (base : Heap) (ks : Kinds) (CI fI CF fF : Addr) : Prop where
  isi : mg "isinstance" = none
  list : mg "list" = none
  tuple : mg "tuple" = none
  mI : mg "InvalidFrame" = some (.ref CI)
  ex : ExT P K mg CI "reason"
  iC : PySem.W.findIn K (.ref CI) "__init__" = some (some (.ref fI))
  tI : PySem.W.typeIn K (.ref fI) = some (.type "function")
  inv : ∃ fdI, Binds K fdI ["self", "reason"] [] ∧ FnOk P w K mg base CX0 1 fI fdI ["self", "reason"] (spInv K CI)
  mkc : Mk K CF fF
  kt : PySem.W.kitAny K (.type "list") [.type "list", .type "tuple"] = some true
  kt2 : PySem.W.kitAny K (.type "tuple") [.type "list", .type "tuple"] = some true
section
variable {P : Program} {w : World} {K : PySem.W.Frag} {mg : Str → Option Value} {base : Heap}
theorem scOf : FnScope ["cls", "legs", "top", "ground", "power"] ["cls", "legs", "top", "ground", "power"] (defScope sOf) := ⟨rfl, rfl, rfl, by decide +kernel, rfl, by decide +kernel, by decide +kernel⟩
theorem ok_of {CI fI CF fF f : Addr} {fd : FuncData} {ks : Kinds} (F : FunD K "of" "Frame.of" (defArgs sOf) (defBody sOf) (defScope sOf) [] kwsF f fd) (T : OfT P w K mg base ks CI fI CF fF)
    (GF : FnK P w K mg base (L2.CX P w) 4 fF ksB (spStarK 1 (fun vs zs => vs ++ zs) (spFrI K ks CI CF))) : FnOk P w K mg base (L2.CX P w) 6 f fd ["cls", "legs", "top", "ground", "power"] (spOf K ks CI CF) := by
  obtain ⟨fdI, bI, GI⟩ := T.inv
  refine F.ok scOf (fun vs H Q E h => ?_) (fun cdv A outer s H vs Q E hr h => ?_)
  · obtain ⟨x, T, G, R, tb, gb, pb, rfl, _⟩ := h
    rfl
  · obtain ⟨x, TT, G, R, tb, gb, pb, rfl, hT, hG, hR, h⟩ := h
    refine ⟨_, pss_cons (ps_if (pt_not (pt_val (pe_callB call_isiT (by rfl) T.isi (by decide +kernel) (pa_cons (pv 1) (pa_cons (pe_tup (pa_cons (pe_bltn (by rfl) T.list (by decide +kernel) (v := .ty "list") rfl) (pa_cons (pe_bltn (by rfl) T.tuple (by decide +kernel) (v := .ty "tuple") rfl) pa_nil))) pa_nil)))))
        (pss_one (ps_raise rfl (takes_of rfl rfl rfl rfl) (pmk_oex T.ex.oex T.iC T.tI GI (hr.mono (by decide)) bI .nil pass0 rfl T.mI (pa_cons pe_str pa_nil)))) pss_nil)
      (pss_one (ps_ret (pe_makeT T.mkc GF hr (passes_call (takes_of rfl rfl rfl rfl) fun _ _ _ _ h => h) (pv 0) (pv 1) (pk_cons (pv 2) (pk_cons (pv 3) (pk_cons (pv 4) pk_nil)))))), ?_⟩
    have lay : ∀ (t : Value) (b : Bool) (Q' : VK), TyX K H x t → PySem.W.kitAny K t [.type "list", .type "tuple"] = some b → (∀ H', Same H H' → Q' (.bl b) H') →
        tCB (rIsiT K) (tCons (tVar 1) (tCons (tTup (tCons (tC (.ty "list")) (tCons (tC (.ty "tuple")) tNil))) tNil)) (L2.start ["cls", "legs", "top", "ground", "power"] [.ref CF, x, TT, G, R]) H Q' := by
      intro t b Q' ty e k
      refine ⟨_, rfl, by show 2 ≤ sizeLine; decide, fun p hp => ?_⟩
      have s1 : Same H (upd H p (.tup [.ty "list", .ty "tuple"])) := fun b o e => by rw [upd_ne (ne_of_none e hp)]; exact e
      exact ⟨x, p, [.ty "list", .ty "tuple"], t, [.type "list", .type "tuple"], b, rfl, upd_same, .cons (.ty _) (.cons (.ty _) .nil), tyx_same ty s1, e, k _ s1⟩
    rcases h with ⟨t, ty, e, k⟩ | ⟨l, xs, rfl, hl, hlen, o⟩
    · refine lay t false _ ty e fun H1 s1 => ⟨_, rfl, iteT ?_⟩
      exact raise_inv (fun Q' q => q) (by decide +kernel) s1 k
    · have hty : ∃ t, TyX K H (.ref l) t ∧ PySem.W.kitAny K t [.type "list", .type "tuple"] = some true := by
        rcases hl with h | h
        · exact ⟨_, .base (.lst h), T.kt⟩
        · exact ⟨_, .base (.tup h), T.kt2⟩
      obtain ⟨t, ty, e⟩ := hty
      refine lay t true _ ty e fun H1 s1 => ⟨_, rfl, iteF ?_⟩
      refine ⟨_, rfl, rfl, _, rfl, _, rfl, _, rfl, _, rfl, rfl, l, xs, rfl, ?_, ?_⟩
      · rcases hl with h | h
        · exact .inr (SqL.of (s1 _ _ h))
        · exact .inl (SqT.of (s1 _ _ h))
      · exact mk_outc (fun x => rfl) s1 hlen hT hG hR o
end
end Sj
namespace Sj
open PySem L2 Sup StK
open NdefX (NF NScope ncx envF startF nscope_by)
open C8 (pss_cut tCut)
/-! Frame's own small methods (k03, k05): len, in, legs, names -/
abbrev sFr (i : Nat) : Stmt := inClass (top 20) i
theorem frF_legs (D : Addr) (T G R : V) : (frF D T G R).lookup ("_legs" : Str) = some (.ref D) := by
  unfold frF
  rw [lookup_putF, if_neg (by decide +kernel), lookup_putF, if_neg (by decide +kernel), lookup_putF, if_neg (by decide +kernel), lookup_putF, if_pos rfl]
theorem frF_top (D : Addr) (T G R : V) : (frF D T G R).lookup ("top" : Str) = some T := by
  unfold frF
  rw [lookup_putF, if_neg (by decide +kernel), lookup_putF, if_neg (by decide +kernel), lookup_putF, if_pos rfl]
theorem frF_ground (D : Addr) (T G R : V) : (frF D T G R).lookup ("ground" : Str) = some G := by
  unfold frF
  rw [lookup_putF, if_neg (by decide +kernel), lookup_putF, if_pos rfl]
theorem frF_power (D : Addr) (T G R : V) : (frF D T G R).lookup ("power" : Str) = some R := by
  unfold frF
  rw [lookup_putF, if_pos rfl]
def spFIn (K : PySem.W.Frag) (C : Addr) : Sp := fun vs H Q _ => ∃ (a : Addr) (ys : List LegR) (T G R x : V), vs = [.ref a, x] ∧ FrAt H a C ys T G R ∧
  ((∃ z : Str, x = .str z ∧ Q (.bl (decide (z ∈ names ys))) H) ∨ ∃ t : String, TyX K H x (.type t) ∧ kitB t "str" = some false ∧ Q (.bl false) H)
structure FmT (K : PySem.W.Frag) (mg : Str → Option Value) (C : Addr) : Prop where
  cl : Cls K C
  nL : NoAttr K C "_legs"
  len : mg "len" = none
  isi : mg "isinstance" = none
  str : mg "str" = none
theorem valV_in : ∀ (rs : List LegR) (z : Str), (valV (rs.map legRow) (Sum.inr z)).isSome = decide (z ∈ names rs)
  | [], z => rfl
  | q :: rs, z => by
    by_cases e : (legRow q).1 = Sum.inr z
    · rw [List.map_cons, valV_pos e]
      have ez : q.z = z := Sum.inr.inj e
      rw [decide_eq_true (show z ∈ names (q :: rs) by rw [← ez]; exact List.mem_cons_self)]
      rfl
    · rw [List.map_cons, valV_neg e, valV_in rs z]
      have ez : ¬ z = q.z := fun h => e (by rw [h]; rfl)
      have h2 : z ∈ names (q :: rs) ↔ z ∈ names rs := by
        show z ∈ q.z :: names rs ↔ _
        rw [List.mem_cons]
        exact ⟨fun h => h.resolve_left ez, .inr⟩
      exact Bool.eq_iff_iff.mpr (by rw [decide_eq_true_eq, decide_eq_true_eq]; exact h2.symm)
section
variable {P : Program} {w : World} {K : PySem.W.Frag} {mg : Str → Option Value} {base : Heap}
theorem scFIn : FnScope ["self", "x"] ["self", "x"] (defScope (sFr 9)) := ⟨rfl, rfl, rfl, by decide +kernel, rfl, by decide +kernel, by decide +kernel⟩
theorem ok_fin {f C : Addr} {fd : FuncData} (F : Fun K "__contains__" "Frame.__contains__" (sFr 9) f fd) (T : FmT K mg C) : FnOk P w K mg base CX0 1 f fd ["self", "x"] (spFIn K C) := by
  refine F.ok scFIn (fun vs H Q E h => ?_) (fun cdv A outer s H vs Q E hr h => ?_)
  · obtain ⟨a, ys, _, _, _, x, rfl, _⟩ := h
    rfl
  · obtain ⟨a, ys, TT, G, R, x, rfl, ⟨dx, D, ea, eD, _⟩, k⟩ := h
    refine ⟨_, pss_one (ps_ret (pe_and (pe_callB call_isi (by rfl) T.isi (by decide +kernel) (pa_cons (pv 1) (pa_cons (pe_bltn (by rfl) T.str (by decide +kernel) (v := .ty "str") rfl) pa_nil)))
      (pe_one (pe_cmp (pc_din (hu_of hr) (pv 1) (pe_fld (pv 0) rfl)) (by rfl))))), ?_⟩
    rcases k with ⟨z, rfl, k⟩ | ⟨t, ty, e, k⟩
    · refine ⟨_, rfl, _, _, _, _, true, rfl, .ty _, .base (.str z), kit_ty (by decide +kernel), _, rfl, iteT ?_⟩
      refine ⟨_, rfl, _, rfl, a, C, dx, _, _, rfl, ea, T.cl, T.nL, frF_legs _ _ _ _, D, _, rfl, DGet.k (k := Sum.inr z) eD, ?_⟩
      rw [valV_in]
      exact k
    · exact ⟨_, rfl, _, _, _, _, false, rfl, .ty _, ty, kit_ty e, _, rfl, iteF k⟩
end
end Sj
/-! == of two dicts whose values are instances with an __eq__ of their own -/
namespace Own
open PySem PySem.Spec PyProof.Rows L2 Sup
/-- what == asks of the class at C, n levels below -/
structure EqN (P : Program) (w : World) (K : PySem.W.Frag) (mg : Str → Option Value) (base : Heap) (n : Nat) (C : Addr) (sp : Sp) : Prop where
  ex : ∃ (g : Addr) (fd : FuncData), PySem.W.findIn K (.ref C) "__eq__" = some (some (.ref g)) ∧ PySem.W.isFn K (.ref g) = true ∧ FnOk P w K mg base CX0 n g fd ["self", "other"] sp ∧ Binds K fd ["self", "other"] []
  ne : PySem.W.findIn K (.ref C) "__ne__" = some (some (.builtin "object.__ne__"))
  ob : PySem.W.mroIn K C (.type "object") = some true
theorem EqN.eqC {X : Cx} {n : Nat} {C : Addr} {sp : Sp} (T : EqN X.prog X.w X.K X.mg X.base n C sp) (hr : Room (n + 1) X.A) : EqC X C sp := by
  obtain ⟨⟨g, fd, h1, h2, h3, h4⟩, h5, h6⟩ := T
  exact ⟨⟨g, fd, n, h1, h2, h3, hr, h4⟩, h5, h6⟩
section
variable {X : Cx} {pins : List (Addr × Obj)} {σ : L2.St} {H : Hp} {s : Shared} {n : Nat}
/-- x == y under any around -/
theorem rc_ownN {op : CmpOp} (hop : op = .Eq ∨ op = .NotEq) {S : Addr → Prop} {spE : Addr → Sp} (T : ∀ C, S C → EqN X.prog X.w X.K X.mg X.base n C (spE C)) {A : Around} (hr : Room (n + 1) A) (I : Inv X pins σ H s) (e0 : Env0 X.prog X.w X.K X.mg X.base A X.stack s H)
    {x y : V} {v u : Value} {Q : VK} {E' : Value → Shared → Prop} (rx : RelV x v) (ry : RelV y u) (h : rOwnE X.K op S spE x y H Q) : wpAny (model X.prog X.w) A (richCompare op v u) (EP X pins σ Q) E' s := by
  obtain ⟨a, C, dx, fs, rfl, ha, hS, h⟩ := h
  obtain rfl : v = Value.ref a := rx
  obtain ⟨mA, O, _⟩ := ins_get I.hok ha
  obtain ⟨od, J, _⟩ := O.look
  have KX := I.kIn
  rcases h with ⟨t, ht, hn, q⟩ | ⟨b, D, dy, gs, rfl, hb, hSD, hne, hsub, q⟩
  · obtain ⟨⟨g, fd, h1, h2, GF, hbd⟩, h3, h4⟩ := T C hS
    obtain ⟨P, KP, hP, _⟩ := kit_of I ry ht
    refine rc_own_left hop hr.units0 KX J (KP.ty _ _ KX hP) hn (R := fun k s' => ∃ H', Inv X pins σ H' s' ∧ Q (.bl (ansOf op k)) H') (try_own hop KX J h1 h2 h3 h4 (Room.in1 hr).units0 fun A' hA => ?_) fun k s' ⟨H', I', qq⟩ => ⟨.bl (ansOf op k), H', I', rfl, qq⟩
    rcases hA with rfl | rfl
    · exact gives_own GF (hr.mono (Nat.le_succ _)) hbd e0 I ry q
    · exact gives_own GF (Room.in1 hr) hbd e0.in1 I ry q
  · obtain rfl : u = Value.ref b := ry
    obtain ⟨⟨g, fd, h1, h2, GF, hbd⟩, h3, h4⟩ := T D hSD
    obtain ⟨mB, O', _⟩ := ins_get I.hok hb
    obtain ⟨od', J', _⟩ := O'.look
    refine rc_own_right hop hr.units0 KX J J' hne hsub (R := fun k s' => ∃ H', Inv X pins σ H' s' ∧ Q (.bl (ansOf op k)) H') (try_own hop KX J' h1 h2 h3 h4 (Room.in1 hr).units0 fun A' hA => ?_) fun k s' ⟨H', I', qq⟩ => ⟨.bl (ansOf op k), H', I', rfl, qq⟩
    rcases hA with rfl | rfl
    · exact gives_own GF (hr.mono (Nat.le_succ _)) hbd e0 I (y := .ref a) rfl q
    · exact gives_own GF (Room.in1 hr) hbd e0.in1 I (y := .ref a) rfl q
end
section
variable {prog : Program} {w : World} {κ : Type} [DecidableEq κ] {knd : KeyKind prog w κ} {A : Around} {E : Value → Shared → Prop} {s : Shared}
/-- the pairs one after another; J holds all along, and the two dicts stand still -/
theorem pairs_own {nm : String} {a b : Addr} {ka kb : List (κ × Value)} {oa ob : Obj} {J : Shared → Prop} {ok : κ → Bool} {Q : Bool → Shared → Prop} (ha : (a == sysModules) = false) (hb : (b == sysModules) = false)
    (still : ∀ s', J s' → s'.heap.get? a = some oa ∧ s'.heap.get? b = some ob) (da : s.heap.DictOf knd a ka) (db : s.heap.DictOf knd b kb) (hJ : J s)
    (turn : ∀ k v, (k, v) ∈ ka → (valueAt kb k = none ∧ ok k = false) ∨ ∃ y, valueAt kb k = some y ∧ ∀ s', J s' → wpAny (model prog w) A (eqBool v y) (fun r s'' => r = ok k ∧ J s'') E s')
    (h : ∀ s', J s' → Q (ka.length == kb.length && ka.all fun p => ok p.1) s') : wpAny (model prog w) A (Builtin.Dict.samePairs nm a b) Q E s := by
  obtain ⟨oa', es, ep, hoa, _, hda, hka, hpa, _⟩ := da
  obtain ⟨ob', es', ep', hob, _, hdb, hkb, hpb, _⟩ := db
  obtain rfl : oa' = oa := Option.some.inj (hoa.symm.trans (still s hJ).1)
  obtain rfl : ob' = ob := Option.some.inj (hob.symm.trans (still s hJ).2)
  have hla : ka.length = es.size := by rw [← hpa.length, Array.length_toList]
  have hlb : kb.length = es'.size := by rw [← hpb.length, Array.length_toList]
  have hfind : ∀ k, findBy knd.is es' k = valueAt kb k := fun k => by
    rw [← hpb.find k]
    clear hlb hpb hkb hdb hob h turn still
    obtain ⟨l⟩ := es'
    simp [findBy]
  unfold Builtin.Dict.samePairs Builtin.Dict.showsAll
  rw [if_neg (by rw [ha]; exact Bool.false_ne_true), if_neg (by rw [hb]; exact Bool.false_ne_true)]
  refine wpAny_bind (wpAny_pure (wpAny_bind (wpAny_pure (wpAny_bind (wpAny_dictEntries hoa hda ?_)))))
  dsimp only
  refine wpAny_bind (wpAny_dictEntries hob hdb ?_)
  by_cases hsz : es.size = es'.size
  case neg =>
    have h' := h s hJ
    rw [if_pos (by simpa using hsz)]
    rw [show (ka.length == kb.length) = false by rw [hla, hlb]; simpa using hsz, Bool.false_and] at h'
    exact wpAny_bind (wpAny_rule (wpAny_pure h'))
  case pos =>
    have h' : ∀ s', J s' → Q (ka.all fun p => ok p.1) s' := fun s' hs => by
      have q := h s' hs
      rwa [show (ka.length == kb.length) = true by rw [hla, hlb]; simpa using hsz, Bool.true_and] at q
    rw [if_neg (by rw [hsz]; simp)]
    refine wpAny_bind (wpAny_dictEpoch hoa hda (wpAny_bind ?_))
    rw [Std.Legacy.Range.forIn_eq_forIn_range']
    simp only [Std.Legacy.Range.size, Nat.sub_zero, Nat.add_sub_cancel, Nat.div_one]
    refine wpAny_forIn_list _ (fun rest q s' => J s' ∧ q = (none, ()) ∧ ∃ i, rest = List.range' i (es.size - i) ∧ i ≤ es.size ∧ (ka.all fun p => ok p.1) = ((ka.drop i).all fun p => ok p.1)) _ ?_ ?_ _ _ ⟨hJ, rfl, 0, by simp, Nat.zero_le _, rfl⟩
    · rintro x rest q s1 ⟨hJ1, rfl, i, hr, hi, hall⟩
      obtain ⟨hoa1, hob1⟩ := still s1 hJ1
      have hlt : i < es.size := by
        rcases Nat.lt_or_ge i es.size with z | z
        · exact z
        · rw [Nat.sub_eq_zero_of_le z] at hr
          simp at hr
      obtain ⟨rfl, hrest⟩ : x = i ∧ rest = List.range' (i + 1) (es.size - (i + 1)) := by
        rw [show es.size - i = (es.size - (i + 1)) + 1 by omega, List.range'_succ] at hr
        injection hr with h1 h2
        exact ⟨h1, h2⟩
      refine wpAny_bind (wpAny_dictEntries hoa1 hda ?_)
      rw [Array.getElem?_eq_getElem hlt]
      have hlt' : x < ka.length := by omega
      obtain ⟨k, v, hkv⟩ : ∃ k v, ka[x] = (k, v) := ⟨_, _, rfl⟩
      have hmem : (k, v) ∈ ka := by rw [← hkv]; exact List.getElem_mem hlt'
      have hdrop : ka.drop x = (k, v) :: ka.drop (x + 1) := by rw [← hkv]; exact List.drop_eq_getElem_cons hlt'
      obtain ⟨hkey, hval⟩ := hpa.get? (i := x) (e := es[x]) (k := k) (v := v) (by rw [Array.getElem?_toList]; exact Array.getElem?_eq_getElem hlt) (by rw [List.getElem?_eq_getElem hlt', hkv])
      obtain ⟨k', hk', hh⟩ := hka es[x] (Array.getElem_mem hlt)
      rw [knd.inj _ _ _ hk' hkey] at hh
      rw [hdrop, List.all_cons] at hall
      dsimp only at hall
      show wpAny _ _ (holding [es[x].key, es[x].val] _ >>= _) _ _ _
      rw [hh]
      refine wpAny_bind (wpAny_holding (wpAny_bind (wpAny_dictFind_of hkey hob1 hdb hkb ?_)))
      cases hj : es'.findIdx? fun e => knd.is k e.key with
      | none =>
        have hn : valueAt kb k = none := by rw [← hfind k, findBy_of_findIdx?, hj]
        rcases turn k v hmem with ⟨_, er⟩ | ⟨y, hy, _⟩
        · rw [er, Bool.false_and] at hall
          have q := h' s1 hJ1
          rw [hall] at q
          refine wpAny_pure (show wpAny _ _ (if (!false) = true then _ else _) _ _ _ from ?_)
          rw [if_pos (by decide)]
          exact wpAny_pure (wpAny_pure q)
        · rw [hn] at hy
          cases hy
      | some j =>
        obtain ⟨hjlt, _, _⟩ := Array.findIdx?_eq_some_iff_getElem.mp hj
        have hv' : valueAt kb k = some es'[j].val := by
          rw [← hfind k, findBy_of_findIdx?, hj]
          simp [Array.getElem?_eq_getElem hjlt]
        refine wpAny_bind (wpAny_dictEntries hob1 hdb ?_)
        rw [Array.getElem?_eq_getElem hjlt]
        rcases turn k v hmem with ⟨hn, _⟩ | ⟨y, hy, he⟩
        · rw [hv'] at hn
          cases hn
        · rw [← Option.some.inj (hv'.symm.trans hy), ← hval] at he
          refine wpAny_holding (wpAny_mono (he s1 hJ1) (fun r s2 ⟨er, hJ2⟩ => ?_) fun _ _ z => z)
          cases r with
          | false =>
            rw [← er, Bool.false_and] at hall
            have q := h' s2 hJ2
            rw [hall] at q
            show wpAny _ _ (if (!false) = true then _ else _) _ _ _
            rw [if_pos (by decide)]
            exact wpAny_pure (wpAny_pure q)
          | true =>
            rw [← er, Bool.true_and] at hall
            show wpAny _ _ (if (!true) = true then _ else _) _ _ _
            rw [if_neg (by decide)]
            refine wpAny_bind (wpAny_dictEpoch (still s2 hJ2).1 hda ?_)
            rw [if_neg (by simp)]
            exact wpAny_pure ⟨hJ2, rfl, x + 1, hrest, hlt, hall⟩
    · rintro q s1 ⟨hJ1, rfl, i, hr, hi, hall⟩
      have hin : i = es.size := by
        rcases Nat.lt_or_ge i es.size with z | z
        · rw [show es.size - i = (es.size - (i + 1)) + 1 by omega, List.range'_succ] at hr
          cases hr
        · exact Nat.le_antisymm hi z
      rw [hin, ← hla, List.drop_length] at hall
      have q := h' s1 hJ1
      rw [hall] at q
      exact wpAny_pure q
theorem rc_dict_own {a b : Addr} {ka kb : List (κ × Value)} {oa ob : Obj} {J : Shared → Prop} {ok : κ → Bool} {Q : Value → Shared → Prop} (ha : (a == sysModules) = false) (hb : (b == sysModules) = false)
    (still : ∀ s', J s' → s'.heap.get? a = some oa ∧ s'.heap.get? b = some ob) (da : s.heap.DictOf knd a ka) (db : s.heap.DictOf knd b kb) (hJ : J s) (hu : A.units < cLine)
    (turn : ∀ k v, (k, v) ∈ ka → (valueAt kb k = none ∧ ok k = false) ∨ ∃ y, valueAt kb k = some y ∧ ∀ s', J s' → wpAny (model prog w) A.in1 (eqBool v y) (fun r s'' => r = ok k ∧ J s'') E s')
    (h : ∀ s', J s' → Q (.bool (ka.length == kb.length && ka.all fun p => ok p.1)) s') : wpAny (model prog w) A (richCompare .Eq (.ref a) (.ref b)) Q E s := by
  refine wpAny_richCompare_same_room (op := .Eq) da.typeIs db.typeIs PySem.F.slot_dict_eq (wpAny_call_entry PySem.F.slot_dict_eq da.typeIs PySem.F.entry_dict_eq (show wpAny _ _ (Builtin.Dict.dictSlotArgs "__eq__" ⟨[.ref a, .ref b], []⟩ >>= _) _ _ s from ?_) (PySem.F.args_dict_eq_2 _ _)) hu
  refine wpAny_bind ?_
  unfold Builtin.Dict.dictSlotArgs
  refine wpAny_bind (wpAny_notOrdered_dict da.typeIs (show wpAny _ _ (pure (Value.ref a, Value.ref b)) _ _ s from wpAny_pure ?_))
  refine wpAny_bind (wpAny_isInstance (T := "dict") db.typeIs PySem.F.sub_dict_dict ?_)
  simp only [Bool.not_true, Bool.false_eq_true, if_false]
  refine wpAny_bind (wpAny_pure (wpAny_bind (wpAny_pure (wpAny_bind (pairs_own ha hb still da db hJ turn fun s1 hJ1 => ?_)))))
  refine wpAny_pure ⟨_, rfl, (fun x => nomatch x), ?_⟩
  simpa using h s1 hJ1
end
theorem kv_mem : ∀ {ks : List (Key × V)} {vs : List (Key × Value)}, KV ks vs → ∀ {k : Key} {u : Value}, (k, u) ∈ vs → ∃ x, (k, x) ∈ ks ∧ RelV x u
  | [], [], .nil, k, u, hm => by cases hm
  | _ :: _, _ :: _, .cons h t, k, u, hm => by
    rcases List.mem_cons.mp hm with e | hm
    · refine ⟨_, List.mem_cons.mpr (.inl (Prod.ext_iff.mpr ⟨?_, rfl⟩)), ?_⟩
      · rw [h.1, ← e]
      · have := h.2
        rw [← e] at this
        exact this
    · obtain ⟨x, hx, r⟩ := kv_mem t hm
      exact ⟨x, List.mem_cons_of_mem _ hx, r⟩
theorem kv_all {ks : List (Key × V)} {vs : List (Key × Value)} (r : KV ks vs) (f : Key → Bool) : (vs.all fun p => f p.1) = ks.all fun p => f p.1 := by
  have e := KV.keys r
  rw [show (vs.all fun p => f p.1) = (vs.map (·.1)).all f by rw [List.all_map]; rfl, ← e, List.all_map]
  rfl
/-- what stands beside the two dicts -/
def Beside (a b : Addr) (H H' : Hp) : Prop := ∀ c o, H c = some o → c ≠ a → c ≠ b → H' c = some o
def rEqD (K : PySem.W.Frag) (S : Addr → Prop) (spE : Addr → Sp) : R2 := fun x y H Q => ∃ (a b : Addr) (ks ls : List (Key × V)) (ok : Key → Bool), x = .ref a ∧ y = .ref b ∧ H a = some (.dK ks) ∧ H b = some (.dK ls) ∧
  (∀ k v, (k, v) ∈ ks → (valV ls k = none ∧ ok k = false) ∨ ∃ p q, v = .ref p ∧ valV ls k = some (.ref q) ∧ ((p = q ∧ ok k = true) ∨ (p ≠ q ∧ ∀ H', Beside a b H H' → rOwnE K .Eq S spE (.ref p) (.ref q) H' fun z H'' => z = .bl (ok k) ∧ Same H' H''))) ∧
  ∀ H', Same H H' → Q (.bl (ks.length == ls.length && ks.all fun p => ok p.1)) H'
theorem op_eqOwnD {X : Cx} {n : Nat} {S : Addr → Prop} {spE : Addr → Sp} (T : ∀ C, S C → EqN X.prog X.w X.K X.mg X.base n C (spE C)) (hr : Room (n + 2) X.A) : OpR X (compareOp .Eq) (rEqD X.K S spE) := by
  intro pins s σ H x y v u Q I rx ry h
  obtain ⟨a, b, ks, ls, ok, rfl, rfl, hka, hkb, turn, fin⟩ := h
  obtain rfl : v = Value.ref a := rx
  obtain rfl : u = Value.ref b := ry
  show wpAny _ _ (richCompare .Eq (.ref a) (.ref b)) _ _ s
  -- both are locked
  obtain ⟨HL, IL, oa, ob, ha1, hb1, hbes, hun⟩ : ∃ HL, Inv X pins σ HL s ∧ ∃ oa ob, HL a = some (.frz oa (.dK ks)) ∧ HL b = some (.frz ob (.dK ls)) ∧ Beside a b H HL ∧ ∀ H' s', Inv X pins σ H' s' → Same HL H' → ∃ H3, Inv X pins σ H3 s' ∧ Same H H3 := by
    obtain ⟨oa, I1⟩ := I.lock hka trivial
    by_cases e : a = b
    · subst e
      obtain rfl : ks = ls := by
        rw [hka] at hkb
        injection hkb with z
        injection z
      refine ⟨_, I1, oa, oa, upd_same, upd_same, fun c o hc n1 _ => by rw [upd_ne n1]; exact hc, fun H' s' I' s1 => ⟨_, I'.unlock (s1 _ _ upd_same) (I.nofrz hka trivial), fun c o hc => ?_⟩⟩
      by_cases z : c = a
      · rw [z] at hc ⊢
        rw [upd_same, ← hc, hka]
      · rw [upd_ne z]
        exact s1 _ _ (by rw [upd_ne z]; exact hc)
    · have hb2 : (upd H a (.frz oa (.dK ks))) b = some (.dK ls) := by rw [upd_ne (Ne.symm e)]; exact hkb
      obtain ⟨ob, I2⟩ := I1.lock hb2 trivial
      refine ⟨_, I2, oa, ob, by rw [upd_ne e, upd_same], upd_same, fun c o hc n1 n2 => by rw [upd_ne n2, upd_ne n1]; exact hc, fun H' s' I' s1 => ?_⟩
      have hbq : H' b = some (.frz ob (.dK ls)) := s1 _ _ upd_same
      have haq : H' a = some (.frz oa (.dK ks)) := s1 _ _ (by rw [upd_ne e, upd_same])
      have I3 := I'.unlock hbq (I.nofrz hkb trivial)
      refine ⟨_, I3.unlock (by rw [upd_ne e]; exact haq) (I.nofrz hka trivial), fun c o hc => ?_⟩
      by_cases z : c = a
      · rw [z] at hc ⊢
        rw [upd_same, ← hc, hka]
      · rw [upd_ne z]
        by_cases z2 : c = b
        · rw [z2] at hc ⊢
          rw [upd_same, ← hc, hkb]
        · rw [upd_ne z2]
          exact s1 _ _ (by rw [upd_ne z2, upd_ne z]; exact hc)
  obtain ⟨sa, ga, xa, esa, epa, va, dta, sza, kva, hma⟩ := IL.frzK ha1
  obtain ⟨sb, gb, xb, esb, epb, vb, dtb, szb, kvb, hmb⟩ := IL.frzK hb1
  refine rc_dict_own (knd := mixKind X.prog X.w) (ok := ok) (J := fun s' => ∃ H', Inv X pins σ H' s' ∧ Same HL H') sa sb (fun s' ⟨H', I', s1⟩ => ⟨(I'.frzK (s1 _ _ ha1)).2.1, (I'.frzK (s1 _ _ hb1)).2.1⟩) hma.dictOf hmb.dictOf ⟨HL, IL, Same.refl HL⟩ hr.units0 (fun k u hm => ?_) fun s1 ⟨H1, I1, s01⟩ => ?_
  · obtain ⟨x, hx, rxu⟩ := kv_mem kva hm
    have rb := KV.val kvb k
    rcases turn k x hx with ⟨e1, e2⟩ | ⟨p, q, rfl, e1, e2⟩
    · rw [e1] at rb
      refine .inl ⟨?_, e2⟩
      cases hv : valueAt vb k with
      | none => rfl
      | some z => rw [hv] at rb; exact False.elim rb
    · rw [e1] at rb
      obtain rfl : u = Value.ref p := rxu
      cases hv : valueAt vb k with
      | none => rw [hv] at rb; exact False.elim rb
      | some z =>
        rw [hv] at rb
        obtain rfl : z = Value.ref q := rb
        refine .inr ⟨_, rfl, fun s1 ⟨H1, I1, s01⟩ => ?_⟩
        rcases e2 with ⟨rfl, e3⟩ | ⟨hpq, e3⟩
        · unfold eqBool
          refine wpAny_holding ?_
          rw [if_pos (by simp)]
          exact wpAny_bind (wpAny_rule (wpAny_pure ⟨e3.symm, H1, I1, s01⟩))
        · refine GQ.eqBool_refG hpq (wpAny_mono (rc_ownN (.inl rfl) T (Room.in1 hr) I1 I1.env0.in1 (x := .ref p) (y := .ref q) rfl rfl (e3 H1 fun c o hc n1 n2 => s01 _ _ (hbes c o hc n1 n2))) (fun v s2 ⟨z, H2, I2, rv, ez, s12⟩ => ?_) fun _ _ z => z)
          subst ez
          exact ⟨ok k, rv, rfl, H2, I2, s01.trans s12⟩
  · obtain ⟨H3, I3, s3⟩ := hun H1 s1 I1 s01
    refine ⟨_, H3, I3, ?_, fin H3 s3⟩
    have e1 : va.length = ks.length := (Paired.length kva).symm
    have e2 : vb.length = ls.length := (Paired.length kvb).symm
    rw [kv_all kva ok, e1, e2]
    rfl
end Own
/-! Defs of which more is known: that nothing is being shown around them (a repr of a list asks it). -/
namespace Grd
open PySem PySem.Spec PyProof.Rows L2
/-- as FnOk, called where nothing is being shown -/
structure FnG (P : Program) (w : World) (K : PySem.W.Frag) (mg : Str → Option Value) (base : Heap) (CX : CXT) (k : Nat) (f : Addr) (fd : FuncData) (ps : List Str) (sp : Sp) : Prop where
  len : ∀ vs H Q E, sp vs H Q E → vs.length = ps.length
  run : ∀ (A : Around) (outer : List Env) (s : Shared) (H : Hp) (args : Args) (us : List Value) (vs : List V) (Q : VK) (E : XK),
    A.guards = some [] → Room k A → Env0 P w K mg base A outer s H → BindsTo s fd args (ps.zip us) → Vals vs us → sp vs H Q E → codeAny (model P w) A (.call (.ref f) args) (CR CX outer P w H s Q E) s
section
variable {P : Program} {w : World} {K : PySem.W.Frag} {mg : Str → Option Value} {base : Heap} {CX : CXT} {j k : Nat} {f : Addr} {fd : FuncData} {ps : List Str} {sp sp' : Sp}
theorem FnG.of (F : FnOk P w K mg base CX k f fd ps sp) : FnG P w K mg base CX k f fd ps sp := ⟨F.len, fun A outer s H args us vs Q E _ => F.run A outer s H args us vs Q E⟩
theorem FnG.mono (F : FnG P w K mg base CX j f fd ps sp) (h : j ≤ k) : FnG P w K mg base CX k f fd ps sp := ⟨F.len, fun A outer s H args us vs Q E hg hr => F.run A outer s H args us vs Q E hg (hr.mono h)⟩
theorem FnG.imp (F : FnG P w K mg base CX k f fd ps sp) (h : ∀ vs H Q E, sp' vs H Q E → sp vs H Q E) : FnG P w K mg base CX k f fd ps sp' :=
  ⟨fun vs H Q E q => F.len vs H Q E (h _ _ _ _ q), fun A outer s H args us vs Q E hg hr he hb hv hs => F.run A outer s H args us vs Q E hg hr he hb hv (h _ _ _ _ hs)⟩
/-- by its body -/
theorem fun_g {x qual : Str} {st : Stmt} {N : List Str} (F : Fun K x qual st f fd) (S : FnScope N ps (defScope st)) (len : ∀ vs H Q E, sp vs H Q E → vs.length = ps.length)
    (hbody : ∀ (cdv : Value) (A : Around) (outer : List Env) (s : Shared) (H : Hp) (vs : List V) (Q : VK) (E : XK), A.guards = some [] → Room k (A.deeper (envOfC qual (defScope st) s.heap.objs.size f cdv)) → sp vs H Q E →
      ∃ t, PSs (cxOf CX0 P w K mg base N qual (defScope st) f cdv A outer s H E).nox (defBody st) t ∧ t { nx := fun _ H' => Q .non H', rt := Q } (start N vs) H) : FnG P w K mg base CX0 (k + 1) f fd ps sp := by
  obtain ⟨oc, od, kV, doc, pm, an, cdv, ct, osl, rfl, lk, hcd⟩ := F.ex
  refine ⟨len, fun A outer s H args us vs Q E hg hr e0 hb r hsp => ?_⟩
  refine LamX.run_ofS (CX := CX0) lk hcd S hr e0 hb r (len _ _ _ _ hsp) fun hr1 => ?_
  obtain ⟨t, ht, hq⟩ := hbody cdv A outer s H vs Q E hg hr1 hsp
  exact ⟨t, ht.nox, hq⟩
end
section
variable {X : Cx} {CX : CXT} {k : Nat} {f : Addr} {fd : FuncData} {ps : List Str} {sp : Sp} {E : XK} {x : Str} {p pos : Pos} {e : Expr} {es : List Expr} {t : TA}
theorem run_g {pins : List (Addr × Obj)} {σ : L2.St} {H : Hp} {s : Shared} {Q : VK} {us : List Value} {vs : List V} (F : FnG X.prog X.w X.K X.mg X.base CX k f fd ps sp) (hG : X.A.guards = some []) (hr : Room k X.A) (hb : Binds X.K fd ps []) (hx : Passes CX X E)
    (I : Inv X pins σ H s) (r : Vals vs us) (h : sp vs H Q E) : wpAny (model X.prog X.w) X.A (call (.ref f) us) (EP X pins σ Q) X.xe s := by
  have hl : (us ++ []).length = ps.length := by rw [List.append_nil, ← r.length]; exact F.len _ _ _ _ h
  have hB := hb s us I.kIn hl
  rw [List.append_nil] at hB
  refine wpAny_call (codeAny_mono (F.run X.A X.stack s H ⟨us, []⟩ us vs Q E hG hr I.env0 hB r h) fun res s' hq => ?_)
  match res, hq with
  | .error e, hq => exact hx pins σ H s e s' I hq
  | .ok (.ret u), hq => exact I.after hq
theorem pe_callG (F : FnG X.prog X.w X.K X.mg X.base CX k f fd ps sp) (hG : X.A.guards = some []) (hr : Room k X.A) (hg : Gl X x) (hm : X.mg x = some (.ref f)) (hk : PySem.W.keepIn X.K (.ref f) = true) (hb : Binds X.K fd ps []) (hx : Passes CX X E)
    (ha : PA X (e :: es) t) (hdb : (x == ("__debug__" : Str)) = false := by decide) (hs : starEach (e :: es) X.env = (false, eval e X.env) :: starEach es X.env := by rfl) (hp : (backTo pos (starEach es X.env)).any (·.1) = false := by rfl) :
    PE X (.Call (.Name x p) (e :: es) [] pos) (tCall sp [] E t) := by
  refine ⟨fun pins s σ H Q I h => wpAny_Call_Name_kw (ld_glob I hg hm ?_ hdb)⟩
  refine PySem.W.callWith_K (h₀ := X.base) I.ok.mod.kin hk (thn (ha.run pos pins s σ H _ I h) ?_) hs hp
  rintro us s1 ⟨vs, H1, I1, r, q⟩
  rw [List.append_nil] at q
  exact ⟨I1.kIn, run_g F hG hr hb hx I1 r q⟩
end
end Grd
/-! len(o), x in o, o[x] of an instance with such methods of its own; o in (None, "a", (..)) by its __eq__ -/
namespace Own
open PySem PySem.Spec PyProof.Rows L2 Sup Grd
section
variable {X : Cx} {CX : CXT} {pins : List (Addr × Obj)} {σ : L2.St} {H : Hp} {s : Shared} {k : Nat} {C f : Addr} {fd : FuncData} {ps : List Str} {sp : Sp} {E : XK}
/-- the method runs, under any around -/
theorem run_at {A : Around} {Q : VK} {us : List Value} {vs : List V} {E' : Value → Shared → Prop} (F : FnG X.prog X.w X.K X.mg X.base CX k f fd ps sp) (hG : A.guards = some []) (hr : Room k A) (hb : Binds X.K fd ps []) (e0 : Env0 X.prog X.w X.K X.mg X.base A X.stack s H)
    (hx : ∀ e s', CX X.stack H s E e s' → E' e s') (I : Inv X pins σ H s) (r : Vals vs us) (h : sp vs H Q E) : wpAny (model X.prog X.w) A (call (.ref f) us) (EP X pins σ Q) E' s := by
  have hl : (us ++ []).length = ps.length := by rw [List.append_nil, ← r.length]; exact F.len _ _ _ _ h
  have hB := hb s us I.kIn hl
  rw [List.append_nil] at hB
  refine wpAny_call (codeAny_mono (F.run A X.stack s H ⟨us, []⟩ us vs Q E hG hr e0 hB r h) fun res s' hq => ?_)
  match res, hq with
  | .error e, hq => exact hx e s' hq
  | .ok (.ret u), hq => exact I.after hq
/-- a method of the class that is a def: where it stands -/
structure MetG (P : Program) (w : World) (K : PySem.W.Frag) (mg : Str → Option Value) (base : Heap) (CX : CXT) (n : Nat) (C : Addr) (name : Str) (ps : List Str) (sp : Sp) : Prop where
  ex : ∃ (f : Addr) (fd : FuncData), PySem.W.findIn K (.ref C) name = some (some (.ref f)) ∧ PySem.W.isFn K (.ref f) = true ∧ PySem.W.fnIn K f = true ∧ FnG P w K mg base CX n f fd ps sp ∧ Binds K fd ps []
theorem guards_in1 {A : Around} (h : A.guards = some []) : A.in1.guards = some [] := h
/-- x in o, x not in o -/
def rInO (C : Addr) (neg : Bool) (sp : Sp) : R2 := fun x y H Q => ∃ a dx fs, y = .ref a ∧ H a = some (.ins C dx fs) ∧ sp [.ref a, x] H (fun z H' => ∃ b : Bool, z = .bl b ∧ Q (.bl (if neg then !b else b)) H') E0
/-- o[x], which may raise -/
def tItO (C : Addr) (sp : Sp) (E : XK) (ta tb : TE) : TE := fun σ H Q => ta σ H fun y H1 => tb σ H1 fun x H2 => ∃ a dx fs, y = .ref a ∧ H2 a = some (.ins C dx fs) ∧ sp [.ref a, x] H2 Q E
theorem pe_itO {ps : List Str} {e1 e2 : Expr} {ta tb : TE} {pos : Pos} (M : MetG X.prog X.w X.K X.mg X.base CX k C "__getitem__" ps sp) (hG : X.A.guards = some []) (hr : Room (k + 1) X.A) (hx : Passes CX X E) (ha : PE X e1 ta) (hb' : PE X e2 tb)
    (hsl : ∀ v u, subscripted e2 true v u = runValue (.builtin "lifetime.subscript" ⟨[v, u], []⟩) := by intros; with_unfolding_all rfl) : PE X (.Subscript e1 e2 pos) (tItO C sp E ta tb) := by
  obtain ⟨f, fd, h1, h2, h3, F, hb⟩ := M
  refine ⟨fun pins s σ H Q I h => ?_⟩
  refine Subscript_ (binT ha hb' I (R := fun y x H2 => ∃ a dx fs, y = .ref a ∧ H2 a = some (.ins C dx fs) ∧ sp [.ref a, x] H2 Q E) h fun v u s2 y x H2 I2 ry rx ⟨a, dx, fs, ey, hz, q⟩ => ?_)
  subst ey
  obtain rfl : v = Value.ref a := ry
  obtain ⟨mA, O, _⟩ := ins_get I2.hok hz
  obtain ⟨od, J, _⟩ := O.look
  obtain ⟨m, Fr⟩ := I2.fr
  exact PySem.W.sub_K Fr I2.mod.kin J h1 h3 h2 (run_at (vs := [.ref a, x]) F (guards_in1 hG) hr.in1 hb I2.env0.in1 (E' := X.xe) (fun e s' z => hx pins σ H2 s2 e s' I2 z) I2 (.cons rfl (.cons rx .nil)) q) (hsl _ _)
end
/-! ### o in (None, "a", (..)) -/
/-- None or a tuple -/
inductive OddL (K : PySem.W.Frag) (H : Hp) : V → Prop
  | non : OddL K H .non
  | tup {t : Addr} {xs : List V} : SqT K H t xs → OddL K H (.ref t)
theorem OddL.same {K : PySem.W.Frag} {H H' : Hp} {x : V} (h : OddL K H x) (s : Same H H') : OddL K H' x := by
  cases h with
  | non => exact .non
  | tup q => exact .tup (SqT.ext q s)
end Own
/-! e.f, a property, of an instance of one of some classes -/
namespace Own
open PySem PySem.Spec PyProof.Rows L2 Sup Grd
structure PropN (P : Program) (w : World) (K : PySem.W.Frag) (mg : Str → Option Value) (base : Heap) (n : Nat) (C : Addr) (f : Str) (sp : Sp) : Prop where
  cl : Cls K C
  ex : ∃ (p g : Addr) (fd : FuncData), PropOf K C f p g ∧ FnOk P w K mg base CX0 n g fd ["self"] sp ∧ Binds K fd ["self"] []
def tPropS (S : Addr → Prop) (spP : Addr → Sp) (ta : TE) : TE := fun σ H Q => ta σ H fun x H1 => ∃ a C dx fs, x = .ref a ∧ H1 a = some (.ins C dx fs) ∧ S C ∧ spP C [.ref a] H1 Q E0
theorem pe_propS {X : Cx} {n : Nat} {S : Addr → Prop} {spP : Addr → Sp} {f : Str} {e : Expr} {ta : TE} {pos : Pos} (he : PE X e ta) (T : ∀ C, S C → PropN X.prog X.w X.K X.mg X.base n C f (spP C)) (hr : Room (n + 1) X.A)
    (hab : attributeBase e f X.env (eval e X.env) = eval e X.env := by rfl) : PE X (.Attribute e f pos) (tPropS S spP ta) := by
  refine ⟨fun pins s σ H Q I h => ?_⟩
  refine attr_of hab (thn (he.run pins s σ H _ I h) fun u s1 ⟨x, H1, I1, rx, a, C, dx, fs, ex, ea, hS, q⟩ => ?_)
  subst ex
  obtain rfl : u = Value.ref a := rx
  obtain ⟨cl, p, g, fd, hp, F, hb⟩ := T C hS
  exact getprop_ok I1 ea cl hp F hr hb .nil pass0 q
end Own
/-! tuple(d), tuple(d.values()) of a dict whose keys are ints or texts -/
namespace TupD
open PySem PySem.Spec PyProof.Rows L2
section
variable {prog : Program} {w : World} {A : Around} {E : Value → Shared → Prop} {s : Shared} {T : String} {r d : Addr} {n : Nat} {P : Nat → Value → Prop} {OK : Heap → Prop}
/-- what the new tuple is wanted for -/
abbrev Wants (Q : Value → Shared → Prop) (s : Shared) (P : Nat → Value → Prop) (n : Nat) : Prop := ∀ (h' : Heap) (tk : Nat) (acc : Array Value), (∀ b o, s.heap.get? b = some o → h'.get? b = some o) → ItemsOf P acc n → Q (.ref h'.objs.size) { s with heap := h'.push { cls := .type "tuple", data := .seq acc }, toks := tk }
theorem new_src {Q₁ : Value → Shared → Prop} (hT : T = "dict" ∨ T = "dict_values") (K : PySem.W.KdlSrc prog w T r d n P OK) (hh : A.handled = none) (hok : OK s.heap) (hn : n ≤ sizeLine) (h : Wants Q₁ s P n) :
    codeAny (model prog w) A (.call (.builtin "tuple.__new__") ⟨[.type "tuple", .ref r], []⟩) (wants Q₁ E) s := by
  refine codeAny_of_tree (show wpAny _ A.in1 (do checkBuiltinCall "tuple.__new__" ⟨[.type "tuple", .ref r], []⟩; again (.builtin "tuple.__new__" ⟨[.type "tuple", .ref r], []⟩)) _ _ s from ?_)
  refine wpAny_bind (wpAny_of_eq (F.newCall_tuple_1 _) (wpAny_pure ⟨plainId_quiet F.plain_tuple_new _, codeAny_builtin F.entry_tuple_new ?_⟩))
  rw [Around.under_plainId F.plain_tuple_new _]
  have k1 := sub_tuple_self
  have k2 := init_tuple_lookup
  have k3 := madeHere_tuple
  have hTI : s.TypeIs (.ref r) T := K.type s hok
  have hh1 : A.in1.handled = none := hh
  have fin : ∀ h' tk acc, (∀ b o, s.heap.get? b = some o → h'.get? b = some o) → ItemsOf P acc n → wpAny (model prog w) A.in1 (Builtin.Tuple.tupleExact acc.toList.toArray >>= fun v => ret v) (fun fin s' => match fin with | .done f => wants Q₁ E (.ok f) s' | .again c' => c'.quiet = true ∧ codeAny (model prog w) A c' (wants Q₁ E) s') (fun e s' => wants Q₁ E (.error e) s') { s with heap := h', toks := tk } := by
    intro h' tk acc hk hacc
    have e : acc.toList.toArray = acc := by simp
    unfold Builtin.Tuple.tupleExact
    refine wpAny_bind (wpAny_newObj_type ?_ (by rw [e]; show acc.size ≤ sizeLine; rw [hacc.1]; exact hn))
    rw [e]
    exact wpAny_pure (h h' tk acc hk hacc)
  rcases hT with rfl | rfl
  · wp_walk using wpAny_typeOf hTI, PySem.W.kdu_collect (A := A.in1) K hh1 hok hn
    exact fin
  · wp_walk using wpAny_typeOf hTI, PySem.W.kdu_collect (A := A.in1) K hh1 hok hn
    exact fin
theorem call_src {Q : Value → Shared → Prop} (hT : T = "dict" ∨ T = "dict_values") (K : PySem.W.KdlSrc prog w T r d n P OK) (hh : A.handled = none) (hok : OK s.heap) (hn : n ≤ sizeLine) (hQ : Wants Q s P n) :
    wpAny (model prog w) A (call (.type "tuple") [.ref r]) Q E s := by
  refine callType_codes (Q₁ := fun v s₁ => s₁.TypeIs v "tuple" ∧ Q v s₁) F.called_tuple (F.typeCall_tuple_1 _) F.entry_object_init
    (new_src (A := A.in1) hT K hh hok hn fun h' tk acc hk hacc => ⟨⟨_, Heap.get?_push_size _ rfl, rfl⟩, hQ h' tk acc hk hacc⟩) fun v s₁ q => ?_
  exact ⟨q.1, F.args_object_init_2 v _, object_init_meets F.called_tuple.init.lookup F.called_tuple.made (by decide) prog w A.in1 _ s₁ ⟨q.1, rfl, q.2⟩⟩
end
/-- tuple(d) -/
def rTupD : List V → Hp → VK → Prop := fun xs H Q => ∃ p kvs, xs = [.ref p] ∧ H p = some (.dK kvs) ∧ ∀ q, H q = none → Q (.ref q) (upd H q (.tup (kvs.map fun kv => kV kv.1)))
theorem call_tup_dK {X : Cx} (hc : X.calm = true) : CallR X (.type "tuple") rTupD := by
  intro pins s σ H xs us Q I r h
  obtain ⟨p, kvs, rfl, hk, q⟩ := h
  obtain ⟨u, rfl, rx⟩ := vals1 r
  obtain rfl : u = Value.ref p := rx
  obtain ⟨z, lo, vs, rk, hd⟩ := (show ObjOk X.prog X.w H s.heap p (.dK kvs) from I.hok p _ hk)
  obtain ⟨ep, hat⟩ := hd.dictAt
  have hl : kvs.length = vs.length := Paired.length rk
  refine call_src (.inl rfl) (PySem.W.kdl_dict (knd := mixKind X.prog X.w) (kvs := vs) (ep := ep) lo) (I.ok.hd hc) hat (by rw [← hl]; exact z) fun h' tk acc hkeep hacc => ?_
  have I2 : Inv X pins σ H { s with heap := h', toks := tk } := I.kept hkeep
  refine ⟨.ref h'.objs.size, upd H h'.objs.size (.tup (kvs.map fun kv => kV kv.1)), I2.laid (t' := tk) (fun c o e => Heap.get?_push_of_some _ e) (Nat.le_refl _) (show ObjOk X.prog X.w _ _ _ (.tup (kvs.map fun kv => kV kv.1)) from ⟨?_, acc.toList, ?_, ?_⟩), rfl, q _ (I2.hok.fresh (Nat.le_refl _))⟩
  · rw [List.length_map]; exact z
  · have el : acc.toList.length = acc.size := by simp
    refine vals_of_at (by rw [List.length_map, el, hacc.1, hl]) fun j x u h1 h2 => ?_
    obtain ⟨k, y, hky, hi⟩ := hacc.2 j u (by rw [← Array.getElem?_toList]; exact h2)
    have e1 : (kvs.map (·.1))[j]? = some k := by
      rw [KV.keys rk, List.getElem?_map, hky]; rfl
    have e2 : (kvs.map fun kv => kV kv.1)[j]? = some (kV k) := by
      rw [show (kvs.map fun kv => kV kv.1) = (kvs.map (·.1)).map kV by rw [List.map_map]; rfl, List.getElem?_map, e1]; rfl
    rw [e2] at h1
    cases h1
    exact keyIs_rel hi
  · rw [Array.toArray_toList]; exact IsTup.new _ _
theorem kv_vals : ∀ {kvs : List (Key × V)} {vs : List (Key × Value)}, KV kvs vs → Vals (kvs.map (·.2)) (vs.map (·.2))
  | [], [], _ => .nil
  | _ :: _, _ :: _, .cons h t => .cons h.2 (kv_vals t)
section
variable {X : Cx} {e : Expr} {td : TE} {apos cpos p pos : Pos}
/-- tuple(d.values()) -/
def tTupVals (td : TE) : TE := fun σ H Q => td σ H fun x H1 => ∃ d kvs, x = .ref d ∧ H1 d = some (.dK kvs) ∧ ∀ q, H1 q = none → Q (.ref q) (upd H1 q (.tup (kvs.map (·.2))))
theorem pe_tup_vals (hc : X.calm = true) (hg : Gl X "tuple") (hm : X.mg "tuple" = none) (he : PE X e td) (hbase : attributeBase e "values" X.env (eval e X.env) = eval e X.env := by rfl) (hline : (apos.endLine == cpos.line) = true := by rfl)
    (na : starEach [Expr.Call (.Attribute e "values" apos) [] [] cpos] X.env = (false, eval (Expr.Call (.Attribute e "values" apos) [] [] cpos) X.env) :: starEach [] X.env := by rfl) :
    PE X (.Call (.Name "tuple" p) [.Call (.Attribute e "values" apos) [] [] cpos] [] pos) (tTupVals td) := by
  refine ⟨fun pins s σ H Q I h => ?_⟩
  refine Call_ (ld_blt I hg hm boot_tuple (PyProof.Rows.callWith_type1 (args_cons ?_ na) na))
  refine wpAny_Call_method (T := "dict") (id := "dict.values") hbase rfl hline F.plainAttrs_dict F.slot_dict_values F.type_dict_values (thn (he.run pins s σ H _ I h) fun u s1 ⟨x, H1, I1, rx, d, kvs, ex, hk, q⟩ => ?_)
  subst ex
  obtain rfl : u = Value.ref d := rx
  obtain ⟨z, lo, vs, rk, hd⟩ := (show ObjOk X.prog X.w H1 s1.heap d (.dK kvs) from I1.hok d _ hk)
  obtain ⟨ep, hat⟩ := hd.dictAt
  have hl : kvs.length = vs.length := Paired.length rk
  refine ⟨hat.dictOf.typeIs, hat.dictOf.mapOf.noDict, ?_⟩
  refine method_meetsIn F.slot_dict_values F.entry_dict_values rfl (PySem.evalArgs_none ⟨rfl, hat.dictOf.typeIs, F.args_dict_values_1 _, _, meets_dict_values (mixKind X.prog X.w) d lo, ⟨vs, hat.dictOf⟩, ?_⟩)
  refine args_nil ?_
  have I2 : Inv X pins σ H1 { s1 with heap := s1.heap.push { cls := .type "dict_values", data := .fields #[.ref d] } } := I1.kept (t' := s1.toks) fun b ob q => Heap.get?_push_of_some _ q
  refine call_src (.inr rfl) (PySem.W.kdl_values (knd := mixKind X.prog X.w) (kvs := vs) (ep := ep) (r := s1.heap.objs.size) (d := d)) (I2.ok.hd hc) ⟨⟨_, Heap.get?_push_size _ rfl, rfl, rfl⟩, hat.push _⟩ (by rw [← hl]; exact z) fun h' tk acc hkeep hacc => ?_
  have I3 := I2.kept (t' := tk) hkeep
  refine ⟨.ref h'.objs.size, upd H1 h'.objs.size (.tup (kvs.map (·.2))), I3.laid (t' := tk) (fun c o e => Heap.get?_push_of_some _ e) (Nat.le_refl _) (show ObjOk X.prog X.w _ _ _ (.tup (kvs.map (·.2))) from ⟨?_, acc.toList, ?_, ?_⟩), rfl, q _ (I3.hok.fresh (Nat.le_refl _))⟩
  · rw [List.length_map]; exact z
  · have el : acc.toList = vs.map (·.2) := PySem.W.kdl_vals_eq acc.toList (by rw [Array.length_toList]; exact hacc.1) fun j v e => hacc.2 j v (by rw [← Array.getElem?_toList]; exact e)
    rw [el]
    exact kv_vals rk
  · rw [Array.toArray_toList]; exact IsTup.new _ _
end
end TupD
/-! sorted(t) of a tuple of texts (fewer than 64) -/
namespace SortT
open PySem PySem.Spec PyProof.Rows L2
def rSortT (K : PySem.W.Frag) : List V → Hp → VK → Prop := fun xs H Q => ∃ (a : Addr) (zs : List Str), xs = [.ref a] ∧ SqT K H a (zs.map V.str) ∧ zs.length < 64 ∧ ∀ ys p, ys.Perm zs → sortedS ys = true → H p = none → Q (.ref p) (upd H p (.lst (ys.map V.str)))
theorem call_sortT {X : Cx} : CallR X (.builtin "sorted") (rSortT X.K) := by
  intro pins s σ H xs us Q I r h
  obtain ⟨a, zs, rfl, hs, h64, q⟩ := h
  obtain ⟨u, rfl, rx⟩ := vals1 r
  obtain rfl : u = Value.ref a := rx
  obtain ⟨its, rv, pl, hz⟩ := I.tuple hs
  have hS : StrsAre its zs := rv.strs
  have hal : its.length = zs.length := by
    have := rv.length
    rw [List.length_map] at this
    exact this.symm
  obtain ⟨⟨cls, dd, data, sl⟩, ho, hc, n, hd⟩ := id pl
  simp only at hc hd
  subst hc hd
  refine Calls.call_function_entry kind_sorted plain_sorted entry_sorted (args_sorted1 _) ?_
  unfold Builtin.«sorted»
  refine wpAny_bind (m := checkCount "sorted" 1 1 _) (wpAny_pure (wpAny_bind (wpAny_collect_seq (A := X.A.in1) a (.inr rfl) ho rfl rfl (fun h' hk => ?_) (by rw [List.size_toArray]; rw [← rv.length]; exact hz))))
  rw [List.toList_toArray]
  have I1 : Inv X pins σ H { s with heap := h' } := I.kept (t' := s.toks) hk
  refine wpAny_bind (wpAny_newList ?_ (by rw [hal, sizeLine_eq]; omega))
  have hoL : (h'.push (seqObj "list" its.toArray 0)).get? h'.objs.size = some (seqObj "list" its.toArray 0) := Heap.get?_push_size _ rfl
  show wpAny _ _ _ _ _ { s with heap := h'.push (seqObj "list" its.toArray 0) }
  refine wpAny_bind (wpAny_holding (wpAny_call_entry slot_list_sort ⟨_, hoL, rfl⟩ entry_list_sort
    (list_sort_treeK strKind_oneLt (s := { s with heap := h'.push (seqObj "list" its.toArray 0) }) hoL hS.keysOf (fun v₁ v₂ rest e => keyKind_strs (by rw [← e]; exact hS)) (by rw [hal]; exact h64) fun st' hp hs => ⟨_, rfl, ?_⟩) (args_list_sort _)))
  obtain ⟨ys, g1, g2, g3⟩ := sorted_out_str hS hp hs
  obtain ⟨e', he'⟩ := sortedHeap_at (vs := its) (out := (arrOf st').map (·.2)) hoL
  have hlen : (ys.map V.str).length ≤ sizeLine := by
    rw [List.length_map, g2.length_eq]
    exact Nat.le_trans (Nat.le_of_lt h64) (by decide)
  refine wpAny_pure ⟨_, rfl, .ref h'.objs.size, upd H h'.objs.size (.lst (ys.map V.str)), I1.laid (t' := s.toks) (fun b u e => ?_) (Nat.le_refl _) (show ObjOk X.prog X.w _ _ _ (.lst (ys.map V.str)) from ⟨hlen, ((arrOf st').map (·.2)).toList, e', vals_of_strs g1, by rw [Array.toArray_toList]; exact he'⟩), rfl, q ys _ g2 g3 (I1.hok.fresh (Nat.le_refl _))⟩
  have hb : b < h'.objs.size := Heap.lt_size e
  rw [sortedHeap_old (Nat.ne_of_lt hb) (by rw [size_push']; exact Nat.lt_succ_of_lt hb)]
  exact Heap.get?_push_of_some _ e
end SortT
namespace Sj
open PySem L2 Sup StK Own
open NdefX (NF NScope ncx envF startF nscope_by)
open C8 (pss_cut tCut)
/-! Frame's properties (k03, k05, ..) -/
theorem same_at {H : Hp} {a : Addr} {o : HO} (h : H a = none) : Same H (upd H a o) := fun b u e => by rw [upd_ne (ne_of_none e h)]; exact e
/-- a frame as data -/
structure FrD where
  ys : List LegR
  t : Int
  g : Bool
  r : Bool
structure FrIs (ks : Kinds) (CF : Addr) (H : Hp) (a : Addr) (d : FrD) : Prop where
  at_ : FrAt H a CF d.ys (.int d.t) (.bl d.g) (.bl d.r)
  ok : ∀ r ∈ d.ys, r.ok ks H
  nd : (names d.ys).Nodup
  le : d.ys.length ≤ 40
  so : PyProof.Rows.sortedS (names d.ys) = true
theorem FrIs.same {ks : Kinds} {CF : Addr} {H H' : Hp} {a : Addr} {d : FrD} (h : FrIs ks CF H a d) (s : Same H H') : FrIs ks CF H' a d := ⟨h.at_.same s, fun r hr => (h.ok r hr).same s, h.nd, h.le, h.so⟩
def strv (zs : List Str) : List V := zs.map V.str
/-- the names of the legs of the kind b -/
def kindZ (ks : Kinds) (b : Bool) (ys : List LegR) : List Str := names (ys.filter fun r => decide (r.C = ks.drv) == b)
def railsZ (g r : Bool) : List Str := (if g then [("ground" : Str)] else []) ++ if r then [("power" : Str)] else []
/-- a getter that makes a new tuple of texts -/
def spTup (ks : Kinds) (CF : Addr) (f : FrD → List Str) : Sp := fun vs H Q _ => ∃ a d, vs = [.ref a] ∧ FrIs ks CF H a d ∧ ∀ p H', H p = none → H' p = some (.tup (strv (f d))) → Same H H' → Q (.ref p) H'
def spLegs (ks : Kinds) (CF : Addr) : Sp := fun vs H Q _ => ∃ a d, vs = [.ref a] ∧ FrIs ks CF H a d ∧ ∀ p H', H p = none → H' p = some (.tup (refs d.ys)) → Same H H' → Q (.ref p) H'
structure FpT (P : Program) (w : World) (K : PySem.W.Frag) (mg : Str → Option Value) (base : Heap) (ks : Kinds) (CF : Addr) : Prop where
  cl : Cls K CF
  nL : NoAttr K CF "_legs"
  nG : NoAttr K CF "ground"
  nP : NoAttr K CF "power"
  tuple : mg "tuple" = none
  sorted : mg "sorted" = none
  dv : ∀ C, (C = ks.drv ∨ C = ks.lis) → PropN P w K mg base 1 C "drives" (spDr C (decide (C = ks.drv)))
def rTupQ (K : PySem.W.Frag) : List V → Hp → VK → Prop := fun xs H Q => ∃ p ys, xs = [.ref p] ∧ ((SqL K H p ys ∧ ∀ l, H l = none → Q (.ref l) (upd H l (.tup ys))) ∨ (SqT K H p ys ∧ Q (.ref p) H))
section
variable {P : Program} {w : World} {K : PySem.W.Frag} {mg : Str → Option Value} {base : Heap}
theorem scFp (i : Nat) (h : defScope (sFr i) = defScope (sFr 3)) : FnScope ["self"] ["self"] (defScope (sFr i)) := by
  rw [h]
  exact ⟨rfl, rfl, rfl, by decide +kernel, rfl, by decide +kernel, by decide +kernel⟩
theorem ok_flegs {f CF : Addr} {fd : FuncData} {ks : Kinds} (F : Fun K "legs" "Frame.legs" (sFr 3) f fd) (T : FpT P w K mg base ks CF) : FnOk P w K mg base CX0 1 f fd ["self"] (spLegs ks CF) := by
  refine F.ok (scFp 3 rfl) (fun vs H Q E h => ?_) (fun cdv A outer s H vs Q E hr h => ?_)
  · obtain ⟨a, d, rfl, _⟩ := h
    rfl
  · obtain ⟨a, d, rfl, hF, k⟩ := h
    obtain ⟨dx, D, ea, eD, _⟩ := hF.at_
    refine ⟨_, pss_one (ps_ret (TupD.pe_tup_vals rfl (by rfl) T.tuple (pe_fld (pv 0) rfl))), ?_⟩
    refine ⟨_, rfl, a, CF, dx, _, _, rfl, ea, T.cl, T.nL, frF_legs _ _ _ _, D, _, rfl, eD, fun q hq => k q _ hq ?_ (same_at hq)⟩
    rw [upd_same, List.map_map]
    rfl
theorem ok_fnames {f CF : Addr} {fd : FuncData} {ks : Kinds} (F : Fun K "names" "Frame.names" (sFr 4) f fd) (T : FpT P w K mg base ks CF) : FnOk P w K mg base CX0 1 f fd ["self"] (spTup ks CF fun d => names d.ys) := by
  refine F.ok (scFp 4 rfl) (fun vs H Q E h => ?_) (fun cdv A outer s H vs Q E hr h => ?_)
  · obtain ⟨a, d, rfl, _⟩ := h
    rfl
  · obtain ⟨a, d, rfl, hF, k⟩ := h
    obtain ⟨dx, D, ea, eD, _⟩ := hF.at_
    refine ⟨_, pss_one (ps_ret (pe_callTy (T := "tuple") (TupD.call_tup_dK rfl) (by rfl) T.tuple (by decide +kernel) (pa_cons (pe_fld (pv 0) rfl) pa_nil))), ?_⟩
    refine ⟨_, rfl, a, CF, dx, _, _, rfl, ea, T.cl, T.nL, frF_legs _ _ _ _, D, _, rfl, eD, fun q hq => k q _ hq ?_ (same_at hq)⟩
    rw [upd_same, List.map_map]
    show _ = some (HO.tup ((d.ys.map _).map _))
    rw [List.map_map]
    rfl
theorem kindZ_take {ks : Kinds} {b : Bool} {ys : List LegR} {i : Nat} (hi : i < ys.length) : kindZ ks b (ys.take (i + 1)) = kindZ ks b (ys.take i) ++ if (decide (ys[i].C = ks.drv) == b) = true then [ys[i].z] else [] := by
  unfold kindZ names
  rw [List.take_add_one, List.getElem?_eq_getElem hi, List.filter_append, List.map_append]
  congr 1
  show List.map _ (List.filter _ [ys[i]]) = _
  rw [List.filter_cons]
  by_cases e : (decide (ys[i].C = ks.drv) == b) = true
  · rw [if_pos e, if_pos e]
    rfl
  · rw [if_neg e, if_neg e]
    rfl
def tePl (ks : Kinds) : TE := tPropS (fun C => C = ks.drv ∨ C = ks.lis) (fun C => spDr C (decide (C = ks.drv))) (tVar 2)
def ttPl (ks : Kinds) (b : Bool) : TT := if b then tB (tePl ks) else tNot (tB (tePl ks))
theorem tePl_rd {ks : Kinds} {σ : L2.St} {H : Hp} {r : LegR} {Q : VK} (hv : σ[2]? = some (some (.ref r.a))) (hr : r.ok ks H) (k : Q (.bl (decide (r.C = ks.drv))) H) : tePl ks σ H Q := by
  obtain ⟨hc, dx, ea⟩ := id hr
  exact ⟨_, hv, r.a, r.C, dx, _, rfl, ea, hc, r.a, r.z, rfl, ⟨dx, ea⟩, k⟩
theorem ttPl_rd {ks : Kinds} {b : Bool} {σ : L2.St} {H : Hp} {r : LegR} {Q : Bool → Hp → Prop} (hv : σ[2]? = some (some (.ref r.a))) (hr : r.ok ks H) (k : Q (decide (r.C = ks.drv) == b) H) : ttPl ks b σ H Q := by
  unfold ttPl
  cases b with
  | true =>
    rw [if_pos rfl]
    refine tePl_rd hv hr ⟨_, rfl, ?_⟩
    rw [beq_true] at k
    exact k
  | false =>
    rw [if_neg Bool.false_ne_true]
    refine tePl_rd hv hr ⟨_, rfl, ?_⟩
    rw [beq_false] at k
    exact k
/-- [name for name, leg in self._legs.items() if .. leg.drives], the dict locked at HL -/
theorem kind_walk {ks : Kinds} {b : Bool} {ys : List LegR} {D Dn : Addr} {od : Obj} {HL : Hp} {σ : L2.St} {Qd : Hp → Prop} (hσ : σ.length = 3) (hD : HL D = some (.frz od (.dK (ys.map legRow)))) (hn : HL Dn = none) (hok : ∀ r ∈ ys, r.ok ks HL) (hl : ys.length ≤ 40)
    (hd : ∀ H', Same HL H' → H' Dn = some (.lst (strv (kindZ ks b ys))) → Qd H') :
    ∃ W : Nat → Nat → Hp → Prop, (∃ m, W 0 m (upd HL Dn (.lst []))) ∧ ∀ i m H, W i m H →
      ((Iti D od (ys.map legRow)).stop i H ∧ Qd H) ∨ ((Iti D od (ys.map legRow)).go i H ∧ ∃ Nx : Hp → Prop, (∀ H', Nx H' → ∃ m', m' < m ∧ W (i + 1) m' H') ∧ ∀ x H', (Iti D od (ys.map legRow)).yld i H x H' → gTup K 2 (gCons (gName 1) (gCons (gName 2) gNil)) x (wipe σ [1, 2]) H' fun σ2 H2 => wipe σ2 [1, 2] = wipe σ [1, 2] ∧ ttPl ks b σ2 H2 fun c H3 =>
        if c = true then tVar 1 σ2 H3 fun y H4 => ∃ acc, H4 Dn = some (.lst acc) ∧ acc.length < sizeLine ∧ Nx (upd H4 Dn (.lst (acc ++ [y]))) else Nx H3) := by
  match σ, hσ with
  | [u0, u1, u2], _ =>
  have hlm : (ys.map legRow).length = ys.length := List.length_map _
  refine lc_it (walk_items (d := D) (o := od) (kvs := ys.map legRow)) (fun i H' => Same HL H' ∧ H' Dn = some (.lst (strv (kindZ ks b (ys.take i))))) ⟨same_at hn, upd_same⟩ (fun i H' _ p => p.1 _ _ hD) ?_ ?_
  · rintro i x H1 H2 hi ⟨s1, d1⟩ ⟨Tp, kx, vx, rfl, hT, rfl, hk, hv⟩
    rw [hlm] at hi
    have e1 : (ys.map legRow)[i]? = some (legRow ys[i]) := by rw [List.getElem?_map, List.getElem?_eq_getElem hi]; rfl
    dsimp only at hk hv
    rw [e1] at hk hv
    obtain rfl : V.str ys[i].z = kx := Option.some.inj hk
    obtain rfl : V.ref ys[i].a = vx := Option.some.inj hv
    have s2 : Same HL (upd H1 Tp (.tup [.str ys[i].z, .ref ys[i].a])) := s1.trans (same_at hT)
    have d2 : upd H1 Tp (.tup [.str ys[i].z, .ref ys[i].a]) Dn = some (.lst (strv (kindZ ks b (ys.take i)))) := by rw [upd_ne (ne_of_none d1 hT)]; exact d1
    refine ⟨Tp, _, rfl, SqT.of upd_same, rfl, _, _, rfl, _, _, rfl, rfl, rfl, ?_⟩
    refine ttPl_rd rfl ((hok _ (List.getElem_mem hi)).same s2) ?_
    have et := kindZ_take (ks := ks) (b := b) hi
    by_cases e : (decide (ys[i].C = ks.drv) == b) = true
    · rw [if_pos e] at et ⊢
      refine ⟨_, rfl, _, d2, ?_, fun c o hc => ?_, ?_⟩
      · have q : (kindZ ks b (ys.take i)).length ≤ 40 := by
          unfold kindZ names
          rw [List.length_map]
          exact Nat.le_trans (List.length_filter_le _ _) (by rw [List.length_take]; omega)
        show (List.map V.str _).length < _
        rw [List.length_map]
        exact Nat.lt_of_le_of_lt q (by decide)
      · rw [upd_ne (ne_of_none hc hn)]
        exact s2 _ _ hc
      · rw [upd_same, et]
        show _ = some (HO.lst (List.map V.str _))
        rw [List.map_append]
        rfl
    · rw [if_neg e] at et ⊢
      rw [List.append_nil] at et
      exact ⟨s2, by rw [et]; exact d2⟩
  · rintro H1 ⟨s1, d1⟩
    rw [hlm, List.take_length] at d1
    exact hd H1 s1 d1
/-- behind the lock -/
theorem same_unlock {H H1 : Hp} {D : Addr} {od : Obj} {u : HO} (hD : H D = some u) (s : Same (upd H D (.frz od u)) H1) : Same H (upd H1 D u) := fun b o e => by
  by_cases z : b = D
  · rw [z] at e ⊢
    rw [upd_same, ← e, hD]
  · rw [upd_ne z]
    exact s _ _ (by rw [upd_ne z]; exact e)
theorem scFk (i : Nat) (h : defScope (sFr i) = defScope (sFr 5)) : FnScope ["self", "name", "leg"] ["self"] (defScope (sFr i)) := by
  rw [h]
  exact ⟨rfl, rfl, rfl, by decide +kernel, rfl, by decide +kernel, by decide +kernel⟩
theorem kind_rd {ks : Kinds} {CF : Addr} {b : Bool} {a : Addr} {d : FrD} {H : Hp} {Q : VK} (cl : Cls K CF) (nL : NoAttr K CF "_legs") (hF : FrIs ks CF H a d) (k : ∀ p H', H p = none → H' p = some (.tup (strv (kindZ ks b d.ys))) → Same H H' → Q (.ref p) H') :
    tLockE (tCB (rTupQ K) (tCons (tLc (iItems (tFld K (tVar 0) "_legs")) (gTup K 2 (gCons (gName 1) (gCons (gName 2) gNil))) (ttPl ks b) (tVar 1) [1, 2]) tNil)) (start ["self", "name", "leg"] [.ref a]) H Q := by
  obtain ⟨dx, D, ea, eD, hne⟩ := hF.at_
  refine ⟨D, _, eD, trivial, fun od => ?_⟩
  obtain ⟨HL, eL⟩ : ∃ HL, HL = upd H D (.frz od (.dK (d.ys.map legRow))) := ⟨_, rfl⟩
  rw [← eL]
  have hDL : HL D = some (.frz od (.dK (d.ys.map legRow))) := by rw [eL, upd_same]
  have haL : HL a = some (.ins CF dx (frF D (.int d.t) (.bl d.g) (.bl d.r))) := by rw [eL, upd_ne (Ne.symm hne)]; exact ea
  have hokL : ∀ r ∈ d.ys, r.ok ks HL := fun r hr => by
    obtain ⟨h1, dy, e⟩ := hF.ok r hr
    exact ⟨h1, dy, by rw [eL, upd_ne (ne_of e eD (by intro z; cases z))]; exact e⟩
  refine ⟨_, rfl, a, CF, dx, _, _, rfl, haL, cl, nL, frF_legs _ _ _ _, D, od, _, rfl, hDL, fun Dn hDn => ?_⟩
  refine kind_walk rfl hDL hDn hokL hF.le fun H1 s1 d1 => ⟨Dn, _, rfl, .inl ⟨SqL.of d1, fun p hp => ⟨?_, ?_⟩⟩⟩
  · rw [upd_ne (ne_of_none (s1 _ _ hDL) hp)]
    exact s1 _ _ hDL
  · have hpD : p ≠ D := fun z => by rw [z, s1 _ _ hDL] at hp; cases hp
    refine k p _ ?_ (by rw [upd_ne hpD, upd_same]) (same_unlock eD (by rw [← eL]; exact s1.trans (same_at hp)))
    cases q : H p with
    | none => rfl
    | some o =>
      have e1 : HL p = some o := by rw [eL, upd_ne hpD]; exact q
      rw [s1 _ _ e1] at hp
      cases hp
theorem ok_fdrv {f CF : Addr} {fd : FuncData} {ks : Kinds} (F : Fun K "drivers" "Frame.drivers" (sFr 5) f fd) (T : FpT P w K mg base ks CF) : FnOk P w K mg base CX0 3 f fd ["self"] (spTup ks CF fun d => kindZ ks true d.ys) := by
  refine F.ok (scFk 5 rfl) (fun vs H Q E h => ?_) (fun cdv A outer s H vs Q E hr h => ?_)
  · obtain ⟨a, d, rfl, _⟩ := h
    rfl
  · obtain ⟨a, d, rfl, hF, k⟩ := h
    refine ⟨_, pss_one (ps_ret (pe_lock (pe_callTy (T := "tuple") call_tuple_of (by rfl) T.tuple (by decide +kernel) (pa_cons (pe_lc (te := tVar 1) (tt := ttPl ks true) (own := [("name", 1), ("leg", 2)]) (g := gTup K 2 (gCons (gName 1) (gCons (gName 2) gNil))) rfl (scFk 5 rfl).nd (pi_items (pe_fld (pv 0) rfl))
      (blkOk_by (N := ["self", "name", "leg"]) (sc := defScope (sFr 5)) (by decide +kernel)) (fun _ _ _ _ _ => pg_tup rfl (pgs_cons (pg_name (i := 1) (scFk 5 rfl).nd rfl (Or.inl rfl)) (pgs_cons (pg_name (i := 2) (scFk 5 rfl).nd rfl (Or.inl rfl)) pgs_nil)))
      (fun _ _ _ _ _ => pts_one (pt_val (pe_propS (pv 2) T.dv hr))) (fun _ _ _ _ _ => pv 1)) pa_nil)))), ?_⟩
    exact kind_rd T.cl T.nL hF k
end
end Sj
/-! Own exceptions over any built-in base, made and kept as values. -/
namespace Exg
open PySem PySem.Spec PyProof.Rows L2 Sup
open NdefX (NF NScope ncx envF startF CellsAt inv_startN)
/-- a built-in base -/
structure BaseE (B newId initId : String) (tl : List Value) : Prop where
  F : ExcBaseFacts B newId initId tl
  SF : StoreFacts B tl "object.__setattr__" "object"
  KF : PySem.W.KxsFacts B initId
abbrev tlV : List Value := [.type "ValueError", .type "Exception", .type "BaseException", .type "object"]
abbrev tlL : List Value := [.type "LookupError", .type "Exception", .type "BaseException", .type "object"]
abbrev tlO : List Value := [.type "OverflowError", .type "ArithmeticError", .type "Exception", .type "BaseException", .type "object"]
theorem bV : BaseE "ValueError" "ValueError.__new__" "ValueError.__init__" tlV := ⟨PySem.F.excBase_ValueError, PySem.F.store_ValueError, PySem.W.kxs_ValueError⟩
theorem bL : BaseE "LookupError" "LookupError.__new__" "LookupError.__init__" tlL := ⟨PySem.F.excBase_LookupError, PySem.F.store_LookupError, PySem.W.kxs_LookupError⟩
theorem bO : BaseE "OverflowError" "OverflowError.__new__" "OverflowError.__init__" tlO := ⟨PySem.F.excBase_OverflowError, PySem.F.store_OverflowError, PySem.W.kxs_OverflowError⟩
/-- what the text says of the class at C -/
structure Oex (K : PySem.W.Frag) (C : Addr) (B newId : String) (tl : List Value) : Prop where
  ini : PySem.W.excInitIn K C tl newId = true
  ov : PySem.W.excOver K C tl = true
  sa : PySem.W.findIn K (.ref C) "__setattr__" = some (some (.builtin "object.__setattr__"))
  exC : PySem.W.subIn K (.ref C) (.type "BaseException") = some true
  tyC : PySem.W.typeIn K (.ref C) = some (.type "type")
  kC : PySem.W.keepIn K (.ref C) = true
  hd : PySem.W.hasDictIn K C = true
  sB : PySem.W.subIn K (.ref C) (.type B) = some true
theorem upd_twice {H : Hp} {a : Addr} {o u : HO} : upd (upd H a o) a u = upd H a u := by
  funext b
  by_cases z : b = a
  · rw [z, upd_same, upd_same]
  · rw [upd_ne z, upd_ne z, upd_ne z]
theorem upd_swap {H : Hp} {a b : Addr} {o u : HO} (n : a ≠ b) : upd (upd H a o) b u = upd (upd H b u) a o := by
  funext c
  by_cases z : c = b
  · rw [z, upd_same, upd_ne n.symm, upd_same]
  · by_cases y : c = a
    · rw [y, upd_ne n, upd_same, upd_same]
    · rw [upd_ne z, upd_ne y, upd_ne y, upd_ne z]
section
variable {B newId initId : String} {tl : List Value} {X : Cx} {pins : List (Addr × Obj)} {σ : L2.St} {H : Hp} {s : Shared} {a C dx : Addr} {f : Str} {y : V} {u : Value} {fs : List (Str × V)} {Q : Unit → Shared → Prop} {E : Value → Shared → Prop} {A : Around}
/-- self.f = y, the dict is there -/
theorem put_old (b : BaseE B newId initId tl) (T : Oex X.K C B newId tl) (I : Inv X pins σ H s) (e : H a = some (exo a C (some dx))) (ed : H dx = some (exd dx fs)) (hl : fs.length ≤ 900)
    (hno : PySem.W.findIn X.K (.ref C) f = some none) (ry : RelV y u) (h : ∀ s', Inv X pins σ (upd H dx (exd dx ((f, y) :: fs))) s' → Q () s') : wpAny (model X.prog X.w) A (setAttr (.ref a) f u) Q E s := by
  obtain ⟨t1, ho⟩ := exo_at I.hok e
  obtain ⟨mA, hns, rel⟩ := exd_at I.hok ed
  have hw := within_of rel
  have KX := I.kIn
  obtain ⟨cd, hc, hd'⟩ := PySem.W.any_some T.hd
  obtain ⟨hp, g, d, t, os⟩ := s
  obtain ⟨oD, _, _, hoD, _, _⟩ := hns.count hw
  have at_ : PySem.W.InstAt hp a { cls := .ref C, dict := some dx, data := .fields #[.ref t1, .none, .none, .none, .bool false, .none] } C (some oD) := ⟨ho, rfl, rfl, hoD⟩
  refine PySem.W.set_plain KX at_ T.sa (PySem.W.osa_openX (r := none) b.SF KX at_ T.ov (NoAttr.taker hno) fun b0 => ?_)
  refine wpAny_bind (wpAny_pure (wpAny_bind (wpAny_bind (wpAny_loadPart ho (wpAny_bind ((PySem.W.looks_clsIn KX hc).at ?_))))))
  rw [hd']
  refine wpAny_pure (a := some dx) (PySem.OEX.store_in_old hns hw (by rw [List.length_map]; exact Nat.le_trans hl (by decide)) fun h' tk' hn hs => ?_)
  refine h _ (I.write (t' := tk') (x := dx) (e := dx) (o := exd dx ((f, y) :: fs)) (by rw [ed]; trivial) (.inl rfl) (fun c o hb ho => (hs.2 c hb).trans ho) ?_ (exd_ok hn (relO_put ry rel)))
  obtain ⟨o, _, _, e', _⟩ := hn
  exact ⟨o, e'⟩
/-- .., the first one -/
theorem put_new (b : BaseE B newId initId tl) (T : Oex X.K C B newId tl) (I : Inv X pins σ H s) (e : H a = some (exo a C none)) (hno : PySem.W.findIn X.K (.ref C) f = some none) (ry : RelV y u)
    (h : ∀ dx s', H dx = none → dx ≠ a → Inv X pins σ (upd (upd H dx (exd dx [(f, y)])) a (exo a C (some dx))) s' → Q () s') : wpAny (model X.prog X.w) A (setAttr (.ref a) f u) Q E s := by
  obtain ⟨t1, ho⟩ := exo_at I.hok e
  have KX := I.kIn
  obtain ⟨cd, hc, hd'⟩ := PySem.W.any_some T.hd
  obtain ⟨hp, g, d, t, os⟩ := s
  have at_ : PySem.W.InstAt hp a { cls := .ref C, dict := none, data := .fields #[.ref t1, .none, .none, .none, .bool false, .none] } C none := ⟨ho, rfl, rfl, trivial⟩
  refine PySem.W.set_plain KX at_ T.sa (PySem.W.osa_openX (r := none) b.SF KX at_ T.ov (NoAttr.taker hno) fun b0 => ?_)
  refine wpAny_bind (wpAny_pure (wpAny_bind (PySem.W.instanceDict_exc (s := ⟨hp, g, d, t + 1, os⟩) ho (PySem.W.looks_clsIn KX hc) hd' ?_)))
  have hdn : H hp.objs.size = none := I.hok.fresh (Nat.le_refl _)
  have nda : hp.objs.size ≠ a := (Nat.ne_of_lt (Heap.lt_size ho)).symm
  have e0 : Heap.Ns1 (hp.push (PySem.W.dictOf [] 0)) hp.objs.size (fun _ => none) := Heap.Ns1.of_empty ⟨_, #[], _, Heap.get?_push_at rfl rfl, rfl, fun e he => absurd he (by simp), fun _ => rfl⟩
  have I1 : Inv X pins σ (upd H hp.objs.size (exd hp.objs.size [])) ⟨hp.push (PySem.W.dictOf [] 0), g, d, t + 1, os⟩ :=
    I.laid (t' := t + 1) (fun c o ho => Heap.get?_push_of_some _ ho) (Nat.le_refl _) (exd_ok e0 fun g => trivial)
  have ha1 : (hp.push (PySem.W.dictOf [] 0)).get? a = some { cls := .ref C, dict := none, data := .fields #[.ref t1, .none, .none, .none, .bool false, .none] } := Heap.get?_push_of_some _ ho
  have ha2 : ((hp.push (PySem.W.dictOf [] 0)).update a fun o => { o with dict := some hp.objs.size }).get? a = some { cls := .ref C, dict := some hp.objs.size, data := .fields #[.ref t1, .none, .none, .none, .bool false, .none] } := Heap.get?_update_self _ ha1 rfl
  have I2 := I1.write (t' := t + 1) (x := a) (e := a) (o := exo a C (some hp.objs.size)) (h' := (hp.push (PySem.W.dictOf [] 0)).update a fun o => { o with dict := some hp.objs.size })
    (by rw [upd_ne nda.symm, e]; trivial) (.inl rfl) (fun c o hb ho => (Heap.get?_update_ne _ _ _ _ hb).trans ho) ⟨_, ha2⟩ (exo_ok ha2)
  have ed2 : upd (upd H hp.objs.size (exd hp.objs.size [])) a (exo a C (some hp.objs.size)) hp.objs.size = some (exd hp.objs.size []) := by rw [upd_ne nda, upd_same]
  obtain ⟨mA, hns, rel⟩ := exd_at I2.hok ed2
  show wpAny _ _ (Builtin.ObjectAttr.storeInDict hp.objs.size (.str f t) f u) _ _ _
  refine PySem.OEX.store_in_old hns (within_of rel) (by decide) fun h' tk' hn hs => ?_
  have I3 := I2.write (t' := tk') (x := hp.objs.size) (e := hp.objs.size) (o := exd hp.objs.size [(f, y)]) (h' := h') (by rw [ed2]; trivial) (.inl rfl) (fun c o hb ho => (hs.2 c hb).trans ho)
    (by obtain ⟨o, _, _, e', _⟩ := hn; exact ⟨o, e'⟩) (exd_ok hn (relO_put ry rel))
  refine h hp.objs.size _ hdn nda ?_
  rw [upd_swap nda.symm, upd_twice] at I3
  exact I3
end
/-- self.f = e -/
def tPut (K : PySem.W.Frag) (B newId : String) (tl : List Value) (f : Str) (to te : TE) : TS := fun D σ H => te σ H fun y H1 => to σ H1 fun x H2 => ∃ a C : Addr, x = .ref a ∧ Oex K C B newId tl ∧ PySem.W.findIn K (.ref C) f = some none ∧
  ((H2 a = some (exo a C none) ∧ ∀ dx, H2 dx = none → dx ≠ a → D.nx σ (upd (upd H2 dx (exd dx [(f, y)])) a (exo a C (some dx)))) ∨
    ∃ (dx : Addr) (fs : List (Str × V)), H2 a = some (exo a C (some dx)) ∧ H2 dx = some (exd dx fs) ∧ fs.length ≤ 900 ∧ D.nx σ (upd H2 dx (exd dx ((f, y) :: fs))))
section
variable {B newId initId : String} {tl : List Value} {X : Cx} {body : List Stmt} {f0 c cc D : Addr} {me : Str} {pins : List (Addr × Obj)} {s : Shared} {σ : L2.St} {H : Hp}
theorem ps_put {o e : Expr} {to te : TE} {f : Str} {p' pos : Pos} (b : BaseE B newId initId tl) (ho : PE X o to) (he : PE X e te) (hs : swapsWith e (some (.Attribute o f p')) pos.line X.env = pure false := by rfl) :
    PS X (.Assign [.Attribute o f p'] e pos) (tPut X.K B newId tl f to te) := by
  refine ⟨fun pins s σ H D I h => plainObj_wpAny_Assign_Attribute (thn (he.run pins s σ H _ I h) ?_) hs⟩
  rintro v s1 ⟨y, H1, I1, r1, q1⟩
  refine thn (ho.run pins s1 σ H1 _ I1 q1) ?_
  rintro u s2 ⟨x, H2, I2, r2, a, C, rfl, T, hno, q⟩
  cases r2
  rcases q with ⟨ea, q⟩ | ⟨dx, fs, ea, ed, hl, q⟩
  · exact put_new b T I2 ea hno r1 fun dx s' n ne J => ⟨σ, _, J, q dx n ne⟩
  · exact put_old b T I2 ea ed hl hno r1 fun s' J => ⟨σ, _, J, q⟩
/-- super().__init__ of the built-in base, bound -/
theorem sup_meth {pl : Sem Bool} {x C so : Addr} {Q : Value × List Value → Shared → Prop} (b : BaseE B newId initId tl) (T : Oex X.K C B newId tl) (I : Inv X pins σ H s) (hso : s.heap.get? so = some (PySem.W.ks_superObj D x C))
    (hx : H x = some (exo x C none)) (third : PySem.W.nsIn X.K cStatics "thirdparty.any" = some none)
    (hm : PySem.W.ks_superIn X.K C D "__init__" = some (some (.builtin initId))) (hne : (Value.builtin initId == .builtin "super.__init__") = false ∨ True)
    (h : ∀ q s', q = s.heap.objs.size → s'.heap.get? q = some (PySem.W.kxs_mw initId x) → Inv X pins σ H s' → Q (.ref q, []) s') :
    wpAny (model X.prog X.w) X.A (getMethod (.ref so) "__init__" pl) Q X.xe s := by
  have KX := I.kIn
  obtain ⟨t1, ho⟩ := exo_at I.hok hx
  have hI : PySem.W.Looks (model X.prog X.w) s.heap (isInstance (.ref x) (.type B)) true :=
    (PySem.W.InstAt.type (ox := { cls := .ref C, dict := none, data := .fields #[.ref t1, .none, .none, .none, .bool false, .none] }) (od := none) ⟨ho, rfl, rfl, trivial⟩).andThen (PySem.W.looks_subIn KX T.sB)
  obtain ⟨cd, hc, _⟩ := PySem.W.any_some T.hd
  obtain ⟨hh, g, d, tk, os⟩ := s
  unfold PySem.W.ks_superIn at hm
  rw [hc] at hm
  have hxC : x ≠ C := by
    rintro rfl
    unfold PySem.W.clsIn at hc
    split at hc
    · rename_i c d cd' sl hoc
      have e := KX _ _ hoc
      rw [ho] at e
      cases e
    · cases hc
  refine PySem.W.kxs_getMethod b.KF hso (PySem.W.looks_opaque KX third) (l₀ := cd.mro) ?_ rfl KX hm hI hxC (by decide) ?_
  · exact fun A Q E s k q => wpAny_bind ((PySem.W.looks_clsIn KX hc) A _ E s k (wpAny_pure q))
  · exact h _ _ rfl (Heap.get?_push_at rfl rfl) (I.kept (t' := tk + 1) fun b o e => Heap.get?_push_of_some _ e)
theorem sup_call {u a C : Addr} {us : List Value} {Q : Value → Shared → Prop} (b : BaseE B newId initId tl) (T : Oex X.K C B newId tl) (I : Inv X pins σ H s) (hu : s.heap.get? u = some (PySem.W.kxs_mw initId a)) (e : H a = some (exo a C none)) (hl : us.length ≤ sizeLine)
    (h : ∀ s', Inv X pins σ H s' → Q .none s') : wpAny (model X.prog X.w) X.A (call (.ref u) us) Q X.xe s := by
  obtain ⟨nm, N, q, bs, bm, hdct, sn, sub, ab, col, dd, k0, k1, k2, k3, k5, hCs, hbm⟩ := PySem.W.excInit_of I.kIn T.ini
  obtain ⟨t1, ho⟩ := exo_at I.hok e
  obtain ⟨hh, g, d, tk, os⟩ := s
  refine wpAny_call (codeAny_of_tree ?_)
  show wpAny _ X.A.in1 (callAny (.ref u) ⟨us, []⟩) _ _ _
  simp only [callAny]
  refine wpAny_bind (wpAny_load hu ?_)
  simp only [PySem.W.kxs_mw, show (Value.type "method-wrapper" == Value.type "method" || Value.type "method-wrapper" == Value.type "builtin_function_or_method" || Value.type "method-wrapper" == Value.type "method-wrapper") = true by decide, if_true]
  refine PySem.W.KFB.if_so (by decide) ?_
  refine wpAny_bind (PySem.W.check_bound_init b.F.toExcCallFacts hCs ho rfl ?_)
  refine wpAny_bind (wpAny_pure (wpAny_pure ?_))
  refine ⟨plainId_quiet b.F.init.plain _, codeAny_builtin b.F.initEntry ?_⟩
  refine PySem.W.exc_init_tree (cls := .ref C) (t0 := t1) (dv := none) (c2 := .none) (c3 := .none) (b4 := .bool false) ho hl fun h' k e' t' => ?_
  have J := I.write (t' := tk) (x := a) (e := a) (o := exo a C none) (by rw [e]; trivial) (.inl rfl) k ⟨_, e'⟩ (exo_ok e')
  have eu : upd H a (exo a C none) = H := by
    funext z
    by_cases hz : z = a
    · rw [hz, upd_same, e]
    · rw [upd_ne hz]
  exact h _ (eu ▸ J)
/-- super().__init__(e, ..), then the rest -/
theorem sup_exc {x C : Addr} {e : Expr} {es : List Expr} {t : TA} {rest : List Stmt} {u : TS} {D' : Ends} {p0 p1 p2 p3 p4 : Pos}
    (b : BaseE B newId initId tl) (a : AtS X body f0 c cc D me) (T : SupT X.prog X.K X.mg D) (TC : Oex X.K C B newId tl)
    (hN : X.N[0]? = some me) (hm : PySem.W.ks_superIn X.K C D "__init__" = some (some (.builtin initId)))
    (hsub : PySem.W.mroIn X.K C (.ref D) = some true) (ha : PA X (e :: es) t) (hrest : PSs X rest u)
    (I : Inv X pins σ H s) (hσ : σ[0]? = some (some (.ref x))) (hx : H x = some (exo x C none))
    (hq : t σ H fun vs H1 => vs.length ≤ 1000 ∧ H1 x = some (exo x C none) ∧ u D' σ H1)
    (hi : interactive X.env = false) (hs : swapsWith (.Call (.Attribute (.Call (.Name "super" p0) [] [] p1) "__init__" p2) (e :: es) [] p3) none p4.line X.env = pure false)
    (he : eval (.Call (.Attribute (.Call (.Name "super" p0) [] [] p1) "__init__" p2) (e :: es) [] p3) X.env = (do
      let ov ← attributeBase (.Call (.Name "super" p0) [] [] p1) "__init__" X.env (eval (.Call (.Name "super" p0) [] [] p1) X.env)
      standAt p2.atName
      let (f, first) ← holding [ov] (getMethod ov "__init__" (pure false))
      callWith p3 f first (backTo p3 (starEach (e :: es) X.env)) []))
    (hst : starEach (e :: es) X.env = (false, eval e X.env) :: starEach es X.env) (hpl : (backTo p3 (starEach es X.env)).any (·.1) = false) :
    PySem.wpAt (model X.prog X.w) X.A (.func body X.env) (execs (.Expr (.Call (.Attribute (.Call (.Name "super" p0) [] [] p1) "__init__" p2) (e :: es) [] p3) p4 :: rest) X.env) (SP X pins D') X.xe s := by
  obtain ⟨ox, ho, hc, hnc⟩ := exo_obj I hx
  refine ks_wpAt_execs_cons (ks_wpAt_Expr_any (ks_wpAt_MethodCall (pl := pure false) (super_base a T I hN hσ ho hc hnc hsub (by decide) fun so h' eso hso kp I1 => ?_) he) hi hs)
  refine sup_meth (x := x) (C := C) (D := D) b TC I1 hso hx T.third hm (.inr trivial) fun q s2 eq hq2 I2 => ?_
  have hqn : H q = none := by rw [eq]; exact I1.hok.fresh (Nat.le_refl _)
  have hq0 : X.s_0.heap.objs.size ≤ q := by rw [eq]; exact I1.sz
  have hqL : q ≠ X.env.locals := by rw [eq]; exact (Nat.ne_of_lt I1.lt).symm
  have hqf : q ∉ X.fs := by rw [eq]; exact I1.nofs (Nat.le_refl _)
  have J : Inv X (pins ++ [(q, PySem.W.kxs_mw initId x)]) σ H s2 := I2.pins_of fun p hp => by
    rcases List.mem_append.mp hp with hp | hp
    · exact I2.pin p (List.mem_append_right _ hp)
    · obtain rfl := List.mem_singleton.mp hp
      exact ⟨hq2, hqn, hqL, hqf, fun v hv => by cases hv⟩
  refine PySem.W.kxs_callWith1 (h₀ := X.base) (L := X.env.locals) (news := [(q, PySem.W.kxs_mw initId x)]) (i := initId) (x := x) ?_ (List.mem_singleton.mpr rfl) ?_ hst hpl
  · intro p hp
    obtain rfl := List.mem_singleton.mp hp
    exact ⟨hq2, hqL, Heap.get?_none_of_le (Nat.le_trans I.ok.bsz hq0)⟩
  refine thn (ha.run p3 _ s2 σ H _ J hq) fun us s3 ⟨vs, H3, I3, r, hl, hx3, q3⟩ => ?_
  have hq3 : s3.heap.get? q = some (PySem.W.kxs_mw initId x) := (I3.pin _ (List.mem_append_right _ (List.mem_append_right _ (List.mem_singleton.mpr rfl)))).1
  have I4 : Inv X pins σ H3 s3 := I3.pins_of fun p hp => I3.pin p (List.mem_append_right _ (List.mem_append_left _ hp))
  refine ⟨hq3, ?_⟩
  exact sup_call b TC I4 hq3 hx3 (by rw [← r.length]; exact Nat.le_trans hl (by decide)) fun s' I5 => wpAt_of_wpAny (hrest.run pins s' σ H3 D' I5 q3)
end
end Exg
namespace Exg
open PySem PySem.Spec PyProof.Rows L2 Sup Grd
theorem guards_make {A : Around} (h : A.guards = some []) (C : Addr) (us : List Value) (kw : List (Str × Value)) : (A.under (.builtin "type.__call__" ⟨.ref C :: us, kw⟩)).guards = some [] := by
  simp [Around.under, pushGuards, Code.guards, Code.isGuard, guardIds, h]
end Exg
/-! C(name = e): an own exception, made by keywords. -/
namespace Exg
open PySem PySem.Spec PyProof.Rows L2 Sup Grd
end Exg
namespace Exg
open PySem PySem.Spec PyProof.Rows L2 Sup Grd
/-! ### what is kept: its fields, its classes -/
end Exg
/-! repr of data with an empty dict in it, where nothing is being shown. -/
namespace Shw
open PySem PySem.Spec PyProof.Rows L2
mutual
/-- data; its lists are none of the interpreter's own -/
inductive Dq (K : PySem.W.Frag) (H : Hp) : V → PyData → Prop
  | non : Dq K H .non .none
  | bl (b : Bool) : Dq K H (.bl b) (.bool b)
  | int (i : Int) : Dq K H (.int i) (.int i)
  | str (x : Str) : Dq K H (.str x) (.str x)
  | lst {a : Addr} {xs : List V} {ds : List PyData} (n : sysModules ≠ a) (h : SqL K H a xs) (r : DqAll K H xs ds) : Dq K H (.ref a) (.list ds)
  | tup {a : Addr} {xs : List V} {ds : List PyData} (h : SqT K H a xs) (r : DqAll K H xs ds) : Dq K H (.ref a) (.tuple ds)
  | dic {a : Addr} (h : Rd H a (.dK [])) : Dq K H (.ref a) (.dict [])
inductive DqAll (K : PySem.W.Frag) (H : Hp) : List V → List PyData → Prop
  | nil : DqAll K H [] []
  | cons {v : V} {vs : List V} {d : PyData} {ds : List PyData} (h : Dq K H v d) (r : DqAll K H vs ds) : DqAll K H (v :: vs) (d :: ds)
end
theorem DqAll.append {K : PySem.W.Frag} {H : Hp} {xs ys : List V} {ds es : List PyData} (h : DqAll K H xs ds) (g : DqAll K H ys es) : DqAll K H (xs ++ ys) (ds ++ es) := by
  induction ds generalizing xs with
  | nil => cases h; exact g
  | cons d ds ih => cases h with | cons a b => exact .cons a (ih b)
theorem rd_same {H H' : Hp} {a : Addr} {u : HO} (s : ∀ b o, H b = some o → H' b = some o) (h : Rd H a u) : Rd H' a u := h.imp (s _ _) fun ⟨o, e⟩ => ⟨o, s _ _ e⟩
mutual
theorem Dq.same {K : PySem.W.Frag} {H H' : Hp} (s : ∀ b o, H b = some o → H' b = some o) : ∀ (d : PyData) (v : V), Dq K H v d → Dq K H' v d
  | .none, _, h => by cases h; exact .non
  | .bool _, _, h => by cases h; exact .bl _
  | .int _, _, h => by cases h; exact .int _
  | .str _, _, h => by cases h; exact .str _
  | .list ds, _, h => by
    cases h with
    | lst n q r => exact .lst n (q.imp (rd_same s) id) (Dq.sameAll s ds _ r)
  | .tuple ds, _, h => by
    cases h with
    | tup q r => exact .tup (q.imp (rd_same s) id) (Dq.sameAll s ds _ r)
  | .dict _, _, h => by
    cases h with
    | dic q => exact .dic (rd_same s q)
theorem Dq.sameAll {K : PySem.W.Frag} {H H' : Hp} (s : ∀ b o, H b = some o → H' b = some o) : ∀ (ds : List PyData) (vs : List V), DqAll K H vs ds → DqAll K H' vs ds
  | [], _, h => by cases h; exact .nil
  | d :: ds, _, h => by
    cases h with
    | cons a b => exact .cons (Dq.same s d _ a) (Dq.sameAll s ds _ b)
end
section
variable {X : Cx} {pins : List (Addr × Obj)} {σ : L2.St} {H : Hp} {s : Shared}
mutual
theorem Dq.reads (I : Inv X pins σ H s) : ∀ (d : PyData) (v : V) (u : Value), Dq X.K H v d → RelV v u → ∃ as, Reads s.heap u d as ∧ sysModules ∉ as
  | .none, _, _, h, r => by
    cases h; cases r
    exact ⟨[], .none, List.not_mem_nil⟩
  | .bool b, _, _, h, r => by
    cases h; cases r
    exact ⟨[], .bool b, List.not_mem_nil⟩
  | .int i, _, _, h, r => by
    cases h
    obtain ⟨t, rfl⟩ := r
    exact ⟨[], .int i t, List.not_mem_nil⟩
  | .str x, _, _, h, r => by
    cases h
    obtain ⟨t, rfl⟩ := r
    exact ⟨[], .str x t, List.not_mem_nil⟩
  | .list ds, _, _, h, r => by
    cases h with
    | lst n hs ha =>
      cases r
      obtain ⟨its, rv, ⟨o, k, ho, hc, _, hd⟩, _⟩ := I.list hs
      obtain ⟨as, hr, hn⟩ := Dq.readsAll I ds _ its ha rv
      exact ⟨_, .list ho hc hd hr, fun z => (List.mem_cons.mp z).elim n hn⟩
  | .tuple ds, _, _, h, r => by
    cases h with
    | tup hs ha =>
      cases r
      obtain ⟨its, rv, ⟨o, ho, hc, k, hd⟩, _⟩ := I.tuple hs
      obtain ⟨as, hr, hn⟩ := Dq.readsAll I ds _ its ha rv
      exact ⟨_, .tuple ho hc hd hr, hn⟩
  | .dict _, _, _, h, r => by
    cases h with
    | dic hs =>
      cases r
      obtain ⟨_, hsm, vs, kv, o, es, ep, ho, hx, hd, hk, hp, _⟩ := dk_rd I.hok hs
      cases kv
      have e0 : es.toList = [] := by
        generalize es.toList = l at hp
        cases hp
        rfl
      refine ⟨_, .dict (as := []) (bs := []) ho hx.1 hd (by rw [e0]; exact .nil) (by rw [e0]; exact .nil), ?_⟩
      intro z
      rw [List.append_nil] at z
      rw [List.mem_singleton.mp z] at hsm
      exact absurd hsm (by simp)
theorem Dq.readsAll (I : Inv X pins σ H s) : ∀ (ds : List PyData) (vs : List V) (us : List Value), DqAll X.K H vs ds → Vals vs us → ∃ as, ReadsAll s.heap us ds as ∧ sysModules ∉ as
  | [], _, _, h, r => by
    cases h; cases r
    exact ⟨[], .nil, List.not_mem_nil⟩
  | d :: ds, _, _, h, r => by
    cases h with
    | cons h1 h2 =>
      cases r with
      | cons r1 r2 =>
        obtain ⟨as, q1, n1⟩ := Dq.reads I d _ _ h1 r1
        obtain ⟨bs, q2, n2⟩ := Dq.readsAll I ds _ _ h2 r2
        exact ⟨_, .cons q1 q2, fun z => (List.mem_append.mp z).elim n1 n2⟩
end
end
section
variable {X : Cx}
/-- what may be shown -/
structure Fit (d : PyData) : Prop where
  sh : PyData.showable d = true
  dp : d.depth ≤ 60
  sz : d.shown.length ≤ sizeLine
/-- {x!r} -/
def tShowR (K : PySem.W.Frag) (te : TE) : TE := fun σ H Q => te σ H fun x H1 => ∃ d, Dq K H1 x d ∧ Fit d ∧ Q (.str d.shown) H1
theorem pe_showR {e : Expr} {te : TE} {pos : Pos} (hg : X.A.guards = some []) (hu : X.A.units + 64 < cLine) (he : PE X e te) : PE X (.FormattedValue e 114 none pos) (tShowR X.K te) := by
  refine ⟨fun pins s σ H Q I h => wpAny_FormattedValue_repr (thn (he.run pins s σ H _ I h) ?_)⟩
  rintro v s1 ⟨x, H1, I1, r1, d, hd, ft, q⟩
  obtain ⟨as, rd, na⟩ := Dq.reads I1 d x v hd r1
  have fin : ∀ (h' : Heap) (u : Tok) (tk : Nat), (∀ b o, s1.heap.get? b = some o → h'.get? b = some o) → wpAny (model X.prog X.w) X.A (formatField (.str d.shown u) Str.empty) (EP X pins σ Q) X.xe { s1 with heap := h', toks := tk } :=
    fun h' u tk hk => wpAny_formatField_str ⟨.str _, H1, I1.kept (t' := tk) hk, ⟨_, rfl⟩, q⟩ ⟨.str _, H1, (I1.kept (t' := tk) hk).tok _, ⟨_, rfl⟩, q⟩ ft.sz
  cases hd with
  | non => cases r1; exact pyReprObj_none (fin _ _ _ fun _ _ e => e)
  | bl b => cases r1; exact pyReprObj_bool (fin _ _ _ fun _ _ e => e)
  | int i => obtain ⟨t, rfl⟩ := r1; exact pyReprObj_int (of_decide_eq_true ft.sh) (fin _ _ _ fun _ _ e => e)
  | str y => obtain ⟨t, rfl⟩ := r1; exact pyReprObj_str (fin _ _ _ fun _ _ e => e) ft.sz
  | lst n q1 q2 => cases r1; exact pyReprObj_of_reads rd ft.sh (fun _ => na) hg (by have := ft.dp; omega) (fun _ _ e => e) (fun h' u tk hk => fin h' u tk hk) ft.sz
  | tup q1 q2 => cases r1; exact pyReprObj_of_reads rd ft.sh (fun _ => na) hg (by have := ft.dp; omega) (fun _ _ e => e) (fun h' u tk hk => fin h' u tk hk) ft.sz
  | dic q1 => cases r1; exact pyReprObj_of_reads rd ft.sh (fun _ => na) hg (by have := ft.dp; omega) (fun _ _ e => e) (fun h' u tk hk => fin h' u tk hk) ft.sz
/-- new lists -/
theorem big {pins : List (Addr × Obj)} {σ : L2.St} {H : Hp} {s : Shared} (I : Inv X pins σ H s) : sysModules ≠ s.heap.objs.size := Nat.ne_of_lt (StX.env0_big I.env0)
end
end Shw
namespace Exg
open PySem PySem.Spec PyProof.Rows L2 Sup Grd Shw
open NdefX (NF NScope ncx envF startF CellsAt inv_startN nscope_by)
section
variable {P : Program} {w : World} {K : PySem.W.Frag} {mg : Str → Option Value} {base : Heap} {CX : CXT} {x qual : Str} {st : Stmt} {f c cc D : Addr} {fd : FuncData} {N ps : List Str} {k : Nat} {sp : Sp}
theorem fn_superG (F : FunS P K x qual st f fd c cc D) (S : NScope N ps ["__class__"] (defScope st)) (len : ∀ vs H Q E, sp vs H Q E → vs.length = ps.length)
    (hbody : ∀ (A : Around) (outer : List Env) (s : Shared) (H : Hp) (vs : List V) (Q : VK) (E : XK), A.guards = some [] → Room k (A.deeper (envF (nf x qual st c cc) f s.heap.objs.size)) → sp vs H Q E → ∀ s1,
      Inv (ncx CX P w K mg base N (nf x qual st c cc) f A outer s H E) [] (startF N vs [some (.ref D)]) H s1 →
      PySem.wpAt (model P w) (A.deeper (envF (nf x qual st c cc) f s.heap.objs.size)) (.func (defBody st) (envF (nf x qual st c cc) f s.heap.objs.size)) (execs (defBody st) (envF (nf x qual st c cc) f s.heap.objs.size))
        (SP (ncx CX P w K mg base N (nf x qual st c cc) f A outer s H E) [] { nx := fun _ H' => Q .non H', rt := Q }) (ncx CX P w K mg base N (nf x qual st c cc) f A outer s H E).xe s1) :
    FnG P w K mg base CX (k + 1) f fd ps sp := by
  obtain ⟨oc, od, kV, doc, pm, an, ct, osl, rfl, lk⟩ := F.ex
  obtain ⟨cl, cld, csl, lc⟩ := F.cell
  refine ⟨len, fun A outer s H args us vs Q E hgu hr e0 hb r hsp => ?_⟩
  have hl := len _ _ _ _ hsp
  have KX : K.In s.heap := e0.mod.kin.keeps fun b o e => (e0.bs b o e).1
  have lim : s.heap.NoLimit := e0.mod.nolimit.keeps fun b o e => (e0.bs b o e).1
  have hcc : s.heap.get? cc = some ⟨cl, cld, .cell (some (.ref D)), csl⟩ := KX _ _ lc
  have C : CellsAt (nf x qual st c cc).cl ["__class__"] [some (V.ref D)] s.heap H := by
    refine ⟨rfl, fun y b e => ?_, fun a b q h1 h2 => ?_, fun i y hy => ?_⟩
    · have e : (if y == "__class__" then some cc else none) = some b := by
        have q : List.lookup y [(("__class__" : Str), cc)] = some b := e
        rw [List.lookup_cons] at q
        cases z : y == ("__class__" : Str) with
        | true => rw [z] at q; rw [if_pos rfl]; exact q
        | false => rw [z] at q; cases q
      split at e
      · cases e
        exact ⟨(e0.bs _ _ (e0.mod.kin _ _ lc)).2, _, _, hcc, rfl⟩
      · cases e
    · have key : ∀ {y : Str} {b : Addr}, List.lookup y [(("__class__" : Str), cc)] = some b → y = "__class__" := fun {y b} q => by
        rw [List.lookup_cons] at q
        cases z : y == ("__class__" : Str) with
        | true => exact eq_of_beq z
        | false => rw [z] at q; cases q
      exact (key h1).trans (key h2).symm
    · match i, hy with
      | 0, hy =>
        have e : (("__class__" : Str)) = y := Option.some.inj hy
        subst e
        refine ⟨cc, by show List.lookup _ [(("__class__" : Str), cc)] = some cc; rw [List.lookup_cons, beq_self_eq_true], fun v hv => ?_⟩
        have e : V.ref D = v := Option.some.inj (Option.some.inj hv)
        subst e
        exact ⟨_, rfl, _, hcc, rfl⟩
  refine ks_codeAny_call_defAt (fd := PySem.W.fnX x qual (defArgs st) (defBody st) (defScope st) [("__class__", cc)] .none kV doc pm an (.ref c) ct) (body := defBody st) (binds := ps.zip us) hr.depth (KX _ _ lk) rfl lim (PySem.W.codeRec_of KX F.cd) rfl hb
    S.nocell (fun ⟨n, _⟩ hy => S.par n (List.of_mem_zip hy).1) (fun h₁ hns kp => ?_) S.co S.gen S.kind
  have I : Inv (ncx CX P w K mg base N (nf x qual st c cc) f A outer s H E) [] (startF N vs [some (.ref D)]) H { s with heap := h₁, toks := s.toks + (ps.zip us).length } := inv_startN S hr.hd e0 hl r C hns kp
  refine ks_wpAt_mono (hbody A outer s H vs Q E hgu (hr.deeper _) hsp _ I) (fun fl s' hs => ?_) fun e s' hs => hs
  have fin : ∀ {σ' : L2.St} {H' : Hp} {v : V} {u : Value}, Inv (ncx CX P w K mg base N (nf x qual st c cc) f A outer s H E) [] σ' H' s' → L2.RelV v u → Q v H' → CE outer P w H s Q u s' :=
    fun {σ' H' v u} J rv q => ⟨v, H', J.os, J.bare, J.base, J.hok, rv, q⟩
  cases fl with
  | ret u =>
    obtain ⟨v, σ', H', J, rv, q⟩ := hs
    exact fin J rv q
  | next =>
    obtain ⟨σ', H', J, q⟩ := hs
    exact fin (v := V.non) (u := Value.none) J rfl q
  | brk =>
    obtain ⟨_, _, _, q⟩ := hs
    exact False.elim q
  | cont =>
    obtain ⟨_, _, _, q⟩ := hs
    exact False.elim q
end
/-- what is kept, small enough to be told in a message -/
structure Smalls (d : PyData) : Prop where
  fit : Fit d
  sz : d.shown.length ≤ 1000
def spOne (K : PySem.W.Frag) (C : Addr) (x : Str) : Sp := fun vs H Q _ => ∃ (a : Addr) (v : V) (d : PyData), vs = [.ref a, v] ∧ Dq K H v d ∧ Smalls d ∧ H a = some (exo a C none) ∧
  ∀ (dx : Addr), H dx = none → dx ≠ a → Q .non (upd (upd H dx (exd dx [(x, v)])) a (exo a C (some dx)))
/-- a class's facts that its __init__ asks -/
structure ErrT (P : Program) (K : PySem.W.Frag) (mg : Str → Option Value) (B newId initId : String) (tl : List Value) (C : Addr) : Prop where
  sup : SupT P K mg C
  oex : Oex K C B newId tl
  hm : PySem.W.ks_superIn K C C "__init__" = some (some (.builtin initId))
  hs : PySem.W.mroIn K C (.ref C) = some true
section
variable {P : Program} {w : World} {K : PySem.W.Frag} {mg : Str → Option Value} {base : Heap} {q x y pre pre2 : Str} {st : Stmt} {f c cc C : Addr} {fd : FuncData} {B newId initId : String} {tl : List Value} {p0 p1 p2 p3 p4 p5 p6 p7 p8 p9 p10 p11 p12 p13 p14 p15 p16 p17 p18 p19 : Pos} {j j2 : Nat}
theorem len0 (a : Str) : (Str.empty ++ a).length = a.length := by rw [strLen_append]; exact Nat.zero_add _
theorem ok_one (b : BaseE B newId initId tl) (F : FunS P K "__init__" q st f fd c cc C) (T : ErrT P K mg B newId initId tl C) (S : NScope ["self", x, "__class__"] ["self", x] ["__class__"] (defScope st))
    (hb : defBody st = [.Expr (.Call (.Attribute (.Call (.Name "super" p0) [] [] p1) "__init__" p2) [.JoinedStr [.Constant (.str pre) j p5, .FormattedValue (.Name x p6) 114 none p7] p8] [] p3) p4, .Assign [.Attribute (.Name "self" p9) x p10] (.Name x p11) p12])
    (hp : pre.length ≤ 100) (hsu : (defScope st).names.lookup ("super" : Str) = some .globalImplicit) (hcl : (defScope st).names.lookup ("__class__" : Str) = some .free) (hme : (defScope st).names.lookup ("self" : Str) = some .local) (hx : (defScope st).names.lookup x = some .local)
    (hd : (x == ("__debug__" : Str)) = false) (hcd : (x == ("__classdict__" : Str)) = false) (har : ∃ ar, ((defArgs st).posonlyargs ++ (defArgs st).args).head? = some ar ∧ ar.arg = "self") (hno : PySem.W.findIn K (.ref C) x = some none) (hk : (defScope st).kind = .function)
    (hin : ∀ env : Env, env.scope = defScope st → interactive env = false) (hev : ∀ env : Env, eval (.Call (.Attribute (.Call (.Name "super" p0) [] [] p1) "__init__" p2) [.JoinedStr [.Constant (.str pre) j p5, .FormattedValue (.Name x p6) 114 none p7] p8] [] p3) env = (do
      let ov ← attributeBase (.Call (.Name "super" p0) [] [] p1) "__init__" env (eval (.Call (.Name "super" p0) [] [] p1) env)
      standAt p2.atName
      let (f, first) ← holding [ov] (getMethod ov "__init__" (pure false))
      callWith p3 f first (backTo p3 (starEach [.JoinedStr [.Constant (.str pre) j p5, .FormattedValue (.Name x p6) 114 none p7] p8] env)) [])) :
    FnG P w K mg base CX0 1 f fd ["self", x] (spOne K C x) := by
  refine fn_superG F S (fun vs H Q E h => ?_) (fun A outer s H vs Q E hgu hr h s1 I => ?_)
  · obtain ⟨a, v, d, rfl, _⟩ := h
    rfl
  · obtain ⟨a, v, d, rfl, hv, sm, ha, k⟩ := h
    have hvx : Vis (ncx CX0 P w K mg base ["self", x, "__class__"] (nf "__init__" q st c cc) f A outer s H E).env.scope x := Or.inl hx
    have hvs : Vis (ncx CX0 P w K mg base ["self", x, "__class__"] (nf "__init__" q st c cc) f A outer s H E).env.scope "self" := Or.inl hme
    rw [hb]
    refine sup_exc (me := "self") (x := a) (C := C) b (atS_of F hk hsu hcl hme har) T.sup T.oex rfl T.hm T.hs
      (pa_cons (pe_joined (.cons pe_str (.cons (pe_showR hgu hr.units (pv 1 (hv := hvx) (hd := hd) (hcd := hcd))) .nil))) pa_nil) (pss_one (ps_put b (pv 0 (hv := hvs)) (pv 1 (hv := hvx) (hd := hd) (hcd := hcd)))) I rfl ha ?_ (hin _ rfl) rfl (hev _) rfl rfl
    refine ⟨_, rfl, (by rw [len0]; exact Nat.le_trans hp (by decide)), _, rfl, d, hv, sm.fit, _, rfl, ?_, (by show 1 ≤ 1000; decide), ha, _, rfl, _, rfl, a, C, rfl, T.oex, hno, .inl ⟨ha, k⟩⟩
    rw [strLen_append, len0]
    exact Nat.le_trans (Nat.add_le_add hp sm.sz) (by decide)
end
end Exg
/-! raise C(e): an own error over any built-in base, whose __init__ shows what it is given -/
namespace Exg
open PySem PySem.Spec PyProof.Rows L2 Sup Grd Shw
def tMkR (C : Addr) (sp : Sp) (ta : TA) : L2.St → Hp → XK → Prop := fun σ H Q => ta σ H fun vs H1 => vs.length ≤ 1000 ∧ ∀ a, H1 a = none → sp (.ref a :: vs) (upd H1 a (exo a C none)) (fun v H2 => v = .non ∧ ∃ (d : Addr) (fs : List (Str × V)), H2 a = some (exo a C (some d)) ∧ H2 d = some (exd d fs) ∧ H1 d = none ∧ Q (.ref C) (some d) (upd (del H2 a) d (.xd fs))) E0
section
variable {B newId initId : String} {tl : List Value} {X : Cx} {C fI : Addr} {k : Nat} {fd : FuncData} {ps : List Str} {sp : Sp} {x : Str} {e : Expr} {es : List Expr} {ta : TA} {p pos : Pos}
theorem pmk_e (b : BaseE B newId initId tl) (T : Oex X.K C B newId tl) (iC : PySem.W.findIn X.K (.ref C) "__init__" = some (some (.ref fI))) (tI : PySem.W.typeIn X.K (.ref fI) = some (.type "function"))
    (F : FnG X.prog X.w X.K X.mg X.base CX0 k fI fd ps sp) (hG : X.A.guards = some []) (hr : Room (k + 1) X.A) (hb : Binds X.K fd ps []) (hg : Gl X x) (hm : X.mg x = some (.ref C)) (ha : PA X (e :: es) ta)
    (hdb : (x == ("__debug__" : Str)) = false := by decide) (hs : starEach (e :: es) X.env = (false, eval e X.env) :: starEach es X.env := by rfl) (hp : (backTo pos (starEach es X.env)).any (·.1) = false := by rfl) :
    PMk X (.Call (.Name x p) (e :: es) [] pos) (tMkR C sp ta) := by
  intro pins s σ H Q I h
  obtain ⟨nm, N, q, bs, bm, hdct, sn, sub, ab, col, dd, k0, k1, k2, k3, k5, hC, hbm⟩ := PySem.W.excInit_of I.kIn T.ini
  refine wpAny_Call_Name_kw (ld_glob I hg hm (PySem.W.callWith_K (h₀ := X.base) I.ok.mod.kin T.kC (thn (ha.run pos pins s σ H _ I h) fun us s1 ⟨vs, H1, I1, r, hl, q1⟩ => ⟨I1.kIn, ?_⟩) hs hp) hdb)
  obtain ⟨nm, N, q, bs, bm, hdct, sn, sub, ab, col, dd, k0, k1, k2, k3, k5, hC, hbm⟩ := PySem.W.excInit_of I1.kIn T.ini
  show wpAny _ _ (call (.ref C) us) _ _ _
  obtain ⟨hp, g, dr, tk, os⟩ := s1
  have hsz : hp.objs.size ≤ hp.objs.size + 1 := Nat.le_succ _
  have hn : H1 (hp.objs.size + 1) = none := I1.hok.fresh hsz
  have hq := q1 _ hn
  have kk : ∀ b o, hp.get? b = some o → ((hp.push (PySem.W.kdv_tup us)).push (PySem.HandSPX.excO C hp.objs.size)).get? b = some o := fun c o z => Heap.get?_push_of_some _ (Heap.get?_push_of_some _ z)
  have hget : ((hp.push (PySem.W.kdv_tup us)).push (PySem.HandSPX.excO C hp.objs.size)).get? (hp.objs.size + 1) = some (PySem.HandSPX.excO C hp.objs.size) := by heap_get
  have I2 : Inv X pins σ (upd H1 (hp.objs.size + 1) (exo (hp.objs.size + 1) C none)) ⟨(hp.push (PySem.W.kdv_tup us)).push (PySem.HandSPX.excO C hp.objs.size), g, dr, tk, os⟩ := I1.laid (t' := tk) kk hsz (exo_ok hget)
  have r2 : Vals (V.ref (hp.objs.size + 1) :: vs) (Value.ref (hp.objs.size + 1) :: us) := .cons rfl r
  have hlen : (Value.ref (hp.objs.size + 1) :: us ++ []).length = ps.length := by
    rw [List.append_nil, ← r2.length]
    exact F.len _ _ _ _ hq
  have hB := hb ⟨(hp.push (PySem.W.kdv_tup us)).push (PySem.HandSPX.excO C hp.objs.size), g, dr, tk, os⟩ (Value.ref (hp.objs.size + 1) :: us) I2.kIn hlen
  rw [List.append_nil] at hB
  refine wpAny_call (PySem.HandSPX.call_own b.F hbm hC (PySem.W.looks_findIn I1.kIn iC) (fun self => PySem.W.bind_fn I1.kIn self tI) (by rw [← r.length]; exact Nat.le_trans hl (by decide))
    (codeAny_mono (F.run _ X.stack _ _ ⟨Value.ref (hp.objs.size + 1) :: us, []⟩ _ _ _ E0 (guards_make hG C us []) (hr.make C us []) (I2.env0.make C us []) hB r2 hq) fun res s' z => ?_))
  match res, z with
  | .error e, z => exact z.elim
  | .ok (.ret u), z =>
    obtain ⟨v, H2, os2, bare2, un2, hok2, rv, ev, d, fs, ea, ed, hd1, q2⟩ := z
    subst ev
    obtain ⟨h2, g2, d2, t2, os'⟩ := s'
    exact ⟨rv, mk_end (raises_own T.exC T.tyC) I1 hsz kk un2 hok2 os2 bare2 ea ed hd1 q2⟩
end
/-- an error with one field that shows it, raised -/
theorem raise_one {K : PySem.W.Frag} {C : Addr} {x : Str} {v : V} {d : PyData} {σ : L2.St} {H H1 : Hp} {te : TE} {Q : XK} (hte : ∀ Q' : VK, Q' v H1 → te σ H1 Q') (hv : Dq K H1 v d) (hs : Smalls d) (s1 : Same H H1)
    (hd : ∀ a, H1 a = none → Dq K (upd H1 a (exo a C none)) v d) (k : ∀ e H', H e = none → H' e = some (.xd [(x, v)]) → Same H H' → Q (.ref C) (some e) H') : tMkR C (spOne K C x) (tCons te tNil) σ H1 Q := by
  refine hte _ ⟨by show 1 ≤ 1000; decide, fun a ha => ⟨a, v, d, rfl, hd a ha, hs, upd_same, fun dx hdx hne => ⟨rfl, dx, [(x, v)], upd_same, ?_, ?_, ?_⟩⟩⟩
  · rw [upd_ne hne, upd_same]
  · rw [upd_ne hne] at hdx
    exact hdx
  · rw [upd_ne hne] at hdx
    refine k dx _ (s1.free hdx) upd_same fun b o e => ?_
    have e1 := s1 _ _ e
    have nbd : b ≠ dx := ne_of_none e1 hdx
    have nba : b ≠ a := ne_of_none e1 ha
    rw [upd_ne nbd, del_ne nba, upd_ne nba, upd_ne nbd, upd_ne nba]
    exact e1
end Exg
namespace Sj
open PySem L2 Sup StK Own Grd Exg Shw
open NdefX (NF NScope ncx envF startF nscope_by)
open C8 (pss_cut tCut)
/-! Frame.rails, members, [] (k03, k05, ..) -/
theorem fun_gX {P : Program} {w : World} {K : PySem.W.Frag} {mg : Str → Option Value} {base : Heap} {k : Nat} {f : Addr} {fd : FuncData} {ps N : List Str} {sp : Sp} {x qual : Str} {st : Stmt} (F : Fun K x qual st f fd) (S : FnScope N ps (defScope st)) (len : ∀ vs H Q E, sp vs H Q E → vs.length = ps.length)
    (hbody : ∀ (cdv : Value) (A : Around) (outer : List Env) (s : Shared) (H : Hp) (vs : List V) (Q : VK) (E : XK), A.guards = some [] → Room k (A.deeper (PyProof.Rows.envOfC qual (defScope st) s.heap.objs.size f cdv)) → sp vs H Q E →
      ∃ t, PSs (cxOf (L2.CX P w) P w K mg base N qual (defScope st) f cdv A outer s H E) (defBody st) t ∧ t { nx := fun _ H' => Q .non H', rt := Q } (start N vs) H) : FnG P w K mg base (L2.CX P w) (k + 1) f fd ps sp := by
  obtain ⟨oc, od, kV, doc, pm, an, cdv, ct, osl, rfl, lk, hcd⟩ := F.ex
  refine ⟨len, fun A outer s H args us vs Q E hg hr e0 hb r hsp => ?_⟩
  refine LamX.run_ofS (CX := L2.CX P w) lk hcd S hr e0 hb r (len _ _ _ _ hsp) fun hr1 => ?_
  obtain ⟨t, ht, hq⟩ := hbody cdv A outer s H vs Q E hg hr1 hsp
  exact ⟨t, ht, hq⟩
def rowsR (g r : Bool) : List (Key × V) := [(Sum.inr "ground", .bl g), (Sum.inr "power", .bl r)]
theorem rowsR_merge (g r : Bool) : mergeK [] (rowsR g r) = rowsR g r := by
  unfold rowsR mergeK putK
  simp +decide
def ttRl : TT := tB (tDGet (tVar 1) (tVar 2))
def railsP (g r : Bool) : Nat → List Str
  | 0 => []
  | 1 => if g then [("ground" : Str)] else []
  | _ => railsZ g r
section
variable {P : Program} {w : World} {K : PySem.W.Frag} {mg : Str → Option Value} {base : Heap}
theorem scFr7 : FnScope ["self", "there", "name"] ["self"] (defScope (sFr 7)) := ⟨rfl, rfl, rfl, by decide +kernel, rfl, by decide +kernel, by decide +kernel⟩
theorem ok_frails {f CF : Addr} {fd : FuncData} {ks : Kinds} (F : Fun K "rails" "Frame.rails" (sFr 7) f fd) (T : FpT P w K mg base ks CF) : FnOk P w K mg base CX0 1 f fd ["self"] (spTup ks CF fun d => railsZ d.g d.r) := by
  refine F.ok scFr7 (fun vs H Q E h => ?_) (fun cdv A outer s H vs Q E hr h => ?_)
  · obtain ⟨a, d, rfl, _⟩ := h
    rfl
  · obtain ⟨a, d, rfl, hF, k⟩ := h
    obtain ⟨dx, D, ea, eD, _⟩ := hF.at_
    refine ⟨_, pss_cons (ps_set (i := 1) scFr7.nd rfl (Or.inr rfl) (pe_disp (pps_cons pe_str (pe_fld (pv 0) rfl) (pps_cons pe_str (pe_fld (pv 0) rfl) pps_nil)) (by rfl) (by rfl) (fun z => by cases z) (by decide)))
      (pss_one (ps_ret (pe_lock (pe_callTy (T := "tuple") call_tuple_of (by rfl) T.tuple (by decide +kernel) (pa_cons (pe_lc (te := tVar 2) (tt := ttRl) (own := [("name", 2)]) (g := gName 2) rfl scFr7.nd (pi_keys (pv 1))
        (blkOk_by (N := ["self", "there", "name"]) (sc := defScope (sFr 7)) (by decide +kernel)) (fun _ _ _ _ _ => pg_name (i := 2) scFr7.nd rfl (Or.inl rfl)) (fun _ _ _ _ _ => pts_one (pt_val (pe_dget (hu_of hr) (pv 1) (pv 2) (fun _ _ => rfl)))) (fun _ _ _ _ _ => pv 2)) pa_nil))))), ?_⟩
    refine fun p hp => ?_
    have hap : a ≠ p := ne_of_none ea hp
    have ea1 : upd H p (.dK []) a = some (.ins CF dx (frF D (.int d.t) (.bl d.g) (.bl d.r))) := by rw [upd_ne hap]; exact ea
    refine ⟨_, rfl, a, CF, dx, _, _, rfl, ea1, T.cl, T.nG, frF_ground _ _ _ _, _, rfl, a, CF, dx, _, _, rfl, ea1, T.cl, T.nP, frF_power _ _ _ _, upd_same, rowsR d.g d.r, rfl, (by show 2 ≤ 15; decide), ?_⟩
    rw [rowsR_merge]
    obtain ⟨H1, e1⟩ : ∃ H1, H1 = upd (upd H p (.dK [])) p (.dK (rowsR d.g d.r)) := ⟨_, rfl⟩
    rw [← e1]
    have hp1 : H1 p = some (.dK (rowsR d.g d.r)) := by rw [e1, upd_same]
    have s1 : Same H H1 := fun b o e => by
      have n := ne_of_none e hp
      rw [e1, upd_ne n, upd_ne n]
      exact e
    refine ⟨p, _, hp1, trivial, fun od => ?_⟩
    obtain ⟨HL, eL⟩ : ∃ HL, HL = upd H1 p (.frz od (.dK (rowsR d.g d.r))) := ⟨_, rfl⟩
    rw [← eL]
    have hpL : HL p = some (.frz od (.dK (rowsR d.g d.r))) := by rw [eL, upd_same]
    refine ⟨_, rfl, p, od, rfl, .inl ⟨_, hpL, fun Dn hDn => ?_⟩⟩
    refine lc_it (walk_keys (d := p) (o := od) (kvs := rowsR d.g d.r)) (fun i H' => Same HL H' ∧ H' Dn = some (.lst (strv (railsP d.g d.r i)))) ⟨same_at hDn, upd_same⟩ (fun i H' _ q => q.1 _ _ hpL) ?_ ?_
    · rintro i x H2 H3 hi ⟨s2, d2⟩ ⟨rfl, kk, vv, hkv, rfl⟩
      refine ⟨rfl, ?_⟩
      have hget : ∀ (z : Str) (v : Bool), valV (rowsR d.g d.r) (Sum.inr z) = some (.bl v) → DGet H3 p (.str z) (some (.bl v)) := fun z v e => .inl ⟨rowsR d.g d.r, Sum.inr z, .inr ⟨od, s2 _ _ hpL⟩, rfl, e.symm⟩
      have go : ∀ (z : Str) (v : Bool) (acc acc' : List Str), valV (rowsR d.g d.r) (Sum.inr z) = some (.bl v) → H3 Dn = some (.lst (strv acc)) → acc.length ≤ 2 → acc' = acc ++ (if v then [z] else []) →
          ttRl [some (.ref a), some (.ref p), some (.str z)] H3 fun b H4 => if b = true then tVar 2 [some (.ref a), some (.ref p), some (.str z)] H4 fun y H5 => ∃ ac, H5 Dn = some (.lst ac) ∧ ac.length < sizeLine ∧ (Same HL (upd H5 Dn (.lst (ac ++ [y]))) ∧ (upd H5 Dn (.lst (ac ++ [y]))) Dn = some (.lst (strv acc'))) else Same HL H4 ∧ H4 Dn = some (.lst (strv acc')) := by
        intro z v acc acc' hv hd hl he
        refine ⟨_, rfl, _, rfl, p, _, rfl, hget z v hv, _, rfl, ?_⟩
        cases v with
        | true =>
          refine ⟨_, rfl, _, hd, ?_, fun c o hc => ?_, ?_⟩
          · show (List.map V.str acc).length < _
            rw [List.length_map]
            exact Nat.lt_of_le_of_lt hl (by decide)
          · rw [upd_ne (ne_of_none hc hDn)]
            exact s2 _ _ hc
          · rw [upd_same, he]
            show _ = some (HO.lst (List.map V.str _))
            rw [List.map_append]
            rfl
        | false =>
          refine ⟨s2, ?_⟩
          rw [he, if_neg Bool.false_ne_true, List.append_nil]
          exact hd
      match i, hi, hkv, d2 with
      | 0, _, hkv, d2 =>
        obtain ⟨rfl, rfl⟩ : Sum.inr ("ground" : Str) = kk ∧ V.bl d.g = vv := by have := Option.some.inj hkv; exact ⟨congrArg Prod.fst this, congrArg Prod.snd this⟩
        exact go "ground" d.g [] (railsP d.g d.r 1) rfl d2 (by decide) rfl
      | 1, _, hkv, d2 =>
        obtain ⟨rfl, rfl⟩ : Sum.inr ("power" : Str) = kk ∧ V.bl d.r = vv := by have := Option.some.inj hkv; exact ⟨congrArg Prod.fst this, congrArg Prod.snd this⟩
        refine go "power" d.r (railsP d.g d.r 1) (railsP d.g d.r 2) rfl d2 ?_ rfl
        show (if d.g then [("ground" : Str)] else []).length ≤ 2
        cases d.g <;> decide
    · rintro H2 ⟨s2, d2⟩
      refine ⟨Dn, _, rfl, .inl ⟨SqL.of d2, fun q hq => ⟨?_, ?_⟩⟩⟩
      · rw [upd_ne (ne_of_none (s2 _ _ hpL) hq)]
        exact s2 _ _ hpL
      · have hqp : q ≠ p := fun z => by rw [z, s2 _ _ hpL] at hq; cases hq
        refine k q _ ?_ (by rw [upd_ne hqp, upd_same]; rfl) (s1.trans (same_unlock hp1 (by rw [← eL]; exact s2.trans (same_at hq))))
        refine s1.free ?_
        cases z : H1 q with
        | none => rfl
        | some o =>
          have e2 : HL q = some o := by rw [eL, upd_ne hqp]; exact z
          rw [s2 _ _ e2] at hq
          cases hq
end
end Sj
namespace Sj
open PySem L2 Sup StK Own Grd Exg Shw
open NdefX (NF NScope ncx envF startF nscope_by)
open C8 (pss_cut tCut)
/-! Frame.members, [], == (k03, k05, ..) -/
theorem FrIs.ins {ks : Kinds} {CF : Addr} {H : Hp} {a : Addr} {d : FrD} (h : FrIs ks CF H a d) : ∃ dx fs, H a = some (.ins CF dx fs) := by
  obtain ⟨dx, D, ea, _⟩ := h.at_
  exact ⟨dx, _, ea⟩
/-- the names of all elements, in order -/
def Mem (d : FrD) (ms : List Str) : Prop := ms.Perm (names d.ys ++ railsZ d.g d.r) ∧ PyProof.Rows.sortedS ms = true
def spMem (ks : Kinds) (CF : Addr) : Sp := fun vs H Q _ => ∃ a d, vs = [.ref a] ∧ FrIs ks CF H a d ∧ ∀ ms p H', Mem d ms → H p = none → H' p = some (.tup (strv ms)) → Same H H' → Q (.ref p) H'
/-- what is no name of a leg -/
def NotLeg (K : PySem.W.Frag) (H : Hp) (x : V) (d : FrD) : Prop := (∃ z : Str, x = .str z ∧ z ∉ names d.ys) ∨ ∃ t : String, TyX K H x (.type t) ∧ kitB t "str" = some false
def spFIs (K : PySem.W.Frag) (ks : Kinds) (CF : Addr) : Sp := fun vs H Q _ => ∃ a d x, vs = [.ref a, x] ∧ FrIs ks CF H a d ∧ ((∃ z : Str, x = .str z ∧ z ∈ names d.ys ∧ Q (.bl true) H) ∨ (NotLeg K H x d ∧ Q (.bl false) H))
/-- what raise NoLeg(x) asks -/
structure NlT (P : Program) (w : World) (K : PySem.W.Frag) (mg : Str → Option Value) (base : Heap) (CN fN : Addr) : Prop where
  oex : Oex K CN "LookupError" "LookupError.__new__" tlL
  iC : PySem.W.findIn K (.ref CN) "__init__" = some (some (.ref fN))
  tI : PySem.W.typeIn K (.ref fN) = some (.type "function")
  init : ∃ fd, FnG P w K mg base CX0 1 fN fd ["self", "name"] (spOne K CN "name") ∧ Binds K fd ["self", "name"] []
  mN : mg "NoLeg" = some (.ref CN)
theorem spFIs_of {K : PySem.W.Frag} {ks : Kinds} {CF : Addr} {vs : List V} {H : Hp} {Q : VK} {E : XK} (h : spFIs K ks CF vs H Q E) : spFIn K CF vs H Q E := by
  obtain ⟨a, d, x, rfl, hF, h⟩ := h
  refine ⟨a, d.ys, _, _, _, x, rfl, hF.at_, ?_⟩
  rcases h with ⟨z, rfl, hz, k⟩ | ⟨hn, k⟩
  · refine .inl ⟨z, rfl, ?_⟩
    rw [decide_eq_true hz]
    exact k
  · rcases hn with ⟨z, rfl, hz⟩ | ⟨t, ty, e⟩
    · refine .inl ⟨z, rfl, ?_⟩
      rw [decide_eq_false hz]
      exact k
    · exact .inr ⟨t, ty, e, k⟩
section
variable {P : Program} {w : World} {K : PySem.W.Frag} {mg : Str → Option Value} {base : Heap}
theorem scFr8 : FnScope ["self"] ["self"] (defScope (sFr 8)) := ⟨rfl, rfl, rfl, by decide +kernel, rfl, by decide +kernel, by decide +kernel⟩
theorem ok_fmem {f CF : Addr} {fd : FuncData} {ks : Kinds} (F : Fun K "members" "Frame.members" (sFr 8) f fd) (T : FpT P w K mg base ks CF) (TN : PropN P w K mg base 1 CF "names" (spTup ks CF fun d => names d.ys)) (TR : PropN P w K mg base 1 CF "rails" (spTup ks CF fun d => railsZ d.g d.r)) :
    FnOk P w K mg base CX0 3 f fd ["self"] (spMem ks CF) := by
  refine F.ok (scFr8) (fun vs H Q E h => ?_) (fun cdv A outer s H vs Q E hr h => ?_)
  · obtain ⟨a, d, rfl, _⟩ := h
    rfl
  · obtain ⟨a, d, rfl, hF, k⟩ := h
    obtain ⟨dx, fs, ea⟩ := hF.ins
    refine ⟨_, pss_one (ps_ret (pe_callTy (T := "tuple") call_tuple_of (by rfl) T.tuple (by decide +kernel) (pa_cons (pe_callB SortT.call_sortT (by rfl) T.sorted (by decide +kernel) (pa_cons (pe_op op_catA (pe_propS (S := fun C => C = CF) (spP := fun _ => spTup ks CF fun d => names d.ys) (pv 0) (fun C e => by rw [e]; exact TN) hr) (pe_propS (S := fun C => C = CF) (spP := fun _ => spTup ks CF fun d => railsZ d.g d.r) (pv 0) (fun C e => by rw [e]; exact TR) hr)) pa_nil)) pa_nil))), ?_⟩
    refine ⟨_, rfl, a, CF, dx, fs, rfl, ea, rfl, a, d, rfl, hF, fun p1 H1 hp1 hv1 s1 => ?_⟩
    refine ⟨_, rfl, a, CF, dx, fs, rfl, s1 _ _ ea, rfl, a, d, rfl, hF.same s1, fun p2 H2 hp2 hv2 s2 => ?_⟩
    have hn40 : (names d.ys).length ≤ 40 := by unfold names; rw [List.length_map]; exact hF.le
    have hr2 : (railsZ d.g d.r).length ≤ 2 := by unfold railsZ; cases d.g <;> cases d.r <;> decide
    have go : ∀ q H3, H3 q = some (.tup (strv (names d.ys ++ railsZ d.g d.r))) → Same H2 H3 → SortT.rSortT K [.ref q] H3 (fun v H' => rTupQ K [v] H' fun v' H'' => Q v' H'') := fun q H3 hq s3 => by
      refine ⟨q, _, rfl, SqT.of hq, by rw [List.length_append]; omega, fun ms p hperm hso hp => ?_⟩
      have s4 := same_at (o := .lst (ms.map V.str)) hp
      refine ⟨p, _, rfl, .inl ⟨SqL.of upd_same, fun l hl => ?_⟩⟩
      have s5 := same_at (o := .tup (ms.map V.str)) hl
      have s03 := (s1.trans s2).trans s3
      exact k ms l _ ⟨hperm, hso⟩ ((s03.trans s4).free hl) upd_same ((s03.trans s4).trans s5)
    refine ⟨p1, p2, strv (names d.ys), strv (railsZ d.g d.r), rfl, rfl, SqT.of (s2 _ _ hv1), SqT.of hv2, ?_, fun e => ?_, fun _ e => ?_, fun _ _ p3 hp3 => ?_⟩
    · show (List.map _ _).length + (List.map _ _).length ≤ _
      rw [List.length_map, List.length_map]
      exact Nat.le_trans (show _ ≤ 42 by omega) (by decide)
    · have e0 : names d.ys = [] := List.map_eq_nil_iff.mp e
      exact go p2 H2 (by rw [e0, List.nil_append]; exact hv2) (Same.refl _)
    · have e0 : railsZ d.g d.r = [] := List.map_eq_nil_iff.mp e
      exact go p1 H2 (by rw [e0, List.append_nil]; exact s2 _ _ hv1) (Same.refl _)
    · refine go p3 _ ?_ (same_at hp3)
      rw [upd_same]
      show _ = some (HO.tup (List.map _ _))
      rw [List.map_append]
      rfl
end
end Sj
namespace Sj
open PySem L2 Sup StK Own Grd Exg Shw
open NdefX (NF NScope ncx envF startF nscope_by)
open C8 (pss_cut tCut)
/-! Frame.__eq__ (k03, k05, ..) -/
/-- alike: name and kind -/
def eqLegs (ys zs : List LegR) : Bool := (ys.length == zs.length) && ys.all fun p => zs.any fun q => decide (q.z = p.z) && decide (q.C = p.C)
def eqFr (d e : FrD) : Bool := decide (d.t = e.t) && (decide (d.g = e.g) && decide (d.r = e.r)) && eqLegs d.ys e.ys
def spFEq (K : PySem.W.Frag) (ks : Kinds) (CF : Addr) : Sp := fun vs H Q _ => ∃ a d y, vs = [.ref a, y] ∧ FrIs ks CF H a d ∧ ((∃ b e, y = .ref b ∧ FrIs ks CF H b e ∧ ∀ H', Same H H' → Q (.bl (eqFr d e)) H') ∨ ∃ t, TyX K H y t ∧ PySem.W.kitOne K t (.ref CF) = some false ∧ ∀ H', Same H H' → Q (.bl false) H')
/-- what == of legs asks -/
structure LqT (P : Program) (w : World) (K : PySem.W.Frag) (mg : Str → Option Value) (base : Heap) (ks : Kinds) : Prop where
  eq : ∀ C, (C = ks.drv ∨ C = ks.lis) → EqN P w K mg base 1 C (spEq K C)
  ic : ∀ C, (C = ks.drv ∨ C = ks.lis) → IsiC K C
  nf : ∀ C D, (C = ks.drv ∨ C = ks.lis) → (D = ks.drv ∨ D = ks.lis) → PySem.W.notFirst K C (.ref D) = true
  un : ∀ C D, (C = ks.drv ∨ C = ks.lis) → (D = ks.drv ∨ D = ks.lis) → C ≠ D → PySem.W.kitOne K (.ref D) (.ref C) = some false
structure FeT (P : Program) (w : World) (K : PySem.W.Frag) (mg : Str → Option Value) (base : Heap) (ks : Kinds) (CF : Addr) : Prop where
  ic : IsiC K CF
  nT : NoAttr K CF "top"
  nL : NoAttr K CF "_legs"
  isi : mg "isinstance" = none
  mF : mg "Frame" = some (.ref CF)
  self : PySem.W.kitOne K (.ref CF) (.ref CF) = some true
  lq : LqT P w K mg base ks
  rails : PropN P w K mg base 1 CF "rails" (spTup ks CF fun d => railsZ d.g d.r)
def railsD (g r : Bool) : PyData := .tuple ((railsZ g r).map .str)
theorem dp_strv {K : PySem.W.Frag} {H : Hp} : ∀ zs : List Str, DpAll K H (strv zs) (zs.map PyData.str)
  | [] => .nil
  | z :: zs => .cons (.str z) (dp_strv zs)
theorem railsD_eq (g r g' r' : Bool) : PyData.eqv (railsD g r) (railsD g' r') = (decide (g = g') && decide (r = r')) := by
  cases g <;> cases r <;> cases g' <;> cases r' <;> decide +kernel
theorem railsD_sh (g r : Bool) : SeqAt.shaped (railsD g r) = true := by
  cases g <;> cases r <;> decide +kernel
theorem find_nd : ∀ {ys : List LegR} {p : LegR}, (names ys).Nodup → p ∈ ys → ys.find? (fun q => decide (q.z = p.z)) = some p
  | q :: ys, p, hn, hp => by
    unfold names at hn
    rw [List.map_cons, List.nodup_cons] at hn
    rcases List.mem_cons.mp hp with rfl | hp
    · rw [List.find?_cons_of_pos]
      exact decide_eq_true rfl
    · rw [List.find?_cons_of_neg]
      · exact find_nd hn.2 hp
      · rw [decide_eq_true_eq]
        exact fun e => hn.1 (e ▸ List.mem_map.mpr ⟨p, hp, rfl⟩)
def okK (ys zs : List LegR) : Key → Bool
  | .inr z => match ys.find? (fun q => decide (q.z = z)) with
    | some p => zs.any fun q => decide (q.z = p.z) && decide (q.C = p.C)
    | none => false
  | _ => false
theorem okK_at {ys zs : List LegR} {p : LegR} (hn : (names ys).Nodup) (hp : p ∈ ys) : okK ys zs (Sum.inr p.z) = zs.any fun q => decide (q.z = p.z) && decide (q.C = p.C) := by
  show (match ys.find? (fun q => decide (q.z = p.z)) with | some p => _ | none => false) = _
  rw [find_nd hn hp]
theorem okK_all {ys zs : List LegR} (hn : (names ys).Nodup) : ((ys.map legRow).length == (zs.map legRow).length && (ys.map legRow).all fun p => okK ys zs p.1) = eqLegs ys zs := by
  unfold eqLegs
  rw [List.length_map, List.length_map, List.all_map]
  congr 1
  have e : ∀ p ∈ ys, ((fun p : Key × V => okK ys zs p.1) ∘ legRow) p = zs.any fun q => decide (q.z = p.z) && decide (q.C = p.C) := fun p hp => okK_at hn hp
  refine Bool.eq_iff_iff.mpr ?_
  rw [List.all_eq_true, List.all_eq_true]
  exact ⟨fun h p hp => (e p hp).symm.trans (h p hp), fun h p hp => (e p hp).trans (h p hp)⟩
section
variable {P : Program} {w : World} {K : PySem.W.Frag} {mg : Str → Option Value} {base : Heap}
theorem ok_feq {f CF : Addr} {fd : FuncData} {ks : Kinds} (F : Fun K "__eq__" "Frame.__eq__" (sFr 13) f fd) (T : FeT P w K mg base ks CF) : FnOk P w K mg base CX0 4 f fd ["self", "other"] (spFEq K ks CF) := by
  have sc : FnScope ["self", "other"] ["self", "other"] (defScope (sFr 13)) := ⟨rfl, rfl, rfl, by decide +kernel, rfl, by decide +kernel, by decide +kernel⟩
  refine F.ok sc (fun vs H Q E h => ?_) (fun cdv A outer s H vs Q E hr h => ?_)
  · obtain ⟨a, d, y, rfl, _⟩ := h
    rfl
  · obtain ⟨a, d, y, rfl, hF, h⟩ := h
    obtain ⟨dx, D, ea, eD, _⟩ := id hF.at_
    refine ⟨_, pss_cons (ps_if (PW.pt (pw_or (pt_not (pt_val (pe_callB call_isi (by rfl) T.isi (by decide +kernel) (pa_cons (pv 1) (pa_cons (pe_glob rfl T.mF (v := .ref CF) rfl) pa_nil))))) (pw_or (pt_cmpR op_ne (pe_fld (pv 0) rfl) (pe_fld (pv 1) rfl) (nomark _))
        (pw_or1 (pt_cmpR (op_neD hr.units) (pe_propS (S := fun C => C = CF) (spP := fun _ => spTup ks CF fun d => railsZ d.g d.r) (pv 0) (fun C e => by rw [e]; exact T.rails) (hr.mono (by decide))) (pe_propS (S := fun C => C = CF) (spP := fun _ => spTup ks CF fun d => railsZ d.g d.r) (pv 1) (fun C e => by rw [e]; exact T.rails) (hr.mono (by decide))) (nomark _))))))
        (pss_one (ps_ret pe_bl)) pss_nil)
      (pss_one (ps_ret (pe_cmpR (op_eqOwnD (S := fun C => C = ks.drv ∨ C = ks.lis) (spE := fun C => spEq K C) T.lq.eq hr) (pe_fld (pv 0) rfl) (pe_fld (pv 1) rfl) (nomark _)))), ?_⟩
    rcases h with ⟨b, e, rfl, hE, k⟩ | ⟨t, ty, hk, k⟩
    · obtain ⟨dy, D', eb, eD', _⟩ := id hE.at_
      have tyb : TyX K H (.ref b) (.ref CF) := .base (.ins eb T.ic.cl T.ic.ca T.ic.cn T.ic.ct T.ic.cm)
      refine ⟨_, rfl, _, _, .ref CF, .ref CF, true, rfl, .own _, tyb, T.self, _, rfl, ?_⟩
      refine iteF ⟨_, rfl, a, CF, dx, _, _, rfl, ea, T.ic.cl, T.nT, frF_top _ _ _ _, _, rfl, b, CF, dy, _, _, rfl, eb, T.ic.cl, T.nT, frF_top _ _ _ _, rfl, _, rfl, ?_⟩
      have keq : ∀ v, eqFr d e = v → ∀ H', Same H H' → Q (.bl v) H' := fun v ev H' s => by rw [← ev]; exact k H' s
      by_cases et : d.t = e.t
      · rw [show (!decide (V.int d.t = V.int e.t)) = false by rw [et, decide_eq_true rfl]; rfl]
        refine iteF ⟨_, rfl, a, CF, dx, _, rfl, ea, rfl, a, d, rfl, hF, fun p1 H1 hp1 hv1 s1 => ?_⟩
        refine ⟨_, rfl, b, CF, dy, _, rfl, s1 _ _ eb, rfl, b, e, rfl, hE.same s1, fun p2 H2 hp2 hv2 s2 => ?_⟩
        refine ⟨railsD d.g d.r, railsD e.g e.r, .tup (SqT.of (s2 _ _ hv1)) (dp_strv _), .tup (SqT.of hv2) (dp_strv _), railsD_sh _ _, railsD_sh _ _, _, rfl, ?_⟩
        rw [railsD_eq]
        have s02 := s1.trans s2
        cases eg : (decide (d.g = e.g) && decide (d.r = e.r)) with
        | false =>
          refine iteT (keq _ ?_ _ s02)
          unfold eqFr
          rw [eg, Bool.and_false, Bool.false_and]
        | true =>
          refine iteF ⟨_, rfl, a, CF, dx, _, _, rfl, s02 _ _ ea, T.ic.cl, T.nL, frF_legs _ _ _ _, _, rfl, b, CF, dy, _, _, rfl, s02 _ _ eb, T.ic.cl, T.nL, frF_legs _ _ _ _, ?_⟩
          have eDs := s02 _ _ eD
          have eDs' := s02 _ _ eD'
          refine ⟨D, D', d.ys.map legRow, e.ys.map legRow, okK d.ys e.ys, rfl, rfl, eDs, eDs', fun kk v hm => ?_, fun H3 s3 => ?_⟩
          · obtain ⟨p, hp, epr⟩ := List.mem_map.mp hm
            obtain ⟨rfl, rfl⟩ : Sum.inr p.z = kk ∧ V.ref p.a = v := ⟨congrArg Prod.fst epr, congrArg Prod.snd epr⟩
            by_cases hz : p.z ∈ names e.ys
            · obtain ⟨q, hq, eqz⟩ := List.mem_map.mp hz
              refine .inr ⟨p.a, q.a, rfl, by rw [← eqz]; exact valV_rows e.ys q hE.nd hq, ?_⟩
              have hokv : okK d.ys e.ys (Sum.inr p.z) = decide (q.C = p.C) := by
                rw [okK_at hF.nd hp]
                refine Bool.eq_iff_iff.mpr ⟨fun h => ?_, fun h => ?_⟩
                · obtain ⟨q', hq', hb⟩ := List.any_eq_true.mp h
                  rw [Bool.and_eq_true, decide_eq_true_eq] at hb
                  have e1 := find_nd hE.nd hq
                  have e2 := find_nd hE.nd hq'
                  rw [hb.1, ← eqz] at e2
                  have : q = q' := Option.some.inj (e1.symm.trans e2)
                  rw [this]
                  exact hb.2
                · refine List.any_eq_true.mpr ⟨q, hq, ?_⟩
                  rw [h, Bool.and_true]
                  exact decide_eq_true eqz
              rw [hokv]
              obtain ⟨hcp, dp, ep⟩ := (hF.ok p hp).same s02
              obtain ⟨hcq, dq, eq⟩ := (hE.ok q hq).same s02
              by_cases epq : p.a = q.a
              · refine .inl ⟨epq, ?_⟩
                rw [epq, eq] at ep
                have := Option.some.inj ep
                injection this with c1
                exact decide_eq_true c1
              · refine .inr ⟨epq, fun H3 hb => ?_⟩
                have np : p.a ≠ D := ne_of ep eDs (by intro z; cases z)
                have np' : p.a ≠ D' := ne_of ep eDs' (by intro z; cases z)
                have nq : q.a ≠ D := ne_of eq eDs (by intro z; cases z)
                have nq' : q.a ≠ D' := ne_of eq eDs' (by intro z; cases z)
                have ep3 := hb _ _ ep np np'
                have eq3 := hb _ _ eq nq nq'
                have lq : LegAt H3 q.a q.C q.z := ⟨dq, eq3⟩
                refine ⟨p.a, p.C, dp, _, rfl, ep3, hcp, .inl ⟨.ref q.C, lq.ty (T.lq.ic _ hcq), T.lq.nf _ _ hcp hcq, p.a, p.z, _, rfl, ⟨dp, ep3⟩, ?_⟩⟩
                by_cases hc : q.C = p.C
                · rw [decide_eq_true hc]
                  refine .inl ⟨q.a, q.z, rfl, by rw [← hc]; exact lq, _, rfl, ?_, Same.refl _⟩
                  show V.bl (decide (p.z = q.z)) = V.bl true
                  rw [decide_eq_true eqz.symm]
                · rw [decide_eq_false hc]
                  exact .inr ⟨.ref q.C, lq.ty (T.lq.ic _ hcq), T.lq.un _ _ hcp hcq (Ne.symm hc), _, rfl, rfl, Same.refl _⟩
            · refine .inl ⟨valV_out _ _ hz, ?_⟩
              rw [okK_at hF.nd hp]
              refine List.any_eq_false.mpr fun q hq h => hz ?_
              rw [Bool.and_eq_true, decide_eq_true_eq] at h
              rw [← h.1]
              exact List.mem_map.mpr ⟨q, hq, rfl⟩
          · rw [okK_all hF.nd]
            refine keq _ ?_ _ (s02.trans s3)
            unfold eqFr
            rw [eg, decide_eq_true et]
            rfl
      · rw [show (!decide (V.int d.t = V.int e.t)) = true by rw [decide_eq_false fun z => et (V.int.inj z)]; rfl]
        refine iteT (keq _ ?_ _ (Same.refl H))
        unfold eqFr
        rw [decide_eq_false et]
        rfl
    · exact ⟨_, rfl, _, _, t, .ref CF, false, rfl, .own _, ty, hk, _, rfl, iteT (k H (Same.refl H))⟩
end
end Sj
namespace Sj
open PySem L2 Sup
open NdefX (NF NScope ncx envF startF nscope_by)
open C8 (pss_cut tCut)
abbrev sTags : Stmt := top 38
def poolA : List Str := ["a", "frame", "b", "rest", "self", "c", "zzzzzzzz", "word", "d"]
def poolB : List Str := ["e", "reads", "leg", "x", "grounds", "q", "cls"]
def poolS : List Str := poolA ++ poolB
def spTags : Sp := fun vs H Q _ => ∃ (p l : Addr) (cs : List Int) (n m : Nat), vs = [.ref p, .int m] ∧ Pen H p l cs n ∧ m ≤ 16 ∧ n < 100000 ∧
  ∀ (H' : Hp) (q : Addr) (xs rest : List Str), H q = none → H' q = some (.lst (xs.map V.str)) → xs.length = m → (xs ++ rest).Perm poolS → Pen H' p l cs (n + m) → But H H' p → Q (.ref q) H'
section
variable {P : Program} {w : World} {K : PySem.W.Frag} {mg : Str → Option Value} {base : Heap}
theorem scTags : FnScope ["_law_pen_here", "_law_many", "_law_pool", "_law_turn"] ["_law_pen_here", "_law_many"] (defScope sTags) := ⟨rfl, rfl, rfl, by decide +kernel, rfl, by decide +kernel, by decide +kernel⟩
theorem map_erase {α β : Type} (f : α → β) : ∀ (xs : List α) (k : Nat), (xs.map f).eraseIdx k = (xs.eraseIdx k).map f
  | [], _ => by simp
  | x :: xs, 0 => rfl
  | x :: xs, k + 1 => by
    show f x :: (xs.map f).eraseIdx k = f x :: (xs.eraseIdx k).map f
    rw [map_erase f xs k]
theorem perm_erase {α : Type} : ∀ (xs : List α) (k : Nat) (h : k < xs.length), ([xs[k]] ++ xs.eraseIdx k).Perm xs
  | x :: xs, 0, _ => List.Perm.refl _
  | x :: xs, k + 1, h => by
    have hk : k < xs.length := Nat.lt_of_succ_lt_succ h
    have q := perm_erase xs k hk
    exact (List.Perm.swap x xs[k] (xs.eraseIdx k)).trans (List.Perm.cons x q)
theorem Pen.same {H H' : Hp} {p l : Addr} {cs : List Int} {n : Nat} (h : Pen H p l cs n) (s : Same H H') : Pen H' p l cs n := by
  obtain ⟨i, g, h1, h2, h3⟩ := h
  exact ⟨i, g, s _ _ h1, s _ _ h2, h3⟩
/-- the reading of _law_pool.pop(_law_draw(_law_pen_here, len(_law_pool))) -/
def rLenQ (K : PySem.W.Frag) : List V → Hp → VK → Prop := fun xs H Q => ∃ p ys, xs = [.ref p] ∧ (SqL K H p ys ∨ SqT K H p ys) ∧ Q (.int ys.length) H
def rPopQ : V → List V → Hp → VK → Prop := fun x ys H Q => ∃ l xs i k y, x = .ref l ∧ ys = [.int i] ∧ H l = some (.lst xs) ∧ -(2 ^ 63) ≤ i ∧ i < 2 ^ 63 ∧ seqIndex? i xs.length = some k ∧ xs[k]? = some y ∧ Q y (upd H l (.lst (xs.eraseIdx k)))
def tePop (K : PySem.W.Frag) : TE := tBM K "list" rPopQ (tVar 2) (tCons (tCall spDraw [] E0 (tCons (tVar 0) (tCons (tCB (rLenQ K) (tCons (tVar 2) tNil)) tNil))) tNil)
theorem ok_tags {f fD : Addr} {fd fdD : FuncData} (F : Fun K "_law_tags" "_law_tags" sTags f fd) (B : Bi mg) (mR : mg "range" = none) (FD : Fun K "_law_draw" "_law_draw" sDraw fD fdD) (bD : Binds K fdD ["_law_pen_here", "_law_many"] []) (mD : mg "_law_draw" = some (.ref fD)) :
    FnOk P w K mg base CX0 2 f fd ["_law_pen_here", "_law_many"] spTags := by
  have GD : FnOk P w K mg base CX0 1 fD fdD ["_law_pen_here", "_law_many"] spDraw := ok_draw FD B
  refine F.ok scTags (fun vs H Q E h => ?_) (fun cdv A outer s H vs Q E hr h => ?_)
  · obtain ⟨p, l, cs, n, m, rfl, _⟩ := h
    rfl
  · obtain ⟨p, l, cs, n, m, rfl, hP, hm, hn, k⟩ := h
    refine ⟨_, pss_cons (ps_set (i := 2) scTags.nd rfl (Or.inr rfl) (pe_lst (pa_cons pe_str (pa_cons pe_str (pa_cons pe_str (pa_cons pe_str (pa_cons pe_str (pa_cons pe_str (pa_cons pe_str (pa_cons pe_str (pa_cons pe_str pa_nil)))))))))))
      (pss_cons (ps_set (i := 2) scTags.nd rfl (Or.inr rfl) (pe_op op_cat (pv 2) (pe_lst (pa_cons pe_str (pa_cons pe_str (pa_cons pe_str (pa_cons pe_str (pa_cons pe_str (pa_cons pe_str (pa_cons pe_str pa_nil))))))))))
      (pss_one (ps_ret (pe_lc (te := tePop K) (own := [("_law_turn", 3)]) (g := gName 3) (tt := tYes) rfl scTags.nd (pi_range1 rfl mR (pa_cons (pv 1) pa_nil))
        (blkOk_by (N := ["_law_pen_here", "_law_many", "_law_pool", "_law_turn"]) (sc := defScope sTags) (by decide +kernel)) (fun _ _ _ _ _ => pg_name (i := 3) scTags.nd rfl (Or.inl rfl)) (fun _ _ _ _ _ => pts_nil)
        (fun s0 H0 C0 cl0 fp0 => by
          refine pe_bm PySem.F.plainAttrs_list PySem.F.slot_list_pop PySem.F.type_list_pop mt_popAt ?o ?a
          case o => exact pv 2
          case a =>
            refine pa_cons ?b pa_nil
            refine pe_call GD hr ?g mD FD.kp bD .nil pass0 ?c
            case g => rfl
            case c => exact pa_cons (pv 0) (pa_cons (pe_callB call_len_seq (by rfl) B.len PySem.boot_len (pa_cons (pv 2) pa_nil)) pa_nil)))))), ?_⟩
    refine ⟨(by show 9 ≤ sizeLine; decide), fun q1 h1 => ?_⟩
    refine ⟨_, rfl, (by show 7 ≤ sizeLine; decide), fun q2 h2 => ?_⟩
    have n12 : q1 ≠ q2 := ne_of_none upd_same h2
    refine ⟨q1, q2, _, _, rfl, rfl, (by rw [upd_ne n12]; exact upd_same), upd_same, (by show 9 + 7 ≤ sizeLine; decide), fun q3 h3 => ?_⟩
    have hHq1 : H q1 = none := h1
    have hHq2 : H q2 = none := by rw [upd_ne n12.symm] at h2; exact h2
    have n23 : q2 ≠ q3 := ne_of_none upd_same h3
    have n13 : q1 ≠ q3 := ne_of_none (by rw [upd_ne n12]; exact upd_same) h3
    have hHq3 : H q3 = none := by rw [upd_ne n23.symm, upd_ne n13.symm] at h3; exact h3
    have s3 : Same H (upd (upd (upd H q1 (.lst (poolA.map V.str))) q2 (.lst (poolB.map V.str))) q3 (.lst (poolS.map V.str))) := fun b o e => by
      rw [upd_ne (ne_of_none e hHq3), upd_ne (ne_of_none e hHq2), upd_ne (ne_of_none e hHq1)]
      exact e
    have key : ∀ D, upd (upd (upd H q1 (.lst (poolA.map V.str))) q2 (.lst (poolB.map V.str))) q3 (.lst (poolS.map V.str)) D = none → upd (upd (upd H q1 (.lst (poolA.map V.str))) q2 (.lst (poolB.map V.str))) q3 (.lst (poolS.map V.str)) D = none := fun _ z => z
    obtain ⟨i0', g0', hp0, hl0, hz0, hi0, hi1⟩ := id hP
    refine ⟨_, rfl, m, rfl, by omega, by omega, fun D hD0 => have hD := key D hD0; lc_range (n := m) (fun i H' => ∃ xs rest : List Str, xs.length = i ∧ (xs ++ rest).Perm poolS ∧ H' q3 = some (.lst (rest.map V.str)) ∧ H' D = some (.lst (xs.map V.str)) ∧ Pen H' p l cs (n + i) ∧ But H H' p) ?_ ?_ ?_⟩
    · have n3D : q3 ≠ D := ne_of_none upd_same hD
      have s4 : Same H (upd (upd (upd (upd H q1 (.lst (poolA.map V.str))) q2 (.lst (poolB.map V.str))) q3 (.lst (poolS.map V.str))) D (.lst [])) := fun b o e => by
        rw [upd_ne (ne_of_none (s3 _ _ e) hD)]
        exact s3 _ _ e
      exact ⟨[], poolS, rfl, List.Perm.refl _, Eq.trans (upd_ne n3D) upd_same, upd_same, hP.same s4, fun b o _ e => s4 _ _ e⟩
    · rintro i H' hi ⟨xs, rest, hx, hperm, hq, hD', hP', hB⟩
      have hlen : xs.length + rest.length = 16 := by
        have q := hperm.length_eq
        rw [List.length_append] at q
        exact q
      have n3p : q3 ≠ p := fun e => by rw [e, hp0] at hHq3; cases hHq3
      have nDp : D ≠ p := fun e => by rw [e, s3 _ _ hp0] at hD; cases hD
      have nD3 : D ≠ q3 := fun e => by rw [e, upd_same] at hD; cases hD
      refine ⟨rfl, ?_⟩
      unfold tYes
      dsimp only
      rw [if_pos rfl]
      refine ⟨_, rfl, .inl ⟨rfl, _, SqL.of hq⟩, _, rfl, _, rfl, q3, _, rfl, .inl (SqL.of hq), p, l, cs, n + i, _, rfl, hP', ?_, ?_, by omega, fun d iz g H2 d0 d1 i0 i1 hp2 b2 => ?_⟩
      · rw [List.length_map]; omega
      · rw [List.length_map]; omega
      · rw [List.length_map] at d1
        have hq2 : H2 q3 = some (.lst (rest.map V.str)) := b2 _ _ n3p hq
        have hD2 : H2 D = some (.lst (xs.map V.str)) := b2 _ _ nDp hD'
        have hk : d.toNat < rest.length := by omega
        refine ⟨q3, rest.map V.str, d, d.toNat, .str rest[d.toNat], rfl, rfl, hq2, by omega, by omega, seqIndex_of d0 (by rw [List.length_map]; omega), by simp [hk], xs.map V.str, ?_, ?_, ?_⟩
        · exact Eq.trans (upd_ne nD3) hD2
        · rw [List.length_map]; exact Nat.lt_of_le_of_lt (show xs.length ≤ 16 by omega) (by decide)
        · refine ⟨xs ++ [rest[d.toNat]], rest.eraseIdx d.toNat, by rw [List.length_append, hx]; rfl, ?_, ?_, ?_, ?_, ?_⟩
          · refine List.Perm.trans ?_ hperm
            rw [List.append_assoc]
            exact List.Perm.append_left _ (perm_erase rest _ hk)
          · rw [upd_ne nD3.symm, upd_same]
            congr 2
            exact (map_erase V.str rest d.toNat)
          · rw [upd_same, List.map_append]
            rfl
          · have hl' : ∃ i g, H' p = some (penO l i g) ∧ H' l = some (.lst (cs.map V.int)) := by
              obtain ⟨a, b, c, d, _⟩ := hP'
              exact ⟨a, b, c, d⟩
            obtain ⟨ia, ga, hpa, hla⟩ := hl'
            have n3l : q3 ≠ l := fun e => by rw [e, hl0] at hHq3; cases hHq3
            have nDl : D ≠ l := fun e => by rw [e, s3 _ _ hl0] at hD; cases hD
            have npl : l ≠ p := fun e => by
              subst e
              rw [hp0] at hl0
              have z := List.map_eq_cons_iff.mp (HO.lst.inj (Option.some.inj hl0)).symm
              obtain ⟨_, _, _, w1, _⟩ := z
              cases w1
            refine ⟨iz, g, ?_, ?_, hz0, i0, by omega⟩
            · rw [upd_ne nDp.symm, upd_ne n3p.symm]; exact hp2
            · rw [upd_ne nDl.symm, upd_ne n3l.symm]; exact b2 _ _ npl hla
          · intro b o hb e
            have e1 := hB b o hb e
            have nb3 : b ≠ q3 := ne_of_none e hHq3
            have nbD : b ≠ D := fun z => by rw [z] at e; rw [s3 _ _ e] at hD; cases hD
            rw [upd_ne nbD, upd_ne nb3]
            exact b2 _ _ hb e1
    · rintro H' ⟨xs, rest, hx, hperm, hq, hD', hP', hB⟩
      have hHD : H D = none := by
        cases e : H D with
        | none => rfl
        | some o => rw [s3 _ _ e] at hD; cases hD
      exact k H' D xs rest hHD hD' hx hperm hP' hB
end
end Sj
/-! texts in order: of one multitude there is one order -/
namespace OrdS
open PySem PySem.Spec PyProof.Rows
theorem lt_anti : ∀ a b : List Nat, ltCps a b = false → ltCps b a = false → a = b
  | [], [], _, _ => rfl
  | [], _ :: _, h, _ => by cases h
  | _ :: _, [], _, h => by cases h
  | x :: a, y :: b, h, g => by
    have h1 : (decide (x < y) || (x == y && ltCps a b)) = false := h
    have g1 : (decide (y < x) || (y == x && ltCps b a)) = false := g
    rw [Bool.or_eq_false_iff, decide_eq_false_iff_not] at h1 g1
    have e : x = y := by omega
    subst e
    rw [beq_self_eq_true, Bool.true_and] at h1 g1
    rw [lt_anti a b h1.2 g1.2]
theorem le_trans : ∀ a b c : List Nat, ltCps b a = false → ltCps c b = false → ltCps c a = false
  | [], _, [], _, _ => rfl
  | [], [], _ :: _, _, _ => rfl
  | [], _ :: _, _ :: _, _, _ => rfl
  | _ :: _, [], _, h, _ => by cases h
  | _ :: _, _ :: _, [], _, h => by cases h
  | x :: a, y :: b, z :: c, h, g => by
    have h1 : (decide (y < x) || (y == x && ltCps b a)) = false := h
    have g1 : (decide (z < y) || (z == y && ltCps c b)) = false := g
    show (decide (z < x) || (z == x && ltCps c a)) = false
    rw [Bool.or_eq_false_iff, decide_eq_false_iff_not] at h1 g1 ⊢
    refine ⟨by omega, ?_⟩
    by_cases e : z = x
    · have e2 : y = x := by omega
      subst e2
      subst e
      rw [beq_self_eq_true, Bool.true_and] at h1 g1 ⊢
      exact le_trans a b c h1.2 g1.2
    · rw [beq_eq_false_iff_ne.mpr e, Bool.false_and]
def Le (a b : Str) : Prop := ltCps b.cps.toList a.cps.toList = false
theorem Le.anti {a b : Str} (h : Le a b) (g : Le b a) : a = b := by
  have e := lt_anti _ _ g h
  cases a
  cases b
  congr 1
  exact Array.ext' e
theorem Le.trans {a b c : Str} (h : Le a b) (g : Le b c) : Le a c := le_trans _ _ _ h g
theorem rising_pw : ∀ (l : List Str) (p : Str), risingS p l = true → (p :: l).Pairwise Le
  | [], p, _ => List.pairwise_singleton _ _
  | x :: r, p, h => by
    have h1 : (!ltCps x.cps.toList p.cps.toList && risingS x r) = true := h
    rw [Bool.and_eq_true, Bool.not_eq_true'] at h1
    have ih := rising_pw r x h1.2
    refine List.pairwise_cons.mpr ⟨fun y hy => ?_, ih⟩
    rcases List.mem_cons.mp hy with rfl | hy
    · exact h1.1
    · exact Le.trans h1.1 ((List.pairwise_cons.mp ih).1 y hy)
theorem sorted_pw : ∀ {l : List Str}, sortedS l = true → l.Pairwise Le
  | [], _ => .nil
  | x :: r, h => rising_pw r x h
theorem pw_sorted {l : List Str} (h : l.Pairwise Le) : sortedS l = true := sortedS_of_pairwise l h
theorem pw_uniq : ∀ {ys zs : List Str}, ys.Perm zs → ys.Pairwise Le → zs.Pairwise Le → ys = zs
  | [], zs, hp, _, _ => (List.Perm.eq_nil hp.symm).symm
  | y :: ys, [], hp, _, _ => by cases List.Perm.eq_nil hp
  | y :: ys, z :: zs, hp, hy, hz => by
    have hy' := List.pairwise_cons.mp hy
    have hz' := List.pairwise_cons.mp hz
    have m1 : y ∈ z :: zs := hp.mem_iff.mp List.mem_cons_self
    have m2 : z ∈ y :: ys := hp.mem_iff.mpr List.mem_cons_self
    have e : y = z := by
      rcases List.mem_cons.mp m1 with e | m1
      · exact e
      · rcases List.mem_cons.mp m2 with e | m2
        · exact e.symm
        · exact (hy'.1 z m2).anti (hz'.1 y m1)
    subst e
    rw [pw_uniq hp.cons_inv hy'.2 hz'.2]
theorem uniq {ys zs : List Str} (hp : ys.Perm zs) (hy : sortedS ys = true) (hz : sortedS zs = true) : ys = zs := pw_uniq hp (sorted_pw hy) (sorted_pw hz)
end OrdS
namespace Sj
open PySem L2 Sup StK Own
open NdefX (NF NScope ncx envF startF nscope_by)
open C8 (pss_cut tCut)
/-! what the laws of frames share: small things, _law_bare (k03, k05, ..) -/
/-- a class of legs, made by place -/
structure MkL (P : Program) (w : World) (K : PySem.W.Frag) (mg : Str → Option Value) (base : Heap) (CI C : Addr) (nm : Str) : Prop where
  ex : ∃ (f : Addr) (fd : FuncData), Mk K C f ∧ FnOk P w K mg base (L2.CX P w) 4 f fd ["self", "name"] (spLegI K CI C) ∧ Binds K fd ["self", "name"] []
  mg : mg nm = some (.ref C)
theorem passNo {P : Program} {w : World} {X : Cx} (h1 : X.prog = P) (h2 : X.w = w) : Passes (L2.CX P w) X E0 := by
  rintro pins σ H s e s' I ⟨a, B, H', cls, d, _, _, _, _, _, _, _, z⟩
  exact z.elim
abbrev tMk (K : PySem.W.Frag) (CI C : Addr) (te : TE) : TE := tMake C (spLegI K CI C) [] E0 (tCons te tNil)
/-- a leg is made -/
theorem mk_rd {K : PySem.W.Frag} {CI C : Addr} {z : Str} {te : TE} {σ : L2.St} {H : Hp} {Q : VK} (hte : ∀ Q' : VK, Q' (.str z) H → te σ H Q') (hn : isName z = true) (hz : z.length ≤ 1000) (k : ∀ a H', H a = none → LegAt H' a C z → Same H H' → Q (.ref a) H') : tMk K CI C te σ H Q := by
  refine hte _ fun x dx hx hdx hne => ⟨x, dx, .str z, rfl, upd_same, .inl ⟨z, rfl, hz, fun _ H' hp hb => ⟨rfl, k x H' hx ⟨dx, hp⟩ fun b o e => ?_⟩, fun h => absurd hn (by rw [h]; exact Bool.false_ne_true)⟩⟩
  refine hb b o (ne_of_none e hx) ?_
  rw [upd_ne (ne_of_none e hx), upd_ne (ne_of_none e hdx)]
  exact e
theorem Pen.at' {H : Hp} {p l : Addr} {cs : List Int} {n : Nat} (h : Pen H p l cs n) : ∃ xs, H p = some (.lst xs) := by
  obtain ⟨i, g, h1, _⟩ := h
  exact ⟨_, h1⟩
theorem Pen.mono {H : Hp} {p l : Addr} {cs : List Int} {n m : Nat} (h : Pen H p l cs n) (hm : n ≤ m) : Pen H p l cs m := by
  obtain ⟨i, g, h1, h2, h3, h4, h5⟩ := h
  exact ⟨i, g, h1, h2, h3, h4, by omega⟩
theorem But.same {H H1 H2 : Hp} {p : Addr} (a : But H H1 p) (s : Same H1 H2) : But H H2 p := fun b o hb e => s _ _ (a b o hb e)
theorem But.of {H H1 : Hp} {p : Addr} (s : Same H H1) : But H H1 p := fun b o _ e => s _ _ e
/-- what was laid behind the entry is not the pen -/
theorem nep {H0 : Hp} {p l q : Addr} {cs : List Int} {n : Nat} (hP : Pen H0 p l cs n) (h : H0 q = none) : q ≠ p := fun e => by
  obtain ⟨xs, z⟩ := hP.at'
  rw [e, z] at h
  cases h
theorem But.free {H H' : Hp} {p q : Addr} (b : But H H' p) (hp : q ≠ p) (h : H' q = none) : H q = none := by
  cases z : H q with
  | none => rfl
  | some o =>
    rw [b _ _ hp z] at h
    cases h
/-- the pen is a list: what is none of these stays -/
theorem But.keep {H H' : Hp} {p l q : Addr} {cs : List Int} {n : Nat} {o : HO} (b : But H H' p) (hP : Pen H p l cs n) (e : H q = some o) (no : ∀ ys, o ≠ .lst ys) : H' q = some o := by
  obtain ⟨xs, hp⟩ := hP.at'
  exact b _ _ (ne_of e hp (no xs)) e
structure DwT (P : Program) (w : World) (K : PySem.W.Frag) (mg : Str → Option Value) (base : Heap) : Prop where
  bi : Bi mg
  sorted : mg "sorted" = none
  draw : ∃ f fd, mg "_law_draw" = some (.ref f) ∧ PySem.W.keepIn K (.ref f) = true ∧ Binds K fd ["_law_pen_here", "_law_many"] [] ∧ FnOk P w K mg base CX0 1 f fd ["_law_pen_here", "_law_many"] spDraw
  pick : ∃ f fd, mg "_law_pick" = some (.ref f) ∧ PySem.W.keepIn K (.ref f) = true ∧ Binds K fd ["_law_pen_here", "_law_some"] [] ∧ FnOk P w K mg base CX0 2 f fd ["_law_pen_here", "_law_some"] spPick
  tags : ∃ f fd, mg "_law_tags" = some (.ref f) ∧ PySem.W.keepIn K (.ref f) = true ∧ Binds K fd ["_law_pen_here", "_law_many"] [] ∧ FnOk P w K mg base CX0 2 f fd ["_law_pen_here", "_law_many"] spTags
/-- a plain frame as data -/
structure BareD where
  t : Int
  ds : List Str
  ls : List Str
  g : Bool
  r : Bool
structure BareD.ok (d : BareD) : Prop where
  t1 : 1 ≤ d.t
  t3 : d.t ≤ 3
  nd : (d.ds ++ d.ls).Nodup
  po : ∀ z ∈ d.ds ++ d.ls, z ∈ poolS
  sd : d.ds.Pairwise OrdS.Le
  sl : d.ls.Pairwise OrdS.Le
  le : d.ds.length + d.ls.length ≤ 16
def rowsB (t : Int) (dl ll rl : Addr) : List (Key × V) := [(Sum.inr "top", .int t), (Sum.inr "drivers", .ref dl), (Sum.inr "listeners", .ref ll), (Sum.inr "rails", .ref rl)]
def rows3 (t : Int) (dl ll : Addr) : List (Key × V) := [(Sum.inr "top", .int t), (Sum.inr "drivers", .ref dl), (Sum.inr "listeners", .ref ll)]
/-- it stands at b, apart from p -/
structure BareAt (H : Hp) (b : Addr) (d : BareD) (p : Addr) : Prop where
  ex : ∃ dl ll rl, H b = some (.dK (rowsB d.t dl ll rl)) ∧ H dl = some (.lst (strv d.ds)) ∧ H ll = some (.lst (strv d.ls)) ∧ H rl = some (.lst (strv (railsZ d.g d.r))) ∧ dl ≠ p ∧ ll ≠ p ∧ rl ≠ p
theorem BareAt.same {H H' : Hp} {b p : Addr} {d : BareD} (h : BareAt H b d p) (s : Same H H') : BareAt H' b d p := by
  obtain ⟨dl, ll, rl, h1, h2, h3, h4, h5⟩ := h.ex
  exact ⟨dl, ll, rl, s _ _ h1, s _ _ h2, s _ _ h3, s _ _ h4, h5⟩
theorem BareAt.but {H H' : Hp} {b p l : Addr} {cs : List Int} {n : Nat} {d : BareD} (h : BareAt H b d p) (hP : Pen H p l cs n) (s : But H H' p) : BareAt H' b d p := by
  obtain ⟨dl, ll, rl, h1, h2, h3, h4, h5, h6, h7⟩ := h.ex
  exact ⟨dl, ll, rl, s.keep hP h1 (fun ys z => by cases z), s _ _ h5 h2, s _ _ h6 h3, s _ _ h7 h4, h5, h6, h7⟩
theorem pool_ok : ∀ z ∈ poolS, isName z = true ∧ z.length ≤ 8 := by
  have h : (poolS.all fun z => isName z && decide (z.length ≤ 8)) = true := by decide +kernel
  intro z hz
  have e := List.all_eq_true.mp h z hz
  rw [Bool.and_eq_true, decide_eq_true_eq] at e
  exact e
theorem pool_nd : poolS.Nodup := by decide +kernel
abbrev sBare : Stmt := top 39
abbrev nBa : List Str := ["_law_pen_here", "_law_most", "_law_tags_here", "_law_bare_here", "_law_tag", "_law_kind"]
theorem scBa : FnScope nBa ["_law_pen_here", "_law_most"] (defScope sBare) := ⟨rfl, rfl, rfl, by decide +kernel, rfl, by decide +kernel, by decide +kernel⟩
def spBare : Sp := fun vs H Q _ => ∃ (p l : Addr) (cs : List Int) (n m : Nat), vs = [.ref p, .int m] ∧ Pen H p l cs n ∧ m ≤ 15 ∧ n < 90000 ∧ ∀ b d H', d.ok → d.ds.length + d.ls.length ≤ m → H b = none → BareAt H' b d p → Pen H' p l cs (n + 40) → But H H' p → Q (.ref b) H'
/-- where the loop stands -/
structure BaInv (H0 H : Hp) (p l : Addr) (cs : List Int) (n : Nat) (b dl ll sl : Addr) (t : Int) (xs : List Str) (i : Nat) : Prop where
  pen : Pen H p l cs (n + i)
  hb : H b = some (.dK (rows3 t dl ll))
  sl_ : H sl = some (.lst (strv xs))
  ex : ∃ ds ls, H dl = some (.lst (strv ds)) ∧ H ll = some (.lst (strv ls)) ∧ ds.Sublist (xs.take i) ∧ ls.Sublist (xs.take i) ∧ (ds ++ ls).Perm (xs.take i)
  bt : But H0 H p
theorem sub_snoc {α : Type} {ds xs : List α} {i : Nat} (h : ds.Sublist (xs.take i)) (hi : i < xs.length) : (ds ++ [xs[i]]).Sublist (xs.take (i + 1)) := by
  rw [List.take_add_one, List.getElem?_eq_getElem hi]
  exact h.append (List.Sublist.refl _)
theorem sub_keep {α : Type} {ds xs : List α} {i : Nat} (h : ds.Sublist (xs.take i)) (hi : i < xs.length) : ds.Sublist (xs.take (i + 1)) := by
  rw [List.take_add_one]
  exact h.trans (List.sublist_append_left _ _)
end Sj
namespace Sj
open PySem L2 Sup StK Own
open NdefX (NF NScope ncx envF startF nscope_by)
open C8 (pss_cut tCut)
/-! _law_bare -/
theorem rows3_merge (t : Int) (dl ll : Addr) : mergeK [] (rows3 t dl ll) = rows3 t dl ll := by
  unfold rows3 mergeK putK
  simp +decide
theorem rows3_put (t : Int) (dl ll rl : Addr) : putK (rows3 t dl ll) (Sum.inr "rails" : Key) (.ref rl) = rowsB t dl ll rl := by
  unfold rows3 rowsB putK
  simp +decide
section
variable {P : Program} {w : World} {K : PySem.W.Frag} {mg : Str → Option Value} {base : Heap}
theorem ok_bare {f : Addr} {fd : FuncData} (F : Fun K "_law_bare" "_law_bare" sBare f fd) (T : DwT P w K mg base) : FnOk P w K mg base CX0 3 f fd ["_law_pen_here", "_law_most"] spBare := by
  obtain ⟨fd_, fdd, md, kd, bd, Gd⟩ := T.draw
  obtain ⟨fp, fdp, mp, kp, bp, Gp⟩ := T.pick
  obtain ⟨ft, fdt, mt, kt, bt, Gt⟩ := T.tags
  refine F.ok scBa (fun vs H Q E h => ?_) (fun cdv A outer s H vs Q E hr h => ?_)
  · obtain ⟨p, l, cs, n, m, rfl, _⟩ := h
    rfl
  · obtain ⟨p, l, cs, n, m, rfl, hP, hm, hn, k⟩ := h
    have hr1 := hr.mono (show 1 ≤ 2 by decide)
    refine ⟨_, pss_cons (ps_set (i := 2) scBa.nd rfl (Or.inl rfl) (pe_call Gt hr rfl mt kt bt .nil pass0 (pa_cons (pv 0) (pa_cons (pe_call Gd hr1 rfl md kd bd .nil pass0 (pa_cons (pv 0) (pa_cons (pe_op op_add (pv 1) pe_int) pa_nil))) pa_nil))))
      (pss_cons (ps_set (i := 3) scBa.nd rfl (Or.inl rfl) (pe_disp (pps_cons pe_str (pe_op op_add pe_int (pe_call Gd hr1 rfl md kd bd .nil pass0 (pa_cons (pv 0) (pa_cons pe_int pa_nil)))) (pps_cons pe_str (pe_lst pa_nil) (pps_cons pe_str (pe_lst pa_nil) pps_nil))) (by rfl) (by rfl) (fun z => by cases z) (by decide)))
      (pss_cons (ps_for PassesOwn.never rfl (pi_list (pe_callB cr_sortedS (by rfl) T.sorted (by decide +kernel) (pa_cons (pv 2) pa_nil))) (pg_name (i := 4) scBa.nd rfl (Or.inl rfl))
        (pss_cons (ps_set (i := 5) scBa.nd rfl (Or.inl rfl) (pe_call Gp hr rfl mp kp bp .nil pass0 (pa_cons (pv 0) (pa_cons (pe_lst (pa_cons pe_str (pa_cons pe_str (pa_cons pe_str (pa_cons pe_str pa_nil))))) pa_nil))))
        (pss_one (ps_expr (pe_bm PySem.F.plainAttrs_list PySem.F.slot_list_append PySem.F.type_list_append mt_append (pe_dget (hu_of hr) (pv 3) (pv 5) (fun _ _ => rfl)) (pa_cons (pv 4) pa_nil))))))
      (pss_cons (ps_dput (hu_of hr) (pv 3) pe_str (pe_call Gp hr rfl mp kp bp .nil pass0 (pa_cons (pv 0) (pa_cons (pe_lst (pa_cons (pe_lst pa_nil) (pa_cons (pe_lst pa_nil) (pa_cons (pe_lst (pa_cons pe_str pa_nil)) (pa_cons (pe_lst (pa_cons pe_str pa_nil)) (pa_cons (pe_lst (pa_cons pe_str (pa_cons pe_str pa_nil))) pa_nil)))))) pa_nil))) rfl)
      (pss_one (ps_ret (pv 3)))))), ?_⟩
    -- the names
    refine ⟨_, rfl, _, rfl, _, rfl, (m : Int), 1, rfl, rfl, p, l, cs, n, (m : Int) + 1, rfl, hP, by omega, by omega, by omega, fun d1 i1 g1 H1 d0 dm i0 in1 hp1 b1 => ?_⟩
    have P1 : Pen H1 p l cs (n + 1) := hP.next i0 in1 hp1 b1
    obtain ⟨q, rfl⟩ : ∃ q : Nat, d1 = (q : Int) := ⟨d1.toNat, by omega⟩
    refine ⟨p, l, cs, n + 1, q, rfl, P1, by omega, by omega, fun H2 tl zs rest htl htl2 hlen hperm P2 b2 => ?_⟩
    have b02 := b1.trans b2
    have tlp : tl ≠ p := nep P1 htl
    have hpool : ∀ z ∈ zs, z ∈ poolS := fun z hz => hperm.mem_iff.mp (List.mem_append_left _ hz)
    have hndz : zs.Nodup := by
      have := hperm.nodup_iff.mpr pool_nd
      rw [List.nodup_append] at this
      exact this.1
    have tl0 : H tl = none := b1.free tlp htl
    -- the dict
    refine fun b hb => ?_
    have b0 : H b = none := b02.free (nep P2 hb) hb
    have P2b : Pen (upd H2 b (.dK [])) p l cs (n + 1 + q) := P2.same (same_at hb)
    refine ⟨_, rfl, p, l, cs, n + 1 + q, 3, rfl, P2b, by omega, by omega, by omega, fun d3 i3 g3 H3 d30 d33 i30 in3 hp3 b3 => ?_⟩
    have P3 : Pen H3 p l cs (n + 2 + q) := (P2b.next i30 in3 hp3 b3).mono (by omega)
    have hb3 : H3 b = some (.dK []) := b3.keep P2b upd_same (fun ys z => by cases z)
    have htl3 : H3 tl = some (.lst (strv zs)) := b3 _ _ tlp (same_at hb _ _ htl2)
    have b03 : But H H3 p := (b02.same (same_at hb)).trans b3
    refine ⟨1, d3, rfl, rfl, by show 0 ≤ sizeLine; decide, fun dl hdl => ⟨by show 0 ≤ sizeLine; decide, fun ll hll => ?_⟩⟩
    obtain ⟨H5, e5⟩ : ∃ H5, H5 = upd (upd H3 dl (.lst [])) ll (.lst []) := ⟨_, rfl⟩
    rw [← e5]
    have s35 : Same H3 H5 := by rw [e5]; exact (same_at hdl).trans (same_at hll)
    have hll0 : H3 ll = none := (same_at (o := .lst []) hdl).free hll
    have nld : ll ≠ dl := fun z => by rw [z, upd_same] at hll; cases hll
    have hdl5 : H5 dl = some (.lst (strv [])) := by rw [e5, upd_ne (Ne.symm nld), upd_same]; rfl
    have hll5 : H5 ll = some (.lst (strv [])) := by rw [e5, upd_same]; rfl
    have dlp : dl ≠ p := nep P3 hdl
    have llp : ll ≠ p := nep P3 hll0
    have dl0 : H dl = none := b03.free dlp hdl
    have ll0 : H ll = none := b03.free llp hll0
    have nbd : b ≠ dl := ne_of_none hb3 hdl
    have nbl : b ≠ ll := ne_of_none hb3 hll0
    refine ⟨s35 _ _ hb3, rows3 (1 + d3) dl ll, rfl, by show 3 ≤ 15; decide, ?_⟩
    rw [rows3_merge]
    obtain ⟨H6, e6⟩ : ∃ H6, H6 = upd H5 b (.dK (rows3 (1 + d3) dl ll)) := ⟨_, rfl⟩
    rw [← e6]
    have hb6 : H6 b = some (.dK (rows3 (1 + d3) dl ll)) := by rw [e6, upd_same]
    have ne6 : ∀ {c : Addr} {o : HO}, H5 c = some o → c ≠ b → H6 c = some o := fun e n => by rw [e6, upd_ne n]; exact e
    have P6 : Pen H6 p l cs (n + 2 + q) := by
      obtain ⟨i, g, h1, h2, h3⟩ := P3
      exact ⟨i, g, ne6 (s35 _ _ h1) (ne_of h1 hb3 (by intro z; cases z)), ne6 (s35 _ _ h2) (ne_of h2 hb3 (by intro z; cases z)), h3⟩
    have b06 : But H H6 p := fun c o hc e => ne6 (s35 _ _ (b03 c o hc e)) (ne_of_none e b0)
    have htl6 : H6 tl = some (.lst (strv zs)) := ne6 (s35 _ _ htl3) (ne_of htl3 hb3 (by intro z; cases z))
    have hdl6 := ne6 hdl5 (Ne.symm nbd)
    have hll6 := ne6 hll5 (Ne.symm nbl)
    -- sorted
    refine ⟨_, rfl, tl, zs, rfl, SqL.of htl6, by omega, fun xs sl hxs hso hsl => ?_⟩
    have s67 := same_at (o := .lst (xs.map V.str)) hsl
    obtain ⟨H7, e7⟩ : ∃ H7, H7 = upd H6 sl (.lst (xs.map V.str)) := ⟨_, rfl⟩
    have hsl7 : H7 sl = some (.lst (strv xs)) := by rw [e7, upd_same]; rfl
    rw [← e7] at s67 ⊢
    have slp : sl ≠ p := nep P6 hsl
    have sl0 : H sl = none := b06.free slp hsl
    have nsd : sl ≠ dl := Ne.symm (ne_of_none hdl6 hsl)
    have nsl : sl ≠ ll := Ne.symm (ne_of_none hll6 hsl)
    have hxl : xs.length = q := by rw [hxs.length_eq, hlen]
    have hxl2 : (strv xs).length = xs.length := List.length_map _
    refine ⟨sl, rfl, ⟨_, SqL.of hsl7⟩, for_list (xs := strv xs) (fun i σ H' => (∃ o4 o5, σ = [some (.ref p), some (.int m), some (.ref tl), some (.ref b), o4, o5]) ∧ BaInv H H' p l cs (n + 2 + q) b dl ll sl (1 + d3) xs i) ⟨⟨_, _, rfl⟩, ⟨P6.same s67, s67 _ _ hb6, hsl7, ⟨[], [], s67 _ _ hdl6, s67 _ _ hll6, List.nil_sublist _, List.nil_sublist _, .nil⟩, b06.same s67⟩⟩ (fun i σ H' _ h => SqL.of h.2.sl_) ?_ ?_⟩
    · rintro i x σ H8 hx ⟨⟨o4, o5, rfl⟩, ⟨P8, hb8, hsl8, ⟨ds, ls, hds, hls, sds, sls, hper⟩, b08⟩⟩
      have hi' : i < xs.length := by rw [← hxl2]; exact (List.getElem?_eq_some_iff.mp hx).1
      have ex : (strv xs)[i]? = some (.str xs[i]) := by show (xs.map V.str)[i]? = _; rw [List.getElem?_map, List.getElem?_eq_getElem hi']; rfl
      rw [ex] at hx
      obtain rfl := Option.some.inj hx
      refine ⟨_, rfl, by show 4 ≤ sizeLine; decide, fun w4 hw4 => ?_⟩
      have s89 := same_at (o := .lst [V.str "drivers", .str "drivers", .str "drivers", .str "listeners"]) hw4
      refine ⟨p, l, w4, cs, n + 2 + q + i, _, rfl, P8.same s89, upd_same, nep P8 hw4, by show 0 < 4; decide, by show 4 < 1000; decide, by omega, fun j y H10 hj P10 b10 => ?_⟩
      have b810 : But H8 H10 p := (But.of s89).trans b10
      have hdsl : ds.length ≤ xs.length := Nat.le_trans sds.length_le (by rw [List.length_take]; omega)
      have hlsl : ls.length ≤ xs.length := Nat.le_trans sls.length_le (by rw [List.length_take]; omega)
      have hb10 := b810.keep P8 hb8 (fun ys z => by cases z)
      have hsl10 := b810 _ _ slp hsl8
      have hds10 := b810 _ _ dlp hds
      have hls10 := b810 _ _ llp hls
      have hyy : y = .str "drivers" ∨ y = .str "listeners" := by
        match j, hj with
        | 0, hj => exact .inl (Option.some.inj hj).symm
        | 1, hj => exact .inl (Option.some.inj hj).symm
        | 2, hj => exact .inl (Option.some.inj hj).symm
        | 3, hj => exact .inr (Option.some.inj hj).symm
      have hpt : xs.take (i + 1) = xs.take i ++ [xs[i]] := by rw [List.take_add_one, List.getElem?_eq_getElem hi']; rfl
      rcases hyy with rfl | rfl
      · refine ⟨_, rfl, _, rfl, b, _, rfl, DGet.k (k := Sum.inr "drivers") hb10, ?_⟩
        refine ⟨.inl ⟨rfl, _, SqL.of hds10⟩, _, rfl, dl, _, _, rfl, rfl, hds10, ?_, ⟨⟨_, _, rfl⟩, ?_⟩⟩
        · show (List.map _ ds).length < _
          rw [List.length_map]
          exact Nat.lt_of_le_of_lt (show ds.length ≤ 16 by omega) (by decide)
        · refine ⟨?_, by rw [upd_ne nbd]; exact hb10, by rw [upd_ne nsd]; exact hsl10, ⟨ds ++ [xs[i]], ls, ?_, by rw [upd_ne nld]; exact hls10, sub_snoc sds hi', sub_keep sls hi', ?_⟩, fun c o hc e => ?_⟩
          · obtain ⟨i', g', h1, h2, h3⟩ := P10
            refine ⟨i', g', by rw [upd_ne (Ne.symm dlp)]; exact h1, ?_, h3.1, h3.2.1, by omega⟩
            rw [upd_ne (fun z => ?_)]
            · exact h2
            · obtain ⟨i0', g0', q1, q2, _⟩ := hP
              rw [z, dl0] at q2
              cases q2
          · rw [upd_same]
            show _ = some (HO.lst (List.map V.str _))
            rw [List.map_append]
            rfl
          · rw [hpt, List.append_assoc]
            refine List.Perm.trans ?_ (hper.append_right [xs[i]])
            rw [List.append_assoc]
            exact List.Perm.append_left ds List.perm_append_comm
          · rw [upd_ne (ne_of_none e dl0)]
            exact (b08.trans b810) c o hc e
      · refine ⟨_, rfl, _, rfl, b, _, rfl, DGet.k (k := Sum.inr "listeners") hb10, ?_⟩
        refine ⟨.inl ⟨rfl, _, SqL.of hls10⟩, _, rfl, ll, _, _, rfl, rfl, hls10, ?_, ⟨⟨_, _, rfl⟩, ?_⟩⟩
        · show (List.map _ ls).length < _
          rw [List.length_map]
          exact Nat.lt_of_le_of_lt (show ls.length ≤ 16 by omega) (by decide)
        · refine ⟨?_, by rw [upd_ne nbl]; exact hb10, by rw [upd_ne nsl]; exact hsl10, ⟨ds, ls ++ [xs[i]], by rw [upd_ne (Ne.symm nld)]; exact hds10, ?_, sub_keep sds hi', sub_snoc sls hi', ?_⟩, fun c o hc e => ?_⟩
          · obtain ⟨i', g', h1, h2, h3⟩ := P10
            refine ⟨i', g', by rw [upd_ne (Ne.symm llp)]; exact h1, ?_, h3.1, h3.2.1, by omega⟩
            rw [upd_ne (fun z => ?_)]
            · exact h2
            · obtain ⟨i0', g0', q1, q2, _⟩ := hP
              rw [z, ll0] at q2
              cases q2
          · rw [upd_same]
            show _ = some (HO.lst (List.map V.str _))
            rw [List.map_append]
            rfl
          · rw [hpt, ← List.append_assoc]
            exact hper.append_right [xs[i]]
          · rw [upd_ne (ne_of_none e ll0)]
            exact (b08.trans b810) c o hc e
    · rintro σ H8 ⟨⟨o4, o5, rfl⟩, ⟨P8, hb8, hsl8, ⟨ds, ls, hds, hls, sds, sls, hper⟩, b08⟩⟩
      rw [hxl2, List.take_length] at sds sls hper
      have hlist : ∀ (H9 : Hp) (r0 r1 r2 r3 r4 L : Addr), Pen H9 p l cs (n + 2 + q + (strv xs).length) → But H8 H9 p → H9 r0 = some (.lst (strv [])) → H9 r1 = some (.lst (strv [])) → H9 r2 = some (.lst (strv ["ground"])) → H9 r3 = some (.lst (strv ["power"])) → H9 r4 = some (.lst (strv ["ground", "power"])) →
          r0 ≠ p → r1 ≠ p → r2 ≠ p → r3 ≠ p → r4 ≠ p → L ≠ p → H9 L = some (.lst [.ref r0, .ref r1, .ref r2, .ref r3, .ref r4]) →
          spPick [.ref p, .ref L] H9 (fun v H1 => tVar 3 [some (.ref p), some (.int m), some (.ref tl), some (.ref b), o4, o5] H1 fun x H2 => ∃ a H4, x = .ref a ∧ DPut H2 a (.str "rails") v H4 ∧ tVar 3 [some (.ref p), some (.int m), some (.ref tl), some (.ref b), o4, o5] H4 Q) E0 := by
        intro H9 r0 r1 r2 r3 r4 L P9 b89 h0 h1 h2 h3 h4 n0 n1 n2 n3 n4 nL hL
        refine ⟨p, l, L, cs, _, _, rfl, P9, hL, nL, by show 0 < 5; decide, by show 5 < 1000; decide, by rw [hxl2]; omega, fun j y H10 hj P10 b10 => ?_⟩
        obtain ⟨g, r, rl, rfl, hrl, hrp⟩ : ∃ g r rl, y = .ref rl ∧ H10 rl = some (.lst (strv (railsZ g r))) ∧ rl ≠ p := by
          match j, hj with
          | 0, hj => exact ⟨false, false, r0, (Option.some.inj hj).symm, b10 _ _ n0 h0, n0⟩
          | 1, hj => exact ⟨false, false, r1, (Option.some.inj hj).symm, b10 _ _ n1 h1, n1⟩
          | 2, hj => exact ⟨true, false, r2, (Option.some.inj hj).symm, b10 _ _ n2 h2, n2⟩
          | 3, hj => exact ⟨false, true, r3, (Option.some.inj hj).symm, b10 _ _ n3 h3, n3⟩
          | 4, hj => exact ⟨true, true, r4, (Option.some.inj hj).symm, b10 _ _ n4 h4, n4⟩
        have b810 := b89.trans b10
        have hb10 := b810.keep P8 hb8 (fun ys z => by cases z)
        refine ⟨_, rfl, b, _, rfl, DPut.k (k := Sum.inr "rails") hb10 (by show 3 < sizeLine; decide), _, rfl, ?_⟩
        rw [rows3_put]
        have hds10 := b810 _ _ dlp hds
        have hls10 := b810 _ _ llp hls
        have nrb : rl ≠ b := ne_of hrl hb10 (by intro z; cases z)
        refine k b ⟨1 + d3, ds, ls, g, r⟩ _ ⟨by show (1 : Int) ≤ 1 + d3; omega, by show (1 : Int) + d3 ≤ 3; omega, ?_, ?_, ?_, ?_, ?_⟩ ?_ b0 ⟨dl, ll, rl, upd_same, by rw [upd_ne (Ne.symm nbd)]; exact hds10, by rw [upd_ne (Ne.symm nbl)]; exact hls10, by rw [upd_ne nrb]; exact hrl, dlp, llp, hrp⟩ ?_ fun c o hc e => ?_
        · exact (hper.trans hxs).nodup_iff.mpr hndz
        · exact fun z hz => hpool z ((hper.trans hxs).mem_iff.mp hz)
        · exact (OrdS.sorted_pw hso).sublist sds
        · exact (OrdS.sorted_pw hso).sublist sls
        · have := hper.length_eq
          rw [List.length_append] at this
          show ds.length + ls.length ≤ 16
          omega
        · have := hper.length_eq
          rw [List.length_append] at this
          show ds.length + ls.length ≤ m
          omega
        · obtain ⟨i', g', q1, q2, q3⟩ := P10
          rw [hxl2, hxl] at q3
          exact ⟨i', g', by rw [upd_ne (ne_of q1 hb10 (by intro z; cases z))]; exact q1, by rw [upd_ne (ne_of q2 hb10 (by intro z; cases z))]; exact q2, q3.1, q3.2.1, by omega⟩
        · rw [upd_ne (ne_of_none e b0)]
          exact (b08.trans b810) c o hc e
      refine ⟨_, rfl, by show 0 ≤ sizeLine; decide, fun r0 h0 => ⟨by show 0 ≤ sizeLine; decide, fun r1 h1 => ⟨by show 1 ≤ sizeLine; decide, fun r2 h2 => ⟨by show 1 ≤ sizeLine; decide, fun r3 h3 => ⟨by show 2 ≤ sizeLine; decide, fun r4 h4 => ⟨by show 5 ≤ sizeLine; decide, fun L hL => ?_⟩⟩⟩⟩⟩⟩
      have t0 := same_at (o := .lst []) h0
      have t1 := same_at (o := .lst []) h1
      have t2 := same_at (o := .lst [.str "ground"]) h2
      have t3 := same_at (o := .lst [.str "power"]) h3
      have t4 := same_at (o := .lst [.str "ground", .str "power"]) h4
      have tL := same_at (o := .lst [.ref r0, .ref r1, .ref r2, .ref r3, .ref r4]) hL
      have t34 := t4.trans tL
      have t24 := t3.trans t34
      have t14 := t2.trans t24
      have t04 := t1.trans t14
      exact hlist _ r0 r1 r2 r3 r4 L (P8.same (t0.trans t04)) (But.of (t0.trans t04)) (t04 _ _ upd_same) (t14 _ _ upd_same) (t24 _ _ upd_same) (t34 _ _ upd_same) (tL _ _ upd_same) (nep P8 h0) (nep (P8.same t0) h1) (nep ((P8.same t0).same t1) h2) (nep (((P8.same t0).same t1).same t2) h3) (nep ((((P8.same t0).same t1).same t2).same t3) h4) (nep (((((P8.same t0).same t1).same t2).same t3).same t4) hL) upd_same
end
end Sj
namespace Sj
open PySem L2 Sup StK Own
open NdefX (NF NScope ncx envF startF nscope_by)
open C8 (pss_cut tCut)
/-! _law_frame (k03, k05, ..) -/
section
variable {P : Program} {w : World} {K : PySem.W.Frag} {mg : Str → Option Value} {base : Heap} {f : Addr} {fd : FuncData} {ks : Kinds} {CI CF : Addr}
abbrev psO : List Str := ["cls", "legs", "top", "ground", "power"]
theorem of_kwB (F : FunD K "of" "Frame.of" (defArgs sOf) (defBody sOf) (defScope sOf) [] kwsF f fd) (G : FnOk P w K mg base (L2.CX P w) 6 f fd psO (spOf K ks CI CF)) :
    FnK P w K mg base (L2.CX P w) 6 f ksB (fun vs zs H Q E => vs.length = 2 ∧ spOf K ks CI CF (vs ++ zs) H Q E) := by
  obtain ⟨mv, hb⟩ := F.kbinds0 (ps := psO) 2 ksB [] (fun us mv ws => us ++ ws) (by decide) (fun q h => nomatch h) (fun r1 _ r3 => r1.append r3)
    (fun D doc pm an cdv ct us mv ws h1 h2 h3 => match us, mv, ws, h1, h2, h3 with
      | [a, b], [], [x, y, z], _, _, _ => rfl)
  exact fnK_of G hb
end
theorem topIn {K : PySem.W.Frag} {H : Hp} {i : Int} (h1 : 1 ≤ i) (h3 : i ≤ 3) : TopIs K H (.int i) true := .inl ⟨i, rfl, by rw [decide_eq_true h1, decide_eq_true h3]; rfl⟩
theorem railIn {K : PySem.W.Frag} {H : Hp} {b : Bool} : RailIs K H (.bl b) true := ⟨"bool", .base (.bl b), by decide +kernel⟩
/-- the legs ys are the drivers ds and the listeners ls -/
def KindsOf (ks : Kinds) (ys : List LegR) (ds ls : List Str) : Prop := ∃ rs1 rs2 : List LegR, ys.Perm (rs1 ++ rs2) ∧ names rs1 = ds ∧ names rs2 = ls ∧ (∀ r ∈ rs1, r.C = ks.drv) ∧ ∀ r ∈ rs2, r.C = ks.lis
abbrev sFrm : Stmt := top 40
abbrev nFm : List Str := ["_law_bare_here", "_law_legs_so", "_law_rails_so", "_law_tag"]
theorem scFm : FnScope nFm ["_law_bare_here"] (defScope sFrm) := ⟨rfl, rfl, rfl, by decide +kernel, rfl, by decide +kernel, by decide +kernel⟩
def spFrm (ks : Kinds) (CF : Addr) : Sp := fun vs H Q _ => ∃ (b : Addr) (d : BareD) (p : Addr), vs = [.ref b] ∧ BareAt H b d p ∧ d.ok ∧ ∀ a ys H', FrIs ks CF H' a ⟨ys, d.t, d.g, d.r⟩ → KindsOf ks ys d.ds d.ls → H a = none → Same H H' → Q (.ref a) H'
structure FkT (P : Program) (w : World) (K : PySem.W.Frag) (mg : Str → Option Value) (base : Heap) (ks : Kinds) (CI CF : Addr) : Prop where
  d : MkL P w K mg base CI ks.drv "Driver"
  i : MkL P w K mg base CI ks.lis "Listener"
  mF : mg "Frame" = some (.ref CF)
  of : ∃ mc q gO, ClX.CRead K CF mc ∧ ClX.CMet K CF mc "of" q gO ∧ FnK P w K mg base (L2.CX P w) 6 gO ksB (fun vs zs H Q E => vs.length = 2 ∧ spOf K ks CI CF (vs ++ zs) H Q E)
def teMk (K : PySem.W.Frag) (CI C : Addr) : TE := tMk K CI C (tVar 3)
theorem names_append (xs ys : List LegR) : names (xs ++ ys) = names xs ++ names ys := List.map_append
theorem refs_append (xs ys : List LegR) : refs (xs ++ ys) = refs xs ++ refs ys := List.map_append
/-- [C(tag) for tag in zs] -/
theorem mk_walk {K : PySem.W.Frag} {CI C q D : Addr} {zs : List Str} {H : Hp} {σ : L2.St} {Qd : Hp → Prop} (hσ : σ.length = 4) (hq : H q = some (.lst (strv zs))) (hD : H D = none) (hz : ∀ z ∈ zs, z ∈ poolS) (hl : zs.length ≤ 16)
    (hd : ∀ H' rs, Same H H' → H' D = some (.lst (refs rs)) → names rs = zs → (∀ r ∈ rs, r.C = C ∧ LegAt H' r.a C r.z) → Qd H') :
    ∃ W : Nat → Nat → Hp → Prop, (∃ m, W 0 m (upd H D (.lst []))) ∧ ∀ i m H, W i m H →
      ((Itl K q).stop i H ∧ Qd H) ∨ ((Itl K q).go i H ∧ ∃ Nx : Hp → Prop, (∀ H', Nx H' → ∃ m', m' < m ∧ W (i + 1) m' H') ∧ ∀ x H', (Itl K q).yld i H x H' → gName 3 x (wipe σ [3]) H' fun σ2 H2 => wipe σ2 [3] = wipe σ [3] ∧ tYes σ2 H2 fun b H3 =>
        if b = true then teMk K CI C σ2 H3 fun y H4 => ∃ acc, H4 D = some (.lst acc) ∧ acc.length < sizeLine ∧ Nx (upd H4 D (.lst (acc ++ [y]))) else Nx H3) := by
  match σ, hσ with
  | [u0, u1, u2, u3], _ =>
  have hlm : (strv zs).length = zs.length := List.length_map _
  refine lc_it (walk_list (K := K) (a := q) (xs := strv zs)) (fun i H' => Same H H' ∧ ∃ rs, H' D = some (.lst (refs rs)) ∧ names rs = zs.take i ∧ ∀ r ∈ rs, r.C = C ∧ LegAt H' r.a C r.z) ⟨same_at hD, [], upd_same, rfl, fun r hr => by cases hr⟩ (fun i H' _ p => SqL.of (p.1 _ _ hq)) ?_ ?_
  · rintro i x H1 H2 hi ⟨s1, rs, d1, hn, hr⟩ ⟨rfl, hx⟩
    rw [hlm] at hi
    have ex : (strv zs)[i]? = some (.str zs[i]) := by show (zs.map V.str)[i]? = _; rw [List.getElem?_map, List.getElem?_eq_getElem hi]; rfl
    rw [ex] at hx
    obtain rfl := Option.some.inj hx
    refine ⟨rfl, ?_⟩
    unfold tYes
    dsimp only
    rw [if_pos rfl]
    obtain ⟨o1, o2⟩ := pool_ok _ (hz _ (List.getElem_mem hi))
    unfold teMk
    refine mk_rd (fun Q'' q => ⟨_, rfl, q⟩) o1 (by omega) fun a H3 ha la s3 => ?_
    have d3 := s3 _ _ d1
    have nDa : D ≠ a := fun z => by
      obtain ⟨dx, e⟩ := la
      rw [← z, d3] at e
      cases e
    have keepD : ∀ {c C' : Addr} {z : Str} {o : HO}, LegAt H3 c C' z → LegAt (upd H3 D o) c C' z := fun ⟨dx, e⟩ => ⟨dx, by rw [upd_ne (ne_of e d3 (by intro z; cases z))]; exact e⟩
    refine ⟨_, d3, ?_, fun c o hc => ?_, rs ++ [⟨a, C, zs[i]⟩], ?_, ?_, fun r hr' => ?_⟩
    · have e1 : rs.length = (zs.take i).length := by rw [← hn]; unfold names; rw [List.length_map]
      show (List.map _ rs).length < _
      rw [List.length_map, e1, List.length_take]
      exact Nat.lt_of_le_of_lt (Nat.min_le_right _ _) (Nat.lt_of_le_of_lt hl (by decide))
    · rw [upd_ne (ne_of_none hc hD)]
      exact s3 _ _ (s1 _ _ hc)
    · rw [upd_same, refs_append]
      rfl
    · rw [names_append, hn, List.take_add_one, List.getElem?_eq_getElem hi]
      rfl
    · rcases List.mem_append.mp hr' with hr' | hr'
      · exact ⟨(hr r hr').1, keepD ((hr r hr').2.same s3)⟩
      · obtain rfl := List.mem_singleton.mp hr'
        exact ⟨rfl, keepD la⟩
  · rintro H1 ⟨s1, rs, d1, hn, hr⟩
    rw [hlm, List.take_length] at hn
    exact hd H1 rs s1 d1 hn hr
theorem inV_rails (g r : Bool) : inV (.str "ground") (strv (railsZ g r)) = g ∧ inV (.str "power") (strv (railsZ g r)) = r := by
  cases g <;> cases r <;> decide +kernel
theorem flat_strv : ∀ zs : List Str, (strv zs).all flatV = true
  | [] => rfl
  | z :: zs => by
    show (flatV (.str z) && (strv zs).all flatV) = true
    rw [flat_strv zs]
    rfl
section
variable {P : Program} {w : World} {K : PySem.W.Frag} {mg : Str → Option Value} {base : Heap}
theorem ok_frm {f CI CF : Addr} {fd : FuncData} {ks : Kinds} (F : Fun K "_law_frame" "_law_frame" sFrm f fd) (T : FkT P w K mg base ks CI CF) : FnOk P w K mg base CX0 7 f fd ["_law_bare_here"] (spFrm ks CF) := by
  obtain ⟨⟨fD, fdD, MD, GD, bD⟩, mD⟩ := T.d
  obtain ⟨⟨fI, fdI, MI, GI, bI⟩, mI⟩ := T.i
  obtain ⟨mc, qO, gO, cr, cm, GB⟩ := T.of
  refine F.ok scFm (fun vs H Q E h => ?_) (fun cdv A outer s H vs Q E hr h => ?_)
  · obtain ⟨b, d, p, rfl, _⟩ := h
    rfl
  · obtain ⟨b, d, p, rfl, hB, ok, k⟩ := h
    obtain ⟨dl, ll, rl, hb, hdl, hll, hrl, _⟩ := hB.ex
    have hr5 := hr.mono (show 5 ≤ 6 by decide)
    refine ⟨_, pss_cons (ps_set (i := 1) scFm.nd rfl (Or.inl rfl) (pe_op op_cat
        (pe_lc (te := teMk K CI ks.drv) (own := [("_law_tag", 3)]) (g := gName 3) (tt := tYes) rfl scFm.nd (pi_list (pe_dget (hu_of hr) (pv 0) pe_str (fun _ _ => rfl))) (blkOk_by (N := nFm) (sc := defScope sFrm) (by decide +kernel))
          (fun _ _ _ _ _ => pg_name (i := 3) scFm.nd rfl (Or.inl rfl)) (fun _ _ _ _ _ => pts_nil) (fun _ _ _ _ _ => pe_make MD GD hr5 rfl mD bD .nil (passNo rfl rfl) (pa_cons (pv 3) pa_nil)))
        (pe_lc (te := teMk K CI ks.lis) (own := [("_law_tag", 3)]) (g := gName 3) (tt := tYes) rfl scFm.nd (pi_list (pe_dget (hu_of hr) (pv 0) pe_str (fun _ _ => rfl))) (blkOk_by (N := nFm) (sc := defScope sFrm) (by decide +kernel))
          (fun _ _ _ _ _ => pg_name (i := 3) scFm.nd rfl (Or.inl rfl)) (fun _ _ _ _ _ => pts_nil) (fun _ _ _ _ _ => pe_make MI GI hr5 rfl mI bI .nil (passNo rfl rfl) (pa_cons (pv 3) pa_nil)))))
      (pss_cons (ps_set (i := 2) scFm.nd rfl (Or.inl rfl) (pe_dget (hu_of hr) (pv 0) pe_str (fun _ _ => rfl)))
      (pss_one (ps_ret (pe_cmethK (pe_glob rfl T.mF (v := .ref CF) rfl) cr cm GB hr (passNo rfl rfl) (pa_cons (pv 1) pa_nil) (pk_cons (pe_dget (hu_of hr) (pv 0) pe_str (fun _ _ => rfl)) (pk_cons (pe_cmpR op_in_seq pe_str (pv 2) (by rfl)) (pk_cons (pe_cmpR op_in_seq pe_str (pv 2) (by rfl)) pk_nil))))))), ?_⟩
    have lds : d.ds.length ≤ 16 := by have := ok.le; omega
    have lls : d.ls.length ≤ 16 := by have := ok.le; omega
    refine ⟨_, rfl, b, _, rfl, DGet.k (k := Sum.inr "drivers") hb, dl, rfl, ⟨_, SqL.of hdl⟩, fun D1 hD1 => ?_⟩
    refine mk_walk rfl hdl hD1 (fun z hz => ok.po z (List.mem_append_left _ hz)) lds fun H1 rs1 s1 d1 n1 r1 => ?_
    refine ⟨_, rfl, b, _, rfl, DGet.k (k := Sum.inr "listeners") (s1 _ _ hb), ll, rfl, ⟨_, SqL.of (s1 _ _ hll)⟩, fun D2 hD2 => ?_⟩
    refine mk_walk rfl (s1 _ _ hll) hD2 (fun z hz => ok.po z (List.mem_append_right _ hz)) lls fun H2 rs2 s2 d2 n2 r2 => ?_
    have e1 : rs1.length = d.ds.length := by rw [← n1]; unfold names; rw [List.length_map]
    have e2 : rs2.length = d.ls.length := by rw [← n2]; unfold names; rw [List.length_map]
    have c1 : (refs rs1).length = rs1.length := List.length_map _
    have c2 : (refs rs2).length = rs2.length := List.length_map _
    refine ⟨D1, D2, refs rs1, refs rs2, rfl, rfl, s2 _ _ d1, d2, Nat.le_trans (show _ ≤ 32 by omega) (by decide), fun L hL => ?_⟩
    obtain ⟨H3, e3⟩ : ∃ H3, H3 = upd H2 L (.lst (refs rs1 ++ refs rs2)) := ⟨_, rfl⟩
    have s3 : Same H2 H3 := by rw [e3]; exact same_at hL
    have hL3 : H3 L = some (.lst (refs (rs1 ++ rs2))) := by rw [e3, upd_same, refs_append]
    rw [← e3]
    have s03 := (s1.trans s2).trans s3
    have hb3 := s03 _ _ hb
    have hrl3 := s03 _ _ hrl
    refine ⟨_, rfl, b, _, rfl, DGet.k (k := Sum.inr "rails") hb3, ?_⟩
    refine ⟨rfl, _, rfl, _, rfl, b, _, rfl, DGet.k (k := Sum.inr "top") hb3, _, rfl, rl, _, rfl, .inl (SqL.of hrl3), rfl, flat_strv _, _, rfl, rl, _, rfl, .inl (SqL.of hrl3), rfl, flat_strv _, rfl, rfl, ?_⟩
    rw [if_neg Bool.false_ne_true, if_neg Bool.false_ne_true, (inV_rails d.g d.r).1, (inV_rails d.g d.r).2]
    have hrs : ∀ r ∈ rs1 ++ rs2, r.ok ks H3 := fun r hr' => by
      rcases List.mem_append.mp hr' with h | h
      · exact ⟨.inl (r1 r h).1, by rw [(r1 r h).1]; exact (((r1 r h).2.same s2).same s3)⟩
      · exact ⟨.inr (r2 r h).1, by rw [(r2 r h).1]; exact ((r2 r h).2.same s3)⟩
    have hnm : names (rs1 ++ rs2) = d.ds ++ d.ls := by rw [names_append, n1, n2]
    have hdue : due (names (rs1 ++ rs2)) true (true && true) = .non := by
      unfold due
      rw [hnm, List.length_append, if_neg (by have := ok.le; omega), if_pos ok.nd]
      rfl
    refine ⟨_, _, _, _, true, true, true, rfl, topIn ok.t1 ok.t3, railIn, railIn, .inr ⟨L, _, rfl, .inl hL3, ?_, .inr ⟨rs1 ++ rs2, rfl, hrs, fun z hz => ?_, fun _ a H4 ys ha ho hf s4 => ?_⟩⟩⟩
    · rw [refs_append, List.length_append]
      omega
    · rw [hdue] at hz
      cases hz
    · have hpn : (names ys).Perm (d.ds ++ d.ls) := by rw [← hnm]; exact ho.1.map _
      refine k a ys H4 ⟨hf, fun r hr' => (hrs r (ho.1.mem_iff.mp hr')).same s4, hpn.nodup_iff.mpr ok.nd, ?_, ho.2⟩ ⟨rs1, rs2, ho.1, n1, n2, fun r h => (r1 r h).1, fun r h => (r2 r h).1⟩ (s03.free ha) (s03.trans s4)
      rw [ho.1.length_eq, List.length_append]
      omega
end
end Sj
namespace Sj
open PySem L2 Sup StK Own Shw Exg
open NdefX (NF NScope ncx envF startF nscope_by)
open C8 (pss_cut tCut)
/-! _law_legs, _law_odd (k03, k05, ..) -/
abbrev sLgs : Stmt := top 41
theorem scLgs : FnScope ["_law_bare_here"] ["_law_bare_here"] (defScope sLgs) := ⟨rfl, rfl, rfl, by decide +kernel, rfl, by decide +kernel, by decide +kernel⟩
def spLgs : Sp := fun vs H Q _ => ∃ (b : Addr) (d : BareD) (p : Addr), vs = [.ref b] ∧ BareAt H b d p ∧ d.ok ∧ ∀ zs q H', zs.Perm (d.ds ++ d.ls) → PyProof.Rows.sortedS zs = true → H q = none → H' q = some (.lst (strv zs)) → Same H H' → Q (.ref q) H'
/-- what is no name of anything -/
def oddF : List V := [.non, .int 0, .bl true, .str "", .str "A", .str "nobody", .str "nothing", .int (10 ^ 30), .str "a b"]
inductive OddX (H : Hp) (p : Addr) : V → Prop
  | flat {x : V} : x ∈ oddF → OddX H p x
  | tup {t : Addr} : H t = some (.tup [.str "a"]) → OddX H p (.ref t)
  | lst {l : Addr} : H l = some (.lst [.str "a"]) → l ≠ p → sysModules ≠ l → OddX H p (.ref l)
  | dic {q : Addr} : H q = some (.dK []) → OddX H p (.ref q)
theorem OddX.same {H H' : Hp} {p : Addr} {x : V} (h : OddX H p x) (s : Same H H') : OddX H' p x := by
  cases h with
  | flat h => exact .flat h
  | tup h => exact .tup (s _ _ h)
  | lst h n m => exact .lst (s _ _ h) n m
  | dic h => exact .dic (s _ _ h)
theorem OddX.but {H H' : Hp} {p l : Addr} {cs : List Int} {n : Nat} {x : V} (h : OddX H p x) (hP : Pen H p l cs n) (s : But H H' p) : OddX H' p x := by
  cases h with
  | flat h => exact .flat h
  | tup h => exact .tup (s.keep hP h fun ys z => by cases z)
  | lst h n m => exact .lst (s _ _ n h) n m
  | dic h => exact .dic (s.keep hP h fun ys z => by cases z)
theorem smalls_of {d : PyData} (h : (PyData.showable d && decide (d.depth ≤ 60) && decide (d.shown.length ≤ 1000)) = true) : Smalls d := by
  rw [Bool.and_eq_true, Bool.and_eq_true, decide_eq_true_eq, decide_eq_true_eq] at h
  exact ⟨⟨h.1.1, h.1.2, Nat.le_trans h.2 (by decide)⟩, h.2⟩
theorem OddX.data {K : PySem.W.Frag} {H : Hp} {p : Addr} {x : V} (h : OddX H p x) : ∃ d, Dq K H x d ∧ Smalls d := by
  cases h with
  | flat h =>
    unfold oddF at h
    simp only [List.mem_cons, List.not_mem_nil, or_false] at h
    rcases h with rfl | rfl | rfl | rfl | rfl | rfl | rfl | rfl | rfl
    · exact ⟨_, .non, smalls_of (by decide +kernel)⟩
    · exact ⟨_, .int _, smalls_of (by decide +kernel)⟩
    · exact ⟨_, .bl _, smalls_of (by decide +kernel)⟩
    · exact ⟨_, .str _, smalls_of (by decide +kernel)⟩
    · exact ⟨_, .str _, smalls_of (by decide +kernel)⟩
    · exact ⟨_, .str _, smalls_of (by decide +kernel)⟩
    · exact ⟨_, .str _, smalls_of (by decide +kernel)⟩
    · exact ⟨_, .int _, smalls_of (by decide +kernel)⟩
    · exact ⟨_, .str _, smalls_of (by decide +kernel)⟩
  | tup h => exact ⟨_, .tup (SqT.of h) (.cons (.str _) .nil), smalls_of (by decide +kernel)⟩
  | lst h n m => exact ⟨_, .lst m (SqL.of h) (.cons (.str _) .nil), smalls_of (by decide +kernel)⟩
  | dic h => exact ⟨_, .dic (.inl h), smalls_of (by decide +kernel)⟩
section
variable {P : Program} {w : World} {K : PySem.W.Frag} {mg : Str → Option Value} {base : Heap}
theorem ok_lgs {f : Addr} {fd : FuncData} (F : Fun K "_law_legs" "_law_legs" sLgs f fd) (mS : mg "sorted" = none) : FnOk P w K mg base CX0 1 f fd ["_law_bare_here"] spLgs := by
  refine F.ok scLgs (fun vs H Q E h => ?_) (fun cdv A outer s H vs Q E hr h => ?_)
  · obtain ⟨b, d, p, rfl, _⟩ := h
    rfl
  · obtain ⟨b, d, p, rfl, hB, ok, k⟩ := h
    obtain ⟨dl, ll, rl, hb, hdl, hll, hrl, _⟩ := hB.ex
    refine ⟨_, pss_one (ps_ret (pe_callB cr_sortedS (by rfl) mS (by decide +kernel) (pa_cons (pe_op op_cat (pe_dget (hu_of hr) (pv 0) pe_str (fun _ _ => rfl)) (pe_dget (hu_of hr) (pv 0) pe_str (fun _ _ => rfl))) pa_nil))), ?_⟩
    have c1 : (strv d.ds).length = d.ds.length := List.length_map _
    have c2 : (strv d.ls).length = d.ls.length := List.length_map _
    refine ⟨_, rfl, b, _, rfl, DGet.k (k := Sum.inr "drivers") hb, _, rfl, b, _, rfl, DGet.k (k := Sum.inr "listeners") hb, dl, ll, _, _, rfl, rfl, hdl, hll, Nat.le_trans (show _ ≤ 16 by rw [c1, c2]; exact ok.le) (by decide), fun q hq => ?_⟩
    have s1 := same_at (o := .lst (strv d.ds ++ strv d.ls)) hq
    refine ⟨q, d.ds ++ d.ls, rfl, SqL.of ?_, by rw [List.length_append]; have := ok.le; omega, fun ys p2 hp hs hn => ?_⟩
    · rw [upd_same]
      show _ = some (HO.lst (List.map _ _))
      rw [List.map_append]
      rfl
    · exact k ys p2 _ hp hs (s1.free hn) upd_same (s1.trans (same_at hn))
end
end Sj
/-! repr of data without dicts, where nothing is being shown. -/
namespace ShN
open PySem PySem.Spec PyProof.Rows L2
structure FitN (d : PyData) : Prop where
  sh : PyData.showable d = true
  dp : d.depth ≤ 60
  sz : d.shown.length ≤ sizeLine
  nd : d.hasDict = false
end ShN
namespace Sj
open PySem L2 Sup
/-! data that can be shown, by its parts -/
structure Sm (k n : Nat) (d : PyData) : Prop where
  sh : PyData.showable d = true
  ls : PyData.leavesShort 9 d = true
  nd : d.hasDict = false
  dp : d.depth ≤ k
  bk : d.bulk ≤ n
theorem Sm.mono {k n k' n' : Nat} {d : PyData} (h : Sm k n d) (hk : k ≤ k') (hn : n ≤ n') : Sm k' n' d := ⟨h.sh, h.ls, h.nd, Nat.le_trans h.dp hk, Nat.le_trans h.bk hn⟩
structure SmA (k n : Nat) (ds : List PyData) : Prop where
  sh : PyData.showableAll ds = true
  ls : PyData.leavesShortAll 9 ds = true
  nd : PyData.hasDictAll ds = false
  dp : PyData.depthAll ds ≤ k
  bk : PyData.bulkAll ds ≤ n
theorem SmA.nil {k : Nat} : SmA k 0 [] := ⟨rfl, rfl, rfl, Nat.zero_le _, Nat.le_refl _⟩
theorem SmA.cons {k n m : Nat} {d : PyData} {ds : List PyData} (h : Sm k n d) (t : SmA k m ds) : SmA k (n + 1 + m) (d :: ds) :=
  ⟨Bool.and_eq_true_iff.mpr ⟨h.sh, t.sh⟩, Bool.and_eq_true_iff.mpr ⟨h.ls, t.ls⟩, Bool.or_eq_false_iff.mpr ⟨h.nd, t.nd⟩, Nat.max_le.mpr ⟨h.dp, t.dp⟩, by
    show d.bulk + 1 + PyData.bulkAll ds ≤ _
    have := h.bk
    have := t.bk
    omega⟩
theorem SmA.all {k n : Nat} : ∀ {ds : List PyData}, (∀ d ∈ ds, Sm k n d) → SmA k (ds.length * (n + 1)) ds
  | [], _ => ⟨rfl, rfl, rfl, Nat.zero_le _, Nat.zero_le _⟩
  | d :: ds, h => by
    have t := SmA.cons (h d List.mem_cons_self) (SmA.all (k := k) (n := n) (ds := ds) fun x hx => h x (List.mem_cons_of_mem _ hx))
    refine ⟨t.sh, t.ls, t.nd, t.dp, Nat.le_trans t.bk ?_⟩
    rw [List.length_cons, Nat.succ_mul]
    omega
theorem Sm.tup {k n : Nat} {ds : List PyData} (h : SmA k n ds) : Sm (k + 1) n (.tuple ds) := ⟨h.sh, h.ls, h.nd, Nat.succ_le_succ h.dp, h.bk⟩
theorem Sm.lst {k n : Nat} {ds : List PyData} (h : SmA k n ds) : Sm (k + 1) n (.list ds) := ⟨h.sh, h.ls, h.nd, Nat.succ_le_succ h.dp, h.bk⟩
theorem Sm.fit {k n : Nat} {d : PyData} (h : Sm k n d) (hk : k ≤ 60) (hn : n ≤ 1000000) : ShN.FitN d := by
  refine ⟨h.sh, Nat.le_trans h.dp hk, ?_, h.nd⟩
  have b := PyData.shown_le_bulk 9 (by decide) d h.ls
  have := h.bk
  rw [sizeLine_eq]
  omega
theorem Sm.bool {k n : Nat} (b : Bool) : Sm k n (.bool b) := ⟨rfl, rfl, rfl, Nat.zero_le _, Nat.zero_le _⟩
theorem Sm.top {k n : Nat} {t : Int} (h1 : 1 ≤ t) (h3 : t ≤ 3) : Sm k n (.int t) := by
  obtain rfl | rfl | rfl : t = 1 ∨ t = 2 ∨ t = 3 := by omega
  all_goals exact ⟨by decide +kernel, by decide +kernel, by decide +kernel, Nat.zero_le _, Nat.zero_le _⟩
/-- a short name -/
def shortZ (z : Str) : Bool := PyData.showable (.str z) && PyData.leavesShort 9 (.str z) && decide (PyData.bulk (.str z) ≤ 8)
theorem Sm.str {k : Nat} {z : Str} (h : shortZ z = true) : Sm k 8 (.str z) := by
  unfold shortZ at h
  rw [Bool.and_eq_true, Bool.and_eq_true, decide_eq_true_eq] at h
  exact ⟨h.1.1, h.1.2, rfl, Nat.zero_le _, h.2⟩
/-- a tuple of short names -/
theorem Sm.names {zs : List Str} (h : ∀ z ∈ zs, shortZ z = true) (hl : zs.length ≤ 50) : Sm 1 450 (.tuple (zs.map PyData.str)) := by
  have a := SmA.all (k := 0) (n := 8) (ds := zs.map PyData.str) fun d hd => by
    obtain ⟨z, hz, rfl⟩ := List.mem_map.mp hd
    exact Sm.str (h z hz)
  rw [List.length_map] at a
  exact (Sm.tup a).mono (Nat.le_refl _) (by omega)
end Sj
/-! C(), C.m(k = v, ..) by a promise with keywords; lists of the same things under != -/
namespace StK
open PySem PySem.Spec PyProof PyProof.Rows L2
end StK
/-! C(*xs, e, k = v) -/
namespace StK
open PySem PySem.Spec PyProof PyProof.Rows L2
end StK
/-! o + x, o - x by an operator of o's own class -/
namespace Own
open PySem PySem.Spec PySem.W PyProof.Rows L2 Sup Grd
def isN (o : Option (Option Value)) : Bool := match o with
  | some none => true
  | _ => false
theorem isN_eq {o : Option (Option Value)} (h : isN o = true) : o = some none := by
  match o, h with
  | some none, _ => rfl
/-- neither the class at D nor what it comes from has such an operator -/
def noBin (K : Frag) (D : Addr) (nm : String) : Bool := match clsIn K D with
  | some cd => cd.mro.all fun c => isN (findIn K c (PySem.dunder nm)) && isN (findIn K c (dunderR nm))
  | none => false
theorem fills_not {K : Frag} {M : Model} {h : Heap} {D : Addr} {nm : String} (X : K.In h) (hD : noBin K D nm = true) : Looks M h (fillsNumberSlot (.ref D) nm) false := by
  intro A Q E s k q
  unfold noBin at hD
  cases e : clsIn K D with
  | none => rw [e] at hD; cases hD
  | some cd =>
    rw [e] at hD
    have LM := (looks_clsIn (M := M) X e).andThen (f := fun z => (pure z.mro : Sem (List Value))) .now
    have X' := X.keeps k
    have go : ∀ l : List Value, (l.all fun c => isN (findIn K c (PySem.dunder nm)) && isN (findIn K c (dunderR nm))) = true → ∀ f : Value → Sem Bool, (∀ c, findIn K c (PySem.dunder nm) = some none → findIn K c (dunderR nm) = some none → ∀ Q' : Bool → Shared → Prop, Q' false s → wpAny M A (f c) Q' E s) → wpAny M A (l.anyM f) Q E s := by
      intro l
      induction l with
      | nil => intro _ f _; exact wpAny_pure q
      | cons c l ih =>
        intro hl f hf
        rw [List.all_cons, Bool.and_eq_true, Bool.and_eq_true] at hl
        rw [List.anyM_cons]
        refine wpAny_bind (hf c (isN_eq hl.1.1) (isN_eq hl.1.2) _ ?_)
        simp only [Bool.false_eq_true, if_false]
        exact ih hl.2 f hf
    unfold fillsNumberSlot
    refine wpAny_bind (LM A _ E s k ?_)
    refine go cd.mro hD _ fun c h1 h2 Q' q' => ?_
    have L1 : Looks M s.heap (typeLookup c (PySem.dunder nm)) none := looks_findIn X' h1
    have L2 : Looks M s.heap (typeLookup c (dunderR nm)) none := looks_findIn X' h2
    have two : wpAny M A ([PySem.dunder nm, dunderR nm].anyM fun name => do
        let some x ← typeLookup c name | return false
        if !ownNameWrapper x name then return true
        return !(← inheritsSeqSlot c name)) Q' E s := by
      rw [List.anyM_cons]
      refine wpAny_bind (wpAny_bind (L1.here ?_))
      refine wpAny_pure ?_
      simp only [Bool.false_eq_true, if_false]
      rw [List.anyM_cons]
      refine wpAny_bind (wpAny_bind (L2.here ?_))
      refine wpAny_pure ?_
      simp only [Bool.false_eq_true, if_false]
      exact wpAny_pure q'
    cases c
    case type T =>
      refine wpAny_bind (L1.here (wpAny_bind (L2.here ?_)))
      exact wpAny_pure q'
    all_goals exact two
/-- what the value on the right asks -/
inductive RightT (K : Frag) (C : Addr) (nm : String) : Value → Prop
  | own {D : Addr} (h : noBin K D nm = true) (ne : D ≠ C) : RightT K C nm (.ref D)
  | py {T : String} {fo ro rc : Option Value} (h1 : findIn K (.type T) (PySem.dunder nm) = some fo) (h2 : findIn K (.type T) (dunderR nm) = some ro) (hs : subIn K (.type T) (.ref C) = some false) (hr : findIn K (.ref C) (dunderR nm) = some rc) (hp : rc = none ∨ ∃ g : Addr, rc = some (.ref g)) : RightT K C nm (.type T)
theorem own_bin {prog : Program} {w : World} {A : Around} {E : Value → Shared → Prop} {s : Shared} {K : Frag} {x C f : Addr} {ox : Obj} {od : Option Obj} {op : Operator} {b tb : Value} {Q : Value → Shared → Prop} (X : K.In s.heap) (I : InstAt s.heap x ox C od) (hb : Looks (model prog w) s.heap (typeOf b) tb) (hc : selfFirst K C = true)
    (hs : findIn K (.ref C) (PySem.dunder op.info.2) = some (some (.ref f))) (hf : isFn K (.ref f) = true) (hR : RightT K C op.info.2 tb)
    (h : wpAny (model prog w) A (call (.ref f) [.ref x, b]) (PySem.W.CmpBack Q) E s) : wpAny (model prog w) A (binaryOp op (.ref x) b) Q E s := by
  obtain ⟨cd, rest, hcd, hm⟩ := ksp_first hc
  rcases hi : op.info with ⟨sym, nm⟩
  rw [hi] at hs hR
  dsimp only at hs hR
  have one := ksp_try X I hs hf h
  have F1 : Looks (model prog w) s.heap (fillsNumberSlot (.ref C) nm) true := fills_K X hcd hm hs
  have T1 : Looks (model prog w) s.heap (typeOf (.ref x)) (.ref C) := I.type
  have hne : (Value.ref C == tb) = false := by
    cases hR with
    | own h ne => exact Bool.eq_false_iff.mpr fun q => ne (by cases beq_iff_eq.mp q; rfl)
    | py => exact Bool.eq_false_iff.mpr fun q => by cases beq_iff_eq.mp q
  obtain ⟨r, F2, more⟩ : ∃ r, Looks (model prog w) s.heap (fillsNumberSlot tb nm) r ∧ (r = true → ∃ T ro, tb = .type T ∧ Looks (model prog w) s.heap (isSubtype tb (.ref C)) false ∧ Looks (model prog w) s.heap (numberSlotInPython (.ref C) nm) true ∧ Looks (model prog w) s.heap (typeLookup tb (dunderR nm)) ro) := by
    cases hR with
    | own h ne => exact ⟨false, fills_not X h, fun z => nomatch z⟩
    | py h1 h2 h3 h4 h5 => exact ⟨_, ksp_fillsT X h1 h2, fun _ => ⟨_, _, rfl, looks_subIn X h3, ksp_inPy X hs h4 h5, looks_findIn X h2⟩⟩
  simp only [binaryOp, hi]
  refine wpAny_holding (wpAny_bind ?_)
  unfold binaryOp1
  refine wpAny_bind (T1.here (wpAny_bind (hb.here (wpAny_bind (F1.here ?_)))))
  simp only [hne, Bool.false_eq_true, if_false]
  have fin : ∀ {R : Option Value → Shared → Prop}, (∀ v s', Q v s' → R (some v) s') → wpAny (model prog w) A (tryMethod (.ref x) (PySem.dunder nm) b) R E s := fun hR' => wpAny_mono one (fun r s' ⟨v, e, q⟩ => by subst e; exact hR' v s' q) fun _ _ e => e
  cases r with
  | false =>
    refine wpAny_bind (F2.here ?_)
    simp only [Bool.and_false, Bool.false_eq_true, if_false, Bool.false_and]
    refine wpAny_bind (wpAny_pure ?_)
    simp only [Bool.false_eq_true, if_false, if_true]
    refine wpAny_bind (fin fun v s' q => ?_)
    exact wpAny_pure (wpAny_pure q)
  | true =>
    obtain ⟨T, ro, rfl, L5, L6, L8⟩ := more rfl
    have L7 : Looks (model prog w) s.heap (numberSlotInPython (.type T) nm) false := Looks.of_pure rfl
    refine wpAny_bind (F2.here ?_)
    simp only [Bool.and_self, if_true]
    refine wpAny_bind (L5.here ?_)
    simp only [Bool.false_eq_true, if_false, Bool.not_false, Bool.and_self, if_true]
    refine wpAny_bind (L6.here ?_)
    simp only [if_true]
    refine wpAny_bind (L7.here ?_)
    simp only [Bool.not_false, if_true]
    refine wpAny_bind (L8.here ?_)
    refine wpAny_bind (fin fun v s' q => ?_)
    exact wpAny_pure (wpAny_pure q)
/-- the class at C has this operator -/
structure BinG (P : Program) (w : World) (K : Frag) (mg : Str → Option Value) (base : Heap) (CX : CXT) (n : Nat) (C : Addr) (nm : String) (ps : List Str) (sp : Sp) : Prop where
  ex : ∃ (f : Addr) (fd : FuncData), findIn K (.ref C) (PySem.dunder nm) = some (some (.ref f)) ∧ isFn K (.ref f) = true ∧ FnG P w K mg base CX n f fd ps sp ∧ Binds K fd ps []
  sf : selfFirst K C = true
/-- o + x, which may raise into a try around -/
def tBinS (K : Frag) (C : Addr) (nm : String) (sp : Sp) (E : L2.St → XK) (ta tb : TE) : TE := fun σ H Q => ta σ H fun y H1 => tb σ H1 fun x H2 => ∃ a dx fs t, y = .ref a ∧ H2 a = some (.ins C dx fs) ∧ TyX K H2 x t ∧ (RightT K C nm t ∨ t = .ref C) ∧ sp [.ref a, x] H2 (fun z H3 => ∃ r : Addr, z = .ref r ∧ Q z H3) (E σ)
theorem pe_binS {X : Cx} {CX : CXT} {k : Nat} {C : Addr} {op : Operator} {sp : Sp} {E : L2.St → XK} {ps : List Str} {e1 e2 : Expr} {ta tb : TE} {pos : Pos} (M : BinG X.prog X.w X.K X.mg X.base CX k C op.info.2 ps sp) (hG : X.A.guards = some []) (hr : Room k X.A) (hx : ∀ σ, PassesAt CX X σ (E σ)) (ha : PE X e1 ta) (hb' : PE X e2 tb) :
    PE X (.BinOp e1 op e2 pos) (tBinS X.K C op.info.2 sp E ta tb) := by
  obtain ⟨⟨f, fd, h1, h2, F, hb⟩, sf⟩ := M
  refine ⟨fun pins s σ H Q I h => ?_⟩
  refine wpAny_BinOp (binT ha hb' I (R := fun y x H2 => ∃ a dx fs t, y = .ref a ∧ H2 a = some (.ins C dx fs) ∧ TyX X.K H2 x t ∧ (RightT X.K C op.info.2 t ∨ t = .ref C) ∧ sp [.ref a, x] H2 (fun z H3 => ∃ r : Addr, z = .ref r ∧ Q z H3) (E σ)) h fun v u s2 y x H2 I2 ry rx ⟨a, dx, fs, t, ey, hz, ty, hR, q⟩ => ?_)
  subst ey
  obtain rfl : v = Value.ref a := ry
  obtain ⟨mA, O, _⟩ := ins_get I2.hok hz
  obtain ⟨od, J, _⟩ := O.look
  obtain ⟨P, KP, hP, _⟩ := kit_of I2 rx ty
  have L : Looks (model X.prog X.w) s2.heap (typeOf u) t := KP.ty _ _ I2.kIn hP
  obtain ⟨m, Fr⟩ := I2.fr
  have run : wpAny (model X.prog X.w) X.A (call (.ref f) [.ref a, u]) (PySem.W.CmpBack (EP X pins σ Q)) X.xe s2 := by
    refine thn (run_at (vs := [.ref a, x]) F hG hr hb I2.env0 (E' := X.xe) (fun e s' z => hx σ pins H2 s2 e s' I2 z) I2 (.cons rfl (.cons rx .nil)) q) fun z s3 ⟨zz, H3, I3, rz, r, ez, qz⟩ => ?_
    subst ez
    obtain rfl : z = Value.ref r := rz
    exact ⟨.ref r, H3, I3, rfl, qz⟩
  rcases hR with hR | rfl
  · exact own_bin I2.kIn J L sf h1 h2 hR run
  · exact binop_K Fr I2.mod.kin J L sf h1 h2 run
end Own
namespace Sj
open PySem L2 Sup StK Own Shw Exg
open NdefX (NF NScope ncx envF startF nscope_by)
open C8 (pss_cut tCut)
/-! k03: _law_members, _law_turned -/
abbrev sMms : Stmt := top 42
theorem scMms : FnScope ["_law_bare_here"] ["_law_bare_here"] (defScope sMms) := ⟨rfl, rfl, rfl, by decide +kernel, rfl, by decide +kernel, by decide +kernel⟩
def spMms : Sp := fun vs H Q _ => ∃ (b : Addr) (d : BareD) (p : Addr), vs = [.ref b] ∧ BareAt H b d p ∧ d.ok ∧ ∀ zs q H', zs.Perm (d.ds ++ d.ls ++ railsZ d.g d.r) → PyProof.Rows.sortedS zs = true → H q = none → H' q = some (.lst (strv zs)) → Same H H' → Q (.ref q) H'
theorem rails_le (g r : Bool) : (railsZ g r).length ≤ 2 := by cases g <;> cases r <;> decide
section
variable {P : Program} {w : World} {K : PySem.W.Frag} {mg : Str → Option Value} {base : Heap}
theorem ok_mms {f fl : Addr} {fd fdl : FuncData} (F : Fun K "_law_members" "_law_members" sMms f fd) (mS : mg "sorted" = none) (ml : mg "_law_legs" = some (.ref fl)) (kl : PySem.W.keepIn K (.ref fl) = true) (bl : Binds K fdl ["_law_bare_here"] []) (Gl : FnOk P w K mg base CX0 1 fl fdl ["_law_bare_here"] spLgs) :
    FnOk P w K mg base CX0 2 f fd ["_law_bare_here"] spMms := by
  refine F.ok scMms (fun vs H Q E h => ?_) (fun cdv A outer s H vs Q E hr h => ?_)
  · obtain ⟨b, d, p, rfl, _⟩ := h
    rfl
  · obtain ⟨b, d, p, rfl, hB, ok, k⟩ := h
    refine ⟨_, pss_one (ps_ret (pe_callB cr_sortedS (by rfl) mS (by decide +kernel) (pa_cons (pe_op op_cat (pe_call Gl hr rfl ml kl bl .nil pass0 (pa_cons (pv 0) pa_nil)) (pe_dget (hu_of hr) (pv 0) pe_str (fun _ _ => rfl))) pa_nil))), ?_⟩
    refine ⟨_, rfl, b, d, p, rfl, hB, ok, fun zs q H1 hz hs hq hq1 s1 => ?_⟩
    obtain ⟨dl, ll, rl, hb, hdl, hll, hrl, _⟩ := (hB.same s1).ex
    have c1 : (strv zs).length = zs.length := List.length_map _
    have c2 : (strv (railsZ d.g d.r)).length = (railsZ d.g d.r).length := List.length_map _
    have hzl : zs.length ≤ 16 := by rw [hz.length_eq, List.length_append]; exact ok.le
    have hrl2 := rails_le d.g d.r
    refine ⟨_, rfl, b, _, rfl, DGet.k (k := Sum.inr "rails") hb, q, rl, _, _, rfl, rfl, hq1, hrl, Nat.le_trans (show _ ≤ 18 by rw [c1, c2]; omega) (by decide), fun p2 hp2 => ?_⟩
    have s2 := same_at (o := .lst (strv zs ++ strv (railsZ d.g d.r))) hp2
    refine ⟨p2, zs ++ railsZ d.g d.r, rfl, SqL.of ?_, by rw [List.length_append]; omega, fun ys p3 hp hso hn => ?_⟩
    · rw [upd_same]
      show _ = some (HO.lst (List.map _ _))
      rw [List.map_append]
      rfl
    · exact k ys p3 _ (hp.trans (hz.append_right _)) hso ((s1.trans s2).free hn) upd_same ((s1.trans s2).trans (same_at hn))
end
end Sj
/-! def f(a, .., **d), called with keywords; c(e, .., k = v), c a name that holds a class -/
namespace StK
open PySem PySem.Spec PyProof.Rows L2
open StX
section
variable {prog : Program} {w : World} {A : Around} {E : Value → Shared → Prop} {d : Addr}
open PySem.W (dictOf kwEs putL)
theorem kd_nsSet {s : Shared} {es : List DictEntry} {n : Nat} {k : Str} {v : Value} {Q : Unit → Shared → Prop} (D : s.heap.get? d = some (dictOf es n))
    (hs : ∀ e ∈ es, e.key.isStr k = false) (hr : ∀ e ∈ es, e.refKey = false)
    (h : ∀ h' : Heap, h'.get? d = some (dictOf (es ++ [⟨PyData.keyHash w.params k, .str k s.toks, v⟩]) (n + 1)) → Heap.SameBut d s.heap h' → Q () { s with heap := h', toks := s.toks + 1 }) :
    wpAny (model prog w) A (nsSet d k v) Q E s := by
  have e1 : es.any (·.key.isStr k) = false := by
    cases q : es.any (·.key.isStr k) with
    | false => rfl
    | true => obtain ⟨e, he, z⟩ := List.any_eq_true.mp q; rw [hs e he] at z; cases z
  have e2 : es.any (·.refKey) = false := by
    cases q : es.any (·.refKey) with
    | false => rfl
    | true => obtain ⟨e, he, z⟩ := List.any_eq_true.mp q; rw [hr e he] at z; cases z
  have e : Obj.putName k (PyData.keyHash w.params k) (.str k s.toks) v (dictOf es n) = dictOf (es ++ [⟨PyData.keyHash w.params k, .str k s.toks, v⟩]) (n + 1) := by
    rw [PySem.W.putName_dict, PySem.W.putL_new hs]
    show dictOf _ (if es.any (·.key.isStr k) then n else n + 1) = _
    rw [e1, if_neg Bool.false_ne_true]
  have c : aRefKeyMayBeTheName k es.toArray = false := by
    rw [aRefKeyMayBeTheName_at, ← Array.any_toList, ← Array.any_toList]
    show (!es.any (·.key.isStr k) && es.any (·.refKey)) = false
    rw [e2, Bool.and_false]
  unfold nsSet
  refine wpAny_bind (wpAny_bind (wpAny_askSetting (wpAny_pure (wpAny_bind (wpAny_mkText (wpAny_bind (wpAny_loadPart D ?_)))))))
  dsimp only
  rw [c]
  refine wpAny_updatePart D (h _ ?_ (Heap.SameBut.update _ _ _))
  have e3 : (s.heap.update d (Obj.putName k (PyData.keyHash w.params k) (.str k s.toks) v)).get? d = some (Obj.putName k (PyData.keyHash w.params k) (.str k s.toks) v (dictOf es n)) := Heap.get?_update_self _ D (by rw [e]; rfl)
  rw [e] at e3
  exact e3
theorem kd_fill {Q : PUnit → Shared → Prop} : ∀ (ex : List (Str × Value)) (s : Shared) (es : List DictEntry) (n : Nat), s.heap.get? d = some (dictOf es n) →
    (∀ e ∈ es, ∀ x ∈ ex, e.key.isStr x.1 = false) → (∀ e ∈ es, e.refKey = false) → (ex.map (·.1)).Nodup →
    (∀ h' : Heap, h'.get? d = some (dictOf (es ++ kwEs w.params s.toks ex) (n + ex.length)) → Heap.SameBut d s.heap h' → Q ⟨⟩ { s with heap := h', toks := s.toks + ex.length }) →
    wpAny (model prog w) A (forIn ex PUnit.unit fun x _ => (nsSet d x.1 x.2 >>= fun _ => pure (ForInStep.yield PUnit.unit))) Q E s
  | [], s, es, n, D, _, _, _, h => by
    rw [List.forIn_nil]
    refine wpAny_pure (h s.heap ?_ (Heap.SameBut.refl _ _))
    show s.heap.get? d = some (dictOf (es ++ []) n)
    rw [List.append_nil]
    exact D
  | x :: r, s, es, n, D, hs, hr, hn, h => by
    obtain ⟨hn1, hn2⟩ := List.nodup_cons.mp (show (x.1 :: r.map (·.1)).Nodup from hn)
    rw [List.forIn_cons]
    refine wpAny_bind (wpAny_bind (kd_nsSet D (fun e he => hs e he x (.head _)) hr fun h' D' b' => wpAny_pure ?_))
    show wpAny (model prog w) A (forIn r PUnit.unit fun x _ => (nsSet d x.1 x.2 >>= fun _ => pure (ForInStep.yield PUnit.unit))) Q E { s with heap := h', toks := s.toks + 1 }
    refine kd_fill r { s with heap := h', toks := s.toks + 1 } _ _ D' (fun e he y hy => ?_) (fun e he => ?_) hn2 fun h'' D'' b'' => ?_
    · rcases List.mem_append.mp he with he | he
      · exact hs e he y (.tail _ hy)
      · obtain rfl := List.mem_singleton.mp he
        show (x.1 == y.1) = false
        exact beq_eq_false_iff_ne.mpr fun q => hn1 (by rw [q]; exact List.mem_map_of_mem hy)
    · rcases List.mem_append.mp he with he | he
      · exact hr e he
      · obtain rfl := List.mem_singleton.mp he
        rfl
    · have t1 : s.toks + 1 + r.length = s.toks + (r.length + 1) := by omega
      have t2 : n + 1 + r.length = n + (r.length + 1) := by omega
      show Q ⟨⟩ { s with heap := h'', toks := s.toks + 1 + r.length }
      rw [t1]
      refine h h'' ?_ (b'.trans b'')
      rw [t2, List.append_assoc] at D''
      exact D''
def mixRow (x : Str × Value) : Key × Value := (Sum.inr x.1, x.2)
theorem kd_pairs : ∀ (ex : List (Str × Value)) (t : Tok), Pairs (mixKind prog w) (kwEs w.params t ex) (ex.map mixRow)
  | [], _ => Pairs.nil
  | x :: r, t => Pairs.cons (keyIs_str x.1 t) rfl (kd_pairs r (t + 1))
theorem kd_dict {h : Heap} {ex : List (Str × Value)} {t : Tok} {n : Nat} (hn : (ex.map (·.1)).Nodup) (e : h.get? d = some (dictOf (kwEs w.params t ex) n)) : h.DictOf (mixKind prog w) d (ex.map mixRow) :=
  ⟨_, (kwEs w.params t ex).toArray, n, e, ⟨rfl, rfl, rfl⟩, rfl, fun e he => by
    obtain ⟨k, u, hk, hh⟩ := PySem.W.kwEs_key ex t e (List.mem_toArray.mp he)
    exact ⟨Sum.inr k, by rw [hk]; exact keyIs_str k u, hh.trans rfl⟩, kd_pairs ex t, by
    rw [List.map_map]
    have e2 : (((fun x : Key × Value => x.1) ∘ mixRow) : Str × Value → Key) = (fun z : Str => (Sum.inr z : Key)) ∘ fun x : Str × Value => x.1 := rfl
    rw [e2, ← List.map_map]
    exact List.Pairwise.map _ (fun a b ne z => ne (Sum.inr.inj z)) hn⟩
end
/-- the rows of the dict that the keywords make -/
def kwRows (ks : List Str) (zs : List V) : List (Key × V) := (ks.zip zs).map fun p => (Sum.inr p.1, p.2)
theorem kwRows_kv : ∀ {ks : List Str} {zs : List V} {ws : List Value}, Vals zs ws → KV (kwRows ks zs) ((ks.zip ws).map mixRow)
  | [], _, _, _ => .nil
  | _ :: _, [], _, .nil => .nil
  | k :: ks, z :: zs, _, .cons r t => .cons ⟨rfl, r⟩ (kwRows_kv (ks := ks) t)
section
variable {P : Program} {w : World} {K : PySem.W.Frag} {mg : Str → Option Value} {base : Heap} {A : Around} {outer : List Env} {s : Shared} {H : Hp}
/-- a new object laid and tracked ahead of a def's body, in some steps -/
theorem env0_laidN {h' : Heap} {tk : Tok} {u : HO} (e0 : Env0 P w K mg base A outer s H) (kp : ∀ b x, s.heap.get? b = some x → h'.get? b = some x) (sz : s.heap.objs.size ≤ h'.objs.size) (new : ObjOk P w (upd H s.heap.objs.size u) h' s.heap.objs.size u) :
    Env0 P w K mg base A outer { s with heap := h', toks := tk } (upd H s.heap.objs.size u) := by
  refine ⟨e0.frames, e0.mod, fun b x e => ⟨kp b x (e0.bs b x e).1, ?_⟩, Nat.le_trans e0.bsz sz, Heap.FunFrames.of_keeps (fun b x e _ => ⟨x, kp b x e, rfl⟩) e0.funs, fun b hb => ?_, e0.hok.laid kp (Nat.le_refl _) new, e0.bare⟩
  · rw [upd_ne (Nat.ne_of_lt (Heap.lt_size (e0.bs b x e).1))]
    exact (e0.bs b x e).2
  · obtain ⟨_, x, hx, _⟩ := e0.funs.mem hb
    rw [upd_ne (Nat.ne_of_lt (Heap.lt_size hx))]
    exact e0.frf b hb
end
/-- what a def with **d is promised of: the values, a new dict of the keywords -/
def spKw (n : Nat) (ks : List Str) (sp : Sp) : List V → List V → Hp → VK → XK → Prop := fun vs zs H Q E => vs.length = n ∧ ∀ p, H p = Option.none → sp (vs ++ [V.ref p]) (upd H p (.dK (kwRows ks zs))) Q E
section
variable {CX : CXT} {P : Program} {w : World} {K : PySem.W.Frag} {mg : Str → Option Value} {base : Heap} {k : Nat} {f : Addr} {x qual : Str} {st : Stmt} {fd : FuncData} {N ps : List Str} {sp : Sp}
/-- def f(a, .., **d) called with the keywords ks, none of them a parameter -/
theorem fn_kwD {pd : Str} (F : Fun K x qual st f fd) (S : FnScope N (ps ++ [pd]) (defScope st)) (hCX : CXUp CX) (ks : List Str) (hks : ks.Nodup) (hkl : ks.length ≤ 1000)
    (hb : ∀ (kV doc pm : Value) (an : Option Addr) (cdv ct : Value) (us ws : List Value), us.length = ps.length → ws.length = ks.length →
      bindArgs (PySem.W.fnOf x qual (defArgs st) (defBody st) (defScope st) .none kV doc pm an cdv ct) ⟨us, ks.zip ws⟩ =
        ((alloc ({ cls := .type "dict", data := .dict #[] } : Obj) : Sem Addr) >>= fun d => (forIn (ks.zip ws) PUnit.unit fun x _ => (nsSet d x.1 x.2 >>= fun _ => pure (ForInStep.yield PUnit.unit))) >>= fun _ => pure (ps.zip us ++ [(pd, Value.ref d)])))
    (hbody : ∀ (cdv : Value) (A : Around) (outer : List Env) (s : Shared) (H : Hp) (vs : List V) (Q : VK) (E : XK), Room k (A.deeper (envOfC qual (defScope st) s.heap.objs.size f cdv)) → sp vs H Q E →
      ∃ t, PSs (cxOf CX P w K mg base N qual (defScope st) f cdv A outer s H E) (defBody st) t ∧ t { nx := fun _ H' => Q .non H', rt := Q } (start N vs) H) :
    FnK P w K mg base CX (k + 1) f ks (spKw ps.length ks sp) := by
  obtain ⟨oc, od, kV, doc, pm, an, cdv, ct, osl, rfl, lk, hcd⟩ := F.ex
  intro A outer s H us ws vs zs Q E hr e0 r rz hzl hsp
  obtain ⟨hvl, hsp⟩ := hsp
  have hn : H s.heap.objs.size = Option.none := e0.hok.fresh (Nat.le_refl _)
  have hl1 : us.length = ps.length := by rw [← r.length]; exact hvl
  have hl2 : ws.length = ks.length := by rw [← rz.length]; exact hzl
  refine run_bnd lk hcd S hr e0 (G := fun xs H2 => ∃ p, H p = Option.none ∧ xs = vs ++ [V.ref p] ∧ H2 = upd H p (.dK (kwRows ks zs))) (fun A' Ex Q' h => ?_) fun s2 H2 xs ⟨p, hp, ex, eH⟩ hr' => ?_
  · rw [hb kV doc pm an cdv ct us ws hl1 hl2]
    refine wpAny_bind (wpAny_alloc ?_)
    have hD : (s.heap.push ({ cls := .type "dict", data := .dict #[] } : Obj)).get? s.heap.objs.size = some (PySem.W.dictOf [] 0) := Heap.get?_push_size _ rfl
    have hnd : ((ks.zip ws).map (·.1)).Nodup := by
      rw [List.map_fst_zip (by rw [hl2]; exact Nat.le_refl _)]
      exact hks
    refine wpAny_bind (kd_fill (ks.zip ws) _ [] 0 hD (fun _ he => nomatch he) (fun _ he => nomatch he) hnd fun h' D' b' => wpAny_pure ?_)
    have kp : ∀ b x, s.heap.get? b = some x → h'.get? b = some x := fun b x e => by
      rw [b'.2 b (Nat.ne_of_lt (Heap.lt_size e))]
      exact Heap.get?_push_of_some _ e
    have sz : s.heap.objs.size ≤ h'.objs.size := by
      rw [b'.1]
      show _ ≤ (s.heap.push _).objs.size
      rw [Heap.size_push]
      exact Nat.le_succ _
    have rows : (kwRows ks zs).length ≤ 1000 := by
      unfold kwRows
      rw [List.length_map, List.length_zip]
      exact Nat.le_trans (Nat.min_le_left _ _) hkl
    have big := env0_big e0
    have new : ObjOk P w (upd H s.heap.objs.size (.dK (kwRows ks zs))) h' s.heap.objs.size (.dK (kwRows ks zs)) :=
      ⟨Nat.le_trans rows (by decide), beq_eq_false_iff_ne.mpr fun z => by rw [z] at big; exact Nat.lt_irrefl _ big, _, kwRows_kv rz, kd_dict hnd (by rw [List.nil_append] at D'; exact D')⟩
    have un : Un (frs outer) [] H (upd H s.heap.objs.size (.dK (kwRows ks zs))) s.heap h' := Un.laid kp (Nat.le_refl _) hn
    have z := h _ _ (vs ++ [V.ref s.heap.objs.size]) (us ++ [Value.ref s.heap.objs.size]) (env0_laidN (tk := s.toks + (ks.zip ws).length) e0 kp sz new) un rfl (fun e s' => hCX outer s H _ _ E e s' un kp rfl) (r.append (.cons rfl .nil))
      (by rw [List.length_append, List.length_append, hvl] <;> rfl) ⟨_, hn, rfl, rfl⟩
    rw [List.zip_append hl1.symm] at z
    exact z
  · subst ex eH
    exact hbody cdv A outer s2 _ _ Q E hr' (hsp p hp)
end
section
variable {X : Cx} {CX : CXT} {k n i : Nat} {f C : Addr} {ks : List Str} {sp : List V → List V → Hp → VK → XK → Prop} {E : XK} {x m : Str} {p pos sp_ apos : Pos} {e o : Expr} {es : List Expr} {kws : List Keyword} {te ta : TE} {t tk : TA} {mc : Value} {q g : Addr}
/-- c(e, .., k = v, ..), c a name whose value is the class at C -/
def tMakeC (C : Addr) (m : Nat) (sp : List V → List V → Hp → VK → XK → Prop) (E : XK) (tf : TE) (t tk : TA) : TE := fun σ H Q => tf σ H fun c H0 => c = .ref C ∧ t σ H0 fun vs H1 => tk σ H1 fun zs H2 => zs.length = m ∧ spMk C sp E vs zs H2 Q
theorem pe_makeC {tf : TE} (M : Mk X.K C f) (F : FnK X.prog X.w X.K X.mg X.base CX k f ks sp) (hr : Room (k + 1) X.A) (hx : Passes CX X E) (hf : PE X (.Name x p) tf) (ha : PA X (e :: es) t) (hkw : PK X kws tk)
    (hall : (backToKw pos (keywordEach kws X.env)).all (·.1.isSome) = true := by rfl) (hks : (backToKw pos (keywordEach kws X.env)).filterMap (·.1) = ks := by rfl)
    (he : starEach (e :: es) X.env = (false, eval e X.env) :: starEach es X.env := by rfl) (hpl : ((backTo pos (starEach (e :: es) X.env)).any (·.1) || (backToKw pos (keywordEach kws X.env)).any (·.1.isNone)) = false := by rfl) :
    PE X (.Call (.Name x p) (e :: es) kws pos) (tMakeC C ks.length sp E tf t tk) := by
  refine ⟨fun pins s σ H Q I h => ?_⟩
  refine wpAny_Call_Name_kw (thn (hf.run pins s σ H _ I h) fun u s1 ⟨c, H1, I1, rc, ec, q1⟩ => ?_)
  subst ec
  obtain rfl : u = Value.ref C := rc
  refine PySem.W.callWith_KW (h₀ := X.base) I.ok.mod.kin M.kp hall (thn (ha.run pos pins s1 σ H1 _ I1 q1) fun us s1 ⟨vs, H1, I1, r, q⟩ => ?_) hpl he
  refine thn (hkw.run pos pins s1 σ H1 _ I1 q) fun ws s2 ⟨zs, H2, I2, rz, l2, q2⟩ => ⟨I2.kIn, ?_⟩
  rw [hks]
  exact run_makeK M F hr hx I2 r rz l2 q2
end
end StK
/-! own methods by a promise that asks nothing of what is being shown -/
namespace Own
open PySem PySem.Spec PyProof.Rows L2 Sup Grd
structure MetN (P : Program) (w : World) (K : PySem.W.Frag) (mg : Str → Option Value) (base : Heap) (CX : CXT) (n : Nat) (C : Addr) (name : Str) (ps : List Str) (sp : Sp) : Prop where
  ex : ∃ (f : Addr) (fd : FuncData), PySem.W.findIn K (.ref C) name = some (some (.ref f)) ∧ PySem.W.isFn K (.ref f) = true ∧ PySem.W.fnIn K f = true ∧ FnOk P w K mg base CX n f fd ps sp ∧ Binds K fd ps []
section
variable {X : Cx} {CX : CXT} {pins : List (Addr × Obj)} {σ : L2.St} {H : Hp} {s : Shared} {k : Nat} {C f : Addr} {fd : FuncData} {ps : List Str} {sp : Sp} {E : XK}
theorem run_atN {A : Around} {Q : VK} {us : List Value} {vs : List V} {E' : Value → Shared → Prop} (F : FnOk X.prog X.w X.K X.mg X.base CX k f fd ps sp) (hr : Room k A) (hb : Binds X.K fd ps []) (e0 : Env0 X.prog X.w X.K X.mg X.base A X.stack s H)
    (hx : ∀ e s', CX X.stack H s E e s' → E' e s') (I : Inv X pins σ H s) (r : Vals vs us) (h : sp vs H Q E) : wpAny (model X.prog X.w) A (call (.ref f) us) (EP X pins σ Q) E' s := by
  have hl : (us ++ []).length = ps.length := by rw [List.append_nil, ← r.length]; exact F.len _ _ _ _ h
  have hB := hb s us I.kIn hl
  rw [List.append_nil] at hB
  refine wpAny_call (codeAny_mono (F.run A X.stack s H ⟨us, []⟩ us vs Q E hr e0 hB r h) fun res s' hq => ?_)
  match res, hq with
  | .error e, hq => exact hx e s' hq
  | .ok (.ret u), hq => exact I.after hq
theorem op_inN (M : MetN X.prog X.w X.K X.mg X.base CX0 k C "__contains__" ps sp) (hr : Room k X.A) : OpR X (compareOp .In) (rInO C false sp) := by
  obtain ⟨f, fd, h1, h2, _, F, hb⟩ := M
  intro pins s σ H x y v u Q I rx ry h
  obtain ⟨a, dx, fs, rfl, ha, h⟩ := h
  obtain rfl : u = Value.ref a := ry
  obtain ⟨mA, O, _⟩ := ins_get I.hok ha
  obtain ⟨od, J, _⟩ := O.look
  obtain ⟨m, Fr⟩ := I.fr
  refine PySem.W.in_K Fr I.mod.kin J h1 h2 (wpAny_mono (run_atN (vs := [.ref a, x]) F hr hb I.env0 (E' := X.xe) (fun e s' z => False.elim z) I (.cons rfl (.cons rx .nil)) h) (fun v s1 ⟨z, H1, I1, rv, b, ez, q⟩ => ?_) fun _ _ z => z)
  subst ez
  obtain rfl : v = Value.bool b := rv
  exact wpAny_truthy_bool ⟨.bl b, H1, I1, rfl, q⟩
theorem op_notInN (M : MetN X.prog X.w X.K X.mg X.base CX0 k C "__contains__" ps sp) (hr : Room k X.A) : OpR X (compareOp .NotIn) (rInO C true sp) := by
  obtain ⟨f, fd, h1, h2, _, F, hb⟩ := M
  intro pins s σ H x y v u Q I rx ry h
  obtain ⟨a, dx, fs, rfl, ha, h⟩ := h
  obtain rfl : u = Value.ref a := ry
  obtain ⟨mA, O, _⟩ := ins_get I.hok ha
  obtain ⟨od, J, _⟩ := O.look
  obtain ⟨m, Fr⟩ := I.fr
  refine PySem.W.notIn_K Fr I.mod.kin J h1 h2 (wpAny_mono (run_atN (vs := [.ref a, x]) F hr hb I.env0 (E' := X.xe) (fun e s' z => False.elim z) I (.cons rfl (.cons rx .nil)) h) (fun v s1 ⟨z, H1, I1, rv, b, ez, q⟩ => ?_) fun _ _ z => z)
  subst ez
  obtain rfl : v = Value.bool b := rv
  exact wpAny_truthy_bool ⟨.bl (!b), H1, I1, rfl, q⟩
theorem pe_itN {e1 e2 : Expr} {ta tb : TE} {pos : Pos} (M : MetN X.prog X.w X.K X.mg X.base CX k C "__getitem__" ps sp) (hr : Room (k + 1) X.A) (hx : Passes CX X E) (ha : PE X e1 ta) (hb' : PE X e2 tb)
    (hsl : ∀ v u, subscripted e2 true v u = runValue (.builtin "lifetime.subscript" ⟨[v, u], []⟩) := by intros; with_unfolding_all rfl) : PE X (.Subscript e1 e2 pos) (tItO C sp E ta tb) := by
  obtain ⟨f, fd, h1, h2, h3, F, hb⟩ := M
  refine ⟨fun pins s σ H Q I h => ?_⟩
  refine Subscript_ (binT ha hb' I (R := fun y x H2 => ∃ a dx fs, y = .ref a ∧ H2 a = some (.ins C dx fs) ∧ sp [.ref a, x] H2 Q E) h fun v u s2 y x H2 I2 ry rx ⟨a, dx, fs, ey, hz, q⟩ => ?_)
  subst ey
  obtain rfl : v = Value.ref a := ry
  obtain ⟨mA, O, _⟩ := ins_get I2.hok hz
  obtain ⟨od, J, _⟩ := O.look
  obtain ⟨m, Fr⟩ := I2.fr
  exact PySem.W.sub_K Fr I2.mod.kin J h1 h3 h2 (run_atN (vs := [.ref a, x]) F hr.in1 hb I2.env0.in1 (E' := X.xe) (fun e s' z => hx pins σ H2 s2 e s' I2 z) I2 (.cons rfl (.cons rx .nil)) q) (hsl _ _)
end
end Own
namespace Sj
open PySem L2 Sup StK Own Shw Exg Grd
open NdefX (NF NScope ncx envF startF nscope_by)
open C8 (pss_cut tCut)
/-! k06: is_driver -/
abbrev sIsD : Stmt := top 23
theorem scIsD : FnScope ["frame", "value"] ["frame", "value"] (defScope sIsD) := ⟨rfl, rfl, rfl, by decide +kernel, rfl, by decide +kernel, by decide +kernel⟩
/-- self[at], there -/
def spFGetI (ks : Kinds) (CF : Addr) : Sp := fun vs H Q _ => ∃ a d, ∃ r : LegR, vs = [.ref a, .str r.z] ∧ FrIs ks CF H a d ∧ r ∈ d.ys ∧ Q (.ref r.a) H
def spIsD (K : PySem.W.Frag) (ks : Kinds) (CF : Addr) : Sp := fun vs H Q _ => ∃ a d x, vs = [.ref a, x] ∧ FrIs ks CF H a d ∧ ((∃ r ∈ d.ys, x = .str r.z ∧ Q (.bl (decide (r.C = ks.drv))) H) ∨ (NotLeg K H x d ∧ Q (.bl false) H))
/-- is_between, any bounds -/
def IntIs (K : PySem.W.Frag) (H : Hp) (T : V) (lo hi : Int) (b : Bool) : Prop := (∃ i : Int, T = .int i ∧ b = (decide (lo ≤ i) && decide (i ≤ hi))) ∨ ∃ (t : String) (m c : Bool), TyX K H T (.type t) ∧ kitB t "int" = some m ∧ kitB t "bool" = some c ∧ (m && !c) = false ∧ b = false
def spBetG (K : PySem.W.Frag) : Sp := fun vs H Q _ => ∃ (T : V) (lo hi : Int) (b : Bool), vs = [T, .int lo, .int hi] ∧ IntIs K H T lo hi b ∧ Q (.bl b) H
section
variable {P : Program} {w : World} {K : PySem.W.Frag} {mg : Str → Option Value} {base : Heap}
theorem ok_betG {f fI : Addr} {fd fdI : FuncData} (F : Fun K "is_between" "is_between" sBetw f fd) (FI : FnOk P w K mg base CX0 1 fI fdI ["value"] (spIsInt K)) (mI : mg "is_integer" = some (.ref fI)) (kI : PySem.W.keepIn K (.ref fI) = true) (bI : Binds K fdI ["value"] []) :
    FnOk P w K mg base CX0 2 f fd ["value", "least", "most"] (spBetG K) := by
  refine F.ok scBetw (fun vs H Q E h => ?_) (fun cdv A outer s H vs Q E hr h => ?_)
  · obtain ⟨T, lo, hi, b, rfl, _⟩ := h
    rfl
  · obtain ⟨T, lo, hi, b, rfl, ht, k⟩ := h
    refine ⟨_, pss_one (ps_ret (pe_and (pe_call FI hr rfl mI kI bI .nil pass0 (pa_cons (pv 0) pa_nil)) (pe_one (pe_chain op_le op_le (pv 1) (pv 0) (pv 2))))), ?_⟩
    rcases ht with ⟨i, rfl, rfl⟩ | ⟨t, m, c, ht, hm, hc, e, rfl⟩
    · refine ⟨_, rfl, _, _, _, _, rfl, .base (.int i), (by decide +kernel : kitB "int" "int" = some true), (by decide +kernel : kitB "int" "bool" = some false), _, rfl, ?_⟩
      refine iteT ⟨_, rfl, _, rfl, _, _, rfl, rfl, _, rfl, ?_⟩
      by_cases h1 : lo ≤ i
      · rw [decide_eq_true h1] at k ⊢
        exact iteT ⟨_, rfl, _, _, rfl, rfl, k⟩
      · rw [decide_eq_false h1] at k ⊢
        exact iteF k
    · refine ⟨_, rfl, _, _, _, _, rfl, ht, hm, hc, _, rfl, ?_⟩
      rw [e]
      exact iteF k
theorem ok_fgetI {f CF : Addr} {fd : FuncData} {ks : Kinds} (F : Fun K "__getitem__" "Frame.__getitem__" (sFr 10) f fd) (cl : Cls K CF) (nL : NoAttr K CF "_legs") (TI : MetN P w K mg base CX0 1 CF "__contains__" ["self", "x"] (spFIs K ks CF)) :
    FnOk P w K mg base CX0 2 f fd ["self", "at"] (spFGetI ks CF) := by
  have sc : FnScope ["self", "at"] ["self", "at"] (defScope (sFr 10)) := ⟨rfl, rfl, rfl, by decide +kernel, rfl, by decide +kernel, by decide +kernel⟩
  refine F.ok sc (fun vs H Q E h => ?_) (fun cdv A outer s H vs Q E hr h => ?_)
  · obtain ⟨a, d, r, rfl, _⟩ := h
    rfl
  · obtain ⟨a, d, r, rfl, hF, hr', k⟩ := h
    obtain ⟨dx, D, ea, eD, _⟩ := hF.at_
    refine ⟨_, pss_cons (ps_if (pt_cmpR (op_notInN TI hr) (pv 1) (pv 0) (by rfl)) pss_never pss_nil)
      (pss_one (ps_ret (pe_dget (hu_of hr) (pe_fld (pv 0) rfl) (pv 1) (fun _ _ => rfl)))), ?_⟩
    refine ⟨_, rfl, _, rfl, a, dx, _, rfl, ea, a, d, _, rfl, hF, .inl ⟨r.z, rfl, List.mem_map.mpr ⟨r, hr', rfl⟩, true, rfl, _, rfl, ?_⟩⟩
    refine iteF ⟨_, rfl, a, CF, dx, _, _, rfl, ea, cl, nL, frF_legs _ _ _ _, _, rfl, D, _, rfl, ?_, k⟩
    rw [← valV_rows d.ys r hF.nd hr']
    exact DGet.k (k := Sum.inr r.z) eD
structure IsDT (P : Program) (w : World) (K : PySem.W.Frag) (mg : Str → Option Value) (base : Heap) (ks : Kinds) (CF : Addr) : Prop where
  in_ : MetN P w K mg base CX0 1 CF "__contains__" ["self", "x"] (spFIs K ks CF)
  get : MetN P w K mg base CX0 2 CF "__getitem__" ["self", "at"] (spFGetI ks CF)
  dv : ∀ C, (C = ks.drv ∨ C = ks.lis) → PropN P w K mg base 1 C "drives" (spDr C (decide (C = ks.drv)))
theorem ok_isd {f CF : Addr} {fd : FuncData} {ks : Kinds} (F : Fun K "is_driver" "is_driver" sIsD f fd) (T : IsDT P w K mg base ks CF) : FnOk P w K mg base CX0 4 f fd ["frame", "value"] (spIsD K ks CF) := by
  refine F.ok scIsD (fun vs H Q E h => ?_) (fun cdv A outer s H vs Q E hr h => ?_)
  · obtain ⟨a, d, x, rfl, _⟩ := h
    rfl
  · obtain ⟨a, d, x, rfl, hF, h⟩ := h
    obtain ⟨dx, fs, ea⟩ := hF.ins
    refine ⟨_, pss_one (ps_ret (pe_and (pe_cmpR (op_inN T.in_ (hr.mono (by decide))) (pv 1) (pv 0) (by rfl)) (pe_one (pe_propS (S := fun C => C = ks.drv ∨ C = ks.lis) (spP := fun C => spDr C (decide (C = ks.drv))) (pe_itN T.get (hr.mono (by decide)) pass0 (pv 0) (pv 1)) T.dv (hr.mono (by decide)))))), ?_⟩
    rcases h with ⟨r, hr', rfl, k⟩ | ⟨hn, k⟩
    · refine ⟨_, rfl, _, rfl, a, dx, fs, rfl, ea, a, d, _, rfl, hF, .inl ⟨r.z, rfl, List.mem_map.mpr ⟨r, hr', rfl⟩, true, rfl, _, rfl, ?_⟩⟩
      obtain ⟨hc, dy, er⟩ := hF.ok r hr'
      exact iteT ⟨_, rfl, _, rfl, a, dx, fs, rfl, ea, a, d, r, rfl, hF, hr', r.a, r.C, dy, _, rfl, er, hc, r.a, r.z, rfl, ⟨dy, er⟩, k⟩
    · exact ⟨_, rfl, _, rfl, a, dx, fs, rfl, ea, a, d, x, rfl, hF, .inr ⟨hn, false, rfl, _, rfl, iteF k⟩⟩
end
end Sj
/-! x not in (texts), x a text, or flat, or a list, a tuple, a dict -/
namespace Own
open PySem PySem.Spec PyProof.Rows L2 Sup
section
variable {prog : Program} {w : World} {A : Around} {s : Shared}
theorem rc_str_dict {b : Str} {u : Tok} {a : Addr} {o : Obj} {es : Array DictEntry} {ep : Nat} (ho : s.heap.get? a = some o) (hx : o.ExactDict) (hd : o.data = .dict es ep) (hu : A.units < cLine) {E : Value → Shared → Prop} {Q : Value → Shared → Prop} (h : Q (.bool false) s) :
    wpAny (model prog w) A (richCompare .Eq (.str b u) (.ref a)) Q E s := by
  obtain ⟨cls, dd, data, sl⟩ := o
  obtain ⟨hc, hdd, hsl⟩ := hx
  simp only at hc hdd hsl hd
  subst hc hdd hsl hd
  have hT : s.TypeIs (.ref a) "dict" := ⟨_, ho, rfl⟩
  refine SeqAt.rc_eq_decline_or (k := false) (typeIs_str s b u) hT (by decide) F.sub_dict_str F.slot_str_eq F.slot_dict_eq_refl (fun Q' hq => ?_) (fun Q' hq => ?_) (fun _ hq => wpAny_of_eq (rfl : isSame (.str b u) (.ref a) = pure false) hq) (.inr hu) h
  · refine wpAny_call_entry F.slot_str_eq (typeIs_str _ _ _) F.entry_str_eq ?_ (F.args_str_eq_2 _ _)
    have isn : ∀ (A : Around) (E : Value → Shared → Prop) (R : Option Str → Shared → Prop), R none s → wpAny (model prog w) A (asStr? (.ref a)) R E s := fun A E R hR => by
      unfold asStr?
      exact wpAny_bind (wpAny_load ho (wpAny_pure hR))
    obtain ⟨hp, gg, d, tk, os⟩ := s
    wp_walk using isn
    exact ⟨_, rfl, hq⟩
  · refine wpAny_call_entry F.slot_dict_eq_refl hT F.entry_dict_eq (show wpAny _ _ (Builtin.Dict.dictSlotArgs "__eq__" ⟨[.ref a, .str b u], []⟩ >>= _) _ _ s from ?_) (F.args_dict_eq_2 _ _)
    refine wpAny_bind ?_
    unfold Builtin.Dict.dictSlotArgs
    refine wpAny_bind (wpAny_notOrdered_dict hT (show wpAny _ _ (pure (Value.ref a, Value.str b u)) _ _ s from wpAny_pure ?_))
    refine wpAny_bind (wpAny_isInstance (T := "str") (b := false) (typeIs_str _ _ _) F.sub_str_dict ?_)
    first
      | exact wpAny_bind (wpAny_rule (wpAny_pure ⟨_, rfl, (fun x => nomatch x), hq⟩))
      | (obtain ⟨hp, gg, d, tk, os⟩ := s
         wp_walk
         exact ⟨_, rfl, hq⟩)
theorem eqAt_str_dict {b : Str} {u : Tok} {a : Addr} {o : Obj} {es : Array DictEntry} {ep : Nat} (ho : s.heap.get? a = some o) (hx : o.ExactDict) (hd : o.data = .dict es ep) (hu : A.units < cLine) : SeqAt.EqAt A s (.str b u) (.ref a) false := fun prog w E Q h => by
  unfold eqBool
  refine wpAny_holding ?_
  refine wpAny_ite_split (fun hab => absurd (eq_of_beq hab) nofun) (fun _ => ?_)
  exact wpAny_bind (rc_str_dict ho hx hd hu (wpAny_truthy_bool h))
end
/-- what may be asked for among texts, and whether it is there -/
inductive InS (K : PySem.W.Frag) (H : Hp) (zs : List Str) : V → Bool → Prop
  | str (z : Str) : InS K H zs (.str z) (decide (z ∈ zs))
  | non : InS K H zs .non false
  | bl (b : Bool) : InS K H zs (.bl b) false
  | int (i : Int) : InS K H zs (.int i) false
  | lst {a : Addr} {xs : List V} : SqL K H a xs → InS K H zs (.ref a) false
  | tup {a : Addr} {xs : List V} : SqT K H a xs → InS K H zs (.ref a) false
  | dic {a : Addr} {kvs : List (Key × V)} : H a = some (.dK kvs) → InS K H zs (.ref a) false
def rNotInS (K : PySem.W.Frag) : R2 := fun x y H Q => ∃ (t : Addr) (zs : List Str) (b : Bool), y = .ref t ∧ SqT K H t (zs.map V.str) ∧ InS K H zs x b ∧ Q (.bl (!b)) H
theorem strs_of : ∀ {zs : List Str} {its : List Value}, Vals (zs.map V.str) its → ∀ u ∈ its, ∃ z ∈ zs, ∃ t, u = .str z t
  | [], _, .nil, u, hu => by cases hu
  | z :: zs, _, .cons r t, u, hu => by
    rcases List.mem_cons.mp hu with rfl | hu
    · obtain ⟨tk, rfl⟩ := r
      exact ⟨z, List.mem_cons_self, tk, rfl⟩
    · obtain ⟨y, hy, e⟩ := strs_of t u hu
      exact ⟨y, List.mem_cons_of_mem _ hy, e⟩
theorem any_strs : ∀ {zs : List Str} {its : List Value} (z : Str), Vals (zs.map V.str) its → (its.any fun u => match u with | .str y _ => y == z | _ => false) = decide (z ∈ zs)
  | [], _, _, .nil => by simp
  | y :: zs, _, z, .cons r t => by
    obtain ⟨tk, rfl⟩ := r
    rw [List.any_cons, any_strs z t]
    refine Bool.eq_iff_iff.mpr ?_
    rw [Bool.or_eq_true, decide_eq_true_eq, decide_eq_true_eq, List.mem_cons]
    dsimp only
    rw [beq_iff_eq]
    exact ⟨fun h => h.imp Eq.symm id, fun h => h.imp Eq.symm id⟩
theorem op_notInS {X : Cx} (hu : X.A.in1.units < cLine) : OpR X (compareOp .NotIn) (rNotInS X.K) := by
  intro pins s σ H x y v u Q I rx ry h
  obtain ⟨t, zs, b, rfl, ht, hb, q⟩ := h
  obtain rfl : u = Value.ref t := ry
  obtain ⟨its, r, pl, hz⟩ := I.tuple ht
  have fin : ∀ (e : Value → Bool), its.toArray.any e = b → (∀ y ∈ its, SeqAt.EqAt X.A.in1 s y v (e y)) → wpAny (model X.prog X.w) X.A (compareOp .NotIn v (.ref t)) (EP X pins σ Q) X.xe s := fun e he hq => by
    refine SeqAt.notIn_tupleAt e pl (fun y hy => hq y (by simpa using hy)) ?_
    rw [he]
    exact ⟨.bl (!b), H, I, rfl, q⟩
  have no : b = false → (∀ z tk, SeqAt.EqAt X.A.in1 s (.str z tk) v false) → wpAny (model X.prog X.w) X.A (compareOp .NotIn v (.ref t)) (EP X pins σ Q) X.xe s := fun eb hq => by
    refine fin (fun _ => false) ?_ fun y hy => ?_
    · rw [eb]
      simp
    · obtain ⟨z, _, tk, rfl⟩ := strs_of r y hy
      exact hq z tk
  cases hb with
  | str z =>
    obtain ⟨tz, rfl⟩ := rx
    refine fin (fun u => match u with | .str y _ => y == z | _ => false) ?_ fun y hy => ?_
    · rw [← any_strs z r]
      simp
    · obtain ⟨y, _, tk, rfl⟩ := strs_of r y hy
      exact SeqAt.EqAt.str_str _ _ _ _
  | non =>
    obtain rfl : v = Value.none := rx
    exact no rfl fun z tk => SeqAt.EqAt.str_none _ _
  | bl c =>
    obtain rfl : v = Value.bool c := rx
    exact no rfl fun z tk => SeqAt.EqAt.str_bool _ _ _
  | int i =>
    obtain ⟨ti, rfl⟩ := rx
    exact no rfl fun z tk => SeqAt.EqAt.str_int _ _ _ _
  | lst hq =>
    rename_i a xs
    obtain rfl : v = Value.ref a := rx
    obtain ⟨it2, _, p2, _⟩ := I.list hq
    exact no rfl fun z tk => SeqAt.EqAt.str_list _ _ p2.isList hu
  | tup hq =>
    rename_i a xs
    obtain rfl : v = Value.ref a := rx
    obtain ⟨it2, _, p2, _⟩ := I.tuple hq
    exact no rfl fun z tk => SeqAt.EqAt.str_tuple _ _ p2 hu
  | dic hq =>
    rename_i a kvs
    obtain rfl : v = Value.ref a := rx
    obtain ⟨_, _, vs, _, o, es, ep, ho, hx, hd, _⟩ := dk_of I.hok hq
    exact no rfl fun z tk => eqAt_str_dict ho hx hd hu
end Own
/-! x in a tuple of texts, x any value -/
namespace Own
open PySem PySem.Spec PyProof.Rows L2 Sup
def rInS (K : PySem.W.Frag) : R2 := fun x y H Q => ∃ (t : Addr) (zs : List Str) (b : Bool), y = .ref t ∧ SqT K H t (zs.map V.str) ∧ InS K H zs x b ∧ Q (.bl b) H
def isTx (z : Str) (u : Value) : Bool := match u with | .str y _ => y == z | _ => false
theorem any_tx : ∀ {zs : List Str} {its : List Value} (z : Str), Vals (zs.map V.str) its → its.any (isTx z) = decide (z ∈ zs)
  | [], _, _, .nil => by simp
  | y :: zs, _, z, .cons r t => by
    obtain ⟨tk, rfl⟩ := r
    rw [List.any_cons, any_tx z t]
    refine Bool.eq_iff_iff.mpr ?_
    rw [Bool.or_eq_true, decide_eq_true_eq, decide_eq_true_eq, List.mem_cons]
    unfold isTx
    rw [beq_iff_eq]
    exact ⟨fun h => h.imp Eq.symm id, fun h => h.imp Eq.symm id⟩
theorem op_inS {X : Cx} (hu : X.A.in1.units < cLine) : OpR X (compareOp .In) (rInS X.K) := by
  intro pins s σ H x y v u Q I rx ry h
  obtain ⟨t, zs, b, rfl, ht, hb, q⟩ := h
  obtain rfl : u = Value.ref t := ry
  obtain ⟨its, r, pl, hz⟩ := I.tuple ht
  have fin : ∀ (e : Value → Bool), its.toArray.any e = b → (∀ y ∈ its, SeqAt.EqAt X.A.in1 s y v (e y)) → wpAny (model X.prog X.w) X.A (compareOp .In v (.ref t)) (EP X pins σ Q) X.xe s := fun e he hq => by
    refine SeqAt.in_tupleAt e pl (fun y hy => hq y (by simpa using hy)) ?_
    rw [he]
    exact ⟨.bl b, H, I, rfl, q⟩
  have no : b = false → (∀ z tk, SeqAt.EqAt X.A.in1 s (.str z tk) v false) → wpAny (model X.prog X.w) X.A (compareOp .In v (.ref t)) (EP X pins σ Q) X.xe s := fun eb hq => by
    refine fin (fun _ => false) ?_ fun y hy => ?_
    · rw [eb]
      simp
    · obtain ⟨z, _, tk, rfl⟩ := strs_of r y hy
      exact hq z tk
  cases hb with
  | str z =>
    obtain ⟨tz, rfl⟩ := rx
    refine fin (isTx z) ?_ fun y hy => ?_
    · exact (show its.toArray.any (isTx z) = its.any (isTx z) by simp).trans (any_tx z r)
    · obtain ⟨y, _, tk, rfl⟩ := strs_of r y hy
      exact SeqAt.EqAt.str_str _ _ _ _
  | non =>
    obtain rfl : v = Value.none := rx
    exact no rfl fun z tk => SeqAt.EqAt.str_none _ _
  | bl c =>
    obtain rfl : v = Value.bool c := rx
    exact no rfl fun z tk => SeqAt.EqAt.str_bool _ _ _
  | int i =>
    obtain ⟨ti, rfl⟩ := rx
    exact no rfl fun z tk => SeqAt.EqAt.str_int _ _ _ _
  | lst hq =>
    rename_i a xs
    obtain rfl : v = Value.ref a := rx
    obtain ⟨it2, _, p2, _⟩ := I.list hq
    exact no rfl fun z tk => SeqAt.EqAt.str_list _ _ p2.isList hu
  | tup hq =>
    rename_i a xs
    obtain rfl : v = Value.ref a := rx
    obtain ⟨it2, _, p2, _⟩ := I.tuple hq
    exact no rfl fun z tk => SeqAt.EqAt.str_tuple _ _ p2 hu
  | dic hq =>
    rename_i a kvs
    obtain rfl : v = Value.ref a := rx
    obtain ⟨_, _, vs, _, o, es, ep, ho, hx, hd, _⟩ := dk_of I.hok hq
    exact no rfl fun z tk => eqAt_str_dict ho hx hd hu
end Own
/-! set(t) of a tuple of texts, and sorted of such a set -/
namespace SetS
open PySem PySem.Spec PyProof.Rows L2
abbrev KS (P : Program) (w : World) := PySem.strKind P w
/-- the text that an entry holds -/
def txt (e : Int × Value) : Str := match e.2 with | .str x _ => x | _ => Str.empty
def Ent (w : World) (e : Int × Value) : Prop := ∃ x tk, e.2 = Value.str x tk ∧ e.1 = hashStr w x
/-- one more text -/
def addT (ks : List Str) (x : Str) : List Str := if x ∈ ks then ks else ks ++ [x]
/-- at a stands a set of just these texts, and it can be walked -/
def At (w : World) (h : Heap) (a : Addr) (ks : List Str) : Prop :=
  ∃ o es ep t, h.get? a = some o ∧ o.ExactSet ∧ o.data = .set es ep t ∧ ((∀ e ∈ es.toList, Ent w e) ∧ (es.toList.map txt).Perm ks) ∧ es.size < scanBound ∧ t.fits es.size = true ∧ Ris t.place.toList ∧ (w.params.followText "set-order" = true ∨ t.led = true)
section
variable {P : Program} {w : World} {h h' : Heap} {a : Addr} {ks : List Str}
theorem At.at (R : At w h a ks) (k : ∀ o, h.get? a = some o → h'.get? a = some o) : At w h' a ks := by
  obtain ⟨o, es, ep, t, ho, r⟩ := R
  exact ⟨o, es, ep, t, k o ho, r⟩
theorem ent_is {e : Int × Value} (g : Ent w e) (k : Str) : (KS P w).is k e.2 = true ↔ txt e = k := by
  obtain ⟨x, tk, h1, _⟩ := g
  unfold txt
  rw [h1]
  show ((x == k) = true) ↔ x = k
  exact beq_iff_eq
theorem ent_elems {l : List (Int × Value)} (g : ∀ e ∈ l, Ent w e) : ElemsOf (KS P w) l := fun e he => by
  obtain ⟨x, tk, h1, h2⟩ := g e he
  exact ⟨⟨x, (ent_is (g e he) x).mpr (by unfold txt; rw [h1]), h2⟩, by rw [h1] <;> rfl⟩
end
section
variable {P : Program} {w : World} {A : Around} {E : Value → Shared → Prop} {s : Shared} {a : Addr} {ks : List Str}
/-- the end of add: what is stored -/
theorem add_tail {g : Bool → Sem Unit} (hg : ∀ (b : Bool) (s₁ : Shared) (Q' : Unit → Shared → Prop), Q' () s₁ → wpAny (model P w) A (g b) Q' E s₁)
    {o : Obj} {es : Array (Int × Value)} {ep : Nat} {t : SetTable} (ho : s.heap.get? a = some o) (hex : o.ExactSet) (hd : o.data = .set es ep t)
    {es1 : Array (Int × Value)} {t2 : SetTable} (g1 : (∀ e ∈ es1.toList, Ent w e) ∧ (es1.toList.map txt).Perm ks) (hb1 : es1.size < scanBound) (hf2 : t2.fits es1.size = true) (hr : Ris t2.place.toList) (hl : w.params.followText "set-order" = true ∨ t2.led = true) {wasDummy : Bool} {R : Option Bool → Shared → Prop}
    (hR : ∀ h', Heap.SameBut a s.heap h' → At w h' a ks → R (some true) { s with heap := h' }) :
    wpAny (model P w) A (do
        storeSet a es1 t2
        if (!wasDummy && t2.tooFull) = true then do
            g (relayAll t2 es1 (SetTable.grown es1.size)).2.2
            storeSet a (relayAll t2 es1 (SetTable.grown es1.size)).1 (relayAll t2 es1 (SetTable.grown es1.size)).2.1
            pure (some true)
          else pure (some true)) R E s := by
  have b1 := Heap.SameBut.update s.heap a (Obj.putSet es1 t2)
  have o1 := store_at (es' := es1) (t' := t2) ho hd
  refine wpAny_bind (wpAny_storeSet_of ho hd ?_ (fits_of_scanBound hb1))
  split
  · have r1 := relayAll_perm t2 es1 (SetTable.grown es1.size)
    have r2 := relayAll_fits t2 es1 (SetTable.grown es1.size)
    have r3 := relayAll_ris t2 es1 (SetTable.grown es1.size)
    have r4 := relayAll_led t2 es1 (SetTable.grown es1.size)
    generalize relayAll t2 es1 (SetTable.grown es1.size) = Z at r1 r2 r3 r4 ⊢
    obtain ⟨es2, t3, gave⟩ := Z
    dsimp only at r1 r2 r3 r4 ⊢
    have hb2 : es2.size < scanBound := by rw [← Array.length_toList, r1.length_eq, Array.length_toList]; exact hb1
    refine wpAny_bind (hg _ _ _ (wpAny_bind (wpAny_storeSet_of o1 rfl (wpAny_pure (hR _ (b1.trans (Heap.SameBut.update _ a _)) ?_)) (fits_of_scanBound hb2))))
    exact ⟨_, es2, _, t3, store_at (es' := es2) (t' := t3) o1 rfl, hex, rfl, ⟨fun e he => g1.1 e (r1.mem_iff.mp he), (r1.map txt).trans g1.2⟩, hb2, r2, r3, hl.imp id fun z => by rw [r4]; exact z⟩
  · exact wpAny_pure (hR _ b1 ⟨_, es1, _, t2, o1, hex, rfl, g1, hb1, hf2, hr, hl⟩)
theorem add_text {x : Str} {tk : Tok} {Q : Bool → Shared → Prop} (R : At w s.heap a ks) (room : ks.length + 1 < scanBound) (hQ : ∀ b h', Heap.SameBut a s.heap h' → At w h' a (addT ks x) → Q b { s with heap := h' }) :
    wpAny (model P w) A (setAddHashed a (.str x tk) ((KS P w).hash x)) Q E s := by
  obtain ⟨o, es, ep, t, ho, hex, hd, ⟨g, pk⟩, hb, hf, hr, hl⟩ := R
  have hsc : (Value.str x tk).scannable = true := rfl
  have hkey : (KS P w).is x (.str x tk) = true := beq_self_eq_true x
  have hel : ElemsOf (KS P w) es.toList := ent_elems g
  have hmem : x ∈ ks ↔ ∃ e ∈ es.toList, txt e = x := by rw [← pk.mem_iff, List.mem_map]
  have hn : es.size = ks.length := by rw [← pk.length_eq, List.length_map, Array.length_toList]
  unfold setAddHashed setAddHashedIn
  refine wpAny_holding (wpAny_bind (wpAny_setState_of ho hd hf ?_))
  dsimp only
  rw [byScan_of hsc hb hel]
  simp only [↓reduceIte]
  unfold setAddByScan
  refine wpAny_bind (wpAny_bind (wpAny_rule (wpAny_bind (wpAny_setScan_of hkey ho hd hf hel ?_))))
  cases hfi : List.findIdx? (fun e => (KS P w).is x e.2) es.toList with
  | some j =>
    dsimp only
    obtain ⟨hj, pj, _⟩ := List.findIdx?_eq_some_iff_getElem.mp hfi
    have hin : x ∈ ks := hmem.mpr ⟨es.toList[j], List.getElem_mem hj, (ent_is (g _ (List.getElem_mem hj)) x).mp pj⟩
    refine wpAny_pure (wpAny_pure (hQ _ s.heap (Heap.SameBut.refl a s.heap) ?_))
    unfold addT
    rw [if_pos hin]
    exact ⟨o, es, ep, t, ho, hex, hd, ⟨g, pk⟩, hb, hf, hr, hl⟩
  | none =>
    dsimp only
    have hout : x ∉ ks := fun m => by
      obtain ⟨e, he, q⟩ := hmem.mp m
      have c := List.findIdx?_eq_none_iff.mp hfi e he
      rw [(ent_is (g e he) x).mpr q] at c
      cases c
    have r1 := layNew_perm t es ((KS P w).hash x) (.str x tk)
    have r2 := layNew_fits t es ((KS P w).hash x) (.str x tk)
    have r3 := layNew_ris t es ((KS P w).hash x) (.str x tk) hr
    have r4 := layNew_led t es ((KS P w).hash x) (.str x tk)
    generalize layNew t es ((KS P w).hash x) (.str x tk) = Z at r1 r2 r3 r4 ⊢
    obtain ⟨es1, t1, wasDummy, gave⟩ := Z
    dsimp only at r1 r2 r3 r4 ⊢
    rw [Array.toList_push] at r1
    have g1 : (∀ e ∈ es1.toList, Ent w e) ∧ (es1.toList.map txt).Perm (addT ks x) := by
      refine ⟨fun e he => ?_, ?_⟩
      · rcases List.mem_append.mp (r1.mem_iff.mp he) with z | z
        · exact g e z
        · rw [List.mem_singleton.mp z]
          exact ⟨x, tk, rfl, rfl⟩
      · unfold addT
        rw [if_neg hout]
        refine (r1.map txt).trans ?_
        rw [List.map_append]
        exact pk.append_right _
    have hb1 : es1.size < scanBound := by
      rw [← Array.length_toList, r1.length_eq, List.length_append, Array.length_toList, hn]
      exact room
    have hled : w.params.followText "set-order" = true ∨ t1.led = true := hl.imp id fun z => by rw [r4]; exact z
    refine wpAny_bind ?_
    refine (show ∀ (b : Bool) {s₁ : Shared} {Q' : Unit → Shared → Prop}, Q' () s₁ → wpAny (model P w) A (match b with | true => rule "set.scan.the-table-gave-way" | false => pure ()) Q' E s₁ from
      fun b s₁ Q' q => by cases b <;> first | exact wpAny_pure q | exact wpAny_rule q) _ ?_
    split
    · refine wpAny_bind ?_
      rw [hashByValue_scannable 8 hsc]
      refine wpAny_pure ?_
      refine add_tail ?_ ho hex hd g1 hb1 ?_ ?_ ?_ ?_
      · intro b s₁ Q' q
        cases b <;> first | exact wpAny_pure q | exact wpAny_rule q
      · first | (split <;> first | exact r2 | exact SetTable.fits_plain_off r2) | exact r2
      · first | (split <;> exact r3) | exact r3
      · first | (split <;> exact hled) | exact hled
      · intro h' sb r
        dsimp only
        exact wpAny_pure (hQ _ h' sb r)
    · refine wpAny_bind (wpAny_pure ?_)
      simp only [↓reduceIte]
      refine add_tail ?_ ho hex hd g1 hb1 r2 r3 hled ?_
      · intro b s₁ Q' q
        cases b <;> first | exact wpAny_pure q | exact wpAny_rule q
      · intro h' sb r
        dsimp only
        exact wpAny_pure (hQ _ h' sb r)
end
/-- all of them -/
def setL (xs : List Str) : List Str := xs.foldl addT []
theorem addT_len (ks : List Str) (x : Str) : (addT ks x).length ≤ ks.length + 1 := by
  unfold addT
  split
  · omega
  · rw [List.length_append]
    exact Nat.le_refl _
theorem fold_len : ∀ (xs : List Str) (ks : List Str), (xs.foldl addT ks).length ≤ ks.length + xs.length
  | [], ks => Nat.le_refl _
  | x :: xs, ks => by
    have := fold_len xs (addT ks x)
    have := addT_len ks x
    show (xs.foldl addT (addT ks x)).length ≤ ks.length + (xs.length + 1)
    omega
theorem setL_len (xs : List Str) : (setL xs).length ≤ xs.length := Nat.le_trans (fold_len xs []) (by simp)
theorem at_new {w : World} {h : Heap} {a : Addr} (ho : h.get? a = some { cls := .type "set", dict := none, data := .set #[] 0 (.fresh 0 0 (!w.params.followText "set-order")) }) : At w h a [] :=
  ⟨_, #[], 0, _, ho, ⟨rfl, rfl, rfl⟩, rfl, ⟨(fun e he => by simp at he), .refl _⟩, (by decide), (by rfl), List.Pairwise.nil, by
    show _ ∨ (!w.params.followText "set-order") = true
    cases w.params.followText "set-order"
    · exact .inr rfl
    · exact .inl rfl⟩
section
variable {P : Program} {w : World} {A : Around} {E : Value → Shared → Prop} {s : Shared}
theorem fill_texts {I : Addr} {fp wr : List Addr} {G : Array GenState → Array GenState → Prop} {n : Nat} {Pv : Nat → Value → Prop} {St : Nat → Shared → Prop} {R : Result → Shared → Prop}
    (W : WalksS P w A.in1 I fp wr G n Pv St) (S : Addr) (hSf : S ∉ fp) (xs : List Str) (hn : n = xs.length) (hb : xs.length + 1 < scanBound) (hval : ∀ i v, Pv i v → ∃ x t, xs[i]? = some x ∧ v = .str x t) :
    ∀ (k i : Nat) (s : Shared), n - i = k → i ≤ n → St i s → At w s.heap S (setL (xs.take i)) →
      (∀ s', Moved (S :: wr) G s s' → At w s'.heap S (setL xs) → R (.ok (.ret .none)) s') →
      codeAny (model P w) A (.builtin "set.update.loop" ⟨[.ref S, .ref I], []⟩) R s := by
  have out : S ∉ wr := fun h => hSf (W.sub _ h)
  have up : ∀ b ∈ wr, b ∈ S :: wr := fun b hb => List.mem_cons_of_mem _ hb
  intro k
  induction k with
  | zero =>
    intro i s hk' hi hst hS hR
    obtain rfl : i = n := by omega
    rw [List.take_of_length_le (by omega)] at hS
    refine codeAny_builtin F.entry_set_update_loop ?_
    rw [Around.under_plainId F.plain_set_update_loop _]
    refine wpAny_bind (W.done s _ _ hst fun s' hm => ?_)
    exact wpAny_pure (hR s' (hm.mono up) (hS.at fun o e => hm.heap S o out e))
  | succ k ih =>
    intro i s hk' hi hst hS hR
    have lt : i < n := by omega
    refine codeAny_builtin F.entry_set_update_loop ?_
    rw [Around.under_plainId F.plain_set_update_loop _]
    refine wpAny_bind (W.item i s _ _ lt hst fun v s' hP hst' hm => ?_)
    obtain ⟨x, t, hx, rfl⟩ := hval i v hP
    have hS' : At w s'.heap S (setL (xs.take i)) := hS.at fun o e => hm.heap S o out e
    refine wpAny_bind (wpAny_holding ?_)
    unfold setAdd
    refine wpAny_holding (wpAny_bind ((KS P w).pyHash (k := x) (beq_self_eq_true x) ?_))
    have room : (setL (xs.take i)).length + 1 < scanBound := by
      have := setL_len (xs.take i)
      rw [List.length_take] at this
      omega
    refine add_text (s := { s' with toks := s'.toks + 1 }) hS' room fun b h' hsb hS2 => ?_
    have e : addT (setL (xs.take i)) x = setL (xs.take (i + 1)) := by
      unfold setL
      rw [List.take_add_one, hx, List.foldl_append]
      rfl
    rw [e] at hS2
    refine wpAny_pure ⟨plainId_quiet F.plain_set_update_loop _, ih (i + 1) _ (by omega) lt (W.frame _ s' _ _ hst' (Nat.le_succ _) fun b hb o e => ?_) hS2 fun s'' hm'' hS'' => ?_⟩
    · rw [hsb.2 b (fun h : b = S => hSf (by rw [← h]; exact hb))]
      exact e
    · refine hR s'' (Moved.trans W.gtrans ((hm.mono up).then_heap (Nat.le_succ _) fun b o hb e => ?_) hm'') hS''
      rw [hsb.2 b (fun h : b = S => hb (by rw [h]; exact List.mem_cons_self))]
      exact e
end
/-- such a set, as what stands at an address -/
def SetX (w : World) (a : Addr) (ks : List Str) : HO := .ext fun h => At w h a ks
end SetS
/-! set(xs) of a list of texts, and how many there are -/
namespace SetS
open PySem PySem.Spec PyProof.Rows L2
section
variable {P : Program} {w : World} {A : Around} {E : Value → Shared → Prop} {s : Shared}
set_option maxHeartbeats 3200000 in
/-- set(xs) -/
theorem set_of_list {l : Addr} {items : Array Value} {xs : List Str} {Q : Value → Shared → Prop} (hh : A.handled = none) (hl : s.heap.IsList l items) (hit : PyProof.Rows.StrsAre items.toList xs) (hb : xs.length + 1 < scanBound)
    (h : ∀ (h' : Heap) (tk : Nat), At w h' s.heap.objs.size (setL xs) → (∀ b o, s.heap.get? b = some o → h'.get? b = some o) → Q (.ref s.heap.objs.size) { s with heap := h', toks := tk }) :
    wpAny (model P w) A (call (.type "set") [.ref l]) Q E s := by
  have hisz : items.size = xs.length := by rw [← PyProof.Rows.StrsAre.len_eq hit, Array.length_toList]
  obtain ⟨c, tl, hmro⟩ := F.called_set.mro
  have hmade := F.called_set.made
  have hsub := F.called_set.sub
  refine wpAny_call (codeAny_of_tree ?_)
  show wpAny _ _ (callAny (.type "set") _) _ _ _
  refine wpAny_pure ⟨Code.quiet_builtin _ (by decide +kernel), codeAny_builtin F.entry_type_call ?_⟩
  rw [Around.under_plain (weight_type_call_type "set" [.ref l] []) rfl]
  have h1 := F.called_set.notType
  have h2 := F.called_set.canCreate
  have hct := F.typeCall_set_1 (.ref l)
  repeat (any_goals (first | assumption | wp_step))
  obtain ⟨N, eN⟩ : ∃ N : Heap, N = s.heap.push { cls := .type "set", dict := none, data := .set #[] 0 (.fresh 0 0 (!w.params.followText "set-order")) } := ⟨_, rfl⟩
  refine codeAny_mono (code_set_led1 (.ref l) (E := E) (Q₁ := fun obj s₁ => obj = .ref s.heap.objs.size ∧ s₁ = { s with heap := N }) ⟨rfl, by rw [eN]⟩) fun r s₁ hr => ?_
  cases r with
  | error e => exact hr
  | ok fl =>
    cases fl with
    | ret obj =>
      obtain ⟨rfl, rfl⟩ := hr
      have hS : N.get? s.heap.objs.size = some { cls := .type "set", dict := none, data := .set #[] 0 (.fresh 0 0 (!w.params.followText "set-order")) } := by rw [eN]; exact Heap.get?_push_size _ rfl
      have hsz : N.objs.size = s.heap.objs.size + 1 := by rw [eN]; exact Heap.size_push ..
      have hold : ∀ b o, s.heap.get? b = some o → N.get? b = some o := fun b o e => by rw [eN]; exact Heap.get?_push_of_some _ e
      have hT : Shared.TypeIs { s with heap := N } (.ref s.heap.objs.size) "set" := ⟨_, hS, rfl⟩
      have hli := F.called_set.init.lookup
      have hbi := F.called_set.init.bind (.ref s.heap.objs.size)
      repeat (any_goals (first | assumption | wp_step))
      refine codeAny_mono (codeAny_call_builtin (R := wants (fun r s₂ => r = .none ∧ ∃ h' tk, s₂ = { s with heap := h', toks := tk } ∧ At w h' s.heap.objs.size (setL xs) ∧ (∀ b o, s.heap.get? b = some o → h'.get? b = some o)) E) F.called_set.init.plain F.entry_set_init (check_set_init_1 hT ?_)) fun r₂ s₂ hr₂ => ?_
      · obtain ⟨ol, hol, hcl, nl, hdl⟩ := id hl
        obtain ⟨ocls, odict, odata, oslots⟩ := ol
        simp only at hcl hdl
        subst hcl; subst hdl
        have hol' := hold l _ hol
        have hsls := F.sub_list_set
        have hslf := F.sub_list_frozenset
        have hne : (Value.type "list" == Value.type "dict") = false := by decide
        have hl1 : N.IsList l items := ⟨_, hol', rfl, nl, rfl⟩
        unfold Builtin.«set.__init__» noKeywords Builtin.Frozenset.updateFrom
        generalize hPI : pyIter = PI
        wp_walk
        subst hPI
        refine wpAny_pyIter_list hl1 ?_
        refine wpAny_bind (wpAny_runValue ?_)
        have hlS : l < s.heap.objs.size := Heap.lt_size hol
        have hneI : l ≠ N.objs.size := by rw [hsz]; exact Nat.ne_of_lt (Nat.lt_succ_of_lt hlS)
        have hSf : s.heap.objs.size ∉ [N.objs.size, l] := by
          simp only [List.mem_cons, List.mem_singleton, List.not_mem_nil, or_false, not_or]
          exact ⟨by rw [hsz]; exact Nat.ne_of_lt (Nat.lt_succ_self _), Nat.ne_of_gt hlS⟩
        have hval : ∀ (i : Nat) (v : Value), items[i]? = some v → ∃ x t, xs[i]? = some x ∧ v = .str x t := fun i v hv => by
          have hi : i < xs.length := by rw [← hisz]; exact (Array.getElem?_eq_some_iff.mp hv).1
          obtain ⟨t, e⟩ := SS.strs_at hit i v (by rw [Array.getElem?_toList]; exact hv)
          refine ⟨xs[i], t, List.getElem?_eq_getElem hi, ?_⟩
          rw [e, List.getD_eq_getElem?_getD, List.getElem?_eq_getElem hi] <;> rfl
        refine fill_texts ((Walks.list (by simp [hh]) _ l hneI items).toS) s.heap.objs.size hSf xs hisz hb hval (items.size - 0) 0 _ (by omega) (Nat.zero_le _)
          ⟨⟨_, Heap.get?_push_size _ rfl, rfl, rfl⟩, (hl1.push _)⟩ ?hS0 ?hR
        case hS0 => exact at_new (Heap.get?_push_of_some _ hS)
        case hR =>
          intro s' hm hS'
          obtain ⟨h', g2, d', tk', os'⟩ := s'
          have eg : g2 = s.gens := hm.gens
          have ed : d' = s.drawn := hm.drawn
          have eo : os' = s.os := hm.os
          subst eg; subst ed; subst eo
          refine wpAny_pure ?_
          show wpAny _ _ (ret Value.none) _ _ _
          refine wpAny_pure ⟨rfl, h', tk', rfl, hS', fun b o e => ?_⟩
          have hb0 : b < s.heap.objs.size := Heap.lt_size e
          refine hm.heap b o ?_ (Heap.get?_push_of_some _ (hold b o e))
          simp only [List.mem_cons, List.mem_singleton, List.not_mem_nil, or_false, not_or]
          exact ⟨Nat.ne_of_lt hb0, by rw [hsz]; exact Nat.ne_of_lt (Nat.lt_succ_of_lt hb0)⟩
      · cases r₂ with
        | error e => exact hr₂
        | ok fl₂ =>
          cases fl₂ with
          | ret r =>
            obtain ⟨rfl, h', tk, rfl, hS', hk'⟩ := hr₂
            repeat (any_goals (first | assumption | wp_step))
            exact h _ _ hS' hk'
          | _ => exact hr₂.elim
    | _ => exact hr.elim
end
section
variable {X : Cx}
def rSetL (K : PySem.W.Frag) (w : World) : List V → Hp → VK → Prop := fun xs H Q => ∃ (t : Addr) (zs : List Str), xs = [.ref t] ∧ SqL K H t (zs.map V.str) ∧ zs.length < 1000 ∧ ∀ p, H p = none → Q (.ref p) (upd H p (SetX w p (setL zs)))
theorem call_setL (hc : X.calm = true) : CallR X (.type "set") (rSetL X.K X.w) := by
  intro pins s σ H xs us Q I r h
  obtain ⟨t, zs, rfl, ht, hl, q⟩ := h
  obtain ⟨its, rv, pl, hz⟩ := I.list ht
  rw [Vals.ref1 r]
  refine set_of_list (I.ok.hd hc) pl.isList rv.strs (by unfold scanBound; omega) fun h' tk hA hk => ?_
  exact ⟨.ref _, upd H s.heap.objs.size (SetX X.w s.heap.objs.size (setL zs)), I.laid (t' := tk) hk (Nat.le_refl _) ⟨hA, hA.elim fun o h => h.elim fun _ h => h.elim fun _ h => h.elim fun _ h => ⟨o, h.1⟩, fun h1 h2 p k => At.at p k⟩, rfl, q _ (I.hok.fresh (Nat.le_refl _))⟩
theorem setL_same {zs : List Str} (h : zs.Nodup) : setL zs = zs := by
  have go : ∀ (xs ks : List Str), (ks ++ xs).Nodup → xs.foldl addT ks = ks ++ xs := by
    intro xs
    induction xs with
    | nil => intro ks _; rw [List.append_nil]; rfl
    | cons x xs ih =>
      intro ks h
      have hx : x ∉ ks := fun m => (List.nodup_append.mp h).2.2 x m x List.mem_cons_self rfl
      show xs.foldl addT (addT ks x) = _
      rw [show addT ks x = ks ++ [x] from if_neg hx, ih _ (by rw [List.append_assoc]; exact h), List.append_assoc]
      rfl
  exact (go zs [] h).trans rfl
/-- len(set) -/
def rLenX (w : World) : List V → Hp → VK → Prop := fun xs H Q => ∃ (a : Addr) (ks : List Str), xs = [.ref a] ∧ H a = some (SetX w a ks) ∧ Q (.int (ks.length : Nat)) H
theorem At.setOf {P : Program} {w : World} {h : Heap} {a : Addr} {ks : List Str} (R : At w h a ks) : h.SetOf (KS P w) a (fun k => decide (k ∈ ks)) ks.length := by
  obtain ⟨o, es, ep, t, ho, hx, hd, ⟨g, pk⟩, hb, hf, _⟩ := R
  refine ⟨o, es, ep, t, ho, hx, hd, ent_elems g, fun k => ?_, hb, hf, by rw [← pk.length_eq, List.length_map, Array.length_toList]⟩
  rw [decide_eq_true_eq, ← pk.mem_iff, List.mem_map]
  exact ⟨fun ⟨e, he, q⟩ => ⟨e, he, (ent_is (g e he) k).mpr q⟩, fun ⟨e, he, q⟩ => ⟨e, he, (ent_is (g e he) k).mp q⟩⟩
theorem call_lenX : CallR X (.builtin "len") (rLenX X.w) := by
  intro pins s σ H xs us Q I r h
  obtain ⟨p, ks, rfl, hp, q⟩ := h
  obtain ⟨u, rfl, rx⟩ := vals1 r
  cases rx
  obtain ⟨o, es, ep, t, ho, hex, hd, _, _, hb, hf, hn⟩ := At.setOf (P := X.prog) (I.hok p _ hp).1
  exact call_len_set ho hex hd hf (Int.lt_trans (Int.ofNat_lt.mpr hb) (by decide)) ⟨.int ks.length, H, I.tok _, ⟨_, by rw [hn]⟩, q⟩
end
end SetS
/-! sorted of a list of tuples of texts -/
namespace SortB
open PySem PySem.Spec PyProof.Rows L2
abbrev Ord := listOrd itemOrd
/-- a tuple of texts, as it is ordered -/
def rowKey (zs : List Str) : List (Int ⊕ List Nat) := zs.map fun z => Sum.inr z.cps.toList
def RLe (xs ys : List Str) : Prop := Ord.kle (rowKey xs) (rowKey ys)
theorem str_ext {a b : Str} (h : a.cps.toList = b.cps.toList) : a = b := PySem.Str.ext' (by rw [← Array.toArray_toList (xs := a.cps), ← Array.toArray_toList (xs := b.cps), h])
theorem rowKey_inj : ∀ {xs ys : List Str}, rowKey xs = rowKey ys → xs = ys
  | [], [], _ => rfl
  | [], _ :: _, h => by cases h
  | _ :: _, [], h => by cases h
  | x :: xs, y :: ys, h => by
    obtain ⟨h1, h2⟩ := List.cons.inj h
    rw [str_ext (Sum.inr.inj h1), rowKey_inj (xs := xs) (ys := ys) h2]
theorem rle_anti {xs ys : List Str} (h1 : RLe xs ys) (h2 : RLe ys xs) : xs = ys := rowKey_inj (KeyOrd.kle_antisymm h1 h2)
/-- sorted lists of the same tuples are one -/
theorem rows_uniq : ∀ {xs ys : List (List Str)}, xs.Perm ys → xs.Pairwise RLe → ys.Pairwise RLe → xs = ys
  | [], ys, hp, _, _ => (List.nil_perm.mp hp).symm
  | x :: xs, [], hp, _, _ => absurd (List.perm_nil.mp hp) (by simp)
  | x :: xs, y :: ys, hp, hx, hy => by
    obtain ⟨x1, x2⟩ := List.pairwise_cons.mp hx
    obtain ⟨y1, y2⟩ := List.pairwise_cons.mp hy
    have e : x = y := by
      have mx : x ∈ y :: ys := hp.mem_iff.mp List.mem_cons_self
      have my : y ∈ x :: xs := hp.mem_iff.mpr List.mem_cons_self
      rcases List.mem_cons.mp mx with e | mx
      · exact e
      rcases List.mem_cons.mp my with e | my
      · exact e.symm
      · exact rle_anti (x1 y my) (y1 x mx)
    subst e
    rw [rows_uniq (List.perm_cons x |>.mp hp) x2 y2]
theorem perm_map_inv {α β : Type} {f : α → β} : ∀ {L : List α} {xs : List β}, xs.Perm (L.map f) → ∃ ps : List α, ps.Perm L ∧ xs = ps.map f := by
  intro L xs h
  generalize hm : L.map f = m at h
  induction h generalizing L with
  | nil => exact ⟨[], by rw [List.map_eq_nil_iff.mp hm], rfl⟩
  | cons x h ih =>
    match L, hm with
    | a :: L, hm =>
      obtain ⟨h1, h2⟩ := List.cons.inj hm
      obtain ⟨ps, p1, p2⟩ := ih h2
      exact ⟨a :: ps, p1.cons a, by rw [List.map_cons, h1, p2]⟩
  | swap x y l =>
    match L, hm with
    | a :: b :: L, hm =>
      obtain ⟨h1, h2⟩ := List.cons.inj hm
      obtain ⟨h3, h4⟩ := List.cons.inj h2
      exact ⟨b :: a :: L, List.Perm.swap a b L, by rw [List.map_cons, List.map_cons, h1, h3, h4]⟩
  | trans h1 h2 ih1 ih2 =>
    obtain ⟨ps, p1, p2⟩ := ih2 hm
    obtain ⟨qs, q1, q2⟩ := ih1 p2.symm
    exact ⟨qs, q1.trans p1, q2⟩
theorem items_key : ∀ {us : List Value} {zs : List Str} (i : Nat), Vals (zs.map V.str) us → tupItems (fun _ => true) i us = some (rowKey zs)
  | [], [], _, _ => rfl
  | u :: us, z :: zs, i, h => by
    cases h with
    | cons r t =>
      obtain ⟨tk, rfl⟩ := r
      show (if true = true then (tupItems (fun _ => true) (i + 1) us).map (Sum.inr z.cps.toList :: ·) else none) = _
      rw [if_pos rfl, items_key (i + 1) t]
      rfl
section
variable {X : Cx}
def rSortTT (K : PySem.W.Frag) : List V → Hp → VK → Prop := fun xs H Q => ∃ (a : Addr) (L : List (Addr × List Str)), xs = [.ref a] ∧ SqL K H a (L.map fun x => V.ref x.1) ∧ (∀ x ∈ L, SqT K H x.1 (x.2.map V.str) ∧ x.2 ≠ []) ∧ L.length ≤ 1000 ∧
  ∀ (ps : List (Addr × List Str)) (p : Addr), ps.Perm L → (ps.map (·.2)).Pairwise RLe → H p = none → Q (.ref p) (upd H p (.lst (ps.map fun x => V.ref x.1)))
theorem call_sortedTT : CallR X (.builtin "sorted") (rSortTT X.K) := by
  intro pins s σ H xs us Q I r h
  obtain ⟨a, L, rfl, hs, hL, hl, q⟩ := h
  obtain ⟨its, rv, hlst, _⟩ := I.list hs
  rw [Vals.ref1 r]
  have eits : its = L.map fun x => Value.ref x.1 := by
    have go : ∀ (L : List (Addr × List Str)) (us : List Value), Vals (L.map fun x => V.ref x.1) us → us = L.map fun x => Value.ref x.1 := by
      intro L
      induction L with
      | nil => intro us h; cases h; rfl
      | cons x L ih =>
        intro us h
        cases h with
        | cons r t => rw [show _ = Value.ref x.1 from r, ih _ t]; rfl
    exact go L its rv
  have key : ∀ x ∈ L, G.tupKeyC s.heap (fun _ => true) (.ref x.1) = some (rowKey x.2) ∧ ∃ f, TupOf s.heap (fun _ => true) (.ref x.1) f := fun x hx => by
    obtain ⟨ht, hne⟩ := hL x hx
    obtain ⟨us, ru, pl, hz⟩ := I.tuple ht
    obtain ⟨o, ho, hc, n, hd⟩ := pl
    have hk := items_key 0 ru
    refine ⟨?_, ?_⟩
    · unfold G.tupKeyC
      have : G.isTupObj s.heap (.ref x.1) = true := by
        simp only [G.isTupObj, ho, hc]
        exact beq_self_eq_true "tuple"
      rw [if_pos this]
      simp only [tupKey, ho, hd]
      exact hk
    · match us, x.2, ru, hne with
      | [], [], _, hne => exact absurd rfl hne
      | u :: us, z :: zs, .cons r0 t0, _ =>
        obtain ⟨tk, rfl⟩ := r0
        exact ⟨_, x.1, o, _, n, rfl, ho, hc, hd, rfl, fun h => (Bool.noConfusion h), fun _ => ⟨z, tk, rfl⟩⟩
  have tups : ∀ L' : List (Addr × List Str), (∀ x ∈ L', x ∈ L) → ∃ fs, TupsOf s.heap (fun _ => true) (L'.map fun x => Value.ref x.1) fs := by
    intro L'
    induction L' with
    | nil => exact fun _ => ⟨[], .nil⟩
    | cons x L' ih =>
      intro h
      obtain ⟨f, hf⟩ := (key x (h x List.mem_cons_self)).2
      obtain ⟨fs, hfs⟩ := ih fun y hy => h y (List.mem_cons_of_mem _ hy)
      exact ⟨f :: fs, .cons hf hfs⟩
  obtain ⟨fs, hfs⟩ := tups L fun _ h => h
  have hlen : its.length = L.length := by rw [eits, List.length_map]
  refine G.sorted_tups (shape := fun _ => true) (vs := its) (fs := fs) hlst.isList (by rw [eits]; exact hfs) (fun v hv => ?_) (by rw [hlen]; exact Nat.le_trans hl (by decide)) fun st' hp hso _ => ?_
  · rw [eits] at hv
    obtain ⟨x, hx, rfl⟩ := List.mem_map.mp hv
    exact ⟨_, (key x hx).1⟩
  -- what stands there
  have hl2 : (arrOf st').toList.Perm (its.zip its) := by rw [← pairsOf_toList]; exact Array.perm_iff_toList_perm.mp hp
  have hmem : ∀ p, p ∈ (arrOf st').toList → p.1 = p.2 ∧ p.1 ∈ its := fun p hp' => mem_zip_self (hl2.mem_iff.mp hp')
  have e1 : ((arrOf st').toList.map (·.1)).Perm its := by
    have := hl2.map (·.1)
    rwa [show (its.zip its).map (·.1) = its from List.map_fst_zip (Nat.le_refl _)] at this
  rw [eits] at e1
  obtain ⟨ps, hps, eps⟩ := perm_map_inv e1
  have e2 : ((arrOf st').map (·.2)).toList = ps.map fun x => Value.ref x.1 := by
    rw [Array.toList_map, ← eps]
    exact List.map_congr_left fun p hp' => (hmem p hp').1.symm
  have hsz : (arrOf st').size = ps.length := by
    have := congrArg List.length eps
    rwa [List.length_map, List.length_map, Array.length_toList] at this
  have hpz : (pairsOf its).size = ps.length := by rw [pairsOf_size, hlen, hps.length_eq]
  have kk : ∀ i (hi : i < ps.length), KK (G.tupKindC s.heap fun _ => true) (arrOf st') i = rowKey ps[i].2 := fun i hi => by
    unfold KK
    have hi2 : i < (arrOf st').size := by omega
    rw [Array.getElem?_eq_getElem hi2]
    have e3 : ((arrOf st')[i]).1 = .ref ps[i].1 := by
      have := congrArg (fun l : List Value => l[i]?) eps
      rw [List.getElem?_map, List.getElem?_map, List.getElem?_eq_getElem hi, List.getElem?_eq_getElem (by rw [Array.length_toList]; exact hi2)] at this
      exact Option.some.inj this
    dsimp only
    rw [e3]
    show (G.tupKeyC s.heap (fun _ => true) (.ref ps[i].1)).getD _ = _
    rw [(key ps[i] (hps.mem_iff.mp (List.getElem_mem hi))).1]
    rfl
  have hpw : (ps.map (·.2)).Pairwise RLe := by
    rw [List.pairwise_iff_getElem]
    intro i j hi hj hij
    rw [List.length_map] at hi hj
    have := hso i j (Nat.le_of_lt hij) (by rw [hpz]; exact hj)
    rw [kk i hi, kk j hj] at this
    rw [List.getElem_map, List.getElem_map]
    exact this
  obtain ⟨ep, he'⟩ := PyProof.Rows.sortedAll_at s.heap its ((arrOf st').map (·.2))
  have hlen2 : (ps.map fun x => V.ref x.1).length ≤ sizeLine := by
    rw [List.length_map, hps.length_eq]
    exact Nat.le_trans hl (by decide)
  have vals : ∀ ps : List (Addr × List Str), Vals (ps.map fun x => V.ref x.1) (ps.map fun x => Value.ref x.1) := by
    intro ps
    induction ps with
    | nil => exact .nil
    | cons x ps ih => exact .cons rfl ih
  exact ⟨.ref _, upd H (s.heap.objs.size + 1) (.lst (ps.map fun x => V.ref x.1)), I.laid (t' := s.toks) (fun _ _ => PyProof.Rows.sortedAll_old) (Nat.le_succ _) ⟨hlen2, ((arrOf st').map (·.2)).toList, ep, by rw [e2]; exact vals ps, by rw [Array.toArray_toList]; exact he'⟩, rfl, q ps _ hps hpw (I.hok.fresh (Nat.le_succ _))⟩
end
end SortB
/-! try: .. / except x as e: c = e, and what c holds behind it -/
namespace KepE
open PySem PySem.Spec PyProof.Rows L2
/-! ### what is kept -/
/-- the facts for an own error's fields and classes -/
structure KeT (K : PySem.W.Frag) (C : Addr) : Prop where
  cl : (PySem.W.clsIn K C).isSome = true
  ga : PySem.W.findIn K (.ref C) "__getattribute__" = some (some (.builtin "BaseException.__getattribute__"))
  gg : PySem.W.findIn K (.ref C) "__getattr__" = some none
  exC : PySem.W.subIn K (.ref C) (.type "BaseException") = some true
  hdC : PySem.W.hasDictIn K C = true
  ca : PySem.W.findIn K (.ref C) "__class__" = some (some (.builtin "object.__class__"))
  cn : PySem.W.specialIn K (.builtin "object.__class__") "__get__" = some (some (.builtin "getset_descriptor.__get__"))
  ct : PySem.W.takesIn K (.builtin "object.__class__") = some true
  ob : PySem.W.mroIn K C (.type "object") = some true
end KepE
namespace Sj
open PySem L2 Sup StK Own Shw Exg Grd KepE
open NdefX (NF NScope ncx envF startF nscope_by)
open C8 (pss_cut tCut)
/-! k09: is_member -/
abbrev sIsM : Stmt := top 22
theorem scIsM : FnScope ["frame", "value"] ["frame", "value"] (defScope sIsM) := ⟨rfl, rfl, rfl, by decide +kernel, rfl, by decide +kernel, by decide +kernel⟩
/-- the names of all elements -/
def membZ (d : FrD) : List Str := names d.ys ++ railsZ d.g d.r
def spIsM (K : PySem.W.Frag) (ks : Kinds) (CF : Addr) : Sp := fun vs H Q _ => ∃ a d x, vs = [.ref a, x] ∧ FrIs ks CF H a d ∧ ((∃ z : Str, x = .str z ∧ ∀ H', Same H H' → Q (.bl (decide (z ∈ membZ d))) H') ∨ (NotLeg K H x d ∧ InS K H (railsZ d.g d.r) x false ∧ ∀ H', Same H H' → Q (.bl false) H'))
structure ImT (P : Program) (w : World) (K : PySem.W.Frag) (mg : Str → Option Value) (base : Heap) (ks : Kinds) (CF : Addr) : Prop where
  in_ : MetN P w K mg base CX0 1 CF "__contains__" ["self", "x"] (spFIs K ks CF)
  rails : PropN P w K mg base 1 CF "rails" (spTup ks CF fun d => railsZ d.g d.r)
theorem inS_same {K : PySem.W.Frag} {H H' : Hp} {zs : List Str} {x : V} {b : Bool} (h : InS K H zs x b) (s : Same H H') : InS K H' zs x b := by
  cases h with
  | str z => exact .str z
  | non => exact .non
  | bl b => exact .bl b
  | int i => exact .int i
  | lst q => exact .lst (SqL.ext q s)
  | tup q => exact .tup (SqT.ext q s)
  | dic q => exact .dic (s _ _ q)
section
variable {P : Program} {w : World} {K : PySem.W.Frag} {mg : Str → Option Value} {base : Heap}
theorem ok_ism {f CF : Addr} {fd : FuncData} {ks : Kinds} (F : Fun K "is_member" "is_member" sIsM f fd) (T : ImT P w K mg base ks CF) : FnOk P w K mg base CX0 3 f fd ["frame", "value"] (spIsM K ks CF) := by
  refine F.ok scIsM (fun vs H Q E h => ?_) (fun cdv A outer s H vs Q E hr h => ?_)
  · obtain ⟨a, d, x, rfl, _⟩ := h
    rfl
  · obtain ⟨a, d, x, rfl, hF, h⟩ := h
    obtain ⟨dx, fs, ea⟩ := hF.ins
    refine ⟨_, pss_one (ps_ret (pe_or (pe_cmpR (op_inN T.in_ (hr.mono (by decide))) (pv 1) (pv 0) (by rfl)) (pe_one (pe_cmpR (op_inS hr.in1.units0) (pv 1) (pe_propS (S := fun C => C = CF) (spP := fun _ => spTup ks CF fun d => railsZ d.g d.r) (pv 0) (fun C e => by rw [e]; exact T.rails) hr) (by rfl))))), ?_⟩
    rcases h with ⟨z, rfl, k⟩ | ⟨hn, hi, k⟩
    · by_cases hz : z ∈ names d.ys
      · refine ⟨_, rfl, _, rfl, a, dx, fs, rfl, ea, a, d, _, rfl, hF, .inl ⟨z, rfl, hz, true, rfl, _, rfl, iteT ?_⟩⟩
        have := k H (Same.refl H)
        rw [decide_eq_true (show z ∈ membZ d from List.mem_append_left _ hz)] at this
        exact this
      · refine ⟨_, rfl, _, rfl, a, dx, fs, rfl, ea, a, d, _, rfl, hF, .inr ⟨.inl ⟨z, rfl, hz⟩, false, rfl, _, rfl, iteF ?_⟩⟩
        refine ⟨_, rfl, _, rfl, a, CF, dx, fs, rfl, ea, rfl, a, d, rfl, hF, fun p H1 hp hv s1 => ⟨p, railsZ d.g d.r, _, rfl, SqT.of hv, .str z, ?_⟩⟩
        have := k H1 s1
        have e : decide (z ∈ membZ d) = decide (z ∈ railsZ d.g d.r) := by
          refine decide_eq_decide.mpr ⟨fun m => (List.mem_append.mp m).resolve_left hz, fun m => List.mem_append_right _ m⟩
        rw [e] at this
        exact this
    · refine ⟨_, rfl, _, rfl, a, dx, fs, rfl, ea, a, d, _, rfl, hF, .inr ⟨hn, false, rfl, _, rfl, iteF ?_⟩⟩
      exact ⟨_, rfl, _, rfl, a, CF, dx, fs, rfl, ea, rfl, a, d, rfl, hF, fun p H1 hp hv s1 => ⟨p, railsZ d.g d.r, _, rfl, SqT.of hv, inS_same hi s1, k H1 s1⟩⟩
end
end Sj
namespace Sj
open PySem PySem.Spec PyProof.Rows L2 Sup
/-! k09: over a list or a tuple; [.. for x in xs for y in x] -/
section
variable {X : Cx} {tg : Expr}
def iSeq (K : PySem.W.Frag) (tl : TE) : TI := fun σ H R => tl σ H fun x H1 => ∃ a, x = .ref a ∧ (((∃ xs, SqL K H1 a xs) ∧ R (Itl K a) H1) ∨ ((∃ xs, SqT K H1 a xs) ∧ R (Itt K a) H1))
theorem pi_seq {l : Expr} {tl : TE} (hl : PE X l tl) : PI X tg l (iSeq X.K tl) := by
  refine ⟨fun pins s σ H R I h => thn (hl.run pins s σ H _ I h) fun v s1 ⟨x, H1, I1, r1, a, e, q⟩ => ?_⟩
  subst e
  cases r1
  have new : ∀ {c : Addr}, c ∈ [s1.heap.objs.size] → FpOk X pins H1 c ∧ True := fun {c} hc => ⟨by rw [List.mem_singleton.mp hc]; exact I1.fpOk (Nat.le_refl _) (I1.hok.fresh (Nat.le_refl _)), trivial⟩
  rcases q with ⟨⟨xs, hq⟩, q⟩ | ⟨⟨xs, hq⟩, q⟩
  · obtain ⟨its, rv, p, hz⟩ := I1.list hq
    exact wpAny_pyIter_list p.isList ⟨s1.heap.objs.size, [s1.heap.objs.size], _, _, H1, rfl, I1.kept (t' := s1.toks) fun b o e => Heap.get?_push_of_some _ e, turn_list a _, ⟨_, Heap.get?_push_size _ rfl, rfl, rfl⟩, fun b hb => (new hb).1, q⟩
  · obtain ⟨its, rv, p, hz⟩ := I1.tuple hq
    exact wpAny_pyIter_tuple (show s1.heap.IsTuple a its.toArray from p) ⟨s1.heap.objs.size, [s1.heap.objs.size], _, _, H1, rfl, I1.kept (t' := s1.toks) fun b o e => Heap.get?_push_of_some _ e, turn_tuple a _, ⟨_, Heap.get?_push_size _ rfl, rfl, rfl⟩, fun b hb => (new hb).1, q⟩
end
/-- the inner loop -/
def InLoop (J1 : It) (g1 : TG) (tt1 : TT) (te : TE) (vs1 : List Nat) (D : Addr) (σ2 : L2.St) (H4 : Hp) (Nx : Hp → Prop) : Prop := ∃ W1 : Nat → Nat → Hp → Prop, (∃ m, W1 0 m H4) ∧ ∀ j k H, W1 j k H →
  (J1.stop j H ∧ Nx H) ∨ (J1.go j H ∧ ∃ Nx1 : Hp → Prop, (∀ H', Nx1 H' → ∃ k', k' < k ∧ W1 (j + 1) k' H') ∧ ∀ x H', J1.yld j H x H' → g1 x (wipe σ2 vs1) H' fun σ3 H5 => wipe σ3 vs1 = wipe σ2 vs1 ∧ tt1 σ3 H5 fun b H6 =>
    if b = true then te σ3 H6 fun y H7 => ∃ acc, H7 D = some (.lst acc) ∧ acc.length < sizeLine ∧ Nx1 (upd H7 D (.lst (acc ++ [y]))) else Nx1 H6)
theorem in_it {J1 : It} {n : Nat} {G : Hp → Prop} {Y : Nat → Hp → V → Hp → Prop} (wk : Walk J1 n G Y) {g1 : TG} {tt1 : TT} {te : TE} {vs1 : List Nat} {D : Addr} {σ2 : L2.St} {H4 : Hp} {Nx : Hp → Prop} (Pv : Nat → Hp → Prop) (h0 : Pv 0 H4) (hG : ∀ i H, i ≤ n → Pv i H → G H)
    (hs : ∀ j x H H', j < n → Pv j H → Y j H x H' → g1 x (wipe σ2 vs1) H' fun σ3 H5 => wipe σ3 vs1 = wipe σ2 vs1 ∧ tt1 σ3 H5 fun b H6 => if b = true then te σ3 H6 fun y H7 => ∃ acc, H7 D = some (.lst acc) ∧ acc.length < sizeLine ∧ Pv (j + 1) (upd H7 D (.lst (acc ++ [y]))) else Pv (j + 1) H6)
    (hd : ∀ H, Pv n H → Nx H) : InLoop J1 g1 tt1 te vs1 D σ2 H4 Nx := by
  refine ⟨fun j k H => k + j = n ∧ Pv j H, ⟨n, rfl, h0⟩, fun j k H ⟨e, q⟩ => ?_⟩
  match k, e with
  | 0, e =>
    obtain rfl : j = n := by omega
    exact .inl ⟨wk.stops H (hG _ _ (Nat.le_refl _) q), hd H q⟩
  | k + 1, e => exact .inr ⟨wk.goes j H (by omega) (hG _ _ (by omega) q), Pv (j + 1), fun H' p' => ⟨k, Nat.lt_succ_self k, by omega, p'⟩, fun x H' y => hs j x H H' (by omega) q (wk.yields j H x H' (by omega) (hG _ _ (by omega) q) y)⟩
theorem lc2_it {J : It} {n : Nat} {G : Hp → Prop} {Y : Nat → Hp → V → Hp → Prop} (wk : Walk J n G Y) {g g1 : TG} {tt tt1 : TT} {wi1 : TI} {te : TE} {vs vs1 : List Nat} {σ : L2.St} {H1 : Hp} {D : Addr} {Qd : Hp → Prop} (Pv : Nat → Hp → Prop) (h0 : Pv 0 (upd H1 D (.lst []))) (hG : ∀ i H, i ≤ n → Pv i H → G H)
    (hs : ∀ i x H H', i < n → Pv i H → Y i H x H' → g x (wipe σ vs) H' fun σ2 H2 => wipe σ2 vs = wipe σ vs ∧ tt σ2 H2 fun b H3 => if b = true then wi1 σ2 H3 fun J1 H4 => InLoop J1 g1 tt1 te vs1 D σ2 H4 (Pv (i + 1)) else Pv (i + 1) H3) (hd : ∀ H, Pv n H → Qd H) :
    ∃ W : Nat → Nat → Hp → Prop, (∃ m, W 0 m (upd H1 D (.lst []))) ∧ ∀ i m H, W i m H →
      (J.stop i H ∧ Qd H) ∨ (J.go i H ∧ ∃ Nx : Hp → Prop, (∀ H', Nx H' → ∃ m', m' < m ∧ W (i + 1) m' H') ∧ ∀ x H', J.yld i H x H' → g x (wipe σ vs) H' fun σ2 H2 => wipe σ2 vs = wipe σ vs ∧ tt σ2 H2 fun b H3 =>
        if b = true then wi1 σ2 H3 fun J1 H4 => InLoop J1 g1 tt1 te vs1 D σ2 H4 Nx else Nx H3) := by
  refine ⟨fun i m H => m + i = n ∧ Pv i H, ⟨n, rfl, h0⟩, fun i m H ⟨e, q⟩ => ?_⟩
  match m, e with
  | 0, e =>
    obtain rfl : i = n := by omega
    exact .inl ⟨wk.stops H (hG _ _ (Nat.le_refl _) q), hd H q⟩
  | m + 1, e => exact .inr ⟨wk.goes i H (by omega) (hG _ _ (by omega) q), Pv (i + 1), fun H' p' => ⟨m, Nat.lt_succ_self m, by omega, p'⟩, fun x H' y => hs i x H H' (by omega) q (wk.yields i H x H' (by omega) (hG _ _ (by omega) q) y)⟩
end Sj
namespace Sj
open PySem L2 Sup StK Own Shw Exg Grd KepE
open NdefX (NF NScope ncx envF startF nscope_by)
open C8 (pss_cut tCut)
/-! wrong_blocks, where all is well -/
abbrev sWb : Stmt := top 26
abbrev nWb : List Str := ["frame", "blocks", "names", "block", "name"]
theorem scWb : FnScope nWb ["frame", "blocks"] (defScope sWb) := ⟨rfl, rfl, rfl, by decide +kernel, rfl, by decide +kernel, by decide +kernel⟩
def lenR (K : PySem.W.Frag) : List V → Hp → VK → Prop := fun xs H Q => ∃ p ys, xs = [V.ref p] ∧ (SqL K H p ys ∨ SqT K H p ys) ∧ Q (.int ys.length) H
theorem call_lenK {X : Cx} : CallR X (.builtin "len") (lenR X.K) := call_len_seq
def rGt0 : R2 := rI0 fun i j => .bl (decide (j < i))
theorem op_gt0 {X : Cx} : OpR X (compareOp .Gt) rGt0 := op_gt
def teB1 (K : PySem.W.Frag) : TE := tAndV (tCB (rIsiT K) (tCons (tVar 3) (tCons (tTup (tCons (tC (.ty "list")) (tCons (tC (.ty "tuple")) tNil))) tNil))) (tOp rGt0 (tCB (lenR K) (tCons (tVar 3) tNil)) (tC (.int 0)))
def teB3 (K : PySem.W.Frag) (ks : Kinds) (CF : Addr) : TE := tCall (spIsM K ks CF) [] E0 (tCons (tVar 0) (tCons (tVar 4) tNil))
def teB5 (K : PySem.W.Frag) : TE := tAndV (tOp (rIn K false) (tC (.str "ground")) (tVar 3)) (tOp (rIn K false) (tC (.str "power")) (tVar 3))
/-- blocks of texts, each a list or a tuple -/
def BlkAt (H : Hp) (Bl : List (Addr × List Str)) : Prop := ∀ x ∈ Bl, (H x.1 = some (.lst (strv x.2)) ∨ H x.1 = some (.tup (strv x.2))) ∧ x.2 ≠ []
theorem BlkAt.same {H H' : Hp} {Bl : List (Addr × List Str)} (h : BlkAt H Bl) (s : Same H H') : BlkAt H' Bl := fun x hx => ⟨(h x hx).1.imp (s _ _) (s _ _), (h x hx).2⟩
def allN (Bl : List (Addr × List Str)) : List Str := Bl.flatMap (·.2)
structure WbT (P : Program) (w : World) (K : PySem.W.Frag) (mg : Str → Option Value) (base : Heap) (ks : Kinds) (CF : Addr) : Prop where
  ism : ∃ f fd, mg "is_member" = some (.ref f) ∧ PySem.W.keepIn K (.ref f) = true ∧ Binds K fd ["frame", "value"] [] ∧ FnOk P w K mg base CX0 3 f fd ["frame", "value"] (spIsM K ks CF)
  isi : mg "isinstance" = none
  all : mg "all" = none
  any : mg "any" = none
  len : mg "len" = none
  set : mg "set" = none
  list : mg "list" = none
  tuple : mg "tuple" = none
  kl : PySem.W.kitAny K (.type "list") [.type "list", .type "tuple"] = some true
  kt : PySem.W.kitAny K (.type "tuple") [.type "list", .type "tuple"] = some true
def spWb (K : PySem.W.Frag) (ks : Kinds) (CF : Addr) : Sp := fun vs H Q _ => ∃ (f t : Addr) (d : FrD) (Bl : List (Addr × List Str)), vs = [.ref f, .ref t] ∧ FrIs ks CF H f d ∧ SqT K H t (Bl.map fun x => V.ref x.1) ∧ BlkAt H Bl ∧
  (∀ z ∈ allN Bl, z ∈ membZ d) ∧ (allN Bl).Nodup ∧ (allN Bl).length ≤ 60 ∧ (∀ x ∈ Bl, ¬ (("ground" : Str) ∈ x.2 ∧ ("power" : Str) ∈ x.2)) ∧ ∀ H', Same H H' → Q .non H'
theorem inV_strs : ∀ (zs : List Str) (z : Str), inV (.str z) (strv zs) = decide (z ∈ zs)
  | [], z => by simp [inV, strv]
  | y :: zs, z => by
    have ih := inV_strs zs z
    show (eqV (V.str y) (V.str z) || inV (.str z) (strv zs)) = _
    rw [ih]
    by_cases e : z = y
    · subst e
      simp [eqV]
    · have e' : y ≠ z := fun q => e q.symm
      simp [eqV, e, e']
theorem flat_strs (zs : List Str) : (strv zs).all flatV = true := by
  unfold strv
  rw [List.all_map]
  exact List.all_eq_true.mpr fun z _ => rfl
theorem allN_snoc {Bl : List (Addr × List Str)} {i : Nat} {y : Addr × List Str} (h : Bl[i]? = some y) : allN (Bl.take (i + 1)) = allN (Bl.take i) ++ y.2 := by
  unfold allN
  rw [List.take_add_one, h, Option.toList_some, List.flatMap_append]
  simp
section
variable {P : Program} {w : World} {K : PySem.W.Frag} {mg : Str → Option Value} {base : Heap}
theorem ok_wb {f CF : Addr} {fd : FuncData} {ks : Kinds} (F : Fun K "wrong_blocks" "wrong_blocks" sWb f fd) (T : WbT P w K mg base ks CF) : FnOk P w K mg base CX0 4 f fd ["frame", "blocks"] (spWb K ks CF) := by
  obtain ⟨fM, fdM, mM, kM, bM, GM⟩ := T.ism
  refine F.ok scWb (fun vs H Q E h => ?_) (fun cdv A outer s H vs Q E hr h => ?_)
  · obtain ⟨f, t, d, Bl, rfl, _⟩ := h
    rfl
  · obtain ⟨f, t, d, Bl, rfl, hF, ht, hB, hm, hnd, hl, hgp, k⟩ := h
    refine ⟨_, pss_cons (ps_if (pt_not (pt_val (pe_callB (cr_all rfl) (by rfl) T.all (by decide +kernel) (pa_cons (pe_lc (te := teB1 K) (tt := tYes) (own := [("block", 3)]) (g := gName 3) rfl scWb.nd (pi_tup (pv 1)) (blkOk_by (N := nWb) (sc := defScope sWb) (by decide +kernel))
          (fun _ _ _ _ _ => pg_name (i := 3) scWb.nd rfl (Or.inl rfl)) (fun _ _ _ _ _ => pts_nil) (fun _ _ _ _ _ => pe_and (pe_callB call_isiT (by rfl) T.isi (by decide +kernel) (pa_cons (pv 3) (pa_cons (pe_tup (pa_cons (pe_bltn (by rfl) T.list (by decide +kernel) (v := .ty "list") rfl) (pa_cons (pe_bltn (by rfl) T.tuple (by decide +kernel) (v := .ty "tuple") rfl) pa_nil))) pa_nil)))
            (pe_one (pe_cmpR op_gt0 (pe_callB call_lenK (by rfl) T.len PySem.boot_len (pa_cons (pv 3) pa_nil)) pe_int (nomark _))))) pa_nil)))) (pss_one (ps_ret pe_str)) pss_nil)
      (pss_cons (ps_setLc2 (i := 2) (wi1 := iSeq K (tVar 3)) (te := tVar 4) (tt := tYes) (tt1 := tYes) (own := [("block", 3), ("name", 4)]) (vs1 := [4]) (g := gName 3) (g1 := gName 4) rfl scWb.nd rfl rfl (sw_true rfl rfl rfl (by decide +kernel)) (pi_tup (pv 1)) (blkOk_by (N := nWb) (sc := defScope sWb) (by decide +kernel)) (by decide)
          (fun _ _ _ _ _ => pg_name (i := 3) scWb.nd rfl (Or.inl rfl)) (fun _ _ _ _ _ => pts_nil) (fun _ _ _ _ _ => pi_seq (pv 3)) (fun _ _ _ _ _ => pg_name (i := 4) scWb.nd rfl (Or.inl rfl)) (fun _ _ _ _ _ => pts_nil) (fun _ _ _ _ _ => pv 4))
      (pss_cons (ps_if (pt_not (pt_val (pe_callB (cr_all rfl) (by rfl) T.all (by decide +kernel) (pa_cons (pe_lc (te := teB3 K ks CF) (tt := tYes) (own := [("name", 4)]) (g := gName 4) rfl scWb.nd (pi_list (pv 2)) (blkOk_by (N := nWb) (sc := defScope sWb) (by decide +kernel))
          (fun _ _ _ _ _ => pg_name (i := 4) scWb.nd rfl (Or.inl rfl)) (fun _ _ _ _ _ => pts_nil) (fun _ _ _ _ _ => pe_call GM hr rfl mM kM bM .nil pass0 (pa_cons (pv 0) (pa_cons (pv 4) pa_nil)))) pa_nil)))) (pss_one (ps_ret pe_str)) pss_nil)
      (pss_cons (ps_if (pt_cmpR op_lt (pe_callB (SetS.call_lenX) (by rfl) T.len PySem.boot_len (pa_cons (pe_callTy (T := "set") (SetS.call_setL rfl) (by rfl) T.set (by decide +kernel) (pa_cons (pv 2) pa_nil)) pa_nil)) (pe_callB call_len_seq (by rfl) T.len PySem.boot_len (pa_cons (pv 2) pa_nil)) (nomark _)) (pss_one (ps_ret pe_str)) pss_nil)
      (pss_cons (ps_if (pt_val (pe_callB (cr_any rfl) (by rfl) T.any (by decide +kernel) (pa_cons (pe_lc (te := teB5 K) (tt := tYes) (own := [("block", 3)]) (g := gName 3) rfl scWb.nd (pi_tup (pv 1)) (blkOk_by (N := nWb) (sc := defScope sWb) (by decide +kernel))
          (fun _ _ _ _ _ => pg_name (i := 3) scWb.nd rfl (Or.inl rfl)) (fun _ _ _ _ _ => pts_nil) (fun _ _ _ _ _ => pe_and (pe_cmpR op_in_seq pe_str (pv 3) (by rfl)) (pe_one (pe_cmpR op_in_seq pe_str (pv 3) (by rfl))))) pa_nil))) (pss_one (ps_ret pe_str)) pss_nil)
      (pss_one (ps_ret pe_non)))))), ?_⟩
    have hBl : (Bl.map fun x => V.ref x.1).length = Bl.length := List.length_map _
    have at_ : ∀ {i : Nat} {x : V}, (Bl.map fun x => V.ref x.1)[i]? = some x → ∃ y ∈ Bl, Bl[i]? = some y ∧ x = .ref y.1 := fun {i x} h => by
      rw [List.getElem?_map] at h
      cases e : Bl[i]? with
      | none => rw [e] at h; cases h
      | some y => rw [e] at h; exact ⟨y, List.mem_of_getElem? e, rfl, (Option.some.inj h).symm⟩
    have bl60 : Bl.length ≤ 60 := by
      have go : ∀ Bl : List (Addr × List Str), (∀ x ∈ Bl, x.2 ≠ []) → Bl.length ≤ (allN Bl).length := by
        intro Bl
        induction Bl with
        | nil => exact fun _ => Nat.le_refl _
        | cons x Bl ih =>
          intro h
          have h1 := ih fun y hy => h y (List.mem_cons_of_mem _ hy)
          have h2 : 0 < x.2.length := List.length_pos_iff.mpr (h x List.mem_cons_self)
          show Bl.length + 1 ≤ (x.2 ++ allN Bl).length
          rw [List.length_append]
          omega
      exact Nat.le_trans (go Bl fun x hx => (hB x hx).2) hl
    have bool_add : ∀ (n : Nat) (b : Bool), (List.replicate (n + 1) b).map V.bl = (List.replicate n b).map V.bl ++ [.bl b] := fun n b => by
      rw [List.replicate_succ', List.map_append]
      rfl
    -- each is a list or a tuple, and not empty
    refine ⟨_, rfl, t, rfl, ⟨_, ht⟩, fun D hD => ?_⟩
    refine lc_it (walk_tup (K := K) (a := t) (xs := Bl.map fun x => V.ref x.1)) (fun i H' => Same H H' ∧ H' D = some (.lst ((List.replicate i true).map V.bl))) ⟨same_at hD, upd_same⟩ (fun i H' _ p => SqT.ext ht p.1) ?_ ?_
    · rintro i x Ho Ha hi ⟨sa, da⟩ ⟨rfl, hx⟩
      obtain ⟨y, hy, ey, rfl⟩ := at_ hx
      rw [hBl] at hi
      refine ⟨rfl, ?_⟩
      unfold tYes
      dsimp only
      rw [if_pos rfl]
      refine ⟨_, rfl, by show 2 ≤ sizeLine; decide, fun p hp => ?_⟩
      have sp := same_at (o := .tup [V.ty "list", .ty "tuple"]) hp
      obtain ⟨hq, hne⟩ := (hB.same (sa.trans sp)) y hy
      have hln : SqL K (upd Ha p (.tup [V.ty "list", .ty "tuple"])) y.1 (strv y.2) ∨ SqT K (upd Ha p (.tup [V.ty "list", .ty "tuple"])) y.1 (strv y.2) := hq.imp SqL.of SqT.of
      have hty : ∃ tt, TyX K (upd Ha p (.tup [V.ty "list", .ty "tuple"])) (.ref y.1) (.type tt) ∧ PySem.W.kitAny K (.type tt) [.type "list", .type "tuple"] = some true := by
        rcases hq with q | q
        · exact ⟨"list", .base (.lst q), T.kl⟩
        · exact ⟨"tuple", .base (.tup q), T.kt⟩
      obtain ⟨tt, ty, kt⟩ := hty
      refine ⟨.ref y.1, p, [.ty "list", .ty "tuple"], .type tt, [.type "list", .type "tuple"], true, rfl, upd_same, .cons (.ty _) (.cons (.ty _) .nil), ty, kt, _, rfl, iteT ?_⟩
      refine ⟨_, rfl, y.1, strv y.2, rfl, hln, _, _, rfl, rfl, ?_⟩
      have hpos : (0 : Int) < ((strv y.2).length : Int) := by
        have : 0 < y.2.length := List.length_pos_iff.mpr hne
        have e : (strv y.2).length = y.2.length := List.length_map _
        omega
      refine ⟨_, sp _ _ da, ?_, fun c o e => ?_, ?_⟩
      · rw [List.length_map, List.length_replicate]
        exact Nat.lt_of_lt_of_le (show i < 60 by omega) (by decide)
      · rw [upd_ne (ne_of_none e hD)]
        exact sp _ _ (sa _ _ e)
      · rw [upd_same, bool_add]
        show some (HO.lst (_ ++ [V.bl (decide ((0 : Int) < ((strv y.2).length : Int)))])) = _
        rw [decide_eq_true hpos]
    rintro H1 ⟨s1, d1⟩
    refine ⟨D, _, rfl, SqL.of d1, ?_⟩
    have allT : ∀ n : Nat, (List.replicate n true).all id = true := fun n => List.all_eq_true.mpr fun b hb => List.eq_of_mem_replicate hb
    rw [allT]
    refine ⟨_, rfl, iteF ?_⟩
    -- all names
    have ht1 := SqT.ext ht s1
    refine ⟨_, rfl, t, rfl, ⟨_, ht1⟩, fun D2 hD2 => ?_⟩
    refine lc2_it (walk_tup (K := K) (a := t) (xs := Bl.map fun x => V.ref x.1)) (fun i H' => Same H1 H' ∧ H' D2 = some (.lst (strv (allN (Bl.take i))))) ⟨same_at hD2, upd_same⟩ (fun i H' _ p => SqT.ext ht1 p.1) ?_ ?_
    · rintro i x Ho Ha hi ⟨sa, da⟩ ⟨rfl, hx⟩
      obtain ⟨y, hy, ey, rfl⟩ := at_ hx
      refine ⟨rfl, ?_⟩
      unfold tYes
      dsimp only
      rw [if_pos rfl]
      have hle : (allN (Bl.take i) ++ y.2).length ≤ 60 := by
        rw [← allN_snoc ey]
        refine Nat.le_trans ?_ hl
        have e : allN Bl = allN (Bl.take (i + 1)) ++ allN (Bl.drop (i + 1)) := by
          unfold allN
          rw [← List.flatMap_append, List.take_append_drop]
        rw [e, List.length_append]
        omega
      rw [List.length_append] at hle
      have hyl : (strv y.2).length = y.2.length := List.length_map _
      have turn : ∀ (j : Nat) (x : V) (Hc Hd : Hp), j < (strv y.2).length → (Same H1 Hc ∧ Hc D2 = some (.lst (strv (allN (Bl.take i) ++ y.2.take j)))) → (Hd = Hc ∧ (strv y.2)[j]? = some x) →
          gName 4 x (wipe ([some (V.ref f), some (.ref t), none, some (.ref y.1), none] : L2.St) [4]) Hd fun σ3 H5 => wipe σ3 [4] = wipe ([some (V.ref f), some (.ref t), none, some (.ref y.1), none] : L2.St) [4] ∧ tYes σ3 H5 fun b H6 =>
            if b = true then tVar 4 σ3 H6 fun z H7 => ∃ acc, H7 D2 = some (.lst acc) ∧ acc.length < sizeLine ∧ (Same H1 (upd H7 D2 (.lst (acc ++ [z]))) ∧ upd H7 D2 (.lst (acc ++ [z])) D2 = some (.lst (strv (allN (Bl.take i) ++ y.2.take (j + 1))))) else (Same H1 H6 ∧ H6 D2 = some (.lst (strv (allN (Bl.take i) ++ y.2.take (j + 1))))) := by
        rintro j x Hc Hd hj ⟨sc, dc⟩ ⟨rfl, hxj⟩
        rw [hyl] at hj
        have exj : (strv y.2)[j]? = some (.str y.2[j]) := by show (y.2.map V.str)[j]? = _; rw [List.getElem?_map, List.getElem?_eq_getElem hj]; rfl
        rw [exj] at hxj
        obtain rfl := Option.some.inj hxj
        refine ⟨rfl, ?_⟩
        unfold tYes
        dsimp only
        rw [if_pos rfl]
        refine ⟨_, rfl, _, dc, ?_, fun c o e => ?_, ?_⟩
        · unfold strv
          rw [List.length_map, List.length_append, List.length_take]
          exact Nat.lt_of_le_of_lt (show _ ≤ 60 by omega) (by decide)
        · rw [upd_ne (ne_of_none e hD2)]
          exact sc _ _ e
        · rw [upd_same, List.take_add_one, List.getElem?_eq_getElem hj, Option.toList_some, ← List.append_assoc]
          show _ = some (HO.lst (List.map V.str _))
          rw [List.map_append (l₁ := allN (Bl.take i) ++ y.2.take j)]
          rfl
      have d0 : Ha D2 = some (.lst (strv (allN (Bl.take i) ++ y.2.take 0))) := by
        rw [List.take_zero, List.append_nil]
        exact da
      have fin : ∀ Hc, (Same H1 Hc ∧ Hc D2 = some (.lst (strv (allN (Bl.take i) ++ y.2.take (strv y.2).length)))) → (Same H1 Hc ∧ Hc D2 = some (.lst (strv (allN (Bl.take (i + 1)))))) := fun Hc h => ⟨h.1, by
        have := h.2
        rw [hyl, List.take_length, ← allN_snoc ey] at this
        exact this⟩
      rcases (hB.same s1 y hy).1 with q | q
      · exact ⟨_, rfl, y.1, rfl, .inl ⟨⟨_, SqL.of (sa _ _ q)⟩, in_it (walk_list (K := K) (a := y.1) (xs := strv y.2)) (fun j H' => Same H1 H' ∧ H' D2 = some (.lst (strv (allN (Bl.take i) ++ y.2.take j)))) ⟨sa, d0⟩ (fun j H' _ p => SqL.of (p.1 _ _ q)) turn fin⟩⟩
      · exact ⟨_, rfl, y.1, rfl, .inr ⟨⟨_, SqT.of (sa _ _ q)⟩, in_it (walk_tup (K := K) (a := y.1) (xs := strv y.2)) (fun j H' => Same H1 H' ∧ H' D2 = some (.lst (strv (allN (Bl.take i) ++ y.2.take j)))) ⟨sa, d0⟩ (fun j H' _ p => SqT.of (p.1 _ _ q)) turn fin⟩⟩
    rintro H2 ⟨s2, d2⟩
    rw [hBl, List.take_length] at d2
    have hF2 := hF.same (s1.trans s2)
    have hB2 := (hB.same s1).same s2
    have ht2 := SqT.ext ht1 s2
    have nl : (strv (allN Bl)).length = (allN Bl).length := List.length_map _
    refine ⟨_, rfl, D2, rfl, ⟨_, SqL.of d2⟩, fun D3 hD3 => ?_⟩
    refine lc_it (walk_list (K := K) (a := D2) (xs := strv (allN Bl))) (fun i H' => Same H2 H' ∧ H' D3 = some (.lst ((List.replicate i true).map V.bl))) ⟨same_at hD3, upd_same⟩ (fun i H' _ p => SqL.ext (SqL.of d2) p.1) ?_ ?_
    · rintro i x Ho Ha hi ⟨sa, da⟩ ⟨rfl, hx⟩
      rw [nl] at hi
      have ex : (strv (allN Bl))[i]? = some (.str (allN Bl)[i]) := by show ((allN Bl).map V.str)[i]? = _; rw [List.getElem?_map, List.getElem?_eq_getElem hi]; rfl
      rw [ex] at hx
      obtain rfl := Option.some.inj hx
      refine ⟨rfl, ?_⟩
      unfold tYes
      dsimp only
      rw [if_pos rfl]
      refine ⟨_, rfl, _, rfl, f, d, _, rfl, hF2.same sa, .inl ⟨_, rfl, fun H' s' => ?_⟩⟩
      rw [decide_eq_true (hm _ (List.getElem_mem hi))]
      refine ⟨_, s' _ _ da, ?_, fun c o e => ?_, ?_⟩
      · rw [List.length_map, List.length_replicate]
        exact Nat.lt_of_lt_of_le (show i < 60 by omega) (by decide)
      · rw [upd_ne (ne_of_none e hD3)]
        exact s' _ _ (sa _ _ e)
      · rw [upd_same, bool_add]
    rintro H3 ⟨s3, d3⟩
    refine ⟨D3, _, rfl, SqL.of d3, ?_⟩
    rw [allT]
    refine ⟨_, rfl, iteF ?_⟩
    -- no name twice
    have d2b := s3 _ _ d2
    refine ⟨_, rfl, D2, allN Bl, rfl, SqL.of d2b, Nat.lt_of_le_of_lt hl (by decide), fun p hp => ?_⟩
    have sp := same_at (o := SetS.SetX w p (SetS.setL (allN Bl))) hp
    refine ⟨p, SetS.setL (allN Bl), rfl, upd_same, _, rfl, D2, strv (allN Bl), rfl, .inl (SqL.of (sp _ _ d2b)), ?_⟩
    refine ⟨_, _, rfl, rfl, ?_⟩
    have e4 : decide (((SetS.setL (allN Bl)).length : Int) < ((strv (allN Bl)).length : Int)) = false := by
      rw [SetS.setL_same hnd, nl]
      exact decide_eq_false (Int.lt_irrefl _)
    refine ⟨false, by show V.bl (decide (((SetS.setL (allN Bl)).length : Int) < ((strv (allN Bl)).length : Int))) = _; rw [e4], iteF ?_⟩
    -- no block of both
    have s4 := s3.trans sp
    have ht4 := SqT.ext ht2 s4
    refine ⟨_, rfl, t, rfl, ⟨_, ht4⟩, fun D5 hD5 => ?_⟩
    refine lc_it (walk_tup (K := K) (a := t) (xs := Bl.map fun x => V.ref x.1)) (fun i H' => Same (upd H3 p (SetS.SetX w p (SetS.setL (allN Bl)))) H' ∧ H' D5 = some (.lst ((List.replicate i false).map V.bl))) ⟨same_at hD5, upd_same⟩ (fun i H' _ p => SqT.ext ht4 p.1) ?_ ?_
    · rintro i x Ho Ha hi ⟨sa, da⟩ ⟨rfl, hx⟩
      obtain ⟨y, hy, ey, rfl⟩ := at_ hx
      rw [hBl] at hi
      refine ⟨rfl, ?_⟩
      unfold tYes
      dsimp only
      rw [if_pos rfl]
      have last : ∀ {b : Bool}, b = false → ∃ acc, Ha D5 = some (.lst acc) ∧ acc.length < sizeLine ∧ (Same (upd H3 p (SetS.SetX w p (SetS.setL (allN Bl)))) (upd Ha D5 (.lst (acc ++ [.bl b]))) ∧ upd Ha D5 (.lst (acc ++ [.bl b])) D5 = some (.lst ((List.replicate (i + 1) false).map V.bl))) := by
        rintro b rfl
        refine ⟨_, da, ?_, fun c o e => ?_, ?_⟩
        · rw [List.length_map, List.length_replicate]
          exact Nat.lt_of_lt_of_le (show i < 60 by omega) (by decide)
        · rw [upd_ne (ne_of_none e hD5)]
          exact sa _ _ e
        · rw [upd_same, bool_add]
      have hq := ((hB2.same s4).same sa y hy).1
      have hgy := hgp y hy
      have both : ∀ z : Str, inV (.str z) (strv y.2) = decide (z ∈ y.2) := inV_strs y.2
      have hsq : SqL K Ha y.1 (strv y.2) ∨ SqT K Ha y.1 (strv y.2) := hq.imp SqL.of SqT.of
      by_cases hg : ("ground" : Str) ∈ y.2
      · refine ⟨_, rfl, y.1, strv y.2, rfl, hsq, rfl, flat_strs _, true, ?_, iteT ⟨_, rfl, y.1, strv y.2, rfl, hsq, rfl, flat_strs _, last ?_⟩⟩
        · show V.bl (inV _ _) = _
          rw [both, decide_eq_true hg]
        · show inV _ _ = _
          rw [both]
          exact decide_eq_false fun q => hgy ⟨hg, q⟩
      · refine ⟨_, rfl, y.1, strv y.2, rfl, hsq, rfl, flat_strs _, false, ?_, iteF (last rfl)⟩
        show V.bl (inV _ _) = _
        rw [both, decide_eq_false hg]
    rintro H5 ⟨s5, d5⟩
    refine ⟨D5, _, rfl, SqL.of d5, ?_⟩
    have anyF : ∀ n : Nat, (List.replicate n false).any id = false := fun n => List.any_eq_false.mpr fun b hb => by rw [List.eq_of_mem_replicate hb]; exact Bool.false_ne_true
    rw [anyF]
    refine ⟨_, rfl, iteF ?_⟩
    exact k _ ((((s1.trans s2).trans s4)).trans s5)
end
end Sj
/-! {k: v for x in xs if .. for y in ys if ..} -/
namespace DcTwo
open PySem PySem.Spec PyProof.Rows L2
/-- one turn of clause n of E: body where the tests pass, and the loop again -/
def turnC (E : Expr) (n : Nat) (ip : Pos) (tg : Expr) (ifs : List Expr) (body : Sem Fin) (it acc : Value) (env : Env) : Sem Fin := do
  standAt ip
  match ← pyNext it with
  | none => pure (.done .next)
  | some v =>
    letOwnedTupleGo tg it v
    assign tg env v
    let mut ok := true
    for c in ifs do
      if ok then ok ← isTrue c env (eval c env)
    if ok then body else again (.compLoop E n it acc env)
def bodyOut (E i1 : Expr) (it acc : Value) (env : Env) : Sem Fin := do
  let x ← eval i1 env
  standAt i1.pos
  let x ← foldedSetIterable i1 env x
  let _ ← runOwn (.compStart E 1 (← holding [x] (pyIter x)) acc env) env
  again (.compLoop E 0 it acc env)
def storeIn (kx vx : Expr) (D : Addr) (env : Env) : Sem Unit := do
  let kv ← eval kx env
  let vv ← holding [kv] (eval vx env)
  standAt { kx.pos with endLine := vx.pos.endLine, endCol := vx.pos.endCol }
  holding [kv, vv] (dictSet D kv vv)
def bodyIn (E kx vx : Expr) (it : Value) (D : Addr) (env : Env) : Sem Fin := do
  storeIn kx vx D env
  again (.compLoop E 1 it (.ref D) env)
theorem out_eq (kx vx t0 i0 t1 i1 : Expr) (ifs0 ifs1 : List Expr) (scope : Scope) (pos : Pos) (it : Value) (D : Addr) (env : Env) :
    compTurn (.DictComp kx vx [⟨t0, i0, ifs0, 0⟩, ⟨t1, i1, ifs1, 0⟩] scope pos) 0 it (.ref D) env = turnC (.DictComp kx vx [⟨t0, i0, ifs0, 0⟩, ⟨t1, i1, ifs1, 0⟩] scope pos) 0 i0.pos t0 ifs0 (bodyOut (.DictComp kx vx [⟨t0, i0, ifs0, 0⟩, ⟨t1, i1, ifs1, 0⟩] scope pos) i1 it (.ref D) env) it (.ref D) env := by
  rfl
theorem in_eq (kx vx t0 i0 t1 i1 : Expr) (ifs0 ifs1 : List Expr) (scope : Scope) (pos : Pos) (it : Value) (D : Addr) (env : Env) :
    compTurn (.DictComp kx vx [⟨t0, i0, ifs0, 0⟩, ⟨t1, i1, ifs1, 0⟩] scope pos) 1 it (.ref D) env = turnC (.DictComp kx vx [⟨t0, i0, ifs0, 0⟩, ⟨t1, i1, ifs1, 0⟩] scope pos) 1 i1.pos t1 ifs1 (bodyIn (.DictComp kx vx [⟨t0, i0, ifs0, 0⟩, ⟨t1, i1, ifs1, 0⟩] scope pos) kx vx it D env) it (.ref D) env := by
  rfl
/-- a clause's turns -/
def turns (J : It) (g : TG) (tt : TT) (vs : List Nat) (σ : L2.St) (tb : L2.St → Hp → (Hp → Prop) → Prop) (W : Nat → Nat → Hp → Prop) (Qd : Hp → Prop) : Prop :=
  ∀ i m H, W i m H → (J.stop i H ∧ Qd H) ∨ (J.go i H ∧ ∃ Nx : Hp → Prop, (∀ H', Nx H' → ∃ m', m' < m ∧ W (i + 1) m' H') ∧ ∀ x H', J.yld i H x H' → g x (wipe σ vs) H' fun σ2 H2 => wipe σ2 vs = wipe σ vs ∧ tt σ2 H2 fun b H3 => if b = true then tb σ2 H3 Nx else Nx H3)
section
variable {Y : Cx}
theorem loop_gen {kx vx : Expr} {gens : List Comprehension} {scope : Scope} {pos : Pos} {E : Expr} (eE : E = .DictComp kx vx gens scope pos) {n : Nat} {ip : Pos} {tg : Expr} {ifs : List Expr} {body : Sem Fin} {it D : Addr} {J : It} {g : TG} {tt : TT} {vs : List Nat} {fp : List Addr} {tn : Nat → Heap → Prop} {σ : L2.St} {tb : L2.St → Hp → (Hp → Prop) → Prop} {W : Nat → Nat → Hp → Prop} {Qd : Hp → Prop} {R : Result → Shared → Prop} {pins : List (Addr × Obj)}
    (ct : compTurn E n (.ref it) (.ref D) Y.env = turnC E n ip tg ifs body (.ref it) (.ref D) Y.env) (hc : Y.calm = true) (T : Turn Y.prog Y.w Y.K tg J fp it tn) (hg : PG Y tg g) (ht : PTs Y ifs tt) (hl : turns J g tt vs σ tb W Qd)
    (xe : ∀ e s', Y.xe e s' → notedBy (model Y.prog Y.w) Y.A Y.env (fun e s' => R (.error e) s') e s')
    (hb : ∀ (ps : List (Addr × Obj)) (s : Shared) (σ2 : L2.St) (H : Hp) (Nx : Hp → Prop), Inv Y ps σ2 H s → tb σ2 H Nx → wpAny (model Y.prog Y.w) Y.A body (fun r s' => r = .again (.compLoop E n (.ref it) (.ref D) Y.env) ∧ ∃ σ' H', Inv Y ps σ' H' s' ∧ σ'.length = σ2.length ∧ (∀ (j : Nat) v, (wipe σ2 vs)[j]? = some (some v) → σ'[j]? = some (some v)) ∧ Nx H') Y.xe s)
    (stat : ∀ (σ' : L2.St) (H' : Hp) (s' : Shared), Inv Y pins σ' H' s' → (∀ b ∈ fp, H' b = none) → ∀ b ∈ fp, FpOk Y pins H' b)
    (fin : ∀ H' s', Inv Y pins (wipe σ vs) H' s' → Qd H' → R (.ok .next) s')
    {i m : Nat} {H : Hp} {s : Shared} (I : Inv Y pins (wipe σ vs) H s) (st : tn i s.heap) (nf : ∀ b ∈ fp, H b = none) (hw : W i m H) :
    codeAny (model Y.prog Y.w) Y.A (.compLoop E n (.ref it) (.ref D) Y.env) R s := by
  subst eE
  refine codeAny_loop rfl (fun n s' => ∃ i H', Inv Y pins (wipe σ vs) H' s' ∧ tn i s'.heap ∧ (∀ b ∈ fp, H' b = none) ∧ W i n H') (fun k s5 hI => ?_) m ⟨i, H, I, st, nf, hw⟩
  show wpAny _ Y.A ((compTurn (.DictComp kx vx gens scope pos) n (.ref it) (.ref D) Y.env).onRaise (fun x => do noteFrame x Y.env; theTreesLotGoes x)) _ _ s5
  refine wpAny_noted ?_
  rw [ct]
  obtain ⟨i, H5, I5, st5, n5, w5⟩ := hI
  unfold turnC
  refine wpAny_bind (wpAny_standAt (wpAny_bind ?_))
  rcases hl i k H5 w5 with ⟨stop, qq⟩ | ⟨go, Nx, hNx, step⟩
  · refine thnF (T.done Y rfl rfl rfl hc i pins s5 _ H5 (fun _ _ => False) I5 (stat _ _ _ I5 n5) st5 stop) fun r s6 ⟨hr, I6⟩ => ?_
    subst hr
    exact wpAny_pure (fin H5 s6 I6 qq)
  · refine thnF (T.item Y rfl rfl rfl hc i pins s5 _ H5 (fun _ _ => False) I5 (stat _ _ _ I5 n5) st5 go) fun r s6 ⟨u, hr, h6⟩ => ?_
    subst hr
    refine wpAny_bind (thnF h6 fun _ s7 ⟨x, H7, I7, r7, y7, st7, n7⟩ => ?_)
    have I7' := I7.pinned (stat _ _ _ I7 n7) (T.obj _ _ st7)
    refine wpAny_bind (wpAny_mono (hg.run _ s7 _ H7 x u _ I7' r7 (step x H7 y7)) (fun _ s8 ⟨σ8, H8, I8, hw8, q8⟩ => ?_) xe)
    have back : ∀ {σ9 : L2.St} {s' : Shared} {H' : Hp}, Inv Y (pins ++ pinsAt fp s7.heap) σ9 H' s' → σ9.length = σ8.length → (∀ (j : Nat) v, (wipe σ8 vs)[j]? = some (some v) → σ9[j]? = some (some v)) → Nx H' → ∃ m, m < k ∧ ∃ i H', Inv Y pins (wipe σ vs) H' s' ∧ tn i s'.heap ∧ (∀ b ∈ fp, H' b = none) ∧ W i m H' := fun {σ9 s' H'} I' l9 k9 nx => by
      obtain ⟨m', hm, w'⟩ := hNx H' nx
      have held : ∀ b ∈ fp, ∀ o, s7.heap.get? b = some o → s'.heap.get? b = some o ∧ H' b = none := fun b hb o e => by
        have z := I'.pin (b, o) (List.mem_append_right _ (List.mem_append_right _ (mem_pinsAt hb e)))
        exact ⟨z.1, z.2.1⟩
      refine ⟨m', hm, i + 1, H', ?_, T.keep _ _ _ st7 fun b hb o e => (held b hb o e).1, fun b hb => ?_, w'⟩
      · refine (I'.unpinned (pins := pins)).weak (by rw [l9, ← hw8, wipe_length]) fun j v e => ?_
        rw [← hw8] at e
        exact k9 j v e
      · obtain ⟨o, e, _⟩ := T.obj _ _ st7 b hb
        exact (held b hb o e).2
    refine wpAny_bind (wpAny_mono (ht.run _ s8 σ8 H8 _ I8 q8) (fun b s9 ⟨H9, I9, q9⟩ => ?_) xe)
    cases b with
    | false =>
      simp only [Bool.false_eq_true, if_false] at q9 ⊢
      exact wpAny_pure ⟨rfl, back I9 rfl (fun j v e => (wipe_some e).1) q9⟩
    | true =>
      simp only [if_true] at q9 ⊢
      refine wpAny_mono (hb _ s9 σ8 H9 Nx I9 q9) (fun r s10 ⟨er, σ', H', I', l', k', nx⟩ => ?_) xe
      subst er
      exact ⟨rfl, back I' l' k' nx⟩
/-- the element is stored -/
def tbIn (D : Addr) (tk tv : TE) : L2.St → Hp → (Hp → Prop) → Prop := fun σ H Nx => tk σ H fun y H1 => tv σ H1 fun z H2 => ∃ kvs k, y = kV k ∧ H2 D = some (.dK kvs) ∧ kvs.length < sizeLine ∧ Nx (upd H2 D (.dK (putK kvs k z)))
theorem in_run {E kx vx : Expr} {it D : Addr} {tk tv : TE} {vs : List Nat} (hk : PE Y kx tk) (hv : PE Y vx tv) (ps : List (Addr × Obj)) (s : Shared) (σ2 : L2.St) (H : Hp) (Nx : Hp → Prop) (I : Inv Y ps σ2 H s) (h : tbIn D tk tv σ2 H Nx) :
    wpAny (model Y.prog Y.w) Y.A (bodyIn E kx vx (.ref it) D Y.env) (fun r s' => r = .again (.compLoop E 1 (.ref it) (.ref D) Y.env) ∧ ∃ σ' H', Inv Y ps σ' H' s' ∧ σ'.length = σ2.length ∧ (∀ (j : Nat) v, (wipe σ2 vs)[j]? = some (some v) → σ'[j]? = some (some v)) ∧ Nx H') Y.xe s := by
  unfold bodyIn storeIn
  refine wpAny_bind (wpAny_bind (thn (hk.run ps s σ2 H _ I h) fun kv s1 ⟨y, H1, I1, r1, h1⟩ => wpAny_bind (wpAny_holding (thn (hv.run ps s1 σ2 H1 _ I1 h1) fun vv s2 ⟨z, H2, I2, r2, kvs, k, ek, hD, hz, nx⟩ => ?_))))
  subst ek
  refine wpAny_bind (wpAny_standAt (wpAny_holding (d_dictSet I2 hD hz r1 r2 fun s3 I3 => ?_)))
  exact wpAny_pure ⟨rfl, σ2, _, I3, rfl, fun j v e => (wipe_some e).1, nx⟩
/-- the second clause's start -/
theorem start1 {kx vx t0 i0 t1 i1 : Expr} {ifs0 ifs1 : List Expr} {scope : Scope} {pos : Pos} {it acc : Value} {env : Env} {prog : Program} {w : World} {A : Around} {R : Result → Shared → Prop} {s : Shared} (h0 : codeAny (model prog w) A (.compLoop (.DictComp kx vx [⟨t0, i0, ifs0, 0⟩, ⟨t1, i1, ifs1, 0⟩] scope pos) 1 it acc env) R s)
    (h : wpAny (model prog w) A (pyIter it) (fun it' s' => codeAny (model prog w) A (.compLoop (.DictComp kx vx [⟨t0, i0, ifs0, 0⟩, ⟨t1, i1, ifs1, 0⟩] scope pos) 1 it' acc env) R s') (notedBy (model prog w) A env fun x s' => R (.error x) s') s) :
    codeAny (model prog w) A (.compStart (.DictComp kx vx [⟨t0, i0, ifs0, 0⟩, ⟨t1, i1, ifs1, 0⟩] scope pos) 1 it acc env) R s := by
  refine codeAny_of_tree (show wpAny _ _ ((compStart (.DictComp kx vx [⟨t0, i0, ifs0, 0⟩, ⟨t1, i1, ifs1, 0⟩] scope pos) 1 it acc env).onRaise (fun x => do noteFrame x env; standAt theWindowsPlace)) _ _ s from wpAny_notedAt ?_)
  unfold compStart
  refine show wpAny _ _ (ask >>= _) _ _ s from wpAny_bind (wpAny_askSetting (wpAny_ite ?_))
  split
  · first
      | exact wpAny_bind (wpAny_pure (wpAny_pure ⟨rfl, h0⟩))
      | exact wpAny_pure ⟨rfl, h0⟩
  · refine wpAny_bind (wpAny_rule ?_)
    refine show wpAny _ _ (standAt i1.pos >>= _) _ _ s from wpAny_bind (wpAny_standAt (wpAny_bind (wpAny_mono h (fun it' s' h' => wpAny_pure ⟨rfl, h'⟩) fun _ _ x => x)))
/-- the inner clause -/
def tbOut (D : Addr) (wi1 : TI) (g1 : TG) (tt1 : TT) (tk tv : TE) (vs1 : List Nat) : L2.St → Hp → (Hp → Prop) → Prop := fun σ2 H3 Nx => wi1 σ2 H3 fun J1 H4 => ∃ W1 : Nat → Nat → Hp → Prop, (∃ m, W1 0 m H4) ∧ turns J1 g1 tt1 vs1 σ2 (tbIn D tk tv) W1 Nx
theorem out_run {kx vx t0 i0 t1 i1 : Expr} {ifs0 ifs1 : List Expr} {scope : Scope} {pos : Pos} {it D : Addr} {wi1 : TI} {g1 : TG} {tt1 : TT} {tk tv : TE} {vs vs1 : List Nat} (hc : Y.calm = true) (hs1 : ∀ env x, foldedSetIterable i1 env x = pure x) (hv1 : ∀ i ∈ vs1, i ∈ vs)
    (xf : ∀ e s', Y.xe e s' → False) (hi1 : PI Y t1 i1 wi1) (hg1 : PG Y t1 g1) (ht1 : PTs Y ifs1 tt1) (hk : PE Y kx tk) (hv : PE Y vx tv) (ps : List (Addr × Obj)) (s : Shared) (σ2 : L2.St) (H : Hp) (Nx : Hp → Prop) (I : Inv Y ps σ2 H s) (h : tbOut D wi1 g1 tt1 tk tv vs1 σ2 H Nx) :
    wpAny (model Y.prog Y.w) Y.A (bodyOut (.DictComp kx vx [⟨t0, i0, ifs0, 0⟩, ⟨t1, i1, ifs1, 0⟩] scope pos) i1 (.ref it) (.ref D) Y.env) (fun r s' => r = .again (.compLoop (.DictComp kx vx [⟨t0, i0, ifs0, 0⟩, ⟨t1, i1, ifs1, 0⟩] scope pos) 0 (.ref it) (.ref D) Y.env) ∧ ∃ σ' H', Inv Y ps σ' H' s' ∧ σ'.length = σ2.length ∧ (∀ (j : Nat) v, (wipe σ2 vs)[j]? = some (some v) → σ'[j]? = some (some v)) ∧ Nx H') Y.xe s := by
  unfold bodyOut
  refine wpAny_bind (thn (hi1.run ps s σ2 H _ I h) fun x s1 hx => wpAny_bind (wpAny_standAt (wpAny_bind (wpAny_of_eq (hs1 _ x) (wpAny_bind (wpAny_holding (thn hx fun itv s2 h2 => ?_)))))))
  obtain ⟨it1, fp, tn, J1, H2, e, I2, T, st2, f2, W1, ⟨m1, w1⟩, hl⟩ := h2
  subst e
  refine wpAny_bind (wpAny_runOwn ?_)
  rw [Around.mark_none]
  have loop : codeAny (model Y.prog Y.w) Y.A (.compLoop (.DictComp kx vx [⟨t0, i0, ifs0, 0⟩, ⟨t1, i1, ifs1, 0⟩] scope pos) 1 (.ref it1) (.ref D) Y.env)
      (fun r s' => match r with
        | .ok _ => ∃ H', Inv Y ps (wipe σ2 vs1) H' s' ∧ Nx H'
        | .error _ => False) s2 :=
    loop_gen rfl (in_eq kx vx t0 i0 t1 i1 ifs0 ifs1 scope pos (.ref it1) D Y.env) hc T hg1 ht1 hl (fun e s' z => (xf e s' z).elim) (in_run hk hv) (fun σ' H' s' _ hn b hb => ⟨hn b hb, (f2 b hb).2⟩) (fun H' s' I' nx => ⟨H', I', nx⟩) (I2.weak (wipe_length _ _) fun j v e => (wipe_some e).1) st2 (fun b hb => (f2 b hb).1) w1
  refine codeAny_mono (start1 loop (T.self Y.A 0 _ _ _ st2 loop)) fun r s' hr => ?_
  cases r with
  | error e => exact hr.elim
  | ok f =>
    obtain ⟨H', I', nx⟩ := hr
    have fin : wpAny (model Y.prog Y.w) Y.A (again (.compLoop (.DictComp kx vx [⟨t0, i0, ifs0, 0⟩, ⟨t1, i1, ifs1, 0⟩] scope pos) 0 (.ref it) (.ref D) Y.env)) (fun r s' => r = .again (.compLoop (.DictComp kx vx [⟨t0, i0, ifs0, 0⟩, ⟨t1, i1, ifs1, 0⟩] scope pos) 0 (.ref it) (.ref D) Y.env) ∧ ∃ σ' H', Inv Y ps σ' H' s' ∧ σ'.length = σ2.length ∧ (∀ (j : Nat) v, (wipe σ2 vs)[j]? = some (some v) → σ'[j]? = some (some v)) ∧ Nx H') Y.xe s' := by
      refine wpAny_pure ⟨rfl, _, H', I', wipe_length _ _, fun j v e => ?_, nx⟩
      obtain ⟨e1, e2⟩ := wipe_some e
      rw [wipe_out fun z => e2 (hv1 j z)]
      exact e1
    first
      | exact fin
      | exact wpAny_bind (wpAny_pure fin)
      | exact wpAny_pure fin
end
/-- {k: v for x in xs if .. for y in ys if ..}: D the new dict -/
def tDc2 (wi : TI) (g : TG) (tt : TT) (wi1 : TI) (g1 : TG) (tt1 : TT) (tk tv : TE) (vs vs1 : List Nat) : TE := fun σ H Q => wi σ H fun J H1 => ∀ D, H1 D = none → ∃ W : Nat → Nat → Hp → Prop, (∃ m, W 0 m (upd H1 D (.dK []))) ∧ turns J g tt vs σ (tbOut D wi1 g1 tt1 tk tv vs1) W (Q (.ref D))
section
variable {X : Cx}
theorem pe_dc2 {kx vx tg iter tg1 iter1 : Expr} {ifs ifs1 : List Expr} {scope : Scope} {own : List (PySem.Str × Nat)} {vs1 : List Nat} {pos : Pos} {wi wi1 : TI} {g g1 : TG} {tt tt1 : TT} {tk tv : TE} (hc : X.calm = true) (hN : X.N.Nodup) (hi : PI X tg iter wi) (ok : BlkOk X.N X.env.scope scope own) (hv1 : ∀ i ∈ vs1, i ∈ own.map (·.2))
    (hg : ∀ (s : Shared) (H : Hp) (C : Addr) (cl : List (PySem.Str × Addr)) (fp : List Addr), PG (X.blk s H scope (compEnvC scope cl C X.env) fp) tg g) (ht : ∀ (s : Shared) (H : Hp) (C : Addr) (cl : List (PySem.Str × Addr)) (fp : List Addr), PTs (X.blk s H scope (compEnvC scope cl C X.env) fp) ifs tt)
    (hi1 : ∀ (s : Shared) (H : Hp) (C : Addr) (cl : List (PySem.Str × Addr)) (fp : List Addr), PI (X.blk s H scope (compEnvC scope cl C X.env) fp) tg1 iter1 wi1)
    (hg1 : ∀ (s : Shared) (H : Hp) (C : Addr) (cl : List (PySem.Str × Addr)) (fp : List Addr), PG (X.blk s H scope (compEnvC scope cl C X.env) fp) tg1 g1) (ht1 : ∀ (s : Shared) (H : Hp) (C : Addr) (cl : List (PySem.Str × Addr)) (fp : List Addr), PTs (X.blk s H scope (compEnvC scope cl C X.env) fp) ifs1 tt1)
    (hk : ∀ (s : Shared) (H : Hp) (C : Addr) (cl : List (PySem.Str × Addr)) (fp : List Addr), PE (X.blk s H scope (compEnvC scope cl C X.env) fp) kx tk) (hv : ∀ (s : Shared) (H : Hp) (C : Addr) (cl : List (PySem.Str × Addr)) (fp : List Addr), PE (X.blk s H scope (compEnvC scope cl C X.env) fp) vx tv)
    (hs : ∀ x, foldedSetIterable iter X.env x = pure x := by intro _; rfl) (hs1 : ∀ env x, foldedSetIterable iter1 env x = pure x := by intro _ _; rfl) :
    PE X (.DictComp kx vx [⟨tg, iter, ifs, 0⟩, ⟨tg1, iter1, ifs1, 0⟩] scope pos) (tDc2 wi g tt wi1 g1 tt1 tk tv (own.map (·.2)) vs1) := by
  refine ⟨fun pins s σ H Q I h => ?_⟩
  have hfree : ∀ y ∈ scope.names, y.2 = .free → ∃ c, X.env.cells.lookup y.1 = some c := fun y hy e => (ok.free y hy e).elim (fun k => I.ok.has _ (.inl k)) fun k => I.ok.has _ (.inr k)
  rw [arm_eval_DictComp]
  refine wpAny_comprehension_free (use := none) rfl hs (closure_ok hfree) ok.kind (fun y hy e => by rw [ok.uniq y hy, e]) (thn (hi.run pins s σ H _ I h) fun xv s1 hx => thn hx fun itv s2 h2 => ?_)
  obtain ⟨it, fp, tn, J, H2, e, I2, T, st2, f2, q⟩ := h2
  subst e
  refine wpAny_newObj_type (newEnv_comp ?_)
  generalize hD : s2.heap.objs.size = D
  obtain ⟨W, ⟨m0, w0⟩, hl⟩ := q D (I2.hok.fresh (Nat.le_of_eq hD))
  have kp : ∀ b o, s2.heap.get? b = some o → (s2.heap.push { cls := .type "dict", data := .dict #[] }).get? b = some o := fun b o e => Heap.get?_push_of_some _ e
  generalize hs3 : ({ s2 with heap := s2.heap.push { cls := .type "dict", data := .dict #[] } } : Shared) = s3
  have h3 : s3.heap = s2.heap.push { cls := .type "dict", data := .dict #[] } := by rw [← hs3]
  have I3 : Inv X pins σ (upd H2 D (.dK [])) s3 := by
    rw [← hs3]
    refine I2.laid (t' := s2.toks) kp (Nat.le_of_eq hD) ?_
    rw [← hD]
    exact dk_empty s2.heap I2.big
  have f3 : ∀ b ∈ fp, FpOk X pins (upd H2 D (.dK [])) b ∧ b < s3.heap.objs.size := fun b hb => by
    obtain ⟨o, e, _⟩ := T.obj _ _ st2 b hb
    have lt := Heap.lt_size e
    refine ⟨⟨?_, (f2 b hb).2⟩, by rw [h3, Heap.size_push]; exact Nat.lt_succ_of_lt lt⟩
    rw [upd_ne (by rw [← hD]; exact Nat.ne_of_lt lt)]
    exact (f2 b hb).1
  have st3 : tn 0 s3.heap := T.keep _ _ _ st2 fun b _ o e => by rw [h3]; exact kp b o e
  have I4 := block_start I3 ok hN f3
  have st4 := T.keep _ _ (pushCells (s3.heap.push { cls := .type "dict", data := .dict #[] }) scope.names) st3 fun b _ o e => pushCells_keeps _ _ _ _ (Heap.get?_push_of_some _ e)
  have loop := loop_gen (Y := X.blk s3 (upd H2 D (.dK [])) scope (compEnvC scope (cellsFrom (s3.heap.objs.size + 1) scope.names (cloFrom X.env.cells scope.names [])) s3.heap.objs.size X.env) fp) (kx := kx) (vx := vx) (scope := scope) (pos := pos) (pins := [])
    (R := compPost (model X.prog X.w) X.A X.xe none (EP X pins σ Q) (.ref D) s3.heap.objs.size) rfl (out_eq kx vx tg iter tg1 iter1 ifs ifs1 scope pos (.ref it) D _) hc T (hg _ _ _ _ _) (ht _ _ _ _ _) hl (fun _ _ z => False.elim z)
    (out_run hc hs1 hv1 (fun _ _ z => z) (hi1 _ _ _ _ _) (hg1 _ _ _ _ _) (ht1 _ _ _ _ _) (hk _ _ _ _ _) (hv _ _ _ _ _))
    (fun σ' H' s' I' hn b hb => ⟨hn b hb, (I'.ok.exf b hb).1, I'.ok.exfs b hb, .inl hb, fun x c e => (I'.ok.exf b hb).2 x c e, fun p hp => absurd (show p ∈ ([] : List (Addr × Obj)) ++ [] from hp) (by simp)⟩)
    (fun H' s6 I6 qd => ?_) I4 st4 (fun b hb => (f3 b hb).1.1) w0
  · exact codeAny_compStart_dict loop (T.self X.A 0 _ _ _ st4 loop)
  · have I7 : Inv X pins σ H' s6 := I3.call' (ch := fp) I6.os I6.base I6.hok I6.bare fun b hb => ⟨(f3 b hb).1.2.2.2.1, (f3 b hb).1.2.1, (f3 b hb).1.2.2.2.2.1, (f3 b hb).1.2.2.2.2.2⟩
    have nC : H' s3.heap.objs.size = none := I6.free
    obtain ⟨m, hn, _⟩ := I6.loc
    obtain ⟨f0, f1, f2', f4, f5, f6⟩ := I3.fpOk (H' := H') (Nat.le_refl _) nC
    exact ⟨m, hn, fun h'' sb => ⟨.ref D, H', I7.turned (t' := s6.toks) (fun b o hb e => (sb.2 b hb).trans e) f0 f1 f4 f5 f6, rfl, qd⟩⟩
end
/-- a clause's turns over a walk -/
theorem turns_it {J : It} {n : Nat} {G : Hp → Prop} {Y : Nat → Hp → V → Hp → Prop} (wk : Walk J n G Y) {g : TG} {tt : TT} {vs : List Nat} {σ : L2.St} {tb : L2.St → Hp → (Hp → Prop) → Prop} {H1 : Hp} {Qd : Hp → Prop} (Pv : Nat → Hp → Prop) (h0 : Pv 0 H1) (hG : ∀ i H, i ≤ n → Pv i H → G H)
    (hs : ∀ i x H H', i < n → Pv i H → Y i H x H' → g x (wipe σ vs) H' fun σ2 H2 => wipe σ2 vs = wipe σ vs ∧ tt σ2 H2 fun b H3 => if b = true then tb σ2 H3 (Pv (i + 1)) else Pv (i + 1) H3) (hd : ∀ H, Pv n H → Qd H) :
    ∃ W : Nat → Nat → Hp → Prop, (∃ m, W 0 m H1) ∧ turns J g tt vs σ tb W Qd := by
  refine ⟨fun i m H => m + i = n ∧ Pv i H, ⟨n, rfl, h0⟩, fun i m H ⟨e, p⟩ => ?_⟩
  have q := hG i H (by omega) p
  match m, e with
  | 0, e =>
    obtain rfl : i = n := by omega
    exact .inl ⟨wk.stops H q, hd H p⟩
  | m + 1, e => exact .inr ⟨wk.goes i H (by omega) q, Pv (i + 1), fun H' p' => ⟨m, Nat.lt_succ_self m, by omega, p'⟩, fun x H' y => hs i x H H' (by omega) p (wk.yields i H x H' (by omega) q y)⟩
end DcTwo
/-! sorted(l) of a list of texts (fewer than 64), and of what is a list or a tuple of texts -/
namespace SortT
open PySem PySem.Spec PyProof.Rows L2
def rSortL (K : PySem.W.Frag) : List V → Hp → VK → Prop := fun xs H Q => ∃ (a : Addr) (zs : List Str), xs = [.ref a] ∧ SqL K H a (zs.map V.str) ∧ zs.length < 64 ∧ ∀ ys p, ys.Perm zs → sortedS ys = true → H p = none → Q (.ref p) (upd H p (.lst (ys.map V.str)))
theorem call_sortL {X : Cx} : CallR X (.builtin "sorted") (rSortL X.K) := by
  intro pins s σ H xs us Q I r h
  obtain ⟨a, zs, rfl, hs, h64, q⟩ := h
  obtain ⟨u, rfl, rx⟩ := vals1 r
  obtain rfl : u = Value.ref a := rx
  obtain ⟨its, rv, pl, hz⟩ := I.list hs
  have hS : StrsAre its zs := rv.strs
  have hal : its.length = zs.length := by
    have := rv.length
    rw [List.length_map] at this
    exact this.symm
  obtain ⟨⟨cls, dd, data, sl⟩, ho, hc, n, hd⟩ := pl.isList
  simp only at hc hd
  subst hc hd
  refine Calls.call_function_entry kind_sorted plain_sorted entry_sorted (args_sorted1 _) ?_
  unfold Builtin.«sorted»
  refine wpAny_bind (m := checkCount "sorted" 1 1 _) (wpAny_pure (wpAny_bind (wpAny_collect_seq (A := X.A.in1) a (.inl rfl) ho rfl rfl (fun h' hk => ?_) (by rw [List.size_toArray]; rw [← rv.length]; exact hz))))
  rw [List.toList_toArray]
  have I1 : Inv X pins σ H { s with heap := h' } := I.kept (t' := s.toks) hk
  refine wpAny_bind (wpAny_newList ?_ (by rw [hal, sizeLine_eq]; omega))
  have hoL : (h'.push (seqObj "list" its.toArray 0)).get? h'.objs.size = some (seqObj "list" its.toArray 0) := Heap.get?_push_size _ rfl
  show wpAny _ _ _ _ _ { s with heap := h'.push (seqObj "list" its.toArray 0) }
  refine wpAny_bind (wpAny_holding (wpAny_call_entry slot_list_sort ⟨_, hoL, rfl⟩ entry_list_sort
    (list_sort_treeK strKind_oneLt (s := { s with heap := h'.push (seqObj "list" its.toArray 0) }) hoL hS.keysOf (fun v₁ v₂ rest e => keyKind_strs (by rw [← e]; exact hS)) (by rw [hal]; exact h64) fun st' hp hs => ⟨_, rfl, ?_⟩) (args_list_sort _)))
  obtain ⟨ys, g1, g2, g3⟩ := sorted_out_str hS hp hs
  obtain ⟨e', he'⟩ := sortedHeap_at (vs := its) (out := (arrOf st').map (·.2)) hoL
  have hlen : (ys.map V.str).length ≤ sizeLine := by
    rw [List.length_map, g2.length_eq]
    exact Nat.le_trans (Nat.le_of_lt h64) (by decide)
  refine wpAny_pure ⟨_, rfl, .ref h'.objs.size, upd H h'.objs.size (.lst (ys.map V.str)), I1.laid (t' := s.toks) (fun b u e => ?_) (Nat.le_refl _) (show ObjOk X.prog X.w _ _ _ (.lst (ys.map V.str)) from ⟨hlen, ((arrOf st').map (·.2)).toList, e', vals_of_strs g1, by rw [Array.toArray_toList]; exact he'⟩), rfl, q ys _ g2 g3 (I1.hok.fresh (Nat.le_refl _))⟩
  have hb : b < h'.objs.size := Heap.lt_size e
  rw [sortedHeap_old (Nat.ne_of_lt hb) (by rw [size_push']; exact Nat.lt_succ_of_lt hb)]
  exact Heap.get?_push_of_some _ e
def rSortLT (K : PySem.W.Frag) : List V → Hp → VK → Prop := fun xs H Q => ∃ (a : Addr) (zs : List Str), xs = [.ref a] ∧ (SqL K H a (zs.map V.str) ∨ SqT K H a (zs.map V.str)) ∧ zs.length < 64 ∧ ∀ ys p, ys.Perm zs → sortedS ys = true → H p = none → Q (.ref p) (upd H p (.lst (ys.map V.str)))
theorem call_sortLT {X : Cx} : CallR X (.builtin "sorted") (rSortLT X.K) := by
  intro pins s σ H xs us Q I r h
  obtain ⟨a, zs, e, hs, h64, q⟩ := h
  rcases hs with hs | hs
  · exact call_sortL pins s σ H xs us Q I r ⟨a, zs, e, hs, h64, q⟩
  · exact call_sortT pins s σ H xs us Q I r ⟨a, zs, e, hs, h64, q⟩
end SortT
namespace Sj
open PySem L2 Sup StK Own Shw Exg Grd KepE
open NdefX (NF NScope ncx envF startF nscope_by)
open C8 (pss_cut tCut)
/-! Board.__init__, where all is well -/
abbrev sBoI : Stmt := inClass (top 25) 0
abbrev nBo : List Str := ["self", "frame", "blocks", "reason", "named", "alone", "block", "name"]
theorem scBoI : FnScope nBo ["self", "frame", "blocks"] (defScope sBoI) := ⟨rfl, rfl, rfl, by decide +kernel, rfl, by decide +kernel, by decide +kernel⟩
structure BoT (P : Program) (w : World) (K : PySem.W.Frag) (mg : Str → Option Value) (base : Heap) (ks : Kinds) (CF CI fI CB : Addr) : Prop where
  wrong : ∃ f fd, mg "wrong_blocks" = some (.ref f) ∧ PySem.W.keepIn K (.ref f) = true ∧ Binds K fd ["frame", "blocks"] [] ∧ FnOk P w K mg base CX0 4 f fd ["frame", "blocks"] (spWb K ks CF)
  mem : PropN P w K mg base 3 CF "members" (spMem ks CF)
  mI : mg "InvalidBoard" = some (.ref CI)
  ex : ExT P K mg CI "reason"
  iC : PySem.W.findIn K (.ref CI) "__init__" = some (some (.ref fI))
  tI : PySem.W.typeIn K (.ref fI) = some (.type "function")
  inv : ∃ fdI, Binds K fdI ["self", "reason"] [] ∧ FnOk P w K mg base CX0 1 fI fdI ["self", "reason"] (spInv K CI)
  sorted : mg "sorted" = none
  tuple : mg "tuple" = none
  cl : Cls K CB
  nF : NoAttr K CB "frame"
  nB : NoAttr K CB "_blocks"
  nH : NoAttr K CB "_homes"
/-- a board's attributes -/
def boF (f B D : Addr) : List (Str × V) := putF "_homes" (.ref D) (putF "_blocks" (.ref B) (putF "frame" (.ref f) []))
def tOne (K : PySem.W.Frag) : TE := tTup (tCons (tVar 7) tNil)
def tSrt (K : PySem.W.Frag) : TE := tCB (fun xs H Q => ∃ p ys, xs = [V.ref p] ∧ ((SqL K H p ys ∧ ∀ l, H l = none → Q (.ref l) (upd H l (.tup ys))) ∨ (SqT K H p ys ∧ Q (.ref p) H))) (tCons (tCB (SortT.rSortLT K) (tCons (tVar 6) tNil)) tNil)
/-- a board stands at o -/
def BoAt (H : Hp) (o CB f : Addr) (L : List (Addr × List Str)) : Prop := ∃ dx B D hs, H o = some (.ins CB dx (boF f B D)) ∧ H B = some (.tup (L.map fun x => V.ref x.1)) ∧ (∀ x ∈ L, H x.1 = some (.tup (strv x.2)) ∧ x.2 ≠ []) ∧ H D = some (.dK hs) ∧ ∀ x ∈ L, ∀ z ∈ x.2, valV hs (Sum.inr z) = some (.ref x.1)
/-- the blocks of a board: each in order, all in order, the elements that none names alone -/
def RowsOf (d : FrD) (Bl : List (Addr × List Str)) (L : List (Addr × List Str)) : Prop := ∃ ms Ss, Mem d ms ∧ Ss.length = Bl.length ∧ (∀ (i : Nat) (y : Addr × List Str) (z : List Str), Bl[i]? = some y → Ss[i]? = some z → z.Perm y.2 ∧ PyProof.Rows.sortedS z = true) ∧ (L.map (·.2)).Perm (Ss ++ (ms.filter fun z => decide (z ∉ allN Bl)).map fun z => [z]) ∧ (L.map (·.2)).Pairwise SortB.RLe
def spBoI (K : PySem.W.Frag) (ks : Kinds) (CF CB : Addr) : Sp := fun vs H Q E => ∃ (o dx f t : Addr) (d : FrD) (Bl : List (Addr × List Str)), vs = [.ref o, .ref f, .ref t] ∧ H o = some (.ins CB dx []) ∧ FrIs ks CF H f d ∧ H t = some (.tup (Bl.map fun x => V.ref x.1)) ∧ BlkAt H Bl ∧
  (∀ z ∈ allN Bl, z ∈ membZ d) ∧ (allN Bl).Nodup ∧ (membZ d).Nodup ∧ (allN Bl).length ≤ 60 ∧ (∀ x ∈ Bl, ¬ (("ground" : Str) ∈ x.2 ∧ ("power" : Str) ∈ x.2)) ∧ ∀ H' L, RowsOf d Bl L → BoAt H' o CB f L → But H H' o → Q .non H'
theorem FrIs.but {ks : Kinds} {CF CB o dx : Addr} {H H' : Hp} {a : Addr} {d : FrD} (h : FrIs ks CF H a d) (ho : H o = some (.ins CB dx [])) (s : But H H' o) : FrIs ks CF H' a d := by
  refine ⟨?_, fun r hr => ?_, h.nd, h.le, h.so⟩
  · obtain ⟨dy, D, h1, h2, h3⟩ := h.at_
    refine ⟨dy, D, s _ _ (fun e => ?_) h1, s _ _ (fun e => ?_) h2, h3⟩
    · rw [e, ho] at h1
      cases h1
    · rw [e, ho] at h2
      cases h2
  · obtain ⟨hc, dy, hl⟩ := h.ok r hr
    refine ⟨hc, dy, s _ _ (fun e => ?_) hl⟩
    rw [e, ho] at hl
    cases hl
theorem BlkAt.but {CB o dx : Addr} {H H' : Hp} {Bl : List (Addr × List Str)} (h : BlkAt H Bl) (ho : H o = some (.ins CB dx [])) (s : But H H' o) : BlkAt H' Bl := fun x hx => by
  refine ⟨(h x hx).1.imp (fun q => s _ _ (fun e => ?_) q) (fun q => s _ _ (fun e => ?_) q), (h x hx).2⟩ <;> (rw [e, ho] at q; cases q)
theorem allN_perm {L L' : List (Addr × List Str)} (h : L.Perm L') : (allN L).Perm (allN L') := h.flatMap_right _
theorem allN_rows : ∀ {S Bl : List (Addr × List Str)}, S.length = Bl.length → (∀ (j : Nat) (y z : Addr × List Str), Bl[j]? = some y → S[j]? = some z → z.2.Perm y.2 ∧ PyProof.Rows.sortedS z.2 = true) → (allN S).Perm (allN Bl)
  | [], [], _, _ => .refl _
  | [], _ :: _, h, _ => by cases h
  | _ :: _, [], h, _ => by cases h
  | x :: S, y :: Bl, h, hp => by
    show (x.2 ++ allN S).Perm (y.2 ++ allN Bl)
    exact ((hp 0 y x rfl rfl).1).append (allN_rows (Nat.succ.inj h) fun j y' z' e1 e2 => hp (j + 1) y' z' e1 e2)
theorem allN_ones : ∀ {A : List (Addr × List Str)} {F : List Str}, A.map (·.2) = F.map (fun z => [z]) → allN A = F
  | [], [], _ => rfl
  | [], _ :: _, h => by cases h
  | _ :: _, [], h => by cases h
  | x :: A, z :: F, h => by
    rw [List.map_cons, List.map_cons] at h
    injection h with h1 h2
    show x.2 ++ allN A = _
    rw [h1, allN_ones h2]
    rfl
section
variable {P : Program} {w : World} {K : PySem.W.Frag} {mg : Str → Option Value} {base : Heap}
theorem body_boI {CI fI CF CB f : Addr} {ks : Kinds} (T : BoT P w K mg base ks CF CI fI CB) (cdv : Value) (A : Around) (outer : List Env) (s : Shared) (H : Hp) (vs : List V) (Q : VK) (E : XK)
    (hr : Room 4 (A.deeper (PyProof.Rows.envOfC "Board.__init__" (defScope sBoI) s.heap.objs.size f cdv))) (h : spBoI K ks CF CB vs H Q E) :
    ∃ t, PSs (cxOf (L2.CX P w) P w K mg base nBo "Board.__init__" (defScope sBoI) f cdv A outer s H E) (defBody sBoI) t ∧ t { nx := fun _ H' => Q .non H', rt := Q } (start nBo vs) H := by
  obtain ⟨fdI, bI, GI⟩ := T.inv
  obtain ⟨fW, fdW, mW, kW, bW, GW⟩ := T.wrong
  have hr1 := hr.mono (show 2 ≤ 4 by decide)
  refine ⟨_, pss_cons (ps_set (i := 3) scBoI.nd rfl (Or.inl rfl) (pe_call GW hr rfl mW kW bW .nil pass0 (pa_cons (pv 1) (pa_cons (pv 2) pa_nil))))
      (pss_cons (ps_if (pt_cmpR op_notN (pv 3) pe_non (nomark _)) (pss_one (ps_raise rfl (takes_of rfl rfl rfl rfl) (pmk_oex T.ex.oex T.iC T.tI GI hr1 bI .nil pass0 rfl T.mI (pa_cons (pv 3) pa_nil)))) pss_nil)
      (pss_cons (ps_fld (pv 0) (pv 1) rfl)
      (pss_cons (ps_set (i := 4) scBoI.nd rfl (Or.inr rfl) (pe_lc2 (wi1 := iSeq K (tVar 6)) (te := tVar 7) (tt := tYes) (tt1 := tYes) (own := [("block", 6), ("name", 7)]) (vs1 := [7]) (g := gName 6) (g1 := gName 7) rfl scBoI.nd (pi_tup (pv 2)) (blkOk_by (N := nBo) (sc := defScope sBoI) (by decide +kernel)) (by decide)
          (fun _ _ _ _ _ => pg_name (i := 6) scBoI.nd rfl (Or.inl rfl)) (fun _ _ _ _ _ => pts_nil) (fun _ _ _ _ _ => pi_seq (pv 6)) (fun _ _ _ _ _ => pg_name (i := 7) scBoI.nd rfl (Or.inl rfl)) (fun _ _ _ _ _ => pts_nil) (fun _ _ _ _ _ => pv 7)))
      (pss_cons (ps_setLc (i := 5) (te := tOne K) (tt := tB (tOp (rIn K true) (tVar 7) (tVar 4))) (own := [("name", 7)]) (g := gName 7) rfl scBoI.nd rfl rfl (sw_true rfl rfl rfl (by decide +kernel)) (pi_tup (pe_propS (S := fun C => C = CF) (spP := fun _ => spMem ks CF) (pv 1) (fun C e => by rw [e]; exact T.mem) hr)) (blkOk_by (N := nBo) (sc := defScope sBoI) (by decide +kernel))
          (fun _ _ _ _ _ => pg_name (i := 7) scBoI.nd rfl (Or.inl rfl)) (fun _ _ _ _ _ => pts_one (pt_cmpR op_notIn_seq (pv 7) (pv 4) (by rfl))) (fun _ _ _ _ _ => pe_tup (pa_cons (pv 7) pa_nil)))
      (pss_cons (ps_fld (pv 0) (pe_callTy (T := "tuple") call_tuple_of (by rfl) T.tuple (by decide +kernel) (pa_cons (pe_callB SortB.call_sortedTT (by rfl) T.sorted (by decide +kernel) (pa_cons (pe_op op_cat
          (pe_lc (te := tSrt K) (tt := tYes) (own := [("block", 6)]) (g := gName 6) rfl scBoI.nd (pi_tup (pv 2)) (blkOk_by (N := nBo) (sc := defScope sBoI) (by decide +kernel)) (fun _ _ _ _ _ => pg_name (i := 6) scBoI.nd rfl (Or.inl rfl)) (fun _ _ _ _ _ => pts_nil)
            (fun _ _ _ _ _ => pe_callTy (T := "tuple") call_tuple_of (by rfl) T.tuple (by decide +kernel) (pa_cons (pe_callB SortT.call_sortLT (by rfl) T.sorted (by decide +kernel) (pa_cons (pv 6) pa_nil)) pa_nil))) (pv 5)) pa_nil)) pa_nil)) rfl)
      (pss_one (ps_fld (pv 0) (DcTwo.pe_dc2 (wi1 := iTup K (tVar 6)) (tk := tVar 7) (tv := tVar 6) (tt := tYes) (tt1 := tYes) (own := [("block", 6), ("name", 7)]) (vs1 := [7]) (g := gName 6) (g1 := gName 7) rfl scBoI.nd (pi_tup (pe_fld (pv 0) rfl)) (blkOk_by (N := nBo) (sc := defScope sBoI) (by decide +kernel)) (by decide)
          (fun _ _ _ _ _ => pg_name (i := 6) scBoI.nd rfl (Or.inl rfl)) (fun _ _ _ _ _ => pts_nil) (fun _ _ _ _ _ => pi_tup (pv 6)) (fun _ _ _ _ _ => pg_name (i := 7) scBoI.nd rfl (Or.inl rfl)) (fun _ _ _ _ _ => pts_nil) (fun _ _ _ _ _ => pv 7) (fun _ _ _ _ _ => pv 6)) rfl))))))), ?_⟩
  obtain ⟨o, dx, f, t, d, Bl, rfl, ho, hF, ht, hB, hm, hnd, hmn, hl, hgp, k⟩ := h
  refine ⟨_, rfl, _, rfl, f, t, d, Bl, rfl, hF, SqT.of ht, hB, hm, hnd, hl, hgp, fun H1 s1 => ?_⟩
  refine ⟨_, rfl, rfl, _, rfl, iteF ?_⟩
  refine ⟨_, rfl, _, rfl, o, CB, dx, [], rfl, s1 _ _ ho, T.cl, T.nF, by show 0 < 1000; decide, ?_⟩
  obtain ⟨H2, e2⟩ : ∃ H2, H2 = upd H1 o (.ins CB dx (putF "frame" (.ref f) [])) := ⟨_, rfl⟩
  rw [← e2]
  have b2 : But H H2 o := fun b u hb e => by rw [e2, upd_ne hb]; exact s1 _ _ e
  have o2 : H2 o = some (.ins CB dx (putF "frame" (.ref f) [])) := by rw [e2, upd_same]
  have nto : t ≠ o := fun e => by rw [e, ho] at ht; cases ht
  have ht2 : H2 t = some (.tup (Bl.map fun x => V.ref x.1)) := b2 _ _ nto ht
  have hF2 := hF.but ho b2
  have hB2 := hB.but ho b2
  have at_ : ∀ {i : Nat} {x : V}, (Bl.map fun x => V.ref x.1)[i]? = some x → ∃ y ∈ Bl, Bl[i]? = some y ∧ x = .ref y.1 := fun {i x} h => by
    rw [List.getElem?_map] at h
    cases e : Bl[i]? with
    | none => rw [e] at h; cases h
    | some y => rw [e] at h; exact ⟨y, List.mem_of_getElem? e, rfl, (Option.some.inj h).symm⟩
  -- named
  refine ⟨_, rfl, t, rfl, ⟨_, SqT.of ht2⟩, fun D1 hD1 => ?_⟩
  refine lc2_it (walk_tup (K := K) (a := t) (xs := Bl.map fun x => V.ref x.1)) (fun i H' => Same H2 H' ∧ H' D1 = some (.lst (strv (allN (Bl.take i))))) ⟨same_at hD1, upd_same⟩ (fun i H' _ p => SqT.of (p.1 _ _ ht2)) ?_ ?_
  · rintro i x Ho Ha hi ⟨sa, da⟩ ⟨rfl, hx⟩
    obtain ⟨y, hy, ey, rfl⟩ := at_ hx
    refine ⟨rfl, ?_⟩
    unfold tYes
    dsimp only
    rw [if_pos rfl]
    have hle : (allN (Bl.take i) ++ y.2).length ≤ 60 := by
      rw [← allN_snoc ey]
      refine Nat.le_trans ?_ hl
      have e : allN Bl = allN (Bl.take (i + 1)) ++ allN (Bl.drop (i + 1)) := by
        unfold allN
        rw [← List.flatMap_append, List.take_append_drop]
      rw [e, List.length_append]
      omega
    rw [List.length_append] at hle
    have hyl : (strv y.2).length = y.2.length := List.length_map _
    have turn : ∀ (j : Nat) (x : V) (Hc Hd : Hp), j < (strv y.2).length → (Same H2 Hc ∧ Hc D1 = some (.lst (strv (allN (Bl.take i) ++ y.2.take j)))) → (Hd = Hc ∧ (strv y.2)[j]? = some x) →
        gName 7 x (wipe ([some (V.ref o), some (.ref f), some (.ref t), some .non, none, none, some (.ref y.1), none] : L2.St) [7]) Hd fun σ3 H5 => wipe σ3 [7] = wipe ([some (V.ref o), some (.ref f), some (.ref t), some .non, none, none, some (.ref y.1), none] : L2.St) [7] ∧ tYes σ3 H5 fun b H6 =>
          if b = true then tVar 7 σ3 H6 fun z H7 => ∃ acc, H7 D1 = some (.lst acc) ∧ acc.length < sizeLine ∧ (Same H2 (upd H7 D1 (.lst (acc ++ [z]))) ∧ upd H7 D1 (.lst (acc ++ [z])) D1 = some (.lst (strv (allN (Bl.take i) ++ y.2.take (j + 1))))) else (Same H2 H6 ∧ H6 D1 = some (.lst (strv (allN (Bl.take i) ++ y.2.take (j + 1))))) := by
      rintro j x Hc Hd hj ⟨sc, dc⟩ ⟨rfl, hxj⟩
      rw [hyl] at hj
      have exj : (strv y.2)[j]? = some (.str y.2[j]) := by show (y.2.map V.str)[j]? = _; rw [List.getElem?_map, List.getElem?_eq_getElem hj]; rfl
      rw [exj] at hxj
      obtain rfl := Option.some.inj hxj
      refine ⟨rfl, ?_⟩
      unfold tYes
      dsimp only
      rw [if_pos rfl]
      refine ⟨_, rfl, _, dc, ?_, fun c u e => ?_, ?_⟩
      · unfold strv
        rw [List.length_map, List.length_append, List.length_take]
        exact Nat.lt_of_le_of_lt (show _ ≤ 60 by omega) (by decide)
      · rw [upd_ne (ne_of_none e hD1)]
        exact sc _ _ e
      · rw [upd_same, List.take_add_one, List.getElem?_eq_getElem hj, Option.toList_some, ← List.append_assoc]
        show _ = some (HO.lst (List.map V.str _))
        rw [List.map_append (l₁ := allN (Bl.take i) ++ y.2.take j)]
        rfl
    have d0 : Ha D1 = some (.lst (strv (allN (Bl.take i) ++ y.2.take 0))) := by
      rw [List.take_zero, List.append_nil]
      exact da
    have fin : ∀ Hc, (Same H2 Hc ∧ Hc D1 = some (.lst (strv (allN (Bl.take i) ++ y.2.take (strv y.2).length)))) → (Same H2 Hc ∧ Hc D1 = some (.lst (strv (allN (Bl.take (i + 1)))))) := fun Hc h => ⟨h.1, by
      have := h.2
      rw [hyl, List.take_length, ← allN_snoc ey] at this
      exact this⟩
    rcases (hB2 y hy).1 with q | q
    · exact ⟨_, rfl, y.1, rfl, .inl ⟨⟨_, SqL.of (sa _ _ q)⟩, in_it (walk_list (K := K) (a := y.1) (xs := strv y.2)) (fun j H' => Same H2 H' ∧ H' D1 = some (.lst (strv (allN (Bl.take i) ++ y.2.take j)))) ⟨sa, d0⟩ (fun j H' _ p => SqL.of (p.1 _ _ q)) turn fin⟩⟩
    · exact ⟨_, rfl, y.1, rfl, .inr ⟨⟨_, SqT.of (sa _ _ q)⟩, in_it (walk_tup (K := K) (a := y.1) (xs := strv y.2)) (fun j H' => Same H2 H' ∧ H' D1 = some (.lst (strv (allN (Bl.take i) ++ y.2.take j)))) ⟨sa, d0⟩ (fun j H' _ p => SqT.of (p.1 _ _ q)) turn fin⟩⟩
  rintro H3 ⟨s3, d3⟩
  have hBl : (Bl.map fun x => V.ref x.1).length = Bl.length := List.length_map _
  rw [hBl, List.take_length] at d3
  -- alone
  have hF3 := hF2.same s3
  obtain ⟨dxf, fsf, eaf⟩ := hF3.ins
  refine ⟨_, rfl, f, CF, dxf, fsf, rfl, eaf, rfl, f, d, rfl, hF3, fun ms p4 H4 hms hp4 hv4 s4 => ?_⟩
  refine ⟨p4, rfl, ⟨_, SqT.of hv4⟩, fun D2 hD2 => ?_⟩
  have hmsl : (strv ms).length = ms.length := List.length_map _
  have hms42 : ms.length ≤ 42 := by
    rw [hms.1.length_eq, List.length_append]
    have hn40 : (names d.ys).length ≤ 40 := by unfold names; rw [List.length_map]; exact hF.le
    have hr2 : (railsZ d.g d.r).length ≤ 2 := by unfold railsZ; cases d.g <;> cases d.r <;> decide
    omega
  have d3b : H4 D1 = some (.lst (strv (allN Bl))) := s4 _ _ d3
  refine lc_it (walk_tup (K := K) (a := p4) (xs := strv ms)) (fun i H' => Same H4 H' ∧ ∃ A : List (Addr × List Str), A.map (·.2) = ((ms.take i).filter fun z => decide (z ∉ allN Bl)).map (fun z => [z]) ∧ H' D2 = some (.lst (A.map fun x => V.ref x.1)) ∧ ∀ x ∈ A, H' x.1 = some (.tup (strv x.2))) ⟨same_at hD2, [], rfl, upd_same, fun x hx => by cases hx⟩ (fun i H' _ p => SqT.of (p.1 _ _ hv4)) ?_ ?_
  · rintro i x Ho Ha hi ⟨sa, B, hB1, da, hB2'⟩ ⟨rfl, hx⟩
    rw [hmsl] at hi
    have ex : (strv ms)[i]? = some (.str ms[i]) := by show (ms.map V.str)[i]? = _; rw [List.getElem?_map, List.getElem?_eq_getElem hi]; rfl
    rw [ex] at hx
    obtain rfl := Option.some.inj hx
    have hin : inV (.str ms[i]) (strv (allN Bl)) = decide (ms[i] ∈ allN Bl) := inV_strs _ _
    have hBlen : B.length ≤ i := by
      have := congrArg List.length hB1
      rw [List.length_map, List.length_map] at this
      rw [this]
      exact Nat.le_trans (List.length_filter_le _ _) (by rw [List.length_take]; omega)
    have etake : (ms.take (i + 1)).filter (fun z => decide (z ∉ allN Bl)) = (ms.take i).filter (fun z => decide (z ∉ allN Bl)) ++ if ms[i] ∈ allN Bl then [] else [ms[i]] := by
      rw [List.take_add_one, List.getElem?_eq_getElem hi, Option.toList_some, List.filter_append]
      congr 1
      by_cases q : ms[i] ∈ allN Bl
      · rw [if_pos q, List.filter_cons_of_neg (by simp [q])]; rfl
      · rw [if_neg q, List.filter_cons_of_pos (by simp [q])]; rfl
    refine ⟨rfl, ?_⟩
    by_cases q : ms[i] ∈ allN Bl
    · refine ⟨_, rfl, _, rfl, D1, strv (allN Bl), rfl, .inl (SqL.of (sa _ _ d3b)), rfl, flat_strs _, false, ?_, iteF ?_⟩
      · show V.bl (!inV _ _) = _
        rw [hin, decide_eq_true q]
        rfl
      · refine ⟨sa, B, ?_, da, hB2'⟩
        rw [etake, if_pos q, List.append_nil]
        exact hB1
    · refine ⟨_, rfl, _, rfl, D1, strv (allN Bl), rfl, .inl (SqL.of (sa _ _ d3b)), rfl, flat_strs _, true, ?_, iteT ?_⟩
      · show V.bl (!inV _ _) = _
        rw [hin, decide_eq_false q]
        rfl
      · refine ⟨_, rfl, by show 1 ≤ sizeLine; decide, fun p hp => ?_⟩
        have sp := same_at (o := .tup [V.str ms[i]]) hp
        have nD : D2 ≠ p := fun e => by rw [e, hp] at da; cases da
        refine ⟨_, sp _ _ da, ?_, fun c u e => ?_, B ++ [(p, [ms[i]])], ?_, ?_, fun x hx => ?_⟩
        · rw [List.length_map]
          exact Nat.lt_of_lt_of_le (show B.length < 60 by omega) (by decide)
        · rw [upd_ne (ne_of_none e hD2)]
          exact sp _ _ (sa _ _ e)
        · rw [etake, if_neg q, List.map_append, List.map_append, hB1]
          rfl
        · rw [upd_same, List.map_append]
          rfl
        · have nx : x.1 ≠ D2 := fun e => by
            rcases List.mem_append.mp hx with hx | hx
            · have := hB2' x hx
              rw [e, da] at this
              cases this
            · rw [List.mem_singleton.mp hx] at e
              exact nD e.symm
          rw [upd_ne nx]
          rcases List.mem_append.mp hx with hx | hx
          · exact sp _ _ (hB2' x hx)
          · rw [List.mem_singleton.mp hx]
            exact upd_same
  rintro H5 ⟨s5, A, hA1, d5, hA2⟩
  rw [hmsl, List.take_length] at hA1
  -- the blocks in order
  have s25 : Same H2 H5 := s3.trans (s4.trans s5)
  have ht5 := s25 _ _ ht2
  have hB5 := hB2.same s25
  have bl60 : Bl.length ≤ 60 := by
    have go : ∀ Bl : List (Addr × List Str), (∀ x ∈ Bl, x.2 ≠ []) → Bl.length ≤ (allN Bl).length := by
      intro Bl
      induction Bl with
      | nil => exact fun _ => Nat.le_refl _
      | cons x Bl ih =>
        intro h
        have h1 := ih fun y hy => h y (List.mem_cons_of_mem _ hy)
        have h2 : 0 < x.2.length := List.length_pos_iff.mpr (h x List.mem_cons_self)
        show Bl.length + 1 ≤ (x.2 ++ allN Bl).length
        rw [List.length_append]
        omega
    exact Nat.le_trans (go Bl fun x hx => (hB x hx).2) hl
  have yle : ∀ y ∈ Bl, y.2.length ≤ 60 := fun y hy => by
    obtain ⟨l1, l2, e⟩ := List.append_of_mem hy
    have : allN Bl = allN l1 ++ (y.2 ++ allN l2) := by rw [e]; unfold allN; rw [List.flatMap_append, List.flatMap_cons]
    rw [this, List.length_append, List.length_append] at hl
    omega
  refine ⟨_, rfl, t, rfl, ⟨_, SqT.of ht5⟩, fun D3 hD3 => ?_⟩
  refine lc_it (walk_tup (K := K) (a := t) (xs := Bl.map fun x => V.ref x.1)) (fun i H' => Same H5 H' ∧ ∃ S : List (Addr × List Str), S.length = i ∧ (∀ (j : Nat) (y z : Addr × List Str), Bl[j]? = some y → S[j]? = some z → z.2.Perm y.2 ∧ PyProof.Rows.sortedS z.2 = true) ∧ H' D3 = some (.lst (S.map fun x => V.ref x.1)) ∧ ∀ x ∈ S, H' x.1 = some (.tup (strv x.2))) ⟨same_at hD3, [], rfl, fun j y z _ e => by simp at e, upd_same, fun x hx => by cases hx⟩ (fun i H' _ p => SqT.of (p.1 _ _ ht5)) ?_ ?_
  · rintro i x Ho Ha hi ⟨sa, S, hS1, hS2, da, hS3⟩ ⟨rfl, hx⟩
    obtain ⟨y, hy, ey, rfl⟩ := at_ hx
    rw [hBl] at hi
    refine ⟨rfl, ?_⟩
    unfold tYes
    dsimp only
    rw [if_pos rfl]
    refine ⟨_, rfl, y.1, y.2, rfl, ((hB5.same sa) y hy).1.imp SqL.of SqT.of, Nat.lt_of_le_of_lt (yle y hy) (by decide), fun ys p hperm hso hp => ⟨p, ys.map V.str, rfl, .inl ⟨SqL.of upd_same, fun l hl' => ?_⟩⟩⟩
    have sp := same_at (o := .lst (ys.map V.str)) hp
    have sl := same_at (o := .tup (ys.map V.str)) hl'
    have sx := sp.trans sl
    have nD : D3 ≠ l := fun e => by rw [← e, sp _ _ da] at hl'; cases hl'
    refine ⟨_, sx _ _ da, ?_, fun c u e => ?_, S ++ [(l, ys)], ?_, fun j y' z ej ez => ?_, ?_, fun x hx => ?_⟩
    · rw [List.length_map, hS1]
      exact Nat.lt_of_lt_of_le (show i < 60 by omega) (by decide)
    · rw [upd_ne (ne_of_none e hD3)]
      exact sx _ _ (sa _ _ e)
    · rw [List.length_append, hS1]
      rfl
    · rcases Nat.lt_or_ge j S.length with hj | hj
      · rw [List.getElem?_append_left hj] at ez
        exact hS2 j y' z ej ez
      · rw [List.getElem?_append_right hj] at ez
        have ej0 : j - S.length = 0 := by
          rcases Nat.eq_zero_or_pos (j - S.length) with q | q
          · exact q
          · rw [List.getElem?_eq_none (by show 1 ≤ _; omega)] at ez
            cases ez
        have eji : j = i := by omega
        rw [ej0] at ez
        obtain rfl := Option.some.inj (show some (l, ys) = some z from ez)
        rw [eji, ey] at ej
        obtain rfl := Option.some.inj ej
        exact ⟨hperm, hso⟩
    · rw [upd_same, List.map_append]
      rfl
    · have nx : x.1 ≠ D3 := fun e => by
        rcases List.mem_append.mp hx with hx | hx
        · have := hS3 x hx
          rw [e, da] at this
          cases this
        · rw [List.mem_singleton.mp hx] at e
          exact nD e.symm
      rw [upd_ne nx]
      rcases List.mem_append.mp hx with hx | hx
      · exact sx _ _ (hS3 x hx)
      · rw [List.mem_singleton.mp hx]
        exact upd_same
  rintro H6 ⟨s6, S, hS1, hS2, d6, hS3⟩
  rw [hBl] at hS1
  have Sne : ∀ x ∈ S, x.2 ≠ [] := fun x hx e => by
    obtain ⟨j, hj, ej⟩ := List.getElem_of_mem hx
    have hj' : j < Bl.length := by omega
    have := (hS2 j Bl[j] x (List.getElem?_eq_getElem hj') (by rw [List.getElem?_eq_getElem hj, ej])).1
    rw [e] at this
    exact (hB _ (List.getElem_mem hj')).2 (List.nil_perm.mp this)
  have Ane : ∀ x ∈ A, x.2 ≠ [] := fun x hx e => by
    have : x.2 ∈ A.map (·.2) := List.mem_map.mpr ⟨x, hx, rfl⟩
    rw [hA1, e] at this
    obtain ⟨z, _, ez⟩ := List.mem_map.mp this
    cases ez
  have Ale : A.length ≤ 42 := by
    have := congrArg List.length hA1
    rw [List.length_map, List.length_map] at this
    rw [this]
    exact Nat.le_trans (List.length_filter_le _ _) hms42
  refine ⟨_, rfl, D3, D2, S.map fun x => V.ref x.1, A.map fun x => V.ref x.1, rfl, rfl, d6, s6 _ _ d5, ?_, fun D4 hD4 => ?_⟩
  · rw [List.length_map, List.length_map]
    exact Nat.le_trans (show S.length + A.length ≤ 102 by omega) (by decide)
  have s7 := same_at (o := .lst ((S.map fun x => V.ref x.1) ++ A.map fun x => V.ref x.1)) hD4
  refine ⟨D4, S ++ A, rfl, SqL.of (by rw [upd_same, List.map_append]), fun x hx => ?_, by rw [List.length_append]; omega, fun L p7 hL hLs hp7 => ?_⟩
  · rcases List.mem_append.mp hx with hx | hx
    · exact ⟨SqT.of (s7 _ _ (hS3 x hx)), Sne x hx⟩
    · exact ⟨SqT.of (s7 _ _ (s6 _ _ (hA2 x hx))), Ane x hx⟩
  have s8 := same_at (o := .lst (L.map fun x => V.ref x.1)) hp7
  refine ⟨p7, _, rfl, .inl ⟨SqL.of upd_same, fun B hB8 => ?_⟩⟩
  have s9 := same_at (o := .tup (L.map fun x => V.ref x.1)) hB8
  have s29 := s25.trans (((s6.trans s7).trans s8).trans s9)
  have s59 := ((s6.trans s7).trans s8).trans s9
  have p1 : (allN L).Perm (allN Bl ++ ms.filter fun z => decide (z ∉ allN Bl)) := by
    refine (allN_perm hL).trans ?_
    have e : allN (S ++ A) = allN S ++ allN A := List.flatMap_append
    rw [e, allN_ones hA1]
    exact (allN_rows hS1 hS2).append_right _
  have hLl102 : (allN L).length ≤ 102 := by
    rw [p1.length_eq, List.length_append]
    have := List.length_filter_le (fun z => decide (z ∉ allN Bl)) ms
    omega
  have hLn : (allN L).Nodup := by
    refine p1.nodup_iff.mpr (List.nodup_append.mpr ⟨hnd, ((hms.1.nodup_iff).mpr hmn).filter _, fun a ha b hb e => ?_⟩)
    have := (List.mem_filter.mp hb).2
    rw [← e] at this
    exact of_decide_eq_true this ha
  have Lat : ∀ x ∈ L, (upd (upd (upd H6 D4 (.lst ((S.map fun x => V.ref x.1) ++ A.map fun x => V.ref x.1))) p7 (.lst (L.map fun x => V.ref x.1))) B (.tup (L.map fun x => V.ref x.1))) x.1 = some (.tup (strv x.2)) ∧ x.2 ≠ [] := fun x hx => by
    have s69 := (s7.trans s8).trans s9
    rcases List.mem_append.mp (hL.mem_iff.mp hx) with hx | hx
    · exact ⟨s69 _ _ (hS3 x hx), Sne x hx⟩
    · exact ⟨s59 _ _ (hA2 x hx), Ane x hx⟩
  have hrows : RowsOf d Bl L := by
    refine ⟨ms, S.map (·.2), hms, by rw [List.length_map, hS1], fun i y z ey ez => ?_, ?_, hLs⟩
    · rw [List.getElem?_map] at ez
      cases q : S[i]? with
      | none => rw [q] at ez; cases ez
      | some x =>
        rw [q] at ez
        obtain rfl := Option.some.inj ez
        exact hS2 i y x ey q
    · have := hL.map (·.2)
      rw [List.map_append, hA1] at this
      exact this
  refine ⟨_, rfl, o, CB, dx, _, rfl, s29 _ _ o2, T.cl, T.nB, by show 1 < 1000; decide, ?_⟩
  have B9 : (upd (upd (upd H6 D4 (.lst ((S.map fun x => V.ref x.1) ++ A.map fun x => V.ref x.1))) p7 (.lst (L.map fun x => V.ref x.1))) B (.tup (L.map fun x => V.ref x.1))) B = some (.tup (L.map fun x => V.ref x.1)) := upd_same
  have o9 := s29 _ _ o2
  generalize (upd (upd (upd H6 D4 (.lst ((S.map fun x => V.ref x.1) ++ A.map fun x => V.ref x.1))) p7 (.lst (L.map fun x => V.ref x.1))) B (.tup (L.map fun x => V.ref x.1))) = H9 at s29 s59 Lat B9 o9 ⊢
  have nBo : B ≠ o := fun e => by rw [e, o9] at B9; cases B9
  obtain ⟨H10, e10⟩ : ∃ H10, H10 = upd H9 o (.ins CB dx (putF "_blocks" (.ref B) (putF "frame" (.ref f) []))) := ⟨_, rfl⟩
  rw [← e10]
  have o10 : H10 o = some (.ins CB dx (putF "_blocks" (.ref B) (putF "frame" (.ref f) []))) := by rw [e10, upd_same]
  have B10 : H10 B = some (.tup (L.map fun x => V.ref x.1)) := by rw [e10, upd_ne nBo]; exact B9
  have b10 : But H H10 o := fun b u hb e => by rw [e10, upd_ne hb]; exact s29 _ _ (b2 _ _ hb e)
  have L10 : ∀ x ∈ L, H10 x.1 = some (.tup (strv x.2)) ∧ x.2 ≠ [] := fun x hx => by
    have nx : x.1 ≠ o := fun e => by have := (Lat x hx).1; rw [e, o9] at this; cases this
    rw [e10, upd_ne nx]
    exact Lat x hx
  have hLl : (L.map fun x => V.ref x.1).length = L.length := List.length_map _
  refine ⟨_, rfl, o, CB, dx, _, _, rfl, o10, T.cl, T.nB, rfl, B, rfl, ⟨_, SqT.of B10⟩, fun D5 hD5 => ?_⟩
  have cut : ∀ {i : Nat} (hi : i < L.length), allN L = allN (L.take i) ++ (L[i].2 ++ allN (L.drop (i + 1))) := fun {i} hi => by
    have e : L = L.take i ++ (L[i] :: L.drop (i + 1)) := by rw [List.getElem_cons_drop, List.take_append_drop]
    have e2 : allN (L.take i ++ (L[i] :: L.drop (i + 1))) = allN (L.take i) ++ (L[i].2 ++ allN (L.drop (i + 1))) := by unfold allN; rw [List.flatMap_append, List.flatMap_cons]
    rw [← e2, ← e]
  refine DcTwo.turns_it (walk_tup (K := K) (a := B) (xs := L.map fun x => V.ref x.1)) (fun i H' => Same H10 H' ∧ ∃ hs, H' D5 = some (.dK hs) ∧ hs.length ≤ (allN (L.take i)).length ∧ ∀ x ∈ L.take i, ∀ z ∈ x.2, valV hs (Sum.inr z) = some (.ref x.1)) ⟨same_at hD5, [], upd_same, Nat.zero_le _, fun x hx => by cases hx⟩ (fun i H' _ p => SqT.of (p.1 _ _ B10)) ?_ ?_
  · rintro i x Ho Ha hi ⟨sa, hs, da, hsl, hsv⟩ ⟨rfl, hx⟩
    rw [hLl] at hi
    have ex : (L.map fun x => V.ref x.1)[i]? = some (.ref L[i].1) := by rw [List.getElem?_map, List.getElem?_eq_getElem hi]; rfl
    rw [ex] at hx
    obtain rfl := Option.some.inj hx
    refine ⟨rfl, ?_⟩
    unfold tYes
    dsimp only
    rw [if_pos rfl]
    have hrow := (L10 _ (List.getElem_mem hi)).1
    have hcut := cut hi
    have hnc := hLn
    rw [hcut] at hnc
    have hlc := hLl102
    rw [hcut, List.length_append, List.length_append] at hlc
    have hdis := (List.nodup_append.mp hnc).2.2
    have hzl : (strv L[i].2).length = L[i].2.length := List.length_map _
    have etk : L.take (i + 1) = L.take i ++ [L[i]] := by rw [List.take_add_one, List.getElem?_eq_getElem hi]; rfl
    refine ⟨_, rfl, L[i].1, rfl, ⟨_, SqT.of (sa _ _ hrow)⟩, ?_⟩
    refine DcTwo.turns_it (walk_tup (K := K) (a := L[i].1) (xs := strv L[i].2)) (fun j H' => Same H10 H' ∧ ∃ hs, H' D5 = some (.dK hs) ∧ hs.length ≤ (allN (L.take i)).length + j ∧ (∀ x ∈ L.take i, ∀ z ∈ x.2, valV hs (Sum.inr z) = some (.ref x.1)) ∧ ∀ z ∈ L[i].2.take j, valV hs (Sum.inr z) = some (.ref L[i].1)) ⟨sa, hs, da, hsl, hsv, fun z hz => by rw [List.take_zero] at hz; cases hz⟩ (fun j H' _ p => SqT.of (p.1 _ _ hrow)) ?_ ?_
    · rintro j x Hb Hc hj ⟨sb, gs, db, hgl, hg1, hg2⟩ ⟨rfl, hx⟩
      rw [hzl] at hj
      have exj : (strv L[i].2)[j]? = some (.str L[i].2[j]) := by show (L[i].2.map V.str)[j]? = _; rw [List.getElem?_map, List.getElem?_eq_getElem hj]; rfl
      rw [exj] at hx
      obtain rfl := Option.some.inj hx
      refine ⟨rfl, ?_⟩
      dsimp only
      rw [if_pos rfl]
      refine ⟨_, rfl, _, rfl, gs, Sum.inr L[i].2[j], rfl, db, ?_, fun c u e => ?_, _, upd_same, ?_, fun x hx z hz => ?_, fun z hz => ?_⟩
      · exact Nat.lt_of_lt_of_le (show gs.length < 1000 by omega) (by decide)
      · rw [upd_ne (ne_of_none e hD5)]
        exact sb _ _ e
      · have := length_putK gs (Sum.inr L[i].2[j]) (V.ref L[i].1)
        omega
      · rw [valV_put]
        have ne : ¬ (Sum.inr z : Key) = Sum.inr L[i].2[j] := fun q => by
          injection q with q
          exact hdis z (List.mem_flatMap.mpr ⟨x, hx, hz⟩) L[i].2[j] (List.mem_append_left _ (List.getElem_mem hj)) q
        rw [if_neg ne]
        exact hg1 x hx z hz
      · rw [valV_put]
        by_cases q : (Sum.inr z : Key) = Sum.inr L[i].2[j]
        · rw [if_pos q]
        · rw [if_neg q]
          rw [List.take_add_one, List.getElem?_eq_getElem hj] at hz
          rcases List.mem_append.mp hz with hz | hz
          · exact hg2 z hz
          · exact absurd (by rw [show z = L[i].2[j] from List.mem_singleton.mp hz]) q
    · rintro Hb ⟨sb, gs, db, hgl, hg1, hg2⟩
      rw [hzl] at hgl hg2
      rw [List.take_length] at hg2
      refine ⟨sb, gs, db, ?_, fun x hx z hz => ?_⟩
      · have e : allN (L.take (i + 1)) = allN (L.take i) ++ L[i].2 := allN_snoc (List.getElem?_eq_getElem hi)
        rw [e, List.length_append]
        exact hgl
      · rw [etk] at hx
        rcases List.mem_append.mp hx with hx | hx
        · exact hg1 x hx z hz
        · rw [List.mem_singleton.mp hx] at hz ⊢
          exact hg2 z hz
  rintro H11 ⟨s11, hs, d11, hsl, hsv⟩
  rw [hLl, List.take_length] at hsv
  have o11 := s11 _ _ o10
  refine ⟨_, rfl, o, CB, dx, _, rfl, o11, T.cl, T.nH, by show 2 < 1000; decide, ?_⟩
  have ne : ∀ {b : Addr} {u : HO}, H11 b = some u → (∀ C dy fs, u ≠ .ins C dy fs) → b ≠ o := fun {b u} e hu q => by
    rw [q, o11] at e
    exact hu _ _ _ (Option.some.inj e).symm
  refine k _ L hrows ⟨dx, B, D5, hs, upd_same, ?_, fun x hx => ⟨?_, (L10 x hx).2⟩, ?_, hsv⟩ fun b u hb e => ?_
  · rw [upd_ne nBo]
    exact s11 _ _ B10
  · have e := s11 _ _ (L10 x hx).1
    rw [upd_ne (ne e fun _ _ _ q => by cases q)]
    exact e
  · rw [upd_ne (ne d11 fun _ _ _ q => by cases q)]
    exact d11
  · rw [upd_ne hb]
    exact s11 _ _ (b10 _ _ hb e)
end
end Sj
namespace Sj
open PySem L2 Sup StK Own Shw Exg Grd KepE
/-! Board.__init__ as a def with a star -/
def spBoS (K : PySem.W.Frag) (ks : Kinds) (CF CB : Addr) : Sp := fun vs H Q E => ∃ ws rest, vs = ws ++ rest ∧ ws.length = (["self", "frame"] : List Str).length ∧ rest.length ≤ sizeLine ∧ ∀ p, H p = none → spBoI K ks CF CB (ws ++ [.ref p]) (upd H p (.tup rest)) Q E
theorem fnr_boI {P : Program} {w : World} {K : PySem.W.Frag} {mg : Str → Option Value} {base : Heap} {CI fI CF CB f : Addr} {fd : FuncData} {ks : Kinds} (F : FunD K "__init__" "Board.__init__" (defArgs sBoI) (defBody sBoI) (defScope sBoI) [] [] f fd) (T : BoT P w K mg base ks CF CI fI CB) :
    FnR P w K mg base (L2.CX P w) 5 f (spBoS K ks CF CB) := by
  obtain ⟨oc, od, dV, kV, doc, pm, an, cdv, ct, osl, rfl, lk, hcd, hD, hK⟩ := F.ex
  rcases hD with ⟨_, rfl⟩ | ⟨e, _⟩
  case inr => exact absurd rfl e
  refine StX.fn_star (pv := "blocks") (ps := ["self", "frame"]) lk hcd scBoI StX.cxUp (fun us rest h => ?_) fun A outer s H vs Q E hr h => body_boI T cdv A outer s H vs Q E hr h
  exact StX.bind_star2 (B := fun l => bindArgs _ ⟨l, []⟩) (fun a b => rfl) (fun a b r rs => rfl) us rest h
end Sj
namespace Sj
open PySem L2 Sup StK Own Shw Exg Grd KepE
/-! a board is made -/
/-- what is asked of blocks that make a board of the frame -/
structure PartOf (ks : Kinds) (CF : Addr) (H : Hp) (f : Addr) (d : FrD) (Bl : List (Addr × List Str)) : Prop where
  fr : FrIs ks CF H f d
  at_ : BlkAt H Bl
  mem : ∀ z ∈ allN Bl, z ∈ membZ d
  nd : (allN Bl).Nodup
  mn : (membZ d).Nodup
  le : (allN Bl).length ≤ 60
  gp : ∀ x ∈ Bl, ¬ (("ground" : Str) ∈ x.2 ∧ ("power" : Str) ∈ x.2)
theorem PartOf.same {ks : Kinds} {CF : Addr} {H H' : Hp} {f : Addr} {d : FrD} {Bl : List (Addr × List Str)} (h : PartOf ks CF H f d Bl) (s : Same H H') : PartOf ks CF H' f d Bl := ⟨h.fr.same s, h.at_.same s, h.mem, h.nd, h.mn, h.le, h.gp⟩
theorem blk_le {Bl : List (Addr × List Str)} (h : ∀ x ∈ Bl, x.2 ≠ []) : Bl.length ≤ (allN Bl).length := by
  induction Bl with
  | nil => exact Nat.le_refl _
  | cons x Bl ih =>
    have h1 := ih fun y hy => h y (List.mem_cons_of_mem _ hy)
    have h2 : 0 < x.2.length := List.length_pos_iff.mpr (h x List.mem_cons_self)
    show Bl.length + 1 ≤ (x.2 ++ allN Bl).length
    rw [List.length_append]
    omega
theorem mk_bo {K : PySem.W.Frag} {ks : Kinds} {CF CB f x dx : Addr} {d : FrD} {Bl : List (Addr × List Str)} {H : Hp} {Q : VK} {E : XK} (p : PartOf ks CF H f d Bl) (hx : H x = none) (hdx : H dx = none) (hne : dx ≠ x)
    (k : ∀ H' L, RowsOf d Bl L → BoAt H' x CB f L → Same H H' → Q .non H') : spBoS K ks CF CB (V.ref x :: .ref f :: Bl.map fun y => V.ref y.1) (upd (upd H dx (.own x)) x (.ins CB dx [])) Q E := by
  have s1 : Same H (upd (upd H dx (.own x)) x (.ins CB dx [])) := fun b o e => by
    rw [upd_ne (ne_of_none e hx), upd_ne (ne_of_none e hdx)]
    exact e
  have bl := blk_le fun y hy => (p.at_ y hy).2
  refine ⟨[.ref x, .ref f], Bl.map fun y => V.ref y.1, rfl, rfl, ?_, fun t ht => ?_⟩
  · rw [List.length_map]
    exact Nat.le_trans (Nat.le_trans bl p.le) (by decide)
  have hxt : x ≠ t := ne_of_none upd_same ht
  have s2 := s1.trans (same_at (o := .tup (Bl.map fun y => V.ref y.1)) ht)
  have q := p.same s2
  refine ⟨x, dx, f, t, d, Bl, rfl, by rw [upd_ne hxt, upd_same], q.fr, upd_same, q.at_, q.mem, q.nd, q.mn, q.le, q.gp, fun H' L hL hB hb => k H' L hL hB fun b o e => ?_⟩
  exact hb b o (ne_of_none e hx) (s2 _ _ e)
end Sj
/-! C(e, .., *xs), C a class of the module or what a name holds -/
namespace MakeS
open PySem PySem.Spec PyProof.Rows L2 StX
section
variable {X : Cx} {CX : CXT} {k : Nat} {f C : Addr} {sp : Sp} {E : XK} {x : PySem.Str} {e : Expr} {es : List Expr} {tf : TE} {t : TA} {p pos : Pos}
theorem pe_makeS (M : Mk X.K C f) (F : FnR X.prog X.w X.K X.mg X.base CX k f sp) (hr : Room (k + 1) X.A) (hg : Gl X x) (hm : X.mg x = some (.ref C)) (hx : Passes CX X E) (ha : PA X (e :: es) t) (hdb : (x == ("__debug__" : PySem.Str)) = false := by decide)
    (he : starEach (e :: es) X.env = (false, eval e X.env) :: starEach es X.env := by rfl) (hst : (backTo pos (starEach es X.env)).any (·.1) = true := by rfl) : PE X (.Call (.Name x p) (e :: es) [] pos) (tMakeR C sp E t) := by
  refine ⟨fun pins s σ H Q I h => ?_⟩
  refine wpAny_Call_Name_kw (ld_glob I hg hm ?_ hdb)
  refine PySem.W.callWith_S2 (h₀ := X.base) I.ok.mod.kin M.kp (thn (ha.run pos pins s σ H _ I h) fun us s1 ⟨vs, H1, I1, r, q⟩ => ⟨I1.kIn, ?_⟩) he hst
  exact run_makeR M F hr hx I1 r q
def tMakeSV (C : Addr) (sp : Sp) (E : XK) (tf : TE) (t : TA) : TE := fun σ H Q => tf σ H fun c H0 => c = .ref C ∧ tMakeR C sp E t σ H0 Q
theorem pe_makeSV (M : Mk X.K C f) (F : FnR X.prog X.w X.K X.mg X.base CX k f sp) (hr : Room (k + 1) X.A) (hx : Passes CX X E) (hf : PE X (.Name x p) tf) (ha : PA X (e :: es) t)
    (he : starEach (e :: es) X.env = (false, eval e X.env) :: starEach es X.env := by rfl) (hst : (backTo pos (starEach es X.env)).any (·.1) = true := by rfl) : PE X (.Call (.Name x p) (e :: es) [] pos) (tMakeSV C sp E tf t) := by
  refine ⟨fun pins s σ H Q I h => ?_⟩
  refine wpAny_Call_Name_kw (thn (hf.run pins s σ H _ I h) fun u s1 ⟨c, H1, I1, rc, ec, q1⟩ => ?_)
  subst ec
  obtain rfl : u = Value.ref C := rc
  refine PySem.W.callWith_S2 (h₀ := X.base) I.ok.mod.kin M.kp (thn (ha.run pos pins s1 σ H1 _ I1 q1) fun us s2 ⟨vs, H2, I2, r, q⟩ => ⟨I2.kIn, ?_⟩) he hst
  exact run_makeR M F hr hx I2 r q
end
end MakeS
namespace Sj
open PySem L2 Sup StK Own Shw Exg Grd KepE
open NdefX (NF NScope ncx envF startF nscope_by)
open C8 (pss_cut tCut)
/-! Board.of -/
abbrev sBoO : Stmt := inClass (top 25) 1
def refsB (Bl : List (Addr × List Str)) : List V := Bl.map fun y => V.ref y.1
/-- the blocks are no list and no tuple; or they make a board -/
def spBOf (K : PySem.W.Frag) (ks : Kinds) (CF CI CB : Addr) : Sp := fun vs H Q E => ∃ (f : Addr) (y : V), vs = [.ref CB, .ref f, y] ∧
  ((∃ t, TyX K H y t ∧ PySem.W.kitAny K t [.type "list", .type "tuple"] = some false ∧ ∀ d H', errH H H' d "reason" (.str "blocks") → E (.ref CI) (some d) H') ∨
   ∃ (l : Addr) (d : FrD) (Bl : List (Addr × List Str)), y = .ref l ∧ (H l = some (.lst (refsB Bl)) ∨ H l = some (.tup (refsB Bl))) ∧ PartOf ks CF H f d Bl ∧ ∀ x H' L, H x = none → RowsOf d Bl L → BoAt H' x CB f L → Same H H' → Q (.ref x) H')
structure BofT (P : Program) (w : World) (K : PySem.W.Frag) (mg : Str → Option Value) (base : Heap) (CI fI CB fB : Addr) : Prop where
  isi : mg "isinstance" = none
  list : mg "list" = none
  tuple : mg "tuple" = none
  mI : mg "InvalidBoard" = some (.ref CI)
  ex : ExT P K mg CI "reason"
  iC : PySem.W.findIn K (.ref CI) "__init__" = some (some (.ref fI))
  tI : PySem.W.typeIn K (.ref fI) = some (.type "function")
  inv : ∃ fdI, Binds K fdI ["self", "reason"] [] ∧ FnOk P w K mg base CX0 1 fI fdI ["self", "reason"] (spInv K CI)
  mkc : Mk K CB fB
  kt : PySem.W.kitAny K (.type "list") [.type "list", .type "tuple"] = some true
  kt2 : PySem.W.kitAny K (.type "tuple") [.type "list", .type "tuple"] = some true
section
variable {P : Program} {w : World} {K : PySem.W.Frag} {mg : Str → Option Value} {base : Heap}
theorem scBoO : FnScope ["cls", "frame", "blocks"] ["cls", "frame", "blocks"] (defScope sBoO) := ⟨rfl, rfl, rfl, by decide +kernel, rfl, by decide +kernel, by decide +kernel⟩
theorem ok_bof {CI fI CF CB fB f : Addr} {fd : FuncData} {ks : Kinds} (F : FunD K "of" "Board.of" (defArgs sBoO) (defBody sBoO) (defScope sBoO) [] [] f fd) (T : BofT P w K mg base CI fI CB fB)
    (GF : FnR P w K mg base (L2.CX P w) 5 fB (spBoS K ks CF CB)) : FnOk P w K mg base (L2.CX P w) 7 f fd ["cls", "frame", "blocks"] (spBOf K ks CF CI CB) := by
  obtain ⟨fdI, bI, GI⟩ := T.inv
  refine F.ok scBoO (fun vs H Q E h => ?_) (fun cdv A outer s H vs Q E hr h => ?_)
  · obtain ⟨fr, y, rfl, _⟩ := h
    rfl
  · obtain ⟨fr, y, rfl, h⟩ := h
    refine ⟨_, pss_cons (ps_if (pt_not (pt_val (pe_callB call_isiT (by rfl) T.isi (by decide +kernel) (pa_cons (pv 2) (pa_cons (pe_tup (pa_cons (pe_bltn (by rfl) T.list (by decide +kernel) (v := .ty "list") rfl) (pa_cons (pe_bltn (by rfl) T.tuple (by decide +kernel) (v := .ty "tuple") rfl) pa_nil))) pa_nil)))))
        (pss_one (ps_raise rfl (takes_of rfl rfl rfl rfl) (pmk_oex T.ex.oex T.iC T.tI GI (hr.mono (by decide)) bI .nil pass0 rfl T.mI (pa_cons pe_str pa_nil)))) pss_nil)
      (pss_one (ps_ret (MakeS.pe_makeSV T.mkc GF hr (passes_call (takes_of rfl rfl rfl rfl) fun _ _ _ _ h => h) (pv 0) (pa_cons (pv 1) (StX.pa_star (pv 2) pa_nil))))), ?_⟩
    have lay : ∀ (t : Value) (b : Bool) (Q' : VK), TyX K H y t → PySem.W.kitAny K t [.type "list", .type "tuple"] = some b → (∀ H', Same H H' → Q' (.bl b) H') →
        tCB (rIsiT K) (tCons (tVar 2) (tCons (tTup (tCons (tC (.ty "list")) (tCons (tC (.ty "tuple")) tNil))) tNil)) (L2.start ["cls", "frame", "blocks"] [.ref CB, .ref fr, y]) H Q' := by
      intro t b Q' ty e k
      refine ⟨_, rfl, by show 2 ≤ sizeLine; decide, fun p hp => ?_⟩
      have s1 := same_at (o := .tup [V.ty "list", .ty "tuple"]) hp
      exact ⟨y, p, [.ty "list", .ty "tuple"], t, [.type "list", .type "tuple"], b, rfl, upd_same, .cons (.ty _) (.cons (.ty _) .nil), tyx_same ty s1, e, k _ s1⟩
    rcases h with ⟨t, ty, e, k⟩ | ⟨l, d, Bl, rfl, hl, hp, k⟩
    · refine lay t false _ ty e fun H1 s1 => ⟨_, rfl, iteT ?_⟩
      exact raise_inv (fun Q' q => q) (by decide +kernel) s1 k
    · have hty : ∃ t, TyX K H (.ref l) t ∧ PySem.W.kitAny K t [.type "list", .type "tuple"] = some true := by
        rcases hl with h | h
        · exact ⟨_, .base (.lst h), T.kt⟩
        · exact ⟨_, .base (.tup h), T.kt2⟩
      obtain ⟨t, ty, e⟩ := hty
      refine lay t true _ ty e fun H1 s1 => ⟨_, rfl, iteF ?_⟩
      refine ⟨_, rfl, rfl, _, rfl, _, rfl, l, refsB Bl, rfl, ?_, ?_⟩
      · rcases hl with h | h
        · exact .inr (SqL.of (s1 _ _ h))
        · exact .inl (SqT.of (s1 _ _ h))
      · intro x dx hx hdx hne
        rw [List.append_nil]
        exact mk_bo (hp.same s1) hx hdx hne fun H' L hL hB hs => ⟨rfl, k x H' L (s1.free hx) hL hB (s1.trans hs)⟩
end
end Sj
namespace Sj
open PySem L2 Sup StK Own Shw Exg Grd KepE
open NdefX (NF NScope ncx envF startF nscope_by)
open C8 (pss_cut tCut)
/-! Board.blocks, len -/
theorem boF_blocks (f B D : Addr) : (boF f B D).lookup ("_blocks" : Str) = some (.ref B) := by
  unfold boF
  rw [lookup_putF, if_neg (by decide +kernel), lookup_putF, if_pos rfl]
theorem boF_homes (f B D : Addr) : (boF f B D).lookup ("_homes" : Str) = some (.ref D) := by
  unfold boF
  rw [lookup_putF, if_pos rfl]
theorem boF_frame (f B D : Addr) : (boF f B D).lookup ("frame" : Str) = some (.ref f) := by
  unfold boF
  rw [lookup_putF, if_neg (by decide +kernel), lookup_putF, if_neg (by decide +kernel), lookup_putF, if_pos rfl]
theorem BoAt.same {H H' : Hp} {o CB f : Addr} {L : List (Addr × List Str)} (h : BoAt H o CB f L) (s : Same H H') : BoAt H' o CB f L := by
  obtain ⟨dx, B, D, hs, h1, h2, h3, h4, h5⟩ := h
  exact ⟨dx, B, D, hs, s _ _ h1, s _ _ h2, fun x hx => ⟨s _ _ (h3 x hx).1, (h3 x hx).2⟩, s _ _ h4, h5⟩
end Sj
namespace Sj
open PySem L2 Sup StK Own Shw Exg Grd KepE
open NdefX (NF NScope ncx envF startF nscope_by)
open C8 (pss_cut tCut)
/-! Board[..] -/
abbrev sBoG : Stmt := inClass (top 25) 8
def spBGet (K : PySem.W.Frag) (ks : Kinds) (CF CB CN : Addr) : Sp := fun vs H Q E => ∃ (o f : Addr) (d : FrD) (L : List (Addr × List Str)) (x : V), vs = [.ref o, x] ∧ BoAt H o CB f L ∧ FrIs ks CF H f d ∧
  ((∃ y ∈ L, ∃ z ∈ y.2, x = .str z ∧ z ∈ membZ d ∧ ∀ H', Same H H' → Q (.ref y.1) H') ∨
   (((∃ z : Str, x = .str z ∧ z ∉ membZ d) ∨ (NotLeg K H x d ∧ InS K H (railsZ d.g d.r) x false)) ∧ ∃ pd, Dq K H x pd ∧ Smalls pd ∧ ∀ e H', H e = none → H' e = some (.xd [("name", x)]) → Same H H' → E (.ref CN) (some e) H'))
section
variable {P : Program} {w : World} {K : PySem.W.Frag} {mg : Str → Option Value} {base : Heap}
theorem ok_bget {f CF CB CN fN : Addr} {fd : FuncData} {ks : Kinds} (F : Fun K "__getitem__" "Board.__getitem__" sBoG f fd) (cl : Cls K CB) (nF : NoAttr K CB "frame") (nH : NoAttr K CB "_homes")
    (im : ∃ f fd, mg "is_member" = some (.ref f) ∧ PySem.W.keepIn K (.ref f) = true ∧ Binds K fd ["frame", "value"] [] ∧ FnOk P w K mg base CX0 3 f fd ["frame", "value"] (spIsM K ks CF)) (T : NlT P w K mg base CN fN) :
    FnG P w K mg base (L2.CX P w) 4 f fd ["self", "at"] (spBGet K ks CF CB CN) := by
  obtain ⟨fM, fdM, mM, kM, bM, GM⟩ := im
  obtain ⟨fdN, GN, bN⟩ := T.init
  have sc : FnScope ["self", "at"] ["self", "at"] (defScope sBoG) := ⟨rfl, rfl, rfl, by decide +kernel, rfl, by decide +kernel, by decide +kernel⟩
  refine fun_gX F sc (fun vs H Q E h => ?_) (fun cdv A outer s H vs Q E hg hr h => ?_)
  · obtain ⟨o, fr, d, L, x, rfl, _⟩ := h
    rfl
  · obtain ⟨o, fr, d, L, x, rfl, hB, hF, h⟩ := h
    obtain ⟨dx, B, D, hs, h1, h2, h3, h4, h5⟩ := hB
    refine ⟨_, pss_cons (ps_if (pt_not (pt_val (pe_call GM hr rfl mM kM bM .nil pass0 (pa_cons (pe_fld (pv 0) rfl) (pa_cons (pv 1) pa_nil))))) (pss_one (ps_raise rfl (takes_of rfl rfl rfl rfl) (pmk_e bL T.oex T.iC T.tI GN hg (hr.mono (by decide)) bN rfl T.mN (pa_cons (pv 1) pa_nil)))) pss_nil)
      (pss_one (ps_ret (pe_dget (hu_of hr) (pe_fld (pv 0) rfl) (pv 1) (fun _ _ => rfl)))), ?_⟩
    rcases h with ⟨y, hy, z, hz, rfl, hm, k⟩ | ⟨hx, pd, hpd, sm, k⟩
    · refine ⟨_, rfl, o, CB, dx, _, _, rfl, h1, cl, nF, boF_frame _ _ _, _, rfl, fr, d, _, rfl, hF, .inl ⟨z, rfl, fun H1 s1 => ?_⟩⟩
      rw [decide_eq_true hm]
      refine ⟨_, rfl, iteF ?_⟩
      refine ⟨_, rfl, o, CB, dx, _, _, rfl, s1 _ _ h1, cl, nH, boF_homes _ _ _, _, rfl, D, _, rfl, ?_, k H1 s1⟩
      rw [← h5 y hy z hz]
      exact DGet.k (k := Sum.inr z) (s1 _ _ h4)
    · have go : ∀ H1, Same H H1 → tMkR CN (spOne K CN "name") (tCons (tVar 1) tNil) (L2.start ["self", "at"] [.ref o, x]) H1 E := fun H1 s1 => raise_one (fun Q' q => ⟨_, rfl, q⟩) (Dq.same s1 _ _ hpd) sm s1 (fun b hb => Dq.same (same_at hb) _ _ (Dq.same s1 _ _ hpd)) k
      refine ⟨_, rfl, o, CB, dx, _, _, rfl, h1, cl, nF, boF_frame _ _ _, _, rfl, fr, d, _, rfl, hF, ?_⟩
      rcases hx with ⟨z, rfl, hz⟩ | ⟨hn, hi⟩
      · refine .inl ⟨z, rfl, fun H1 s1 => ?_⟩
        rw [decide_eq_false hz]
        exact ⟨_, rfl, iteT (go H1 s1)⟩
      · exact .inr ⟨hn, hi, fun H1 s1 => ⟨_, rfl, iteT (go H1 s1)⟩⟩
end
end Sj
/-! {o} in an f-string, o an instance with its own __str__ -/
namespace Sup
open PySem PySem.Spec PyProof.Rows L2
end Sup
namespace Sj
open PySem L2 Sup StK Own Shw Exg Grd
open NdefX (NF NScope ncx envF startF nscope_by)
open C8 (pss_cut tCut)
/-! driver_levels (k06, ..) -/
abbrev sDL : Stmt := top 32
abbrev nDL : List Str := ["frame", "levels", "name"]
theorem scDL : FnScope nDL ["frame", "levels"] (defScope sDL) := ⟨rfl, rfl, rfl, by decide +kernel, rfl, by decide +kernel, by decide +kernel⟩
def lvRow (p : Str × Int) : Key × V := (Sum.inr p.1, .int p.2)
def lvG : List (Str × Int) → Str → Option Int
  | [], _ => none
  | p :: r, z => if p.1 = z then some p.2 else lvG r z
def lvl (gv : List (Str × Int)) (t : Int) (z : Str) : Int := (lvG gv z).getD t
theorem valV_lv : ∀ (gv : List (Str × Int)) (z : Str), valV (gv.map lvRow) (Sum.inr z) = (lvG gv z).map V.int
  | [], _ => rfl
  | p :: r, z => by
    unfold lvG
    by_cases e : p.1 = z
    · rw [if_pos e, List.map_cons, valV_pos (show (lvRow p).1 = Sum.inr z by rw [← e]; rfl)]
      rfl
    · rw [if_neg e, List.map_cons, valV_neg (fun h : (lvRow p).1 = Sum.inr z => e (Sum.inr.inj h))]
      exact valV_lv r z
theorem lvG_mem : ∀ {gv : List (Str × Int)} {z : Str} {i : Int}, lvG gv z = some i → (z, i) ∈ gv
  | p :: r, z, i, h => by
    unfold lvG at h
    by_cases e : p.1 = z
    · rw [if_pos e] at h
      rw [← e, ← Option.some.inj h]
      exact List.mem_cons_self
    · rw [if_neg e] at h
      exact List.mem_cons_of_mem _ (lvG_mem h)
theorem lvG_of : ∀ {gv : List (Str × Int)} {z : Str}, z ∈ gv.map (·.1) → ∃ i, lvG gv z = some i
  | p :: r, z, h => by
    unfold lvG
    by_cases e : p.1 = z
    · exact ⟨_, if_pos e⟩
    · rw [if_neg e]
      exact lvG_of ((List.mem_cons.mp h).resolve_left fun q => e q.symm)
/-- levels that make a word: of drivers, within 0 and top -/
def LvOk (ks : Kinds) (d : FrD) (gv : List (Str × Int)) : Prop := gv.length ≤ 60 ∧ ∀ p ∈ gv, p.1 ∈ kindZ ks true d.ys ∧ 0 ≤ p.2 ∧ p.2 ≤ d.t
theorem lvl_le {ks : Kinds} {d : FrD} {gv : List (Str × Int)} (h : LvOk ks d gv) (ht : 0 ≤ d.t) (z : Str) : 0 ≤ lvl gv d.t z ∧ lvl gv d.t z ≤ d.t := by
  unfold lvl
  cases e : lvG gv z with
  | none => exact ⟨ht, Int.le_refl _⟩
  | some i => exact ⟨(h.2 _ (lvG_mem e)).2.1, (h.2 _ (lvG_mem e)).2.2⟩
/-- the level of each driver -/
def lvAll (ks : Kinds) (d : FrD) (gv : List (Str × Int)) : List (Str × Int) := (kindZ ks true d.ys).map fun z => (z, lvl gv d.t z)
theorem kind_leg {ks : Kinds} {ys : List LegR} {z : Str} (h : z ∈ kindZ ks true ys) : ∃ r ∈ ys, r.z = z ∧ r.C = ks.drv := by
  obtain ⟨r, hr, e⟩ := List.mem_map.mp h
  obtain ⟨h1, h2⟩ := List.mem_filter.mp hr
  rw [beq_true, decide_eq_true_eq] at h2
  exact ⟨r, h1, e, h2⟩
theorem kind_nd {ks : Kinds} {b : Bool} {ys : List LegR} (h : (names ys).Nodup) : (kindZ ks b ys).Nodup := List.Nodup.sublist (List.Sublist.map _ List.filter_sublist) h
theorem kind_le (ks : Kinds) (b : Bool) (ys : List LegR) : (kindZ ks b ys).length ≤ ys.length := by
  unfold kindZ names
  rw [List.length_map]
  exact List.length_filter_le _ _
def spDL (ks : Kinds) (CF : Addr) : Sp := fun vs H Q _ => ∃ f L d gv, vs = [.ref f, .ref L] ∧ FrIs ks CF H f d ∧ H L = some (.dK (gv.map lvRow)) ∧ LvOk ks d gv ∧ ∀ D H', H D = none → H' D = some (.dK ((lvAll ks d gv).map lvRow)) → Same H H' → Q (.ref D) H'
structure DlT (P : Program) (w : World) (K : PySem.W.Frag) (mg : Str → Option Value) (base : Heap) (ks : Kinds) (CF : Addr) : Prop where
  cl : Cls K CF
  nT : NoAttr K CF "top"
  isi : mg "isinstance" = none
  dict : mg "dict" = none
  str : mg "str" = none
  all : mg "all" = none
  sorted : mg "sorted" = none
  isd : ∃ f fd, mg "is_driver" = some (.ref f) ∧ PySem.W.keepIn K (.ref f) = true ∧ Binds K fd ["frame", "value"] [] ∧ FnOk P w K mg base CX0 4 f fd ["frame", "value"] (spIsD K ks CF)
  bet : ∃ f fd, mg "is_between" = some (.ref f) ∧ PySem.W.keepIn K (.ref f) = true ∧ Binds K fd ["value", "least", "most"] [] ∧ FnOk P w K mg base CX0 2 f fd ["value", "least", "most"] (spBetG K)
  drv : PropN P w K mg base 3 CF "drivers" (spTup ks CF fun d => kindZ ks true d.ys)
def teStr2 (K : PySem.W.Frag) : TE := tCB (rIsi K) (tCons (tVar 2) (tCons (tC (.ty "str")) tNil))
def teGet2 (K : PySem.W.Frag) : TE := tDGet2 (tVar 1) (tVar 2) (tFld K (tVar 0) "top")
section
variable {P : Program} {w : World} {K : PySem.W.Frag} {mg : Str → Option Value} {base : Heap}
theorem ok_dl {f CF : Addr} {fd : FuncData} {ks : Kinds} (F : Fun K "driver_levels" "driver_levels" sDL f fd) (T : DlT P w K mg base ks CF) : FnOk P w K mg base CX0 5 f fd ["frame", "levels"] (spDL ks CF) := by
  obtain ⟨fI, fdI, mI, kI, bI, GI⟩ := T.isd
  obtain ⟨fB, fdB, mB, kB, bB, GB⟩ := T.bet
  refine F.ok scDL (fun vs H Q E h => ?_) (fun cdv A outer s H vs Q E hr h => ?_)
  · obtain ⟨a, L, d, gv, rfl, _⟩ := h
    rfl
  · obtain ⟨a, L, d, gv, rfl, hF, hL, ok, k⟩ := h
    obtain ⟨dx, DD, ea, eD, _⟩ := hF.at_
    refine ⟨_, pss_cons (ps_if (PW.pt (pw_or (pt_not (pt_val (pe_callB call_isi (by rfl) T.isi (by decide +kernel) (pa_cons (pv 1) (pa_cons (pe_bltn (by rfl) T.dict (by decide +kernel) (v := .ty "dict") rfl) pa_nil)))))
        (pw_or1 (pt_not (pt_val (pe_lock (pe_callB (cr_all rfl) (by rfl) T.all (by decide +kernel) (pa_cons
          (pe_lc (te := teStr2 K) (own := [("name", 2)]) (g := gName 2) (tt := tYes) rfl scDL.nd (pi_keys (pv 1)) (blkOk_by (N := nDL) (sc := defScope sDL) (by decide +kernel))
            (fun _ _ _ _ _ => pg_name (i := 2) scDL.nd rfl (Or.inl rfl)) (fun _ _ _ _ _ => pts_nil) (fun _ _ _ _ _ => pe_callB call_isi (by rfl) T.isi (by decide +kernel) (pa_cons (pv 2) (pa_cons (pe_bltn (by rfl) T.str (by decide +kernel) (v := .ty "str") rfl) pa_nil)))) pa_nil))))))))
        pss_never pss_nil)
      (pss_cons (ps_for PassesOwn.never rfl (pi_list (pe_callB (call_sortedD rfl) (by rfl) T.sorted (by decide +kernel) (pa_cons (pv 1) pa_nil))) (pg_name (i := 2) scDL.nd rfl (Or.inl rfl))
        (pss_one (ps_if (PW.pt (pw_or (pt_not (pt_val (pe_call GI hr rfl mI kI bI .nil pass0 (pa_cons (pv 0) (pa_cons (pv 2) pa_nil))))) (pw_or1 (pt_not (pt_val (pe_call GB (hr.mono (by decide)) rfl mB kB bB .nil pass0 (pa_cons (pe_dget (hu_of hr) (pv 1) (pv 2) (fun _ _ => rfl)) (pa_cons pe_int (pa_cons (pe_fld (pv 0) rfl) pa_nil))))))))) pss_never pss_nil)))
      (pss_one (ps_ret (pe_dc (tk := tVar 2) (tv := teGet2 K) (own := [("name", 2)]) (g := gName 2) (tt := tYes) rfl scDL.nd (pi_tup (pe_propS (S := fun C => C = CF) (spP := fun _ => spTup ks CF fun d => kindZ ks true d.ys) (pv 0) (fun C e => by rw [e]; exact T.drv) (hr.mono (by decide))))
          (blkOk_by (N := nDL) (sc := defScope sDL) (by decide +kernel))
          (fun _ _ _ _ _ => pg_name (i := 2) scDL.nd rfl (Or.inl rfl)) (fun _ _ _ _ _ => pts_nil) (fun _ _ _ _ _ => pv 2) (fun _ _ _ _ _ => pe_dget2 (hu_of hr) (pv 1) (pv 2) (pe_fld (pv 0) rfl) ⟨rfl, rfl, rfl, rfl⟩))))), ?_⟩
    have hlm : (gv.map lvRow).length = gv.length := List.length_map _
    refine ⟨_, rfl, _, _, _, _, true, rfl, .ty _, .base (.dK hL), kit_ty (by decide +kernel), _, rfl, ?_⟩
    refine iteF ⟨L, _, hL, trivial, fun od => ?_⟩
    obtain ⟨HL, eL⟩ : ∃ HL, HL = upd H L (.frz od (.dK (gv.map lvRow))) := ⟨_, rfl⟩
    rw [← eL]
    have hLL : HL L = some (.frz od (.dK (gv.map lvRow))) := by rw [eL, upd_same]
    refine ⟨_, rfl, L, od, rfl, .inl ⟨_, hLL, fun Dn hDn => ?_⟩⟩
    refine lc_it (walk_keys (d := L) (o := od) (kvs := gv.map lvRow)) (fun i H' => Same HL H' ∧ H' Dn = some (.lst ((List.replicate i true).map V.bl))) ⟨same_at hDn, upd_same⟩ (fun i H' _ q => q.1 _ _ hLL) ?_ ?_
    · rintro i x H2 H3 hi ⟨s2, d2⟩ ⟨rfl, kk, vv, hkv, rfl⟩
      rw [hlm] at hi
      have e1 : (gv.map lvRow)[i]? = some (lvRow gv[i]) := by rw [List.getElem?_map, List.getElem?_eq_getElem hi]; rfl
      rw [e1] at hkv
      obtain rfl : Sum.inr gv[i].1 = kk := congrArg Prod.fst (Option.some.inj hkv)
      refine ⟨rfl, ?_⟩
      unfold tYes
      dsimp only
      rw [if_pos rfl]
      refine ⟨_, rfl, _, _, _, _, true, rfl, .ty _, .base (.str _), kit_ty (by decide +kernel), _, d2, ?_, fun c o hc => ?_, ?_⟩
      · rw [List.length_map, List.length_replicate]
        exact Nat.lt_of_lt_of_le hi (Nat.le_trans ok.1 (by decide))
      · rw [upd_ne (ne_of_none hc hDn)]
        exact s2 _ _ hc
      · rw [upd_same, List.replicate_succ', List.map_append]
        rfl
    · rintro H2 ⟨s2, d2⟩
      refine ⟨Dn, _, rfl, SqL.of d2, s2 _ _ hLL, _, rfl, ?_⟩
      have ea0 : (List.replicate (gv.map lvRow).length true).all id = true := by
        rw [List.all_eq_true]
        intro b hb
        rw [List.eq_of_mem_replicate hb]
        rfl
      rw [ea0]
      have s02 : Same H (upd H2 L (.dK (gv.map lvRow))) := same_unlock hL (by rw [← eL]; exact s2)
      obtain ⟨H4, e4⟩ : ∃ H4, H4 = upd H2 L (.dK (gv.map lvRow)) := ⟨_, rfl⟩
      rw [← e4] at s02 ⊢
      have hks : (gv.map lvRow).map (·.1) = (gv.map (·.1)).map Sum.inr := by rw [List.map_map, List.map_map]; rfl
      refine iteF ⟨_, rfl, L, _, gv.map (·.1), rfl, .inl (s02 _ _ hL), hks, by rw [List.length_map]; exact Nat.lt_of_le_of_lt ok.1 (by decide), fun ys q hp hs hq => ?_⟩
      obtain ⟨H5, e5⟩ : ∃ H5, H5 = upd H4 q (.lst (ys.map V.str)) := ⟨_, rfl⟩
      have s45 : Same H4 H5 := by rw [e5]; exact same_at hq
      have hq5 : H5 q = some (.lst (strv ys)) := by rw [e5, upd_same]; rfl
      rw [← e5]
      have s05 := s02.trans s45
      have hL5 := s05 _ _ hL
      have ea5 := s05 _ _ ea
      have hF5 := hF.same s05
      have hyl : (strv ys).length = ys.length := List.length_map _
      refine ⟨q, rfl, ⟨_, SqL.of hq5⟩, for_list (xs := strv ys) (fun i σ H' => H' = H5 ∧ ∃ o, σ = [some (.ref a), some (.ref L), o]) ⟨rfl, _, rfl⟩ (fun i σ H' _ h => by rw [h.1]; exact SqL.of hq5) ?_ ?_⟩
      · rintro i x σ H8 hx ⟨rfl, o, rfl⟩
        have hi' : i < ys.length := by rw [← hyl]; exact (List.getElem?_eq_some_iff.mp hx).1
        have ex : (strv ys)[i]? = some (.str ys[i]) := by show (ys.map V.str)[i]? = _; rw [List.getElem?_map, List.getElem?_eq_getElem hi']; rfl
        rw [ex] at hx
        obtain rfl := Option.some.inj hx
        obtain ⟨j, hj⟩ := lvG_of (hp.mem_iff.mp (List.getElem_mem hi'))
        obtain ⟨g1, g2, g3⟩ := ok.2 _ (lvG_mem hj)
        obtain ⟨r, hr', ez, eC⟩ := kind_leg g1
        refine ⟨_, rfl, _, rfl, a, d, _, rfl, hF5, .inl ⟨r, hr', by rw [ez], _, rfl, ?_⟩⟩
        rw [decide_eq_true eC]
        have hg : DGet H8 L (.str ys[i]) (some (.int j)) := by
          have := DGet.k (k := Sum.inr ys[i]) hL5
          rw [valV_lv, hj] at this
          exact this
        refine iteF ⟨_, rfl, _, rfl, L, _, rfl, hg, _, rfl, a, CF, dx, _, _, rfl, ea5, T.cl, T.nT, frF_top _ _ _ _, .int j, 0, d.t, true, rfl, .inl ⟨j, rfl, ?_⟩, _, rfl, ?_⟩
        · rw [decide_eq_true g2, decide_eq_true g3]
          rfl
        · exact iteF ⟨rfl, _, rfl⟩
      · rintro σ H8 ⟨rfl, o, rfl⟩
        refine ⟨_, rfl, a, CF, dx, _, rfl, ea5, rfl, a, d, rfl, hF5, fun tp H6 htp hv6 s56 => ?_⟩
        refine ⟨tp, rfl, ⟨_, SqT.of hv6⟩, fun D hD => ?_⟩
        have s06 := s05.trans s56
        dsimp only at hv6
        have hnd := kind_nd (ks := ks) (b := true) hF.nd
        have hkl := Nat.le_trans (kind_le ks true d.ys) hF.le
        obtain ⟨zs, ezs⟩ : ∃ zs, zs = kindZ ks true d.ys := ⟨_, rfl⟩
        have eall : lvAll ks d gv = zs.map fun z => (z, lvl gv d.t z) := by rw [ezs]; rfl
        rw [← ezs] at hv6 hnd hkl
        have hzl : (strv zs).length = zs.length := List.length_map _
        refine SetT.dict_it (walk_tup (K := K) (a := tp) (xs := strv zs)) (fun i H' => Same H6 H' ∧ H' D = some (.dK (((zs.take i).map fun z => (z, lvl gv d.t z)).map lvRow))) ⟨same_at hD, by rw [upd_same]; rfl⟩ (fun i H' _ p => .inl (.inl (p.1 _ _ hv6))) ?_ ?_
        · rintro i x H7 H9 hi ⟨s7, d7⟩ ⟨rfl, hx1⟩
          rw [hzl] at hi
          have e1 : (strv zs)[i]? = some (.str zs[i]) := by show (zs.map V.str)[i]? = _; rw [List.getElem?_map, List.getElem?_eq_getElem hi]; rfl
          rw [e1] at hx1
          obtain rfl := Option.some.inj hx1
          refine ⟨rfl, ?_⟩
          unfold tYes
          dsimp only
          rw [if_pos rfl]
          have s07 := s06.trans s7
          refine ⟨_, rfl, _, rfl, L, rfl, .inl ⟨_, .inl (s07 _ _ hL)⟩, _, rfl, _, rfl, a, CF, dx, _, _, rfl, s07 _ _ ea, T.cl, T.nT, frF_top _ _ _ _, _, DGet.k (k := Sum.inr zs[i]) (s07 _ _ hL), ?_⟩
          have hout : valV (((zs.take i).map fun z => (z, lvl gv d.t z)).map lvRow) (Sum.inr zs[i]) = none := by
            rw [valV_lv]
            cases e : lvG ((zs.take i).map fun z => (z, lvl gv d.t z)) zs[i] with
            | none => rfl
            | some j =>
              obtain ⟨z, hz, ez⟩ := List.mem_map.mp (lvG_mem e)
              have ez : z = zs[i] := congrArg Prod.fst ez
              obtain ⟨j, hj, ej⟩ := List.getElem_of_mem hz
              rw [List.length_take] at hj
              rw [List.getElem_take, ez] at ej
              have := (List.getElem_inj hnd).mp ej
              omega
          refine ⟨_, Sum.inr zs[i], rfl, d7, ?_, ?_, ?_⟩
          · rw [List.length_map, List.length_map, List.length_take]
            exact Nat.lt_of_le_of_lt (Nat.min_le_right _ _) (Nat.lt_of_le_of_lt hkl (by decide))
          · exact fun b o e => by
              rw [upd_ne (ne_of_none e hD)]
              exact s7 _ _ e
          · rw [upd_same, putK_new _ hout, List.take_add_one, List.getElem?_eq_getElem hi, List.map_append, List.map_append, valV_lv]
            have e2 : (Option.map V.int (lvG gv zs[i])).getD (.int d.t) = .int (lvl gv d.t zs[i]) := by
              unfold lvl
              cases lvG gv zs[i] <;> rfl
            rw [e2]
            rfl
        · rintro H7 ⟨s7, d7⟩
          rw [hzl, List.take_length] at d7
          exact k D H7 (s06.free hD) (by rw [eall]; exact d7) (s06.trans s7)
end
end Sj
namespace Sj
open PySem L2 Sup StK Own Shw Exg Grd
open NdefX (NF NScope ncx envF startF nscope_by)
open C8 (pss_cut tCut)
/-! Word: __init__, of, rest, lone (k06, ..) -/
abbrev sWd (i : Nat) : Stmt := inClass (top 31) i
def wdF (f D : Addr) : List (Str × V) := putF "_levels" (.ref D) (putF "frame" (.ref f) [])
theorem wdF_put (f D D' : Addr) : putF "_levels" (.ref D') (wdF f D) = wdF f D' := by
  rfl
theorem wdF_frame (f D : Addr) : (wdF f D).lookup ("frame" : Str) = some (.ref f) := by
  unfold wdF
  rw [lookup_putF, if_neg (by decide +kernel), lookup_putF, if_pos rfl]
theorem wdF_lv (f D : Addr) : (wdF f D).lookup ("_levels" : Str) = some (.ref D) := by
  unfold wdF
  rw [lookup_putF, if_pos rfl]
/-- a word: of the frame d, by the levels gv -/
structure WdIs (ks : Kinds) (CF CW : Addr) (H : Hp) (a : Addr) (d : FrD) (gv : List (Str × Int)) : Prop where
  ex : ∃ f dx D, H a = some (.ins CW dx (wdF f D)) ∧ H D = some (.dK ((lvAll ks d gv).map lvRow)) ∧ D ≠ a ∧ FrIs ks CF H f d
  ok : LvOk ks d gv
  t1 : 1 ≤ d.t
  t3 : d.t ≤ 3
theorem WdIs.same {ks : Kinds} {CF CW : Addr} {H H' : Hp} {a : Addr} {d : FrD} {gv : List (Str × Int)} (h : WdIs ks CF CW H a d gv) (s : Same H H') : WdIs ks CF CW H' a d gv := by
  obtain ⟨f, dx, D, h1, h2, h3, h4⟩ := h.ex
  exact ⟨⟨f, dx, D, s _ _ h1, s _ _ h2, h3, h4.same s⟩, h.ok, h.t1, h.t3⟩
theorem WdIs.ins {ks : Kinds} {CF CW : Addr} {H : Hp} {a : Addr} {d : FrD} {gv : List (Str × Int)} (h : WdIs ks CF CW H a d gv) : ∃ dx fs, H a = some (.ins CW dx fs) := by
  obtain ⟨f, dx, D, h1, _⟩ := h.ex
  exact ⟨dx, _, h1⟩
def spWdI (ks : Kinds) (CF CW : Addr) : Sp := fun vs H Q _ => ∃ a dx f L d gv, vs = [.ref a, .ref f, .ref L] ∧ H a = some (.ins CW dx []) ∧ FrIs ks CF H f d ∧ H L = some (.dK (gv.map lvRow)) ∧ LvOk ks d gv ∧
  ∀ D H', H' a = some (.ins CW dx (wdF f D)) → H' D = some (.dK ((lvAll ks d gv).map lvRow)) → D ≠ a → But H H' a → Q .non H'
structure WiT6 (P : Program) (w : World) (K : PySem.W.Frag) (mg : Str → Option Value) (base : Heap) (ks : Kinds) (CF CW : Addr) : Prop where
  cl : Cls K CW
  nF : NoAttr K CW "frame"
  nL : NoAttr K CW "_levels"
  dl : ∃ f fd, mg "driver_levels" = some (.ref f) ∧ PySem.W.keepIn K (.ref f) = true ∧ Binds K fd ["frame", "levels"] [] ∧ FnOk P w K mg base CX0 5 f fd ["frame", "levels"] (spDL ks CF)
theorem scWdI : FnScope ["self", "frame", "levels"] ["self", "frame", "levels"] (defScope (sWd 0)) := ⟨rfl, rfl, rfl, by decide +kernel, rfl, by decide +kernel, by decide +kernel⟩
section
variable {P : Program} {w : World} {K : PySem.W.Frag} {mg : Str → Option Value} {base : Heap}
theorem FrIs.setIns {ks : Kinds} {CF CW : Addr} {H : Hp} {a f dx : Addr} {d : FrD} {fs gs : List (Str × V)} (h : FrIs ks CF H f d) (ha : H a = some (.ins CW dx fs)) (hc : CW ≠ CF) (hk : CW ≠ ks.drv) (hl : CW ≠ ks.lis) : FrIs ks CF (upd H a (.ins CW dx gs)) f d := by
  obtain ⟨dy, D, h1, h2, h3⟩ := h.at_
  have e1 : f ≠ a := fun z => by
    rw [z, ha] at h1
    injection Option.some.inj h1 with q
    exact hc q
  have e2 : D ≠ a := ne_of h2 ha (by intro z; cases z)
  refine ⟨⟨dy, D, by rw [upd_ne e1]; exact h1, by rw [upd_ne e2]; exact h2, h3⟩, fun r hr => ?_, h.nd, h.le, h.so⟩
  obtain ⟨c, dz, e⟩ := h.ok r hr
  have e3 : r.a ≠ a := fun z => by
    rw [z, ha] at e
    injection Option.some.inj e with q
    rcases c with c | c
    · exact hk (q.trans c)
    · exact hl (q.trans c)
  exact ⟨c, dz, by rw [upd_ne e3]; exact e⟩
theorem body_wdI {CF CW f : Addr} {ks : Kinds} (T : WiT6 P w K mg base ks CF CW) (hc : CW ≠ CF) (hk : CW ≠ ks.drv) (hl : CW ≠ ks.lis) (cdv : Value) (A : Around) (outer : List Env) (s : Shared) (H : Hp) (vs : List V) (Q : VK) (E : XK)
    (hr : Room 5 (A.deeper (PyProof.Rows.envOfC "Word.__init__" (defScope (sWd 0)) s.heap.objs.size f cdv))) (h : spWdI ks CF CW vs H Q E) :
    ∃ t, PSs (cxOf CX0 P w K mg base ["self", "frame", "levels"] "Word.__init__" (defScope (sWd 0)) f cdv A outer s H E) (defBody (sWd 0)) t ∧ t { nx := fun _ H' => Q .non H', rt := Q } (start ["self", "frame", "levels"] vs) H := by
  obtain ⟨fD, fdD, mD, kD, bD, GD⟩ := T.dl
  obtain ⟨a, dx, fr, L, d, gv, rfl, ha, hF, hL, ok, k⟩ := h
  refine ⟨_, pss_cons (ps_fld (pv 0) (pv 1) rfl) (pss_one (ps_fld (pv 0) (pe_call GD hr rfl mD kD bD .nil pass0 (pa_cons (pv 1) (pa_cons (pv 2) pa_nil))) rfl)), ?_⟩
  refine ⟨_, rfl, _, rfl, a, CW, dx, _, rfl, ha, T.cl, T.nF, by show 0 < 1000; decide, ?_⟩
  have nL : L ≠ a := ne_of hL ha (by intro z; cases z)
  refine ⟨_, rfl, _, rfl, fr, L, d, gv, rfl, hF.setIns ha hc hk hl, by rw [upd_ne nL]; exact hL, ok, fun D H1 hD hv s1 => ?_⟩
  have ha1 := s1 _ _ upd_same
  have nD : D ≠ a := fun z => by rw [z, upd_same] at hD; cases hD
  refine ⟨_, rfl, a, CW, dx, _, rfl, ha1, T.cl, T.nL, by show 1 < 1000; decide, ?_⟩
  refine k D _ upd_same (by rw [upd_ne nD]; exact hv) nD fun b o hb e => ?_
  rw [upd_ne hb]
  exact s1 _ _ (by rw [upd_ne hb]; exact e)
theorem ok_wdI {CF CW f : Addr} {fd : FuncData} {ks : Kinds} (F : Fun K "__init__" "Word.__init__" (sWd 0) f fd) (T : WiT6 P w K mg base ks CF CW) (hc : CW ≠ CF) (hk : CW ≠ ks.drv) (hl : CW ≠ ks.lis) (qs : List Str) (hq : qs.Nodup) (hql : qs.length ≤ 1000)
    (hb : ∀ (kV doc pm : Value) (an : Option Addr) (cdv ct : Value) (us ws : List Value), us.length = 2 → ws.length = qs.length →
      bindArgs (PySem.W.fnOf "__init__" "Word.__init__" (defArgs (sWd 0)) (defBody (sWd 0)) (defScope (sWd 0)) .none kV doc pm an cdv ct) ⟨us, qs.zip ws⟩ =
        ((alloc ({ cls := .type "dict", data := .dict #[] } : Obj) : Sem Addr) >>= fun d => (forIn (qs.zip ws) PUnit.unit fun x _ => (nsSet d x.1 x.2 >>= fun _ => pure (ForInStep.yield PUnit.unit))) >>= fun _ => pure ((["self", "frame"] : List Str).zip us ++ [(("levels" : Str), Value.ref d)]))) :
    FnK P w K mg base CX0 6 f qs (spKw 2 qs (spWdI ks CF CW)) :=
  fn_kwD (ps := ["self", "frame"]) (pd := "levels") F scWdI StX.cxUp_none qs hq hql hb (fun cdv A outer s H vs Q E hr h => body_wdI T hc hk hl cdv A outer s H vs Q E hr h)
theorem wdI_b0 (kV doc pm : Value) (an : Option Addr) (cdv ct : Value) (us ws : List Value) (h1 : us.length = 2) (h2 : ws.length = ([] : List Str).length) :
    bindArgs (PySem.W.fnOf "__init__" "Word.__init__" (defArgs (sWd 0)) (defBody (sWd 0)) (defScope (sWd 0)) .none kV doc pm an cdv ct) ⟨us, ([] : List Str).zip ws⟩ =
        ((alloc ({ cls := .type "dict", data := .dict #[] } : Obj) : Sem Addr) >>= fun d => (forIn (([] : List Str).zip ws) PUnit.unit fun x _ => (nsSet d x.1 x.2 >>= fun _ => pure (ForInStep.yield PUnit.unit))) >>= fun _ => pure ((["self", "frame"] : List Str).zip us ++ [(("levels" : Str), Value.ref d)])) := by
  match us, ws, h1, h2 with
  | [_, _], [], _, _ => rfl
end
end Sj
namespace Sj
open PySem L2 Sup StK Own Shw Exg Grd
open NdefX (NF NScope ncx envF startF nscope_by)
open C8 (pss_cut tCut)
/-! Word.of, rest, lone (k06, ..) -/
/-- a word is made by keywords -/
theorem wd_rd {ks : Kinds} {CF CW f : Addr} {d : FrD} {qs : List Str} {zs : List V} {gv : List (Str × Int)} {H : Hp} {Q : VK} {E : XK} (hz : kwRows qs zs = gv.map lvRow) (hF : FrIs ks CF H f d) (ok : LvOk ks d gv)
    (k : ∀ a dx D H', H a = none → H' a = some (.ins CW dx (wdF f D)) → H' D = some (.dK ((lvAll ks d gv).map lvRow)) → D ≠ a → Same H H' → Q (.ref a) H') : spMk CW (spKw 2 qs (spWdI ks CF CW)) E [.ref f] zs H Q := by
  intro x dx hx hdx hne
  obtain ⟨H1, e1⟩ : ∃ H1, H1 = upd (upd H dx (.own x)) x (.ins CW dx []) := ⟨_, rfl⟩
  have s1 : Same H H1 := fun b o e => by rw [e1, upd_ne (ne_of_none e hx), upd_ne (ne_of_none e hdx)]; exact e
  have hx1 : H1 x = some (.ins CW dx []) := by rw [e1, upd_same]
  rw [← e1]
  refine ⟨rfl, fun p hp => ?_⟩
  have s2 := same_at (o := .dK (kwRows qs zs)) hp
  refine ⟨x, dx, f, p, d, gv, rfl, s2 _ _ hx1, hF.same (s1.trans s2), by rw [upd_same, hz], ok, fun D H' h1 h2 h3 b => ⟨rfl, k x dx D H' hx h1 h2 h3 fun c o e => ?_⟩⟩
  exact b c o (ne_of_none e hx) (s2 _ _ (s1 _ _ e))
/-- the word stands on its own: what is done to a dict that was there before does not touch it -/
def spWOf (ks : Kinds) (CF CW : Addr) : Sp := fun vs H Q _ => ∃ f L d gv, vs = [.ref CW, .ref f, .ref L] ∧ FrIs ks CF H f d ∧ H L = some (.dK (gv.map lvRow)) ∧ LvOk ks d gv ∧ 1 ≤ d.t ∧ d.t ≤ 3 ∧ ∀ a H', H a = none → WdIs ks CF CW H' a d gv → Same H H' → (∀ q kvs H0 H'', Same H0 H → H0 q = none → FrIs ks CF H0 f d → H q = some (.dK kvs) → But H' H'' q → WdIs ks CF CW H'' a d gv) → Q (.ref a) H'
def spWRest (ks : Kinds) (CF CW : Addr) : Sp := fun vs H Q _ => ∃ f d, vs = [.ref CW, .ref f] ∧ FrIs ks CF H f d ∧ 1 ≤ d.t ∧ d.t ≤ 3 ∧ ∀ a H', H a = none → WdIs ks CF CW H' a d [] → Same H H' → Q (.ref a) H'
/-- Word(frame) -/
structure WmT (P : Program) (w : World) (K : PySem.W.Frag) (mg : Str → Option Value) (base : Heap) (ks : Kinds) (CF CW fW : Addr) : Prop where
  i : WiT6 P w K mg base ks CF CW
  mkc : Mk K CW fW
  rest : FnK P w K mg base CX0 6 fW [] (spKw 2 [] (spWdI ks CF CW))
theorem lv_nil {ks : Kinds} {d : FrD} : LvOk ks d [] := ⟨by decide, fun p hp => by cases hp⟩
section
variable {P : Program} {w : World} {K : PySem.W.Frag} {mg : Str → Option Value} {base : Heap}
theorem ok_wof {CF CW fW f : Addr} {fd : FuncData} {ks : Kinds} (F : Fun K "of" "Word.of" (sWd 1) f fd) (T : WmT P w K mg base ks CF CW fW) : FnOk P w K mg base CX0 8 f fd ["cls", "frame", "levels"] (spWOf ks CF CW) := by
  obtain ⟨fD, fdD, mD, kD, bD, GD⟩ := T.i.dl
  have sc : FnScope ["cls", "frame", "levels", "checked", "word"] ["cls", "frame", "levels"] (defScope (sWd 1)) := ⟨rfl, rfl, rfl, by decide +kernel, rfl, by decide +kernel, by decide +kernel⟩
  refine F.ok sc (fun vs H Q E h => ?_) (fun cdv A outer s H vs Q E hr h => ?_)
  · obtain ⟨f, L, d, gv, rfl, _⟩ := h
    rfl
  · obtain ⟨f, L, d, gv, rfl, hF, hL, ok, t1, t3, k⟩ := h
    refine ⟨_, pss_cons (ps_set (i := 3) sc.nd rfl (Or.inl rfl) (pe_call GD (hr.mono (by decide)) rfl mD kD bD .nil pass0 (pa_cons (pv 1) (pa_cons (pv 2) pa_nil))))
      (pss_cons (ps_set (i := 4) sc.nd rfl (Or.inl rfl) (pe_makeC T.mkc T.rest hr pass0 (pv 0) (pa_cons (pv 1) pa_nil) pk_nil))
      (pss_cons (ps_fld (pv 4) (pv 3) rfl) (pss_one (ps_ret (pv 4))))), ?_⟩
    refine ⟨_, rfl, _, rfl, f, L, d, gv, rfl, hF, hL, ok, fun D H1 hD hv s1 => ?_⟩
    refine ⟨_, rfl, rfl, _, rfl, rfl, wd_rd (gv := []) rfl (hF.same s1) lv_nil fun a dx D0 H2 ha h1 h2 h3 s2 => ?_⟩
    refine ⟨_, rfl, _, rfl, a, CW, dx, _, rfl, h1, T.i.cl, T.i.nL, by show 2 < 1000; decide, ?_⟩
    rw [wdF_put]
    have nD : D ≠ a := fun z => by rw [z] at hv; rw [hv] at ha; cases ha
    have ha0 : H a = none := s1.free ha
    have s3 : ∀ {o : HO}, Same H1 (upd H2 a o) := fun {o} b u e => by rw [upd_ne (ne_of_none e ha)]; exact s2 _ _ e
    refine ⟨_, rfl, k a _ ha0 ⟨⟨f, dx, D, upd_same, by rw [upd_ne nD]; exact s2 _ _ hv, nD, hF.same (s1.trans s3)⟩, ok, t1, t3⟩ (s1.trans s3) fun q kvs H0 H'' s0 hq0 hF0 hq bq => ?_⟩
    have qa : a ≠ q := fun z => by rw [← z, ha0] at hq; cases hq
    have qD : D ≠ q := fun z => by rw [← z, hD] at hq; cases hq
    exact ⟨⟨f, dx, D, bq _ _ qa upd_same, bq _ _ qD (by rw [upd_ne nD]; exact s2 _ _ hv), nD, hF0.same fun b u e => bq _ _ (ne_of_none e hq0) (s3 _ _ (s1 _ _ (s0 _ _ e)))⟩, ok, t1, t3⟩
theorem ok_wrest {CF CW fW f : Addr} {fd : FuncData} {ks : Kinds} (F : Fun K "rest" "Word.rest" (sWd 2) f fd) (T : WmT P w K mg base ks CF CW fW) : FnOk P w K mg base CX0 8 f fd ["cls", "frame"] (spWRest ks CF CW) := by
  have sc : FnScope ["cls", "frame"] ["cls", "frame"] (defScope (sWd 2)) := ⟨rfl, rfl, rfl, by decide +kernel, rfl, by decide +kernel, by decide +kernel⟩
  refine F.ok sc (fun vs H Q E h => ?_) (fun cdv A outer s H vs Q E hr h => ?_)
  · obtain ⟨f, d, rfl, _⟩ := h
    rfl
  · obtain ⟨f, d, rfl, hF, t1, t3, k⟩ := h
    refine ⟨_, pss_one (ps_ret (pe_makeC T.mkc T.rest hr pass0 (pv 0) (pa_cons (pv 1) pa_nil) pk_nil)), ?_⟩
    exact ⟨_, rfl, rfl, _, rfl, rfl, wd_rd (gv := []) rfl hF lv_nil fun a dx D0 H2 ha h1 h2 h3 s2 => k a H2 ha ⟨⟨f, dx, D0, h1, h2, h3, hF.same s2⟩, lv_nil, t1, t3⟩ s2⟩
end
end Sj
/-! bool(t), t a tuple; bool(o), o an instance with its own __bool__ -/
namespace Sup
open PySem PySem.Spec PyProof.Rows L2
end Sup
/-! o in (None, "a", (..), {..}) by its __eq__ -/
namespace Own
open PySem PySem.Spec PyProof.Rows L2 Sup Grd
/-- None, a text, a tuple, a dict -/
inductive OddM (K : PySem.W.Frag) (H : Hp) : V → Prop
  | non : OddM K H .non
  | tup {t : Addr} {xs : List V} : SqT K H t xs → OddM K H (.ref t)
  | str (z : Str) : OddM K H (.str z)
  | dic {t : Addr} {kvs : List (Key × V)} : H t = some (.dK kvs) → OddM K H (.ref t)
theorem OddM.same {K : PySem.W.Frag} {H H' : Hp} {x : V} (h : OddM K H x) (s : Same H H') : OddM K H' x := by
  cases h with
  | non => exact .non
  | tup q => exact .tup (SqT.ext q s)
  | str z => exact .str z
  | dic q => exact .dic (s _ _ q)
end Own
/-! == of two dicts of ints with the same keys -/
namespace Own
open PySem PySem.Spec PyProof.Rows L2 Sup
end Own
namespace Sj
open PySem L2 Sup StK Own Shw Exg Grd
open NdefX (NF NScope ncx envF startF nscope_by)
open C8 (pss_cut tCut)
/-! Word: low, bool, == (k06, ..) -/
theorem lvAll_len (ks : Kinds) (d : FrD) (gv : List (Str × Int)) : (lvAll ks d gv).length = (kindZ ks true d.ys).length := List.length_map _
/-- what a word asks of its frame -/
structure WfT (P : Program) (w : World) (K : PySem.W.Frag) (mg : Str → Option Value) (base : Heap) (ks : Kinds) (CF CW : Addr) : Prop where
  cw : Cls K CW
  nF : NoAttr K CW "frame"
  nL : NoAttr K CW "_levels"
  cf : Cls K CF
  nT : NoAttr K CF "top"
  tuple : mg "tuple" = none
  bool : mg "bool" = none
section
variable {P : Program} {w : World} {K : PySem.W.Frag} {mg : Str → Option Value} {base : Heap}
/-! == -/
theorem eqFr_parts {d e : FrD} (h : eqFr d e = true) : d.t = e.t ∧ d.g = e.g ∧ d.r = e.r ∧ eqLegs d.ys e.ys = true := by
  unfold eqFr at h
  rw [Bool.and_eq_true, Bool.and_eq_true, Bool.and_eq_true, decide_eq_true_eq, decide_eq_true_eq, decide_eq_true_eq] at h
  exact ⟨h.1.1, h.1.2.1, h.1.2.2, h.2⟩
theorem eqLegs_sub {ys zs : List LegR} (h : eqLegs ys zs = true) {p : LegR} (hp : p ∈ ys) : ∃ q ∈ zs, q.z = p.z ∧ q.C = p.C := by
  unfold eqLegs at h
  rw [Bool.and_eq_true] at h
  obtain ⟨q, hq, e⟩ := List.any_eq_true.mp (List.all_eq_true.mp h.2 p hp)
  rw [Bool.and_eq_true, decide_eq_true_eq, decide_eq_true_eq] at e
  exact ⟨q, hq, e.1, e.2⟩
theorem sub_all : ∀ {ys zs : List Str}, ys.Nodup → ys ⊆ zs → zs.length ≤ ys.length → ∀ z ∈ zs, z ∈ ys
  | [], zs, _, _, hl, z, hz => by
    rw [List.length_eq_zero_iff.mp (Nat.le_zero.mp hl)] at hz
    exact hz
  | y :: ys, zs, hn, hs, hl, z, hz => by
    obtain ⟨h1, h2⟩ := List.nodup_cons.mp hn
    have hy : y ∈ zs := hs List.mem_cons_self
    have pm := List.perm_cons_erase hy
    have ih := sub_all (ys := ys) (zs := zs.erase y) h2 (fun x hx => by
      have : x ∈ y :: zs.erase y := pm.mem_iff.mp (hs (List.mem_cons_of_mem _ hx))
      exact (List.mem_cons.mp this).resolve_left fun e => h1 (e ▸ hx)) (by
      have := pm.length_eq
      rw [List.length_cons] at this
      rw [List.length_cons] at hl
      omega)
    rcases List.mem_cons.mp (pm.mem_iff.mp hz) with e | e
    · rw [e]
      exact List.mem_cons_self
    · exact List.mem_cons_of_mem _ (ih z e)
theorem eqLegs_names {ys zs : List LegR} (h : eqLegs ys zs = true) (n1 : (names ys).Nodup) (n2 : (names zs).Nodup) : (names ys).Perm (names zs) := by
  have hl : (names ys).length = (names zs).length := by
    unfold eqLegs at h
    rw [Bool.and_eq_true, beq_iff_eq] at h
    unfold names
    rw [List.length_map, List.length_map]
    exact h.1
  have sub : names ys ⊆ names zs := fun z hz => by
    obtain ⟨p, hp, rfl⟩ := List.mem_map.mp hz
    obtain ⟨q, hq, e, _⟩ := eqLegs_sub h hp
    exact List.mem_map.mpr ⟨q, hq, e⟩
  exact (List.perm_ext_iff_of_nodup n1 n2).mpr fun z => ⟨fun h => sub h, fun h => sub_all n1 sub (Nat.le_of_eq hl.symm) z h⟩
theorem eqLegs_kindZ {ks : Kinds} {ys zs : List LegR} (h : eqLegs ys zs = true) (n1 : (names ys).Nodup) (n2 : (names zs).Nodup) (s1 : PyProof.Rows.sortedS (names ys) = true) (s2 : PyProof.Rows.sortedS (names zs) = true) : kindZ ks true ys = kindZ ks true zs := by
  have pm := eqLegs_names h n1 n2
  refine OrdS.pw_uniq ?_ ((OrdS.sorted_pw s1).sublist (List.Sublist.map _ List.filter_sublist)) ((OrdS.sorted_pw s2).sublist (List.Sublist.map _ List.filter_sublist))
  refine (List.perm_ext_iff_of_nodup (kind_nd n1) (kind_nd n2)).mpr fun z => ⟨fun hz => ?_, fun hz => ?_⟩
  · obtain ⟨p, hp, e1, e2⟩ := kind_leg hz
    obtain ⟨q, hq, e3, e4⟩ := eqLegs_sub h hp
    refine List.mem_map.mpr ⟨q, List.mem_filter.mpr ⟨hq, ?_⟩, e3.trans e1⟩
    rw [beq_true, decide_eq_true_eq]
    exact e4.trans e2
  · obtain ⟨q, hq, e1, e2⟩ := kind_leg hz
    have hz' : z ∈ names ys := pm.mem_iff.mpr (List.mem_map.mpr ⟨q, hq, e1⟩)
    obtain ⟨p, hp, e3⟩ := List.mem_map.mp hz'
    obtain ⟨q', hq', e4, e5⟩ := eqLegs_sub h hp
    have : q = q' := by
      have f1 := find_nd n2 hq
      have f2 := find_nd n2 hq'
      rw [e4, e3, ← e1] at f2
      exact Option.some.inj (f1.symm.trans f2)
    refine List.mem_map.mpr ⟨p, List.mem_filter.mpr ⟨hp, ?_⟩, e3⟩
    rw [beq_true, decide_eq_true_eq]
    rw [← e5, ← this]
    exact e2
end
end Sj
namespace Sj
open PySem L2 Sup StK Own Shw Exg Grd
open NdefX (NF NScope ncx envF startF nscope_by)
open C8 (pss_cut tCut)
/-! Word: str, repr, [] (k06, ..) -/
theorem lvG_nd : ∀ {lv : List (Str × Int)} {p : Str × Int}, (lv.map (·.1)).Nodup → p ∈ lv → lvG lv p.1 = some p.2
  | q :: lv, p, hn, hp => by
    rw [List.map_cons, List.nodup_cons] at hn
    unfold lvG
    rcases List.mem_cons.mp hp with rfl | hp
    · exact if_pos rfl
    · rw [if_neg fun e => hn.1 (by rw [e]; exact List.mem_map.mpr ⟨p, hp, rfl⟩)]
      exact lvG_nd hn.2 hp
theorem lvAll_fst (ks : Kinds) (d : FrD) (gv : List (Str × Int)) : (lvAll ks d gv).map (·.1) = kindZ ks true d.ys := by
  unfold lvAll
  rw [List.map_map]
  exact List.map_id _
end Sj
namespace Sj
open PySem L2 Sup StK Own Shw Exg Grd
open NdefX (NF NScope ncx envF startF nscope_by)
open C8 (pss_cut tCut)
/-! Word: [] (k06, ..) -/
/-- what an element is driven at, where it is no ground -/
def wlv (ks : Kinds) (d : FrD) (gv : List (Str × Int)) (z : Str) : Int := lvl (lvAll ks d gv) d.t z
theorem lvG_cons (p : Str × Int) (r : List (Str × Int)) (z : Str) : lvG (p :: r) z = if p.1 = z then some p.2 else lvG r z := rfl
theorem lvl_all (gv : List (Str × Int)) (t : Int) : ∀ (zs : List Str) (z : Str), lvl (zs.map fun z => (z, lvl gv t z)) t z = if z ∈ zs then lvl gv t z else t
  | [], z => rfl
  | y :: zs, z => by
    have ih := lvl_all gv t zs z
    unfold lvl at ih ⊢
    rw [List.map_cons, lvG_cons]
    by_cases e : y = z
    · rw [if_pos e, if_pos (by rw [e]; exact List.mem_cons_self), e]
      rfl
    · rw [if_neg e, ih]
      have h2 : (z ∈ y :: zs) = (z ∈ zs) := propext ⟨fun h => (List.mem_cons.mp h).resolve_left fun q => e q.symm, fun h => List.mem_cons_of_mem _ h⟩
      simp only [h2]
theorem wlv_eq (ks : Kinds) (d : FrD) (gv : List (Str × Int)) (z : Str) : wlv ks d gv z = if z ∈ kindZ ks true d.ys then lvl gv d.t z else d.t := lvl_all gv d.t _ z
def spWGet (K : PySem.W.Frag) (ks : Kinds) (CF CW CN : Addr) : Sp := fun vs H Q E => ∃ a d gv x, vs = [.ref a, x] ∧ WdIs ks CF CW H a d gv ∧ ((∃ z ∈ names d.ys, x = .str z ∧ Q (.int (wlv ks d gv z)) H) ∨
  (∃ z ∈ railsZ d.g d.r, x = .str z ∧ z ∉ names d.ys ∧ ∀ H', Same H H' → Q (.int (if z = "ground" then 0 else d.t)) H') ∨
  (NotLeg K H x d ∧ InS K H (railsZ d.g d.r) x false ∧ ∃ pd, Dq K H x pd ∧ Smalls pd ∧ ∀ e H', H e = none → H' e = some (.xd [("name", x)]) → Same H H' → E (.ref CN) (some e) H'))
structure WgT (P : Program) (w : World) (K : PySem.W.Frag) (mg : Str → Option Value) (base : Heap) (ks : Kinds) (CF CW CN fN : Addr) : Prop where
  f : WfT P w K mg base ks CF CW
  in_ : MetN P w K mg base CX0 1 CF "__contains__" ["self", "x"] (spFIs K ks CF)
  rails : PropN P w K mg base 1 CF "rails" (spTup ks CF fun d => railsZ d.g d.r)
  nl : NlT P w K mg base CN fN
section
variable {P : Program} {w : World} {K : PySem.W.Frag} {mg : Str → Option Value} {base : Heap}
theorem ok_wget {f CF CW CN fN : Addr} {fd : FuncData} {ks : Kinds} (F : Fun K "__getitem__" "Word.__getitem__" (sWd 5) f fd) (T : WgT P w K mg base ks CF CW CN fN) : FnG P w K mg base (L2.CX P w) 3 f fd ["self", "at"] (spWGet K ks CF CW CN) := by
  obtain ⟨fdN, GN, bN⟩ := T.nl.init
  have sc : FnScope ["self", "at"] ["self", "at"] (defScope (sWd 5)) := ⟨rfl, rfl, rfl, by decide +kernel, rfl, by decide +kernel, by decide +kernel⟩
  refine fun_gX F sc (fun vs H Q E h => ?_) (fun cdv A outer s H vs Q E hg hr h => ?_)
  · obtain ⟨a, d, gv, x, rfl, _⟩ := h
    rfl
  · obtain ⟨a, d, gv, x, rfl, hW, h⟩ := h
    obtain ⟨fr, dx, D, ea, eD, hne, hF⟩ := hW.ex
    obtain ⟨dy, DD, ef, _⟩ := hF.at_
    have hu0 : ∀ {X : Cx} , Room 2 X.A → X.A.in1.units < cLine := fun {X} h => (Room.in1 (k := 1) h).units0
    refine ⟨_, pss_cons (ps_if (pt_cmpR (op_inN T.in_ (hr.mono (by decide))) (pv 1) (pe_fld (pv 0) rfl) (by rfl)) (pss_one (ps_ret (pe_dget2 (hu_of hr) (pe_fld (pv 0) rfl) (pv 1) (pe_fld (pe_fld (pv 0) rfl) rfl) ⟨rfl, rfl, rfl, rfl⟩))) pss_nil)
      (pss_cons (ps_if (pt_cmpR (op_notInS (hu0 hr)) (pv 1) (pe_propS (S := fun C => C = CF) (spP := fun _ => spTup ks CF fun d => railsZ d.g d.r) (pe_fld (pv 0) rfl) (fun C e => by rw [e]; exact T.rails) hr) (by rfl)) (pss_one (ps_raise rfl (takes_of rfl rfl rfl rfl) (pmk_e bL T.nl.oex T.nl.iC T.nl.tI GN hg hr bN rfl T.nl.mN (pa_cons (pv 1) pa_nil)))) pss_nil)
      (pss_one (ps_ret (pe_ifExp (pt_cmpR op_eq (pv 1) pe_str (nomark _)) pe_int (pe_fld (pe_fld (pv 0) rfl) rfl))))), ?_⟩
    refine ⟨_, rfl, _, rfl, a, CW, dx, _, _, rfl, ea, T.f.cw, T.f.nF, wdF_frame _ _, ?_⟩
    refine ⟨fr, dy, _, rfl, ef, fr, d, x, rfl, hF, ?_⟩
    rcases h with ⟨z, hz, rfl, k⟩ | ⟨z, hz, rfl, hn, k⟩ | ⟨hn, hi, pd, hpd, sm, k⟩
    · refine .inl ⟨z, rfl, hz, true, rfl, _, rfl, iteT ?_⟩
      refine ⟨_, rfl, a, CW, dx, _, _, rfl, ea, T.f.cw, T.f.nL, wdF_lv _ _, D, rfl, .inl ⟨_, .inl eD⟩, _, rfl, _, rfl, a, CW, dx, _, _, rfl, ea, T.f.cw, T.f.nF, wdF_frame _ _, fr, CF, dy, _, _, rfl, ef, T.f.cf, T.f.nT, frF_top _ _ _ _, _, DGet.k (k := Sum.inr z) eD, ?_⟩
      rw [valV_lv]
      have e2 : (Option.map V.int (lvG (lvAll ks d gv) z)).getD (.int d.t) = .int (wlv ks d gv z) := by
        unfold wlv lvl
        cases lvG (lvAll ks d gv) z <;> rfl
      rw [e2]
      exact k
    · refine .inr ⟨.inl ⟨z, rfl, hn⟩, false, rfl, _, rfl, iteF ?_⟩
      refine ⟨_, rfl, _, rfl, a, CW, dx, _, _, rfl, ea, T.f.cw, T.f.nF, wdF_frame _ _, fr, CF, dy, _, rfl, ef, rfl, fr, d, rfl, hF, fun p H1 hp hv s1 => ?_⟩
      refine ⟨p, _, true, rfl, SqT.of hv, by rw [← decide_eq_true hz]; exact .str z, _, rfl, iteF ?_⟩
      refine ⟨_, rfl, rfl, _, rfl, ?_⟩
      by_cases e : z = "ground"
      · rw [decide_eq_true (show V.str z = V.str "ground" by rw [e])]
        refine iteT ?_
        have := k H1 s1
        rw [if_pos e] at this
        exact this
      · rw [decide_eq_false (show ¬ V.str z = V.str "ground" from fun q => e (V.str.inj q))]
        refine iteF ⟨_, rfl, a, CW, dx, _, _, rfl, s1 _ _ ea, T.f.cw, T.f.nF, wdF_frame _ _, fr, CF, dy, _, _, rfl, s1 _ _ ef, T.f.cf, T.f.nT, frF_top _ _ _ _, ?_⟩
        have := k H1 s1
        rw [if_neg e] at this
        exact this
    · refine .inr ⟨hn, false, rfl, _, rfl, iteF ?_⟩
      refine ⟨_, rfl, _, rfl, a, CW, dx, _, _, rfl, ea, T.f.cw, T.f.nF, wdF_frame _ _, fr, CF, dy, _, rfl, ef, rfl, fr, d, rfl, hF, fun p H1 hp hv s1 => ?_⟩
      refine ⟨p, _, false, rfl, SqT.of hv, inS_same hi s1, _, rfl, iteT ?_⟩
      have hpd1 := Dq.same s1 _ _ hpd
      exact raise_one (fun Q' q => ⟨_, rfl, q⟩) hpd1 sm (Same.refl H1) (fun b hb => Dq.same (same_at hb) _ _ hpd1) fun e H' he hx s2 => k e H' (s1.free he) hx (s1.trans s2)
end
end Sj
namespace Sj
open PySem L2 Sup StK Own Shw Exg
open NdefX (NF NScope ncx envF startF nscope_by)
open C8 (pss_cut tCut)
/-! xs != [] of a list of anything; what a frame tells of a plain one -/
def rNeNil : R2 := fun x y H Q => ∃ a b xs, x = .ref a ∧ y = .ref b ∧ H a = some (.lst xs) ∧ H b = some (.lst []) ∧ Q (.bl (!xs.isEmpty)) H
theorem op_neNil {X : Cx} (hu : X.A.units + 64 < cLine) : OpR X (compareOp .NotEq) rNeNil := by
  intro pins s σ H x y v u Q I rx ry h
  obtain ⟨a, b, xs, rfl, rfl, ha, hb, q⟩ := h
  cases xs with
  | nil => exact op_neD hu pins s σ H _ _ v u Q I rx ry ⟨.list [], .list [], .lst (SqL.of ha) .nil, .lst (SqL.of hb) .nil, rfl, rfl, q⟩
  | cons y ys =>
    obtain rfl : v = Value.ref a := rx
    obtain rfl : u = Value.ref b := ry
    obtain ⟨its, r1, p1, _⟩ := I.list (SqL.of ha)
    obtain ⟨it2, r2, p2, _⟩ := I.list (SqL.of hb)
    have e1 : its.toArray.size ≠ it2.toArray.size := by
      rw [List.size_toArray, List.size_toArray, ← r1.length, ← r2.length]
      exact Nat.succ_ne_zero _
    exact SeqAt.RcNeAt.lists_lengths p1.isList p2.isList (by simpa using e1) (Nat.lt_of_le_of_lt (Nat.le_add_right _ _) hu) _ _ _ _ ⟨.bl true, H, I, rfl, q⟩
/-- the frame is the one that is told -/
structure Told (ks : Kinds) (ys : List LegR) (d : BareD) : Prop where
  nm : ∀ zs : List Str, zs.Perm (d.ds ++ d.ls) → PyProof.Rows.sortedS zs = true → zs = names ys
  dr : kindZ ks true ys = d.ds
  li : kindZ ks false ys = d.ls
  pm : (names ys).Perm (d.ds ++ d.ls)
theorem told_of {ks : Kinds} {ys : List LegR} {d : BareD} (ok : d.ok) (hne : ks.drv ≠ ks.lis) (so : PyProof.Rows.sortedS (names ys) = true) (h : KindsOf ks ys d.ds d.ls) : Told ks ys d := by
  obtain ⟨rs1, rs2, hp, e1, e2, c1, c2⟩ := h
  have pm : (names ys).Perm (d.ds ++ d.ls) := by
    have : (names ys).Perm (names (rs1 ++ rs2)) := hp.map _
    rwa [names_append, e1, e2] at this
  have pwn := OrdS.sorted_pw so
  have fil : ∀ b, (kindZ ks b ys).Perm (if b then d.ds else d.ls) ∧ (kindZ ks b ys).Pairwise OrdS.Le := fun b => by
    refine ⟨?_, pwn.sublist (List.Sublist.map _ List.filter_sublist)⟩
    have q : (kindZ ks b ys).Perm (names ((rs1 ++ rs2).filter fun r => decide (r.C = ks.drv) == b)) := (hp.filter _).map _
    rw [List.filter_append, names_append] at q
    have f1 : rs1.filter (fun r => decide (r.C = ks.drv) == b) = if b then rs1 else [] := by
      cases b with
      | true => exact List.filter_eq_self.mpr fun r hr => by rw [decide_eq_true (c1 r hr)]; rfl
      | false => exact List.filter_eq_nil_iff.mpr fun r hr => by rw [decide_eq_true (c1 r hr)]; simp
    have f2 : rs2.filter (fun r => decide (r.C = ks.drv) == b) = if b then [] else rs2 := by
      have hn : ∀ r ∈ rs2, decide (r.C = ks.drv) = false := fun r hr => decide_eq_false fun z => hne (by rw [← z, c2 r hr])
      cases b with
      | true => exact List.filter_eq_nil_iff.mpr fun r hr => by rw [hn r hr]; simp
      | false => exact List.filter_eq_self.mpr fun r hr => by rw [hn r hr]; rfl
    rw [f1, f2] at q
    cases b with
    | true => rw [if_pos rfl, if_pos rfl, e1, show names [] = [] from rfl, List.append_nil] at q; exact q
    | false => rw [if_neg Bool.false_ne_true, if_neg Bool.false_ne_true, e2, show names [] = [] from rfl, List.nil_append] at q; exact q
  exact ⟨fun zs hz hs => OrdS.uniq (hz.trans pm.symm) hs so, OrdS.pw_uniq (fil true).1 (fil true).2 ok.sd, OrdS.pw_uniq (fil false).1 (fil false).2 ok.sl, pm⟩
/-! a list that is not empty -/
theorem eqLegs_of {ks : Kinds} {ys zs : List LegR} {ds ls : List Str} (h : KindsOf ks ys ds ls) (h' : KindsOf ks zs ds ls) : eqLegs ys zs = true := by
  obtain ⟨r1, r2, hp, e1, e2, c1, c2⟩ := h
  obtain ⟨q1, q2, hp', e1', e2', c1', c2'⟩ := h'
  have l1 : r1.length = q1.length := by
    have := congrArg List.length (e1.trans e1'.symm)
    unfold names at this
    rwa [List.length_map, List.length_map] at this
  have l2 : r2.length = q2.length := by
    have := congrArg List.length (e2.trans e2'.symm)
    unfold names at this
    rwa [List.length_map, List.length_map] at this
  have len : ys.length = zs.length := by rw [hp.length_eq, hp'.length_eq, List.length_append, List.length_append, l1, l2]
  unfold eqLegs
  rw [show (ys.length == zs.length) = true by rw [len]; exact beq_self_eq_true _, Bool.true_and]
  refine List.all_eq_true.mpr fun p hm => ?_
  have find : ∀ (rr qq : List LegR) (C : Addr), names rr = names qq → (∀ r ∈ rr, r.C = C) → (∀ r ∈ qq, r.C = C) → (∀ q ∈ qq, q ∈ zs) → p ∈ rr → (zs.any fun q => decide (q.z = p.z) && decide (q.C = p.C)) = true := fun rr qq C en hr hq hz hm => by
    have hn : p.z ∈ names qq := by rw [← en]; exact List.mem_map.mpr ⟨p, hm, rfl⟩
    obtain ⟨q, hqm, eq⟩ := List.mem_map.mp hn
    refine List.any_eq_true.mpr ⟨q, hz q hqm, ?_⟩
    rw [Bool.and_eq_true, decide_eq_true_eq, decide_eq_true_eq]
    exact ⟨eq, (hq q hqm).trans (hr p hm).symm⟩
  rcases List.mem_append.mp (hp.mem_iff.mp hm) with h | h
  · exact find r1 q1 ks.drv (e1.trans e1'.symm) c1 c1' (fun q hq => hp'.mem_iff.mpr (List.mem_append_left _ hq)) h
  · exact find r2 q2 ks.lis (e2.trans e2'.symm) c2 c2' (fun q hq => hp'.mem_iff.mpr (List.mem_append_right _ hq)) h
theorem eqFr_self {d e : FrD} (h1 : d.t = e.t) (h2 : d.g = e.g) (h3 : d.r = e.r) (h4 : eqLegs d.ys e.ys = true) : eqFr d e = true := by
  unfold eqFr
  rw [h4, decide_eq_true h1, decide_eq_true h2, decide_eq_true h3]
  rfl
end Sj
namespace Sj
open PySem L2 Sup StK Own Shw Exg Grd
open NdefX (NF NScope ncx envF startF nscope_by)
open C8 (pss_cut tCut)
/-! k06: _law_lacking, _law_driven, _law_text -/
/-- a plain word's levels, as a dict of the law -/
def LvAt (H : Hp) (L : Addr) (gv : List (Str × Int)) : Prop := H L = some (.dK (gv.map lvRow))
/-- levels within 0 and top, of drivers -/
def LvB (d : BareD) (gv : List (Str × Int)) : Prop := gv.length ≤ 60 ∧ (∀ p ∈ gv, p.1 ∈ d.ds ∧ 0 ≤ p.2 ∧ p.2 ≤ d.t)
end Sj
namespace Sj
open PySem L2 Sup StK Own Shw Exg Grd KepE
open NdefX (NF NScope ncx envF startF nscope_by)
open C8 (pss_cut tCut)
/-! k09: _law_parted -/
abbrev sPar : Stmt := top 45
abbrev nPar : List Str := ["_law_pen_here", "_law_bare_here", "_law_blocks_so", "_law_tag", "_law_at", "_law_joint"]
theorem scPar : FnScope nPar ["_law_pen_here", "_law_bare_here"] (defScope sPar) := ⟨rfl, rfl, rfl, by decide +kernel, rfl, by decide +kernel, by decide +kernel⟩
def memB (d : BareD) : List Str := d.ds ++ d.ls ++ railsZ d.g d.r
def refsL (Bl : List (Addr × List Str)) : List V := Bl.map fun x => V.ref x.1
theorem Pen.off {H H' : Hp} {p l D : Addr} {cs : List Int} {n : Nat} (h : Pen H p l cs n) (b : But H H' D) (hp : D ≠ p) (hl : D ≠ l) : Pen H' p l cs n := by
  obtain ⟨i, g, h1, h2, h3⟩ := h
  exact ⟨i, g, b _ _ hp.symm h1, b _ _ hl.symm h2, h3⟩
/-- lists of texts, each at its own address, apart from those in av -/
structure BlL (H : Hp) (q : Addr) (av : List Addr) (Bl : List (Addr × List Str)) : Prop where
  at_ : H q = some (.lst (refsL Bl))
  each : ∀ x ∈ Bl, H x.1 = some (.lst (strv x.2)) ∧ x.2 ≠ [] ∧ x.1 ≠ q ∧ x.1 ∉ av
  nd : (Bl.map (·.1)).Nodup
def NoBoth (Bl : List (Addr × List Str)) : Prop := ∀ x ∈ Bl, ¬ (("ground" : Str) ∈ x.2 ∧ ("power" : Str) ∈ x.2)
theorem BlL.but {H H' : Hp} {p q : Addr} {av : List Addr} {Bl : List (Addr × List Str)} (h : BlL H q av Bl) (b : But H H' p) (hq : q ≠ p) (hp : p ∈ av) : BlL H' q av Bl :=
  ⟨b _ _ hq h.at_, fun x hx => ⟨b _ _ (fun e => (h.each x hx).2.2.2 (by rw [e]; exact hp)) (h.each x hx).1, (h.each x hx).2⟩, h.nd⟩
theorem BlL.same {H H' : Hp} {q : Addr} {av : List Addr} {Bl : List (Addr × List Str)} (h : BlL H q av Bl) (s : Same H H') : BlL H' q av Bl := ⟨s _ _ h.at_, fun x hx => ⟨s _ _ (h.each x hx).1, (h.each x hx).2⟩, h.nd⟩
/-- one more block -/
theorem BlL.snoc {H : Hp} {q x : Addr} {av : List Addr} {Bl : List (Addr × List Str)} {z : Str} (h : BlL H q av Bl) (hx : H x = some (.lst [.str z])) (hn : x ∉ Bl.map (·.1)) (hq : x ≠ q) (ha : x ∉ av) : BlL (upd H q (.lst (refsL Bl ++ [.ref x]))) q av (Bl ++ [(x, [z])]) := by
  refine ⟨?_, fun y hy => ?_, ?_⟩
  · rw [upd_same]
    unfold refsL
    rw [List.map_append]
    rfl
  · rcases List.mem_append.mp hy with hy | hy
    · have := h.each y hy
      exact ⟨by rw [upd_ne this.2.2.1]; exact this.1, this.2⟩
    · rw [List.mem_singleton.mp hy]
      exact ⟨by rw [upd_ne hq]; exact hx, List.cons_ne_nil _ _, hq, ha⟩
  · rw [List.map_append]
    refine List.nodup_append.mpr ⟨h.nd, (by simp), fun a ha b hb e => ?_⟩
    rw [show b = x from List.mem_singleton.mp hb] at e
    exact hn (e ▸ ha)
/-- a name more in a block -/
theorem BlL.put {H : Hp} {q : Addr} {av : List Addr} {Bl : List (Addr × List Str)} {i : Nat} {y : Addr × List Str} {z : Str} (h : BlL H q av Bl) (e : Bl[i]? = some y) : BlL (upd H y.1 (.lst (strv y.2 ++ [.str z]))) q av (Bl.set i (y.1, y.2 ++ [z])) := by
  have hi : i < Bl.length := (List.getElem?_eq_some_iff.mp e).1
  have ey : Bl[i] = y := (List.getElem?_eq_some_iff.mp e).2
  have hy := h.each y (List.mem_of_getElem? e)
  have em : (Bl.set i (y.1, y.2 ++ [z])).map (·.1) = Bl.map (·.1) := by
    rw [List.map_set]
    refine List.ext_getElem? fun j => ?_
    by_cases hj : i = j
    · subst hj
      rw [List.getElem?_set_self (by rw [List.length_map]; exact hi), List.getElem?_map, e]
      rfl
    · rw [List.getElem?_set_ne hj]
  refine ⟨?_, fun x hx => ?_, by rw [em]; exact h.nd⟩
  · rw [upd_ne hy.2.2.1.symm, h.at_]
    unfold refsL
    rw [show (fun x : Addr × List Str => V.ref x.1) = V.ref ∘ (·.1) from rfl, ← List.map_map, ← List.map_map, em]
  · obtain ⟨j, hj, ej⟩ := List.getElem_of_mem hx
    rw [List.length_set] at hj
    by_cases hij : i = j
    · subst hij
      rw [List.getElem_set_self] at ej
      subst ej
      refine ⟨?_, by simp, hy.2.2⟩
      rw [upd_same]
      show _ = some (HO.lst (List.map V.str _))
      rw [List.map_append]
      rfl
    · rw [List.getElem_set_ne hij] at ej
      subst ej
      have := h.each _ (List.getElem_mem hj)
      refine ⟨?_, this.2⟩
      rw [upd_ne fun q => hij ?_]
      · exact this.1
      · have hnd := h.nd
        have e1 : (Bl.map (·.1))[j]'(by rw [List.length_map]; exact hj) = (Bl.map (·.1))[i]'(by rw [List.length_map]; exact hi) := by
          rw [List.getElem_map, List.getElem_map, ey]
          exact q
        exact ((List.getElem_inj hnd).mp e1).symm
theorem allN_set {Bl : List (Addr × List Str)} {i : Nat} {y : Addr × List Str} {z : Str} (e : Bl[i]? = some y) : (allN (Bl.set i (y.1, y.2 ++ [z]))).Perm (allN Bl ++ [z]) := by
  induction Bl generalizing i with
  | nil => cases e
  | cons x Bl ih =>
    cases i with
    | zero =>
      obtain rfl := Option.some.inj e
      show ((x.2 ++ [z]) ++ allN Bl).Perm (x.2 ++ allN Bl ++ [z])
      rw [List.append_assoc, List.append_assoc]
      exact (List.perm_append_comm (l₁ := [z])).append_left _
    | succ i =>
      show (x.2 ++ allN (Bl.set i (y.1, y.2 ++ [z]))).Perm (x.2 ++ allN Bl ++ [z])
      rw [List.append_assoc]
      exact (ih e).append_left _
def spPar : Sp := fun vs H Q _ => ∃ (p l : Addr) (cs : List Int) (n : Nat) (b : Addr) (d : BareD), vs = [.ref p, .ref b] ∧ Pen H p l cs n ∧ BareAt H b d p ∧ d.ok ∧ n < 80000 ∧
  ∀ q Bl H', BlL H' q [p] Bl → (allN Bl).Perm (memB d) → NoBoth Bl → H q = none → (∀ x ∈ Bl, H x.1 = none) → Pen H' p l cs (n + 40) → But H H' p → Q (.ref q) H'
structure PaT (P : Program) (w : World) (K : PySem.W.Frag) (mg : Str → Option Value) (base : Heap) : Prop where
  dw : DwT P w K mg base
  mms : ∃ f fd, mg "_law_members" = some (.ref f) ∧ PySem.W.keepIn K (.ref f) = true ∧ Binds K fd ["_law_bare_here"] [] ∧ FnOk P w K mg base CX0 2 f fd ["_law_bare_here"] spMms
  len : mg "len" = none
theorem power_le : ¬ OrdS.Le "power" "ground" := by
  unfold OrdS.Le
  decide +kernel
section
variable {P : Program} {w : World} {K : PySem.W.Frag} {mg : Str → Option Value} {base : Heap}
theorem ok_par {f : Addr} {fd : FuncData} (F : Fun K "_law_parted" "_law_parted" sPar f fd) (T : PaT P w K mg base) : FnOk P w K mg base CX0 3 f fd ["_law_pen_here", "_law_bare_here"] spPar := by
  obtain ⟨fD, fdD, mD, kD, bD, GD⟩ := T.dw.draw
  obtain ⟨fM, fdM, mM, kM, bM, GM⟩ := T.mms
  refine F.ok scPar (fun vs H Q E h => ?_) (fun cdv A outer s H vs Q E hr h => ?_)
  · obtain ⟨p, l, cs, n, b, d, rfl, _⟩ := h
    rfl
  · obtain ⟨p, l, cs, n, b, d, rfl, hP, hB, ok, hn, k⟩ := h
    have hr1 := hr.mono (show 1 ≤ 2 by decide)
    refine ⟨_, pss_cons (ps_set (i := 2) scPar.nd rfl (Or.inl rfl) (pe_lst pa_nil))
      (pss_cons (ps_for PassesOwn.never rfl (pi_list (pe_call GM hr rfl mM kM bM .nil pass0 (pa_cons (pv 1) pa_nil))) (pg_name (i := 3) scPar.nd rfl (Or.inl rfl))
        (pss_cons (ps_set (i := 4) scPar.nd rfl (Or.inl rfl) (pe_call GD hr1 rfl mD kD bD .nil pass0 (pa_cons (pv 0) (pa_cons (pe_op op_add (pe_op op_add (pe_callB call_len_seq (by rfl) T.len PySem.boot_len (pa_cons (pv 2) pa_nil)) pe_int) (pe_call GD hr1 rfl mD kD bD .nil pass0 (pa_cons (pv 0) (pa_cons pe_int pa_nil)))) pa_nil))))
        (pss_one (ps_if (PW.pt (pw_and (pt_cmpR op_lt (pv 4) (pe_callB call_len_seq (by rfl) T.len PySem.boot_len (pa_cons (pv 2) pa_nil)) (nomark _)) (pw_and1 (pt_not (PW.pt (pw_and (pt_cmpR op_eq (pv 3) pe_str (nomark _)) (pw_and1 (pt_cmpR op_in_seq pe_str (pe_ix ix_list (pv 2) (pv 4) (fun _ _ => rfl)) (by rfl)))))))))
          (pss_cons (ps_set (i := 5) scPar.nd rfl (Or.inl rfl) (pe_ix ix_list (pv 2) (pv 4) (fun _ _ => rfl)))
          (pss_one (ps_expr (pe_bm PySem.F.plainAttrs_list PySem.F.slot_list_append PySem.F.type_list_append mt_append (pv 5) (pa_cons (pv 3) pa_nil)))))
          (pss_one (ps_expr (pe_bm PySem.F.plainAttrs_list PySem.F.slot_list_append PySem.F.type_list_append mt_append (pv 2) (pa_cons (pe_lst (pa_cons (pv 3) pa_nil)) pa_nil))))))))
      (pss_one (ps_ret (pv 2)))), ?_⟩
    refine ⟨by show 0 ≤ sizeLine; decide, fun q hq => ?_⟩
    have s1 := same_at (o := .lst []) hq
    obtain ⟨H1, e1⟩ : ∃ H1, H1 = upd H q (.lst []) := ⟨_, rfl⟩
    have hq1 : H1 q = some (.lst []) := by rw [e1, upd_same]
    rw [← e1] at s1 ⊢
    refine ⟨_, rfl, b, d, p, rfl, hB.same s1, ok, fun zs ml H2 hzs hso hml0 hml s2 => ?_⟩
    have hzl : (strv zs).length = zs.length := List.length_map _
    have hz18 : zs.length ≤ 18 := by
      rw [hzs.length_eq, List.length_append, List.length_append]
      have := ok.le
      have := rails_le d.g d.r
      omega
    have s02 := s1.trans s2
    have nqm : q ≠ ml := ne_of_none hq1 hml0
    have hm0 : H ml = none := s1.free hml0
    have nqp : q ≠ p := nep hP hq
    have nql : q ≠ l := fun e => by
      obtain ⟨_, _, _, z2, _⟩ := hP
      rw [e, z2] at hq
      cases hq
    have nmp : ml ≠ p := nep hP hm0
    have pw := OrdS.sorted_pw hso
    refine ⟨ml, rfl, ⟨_, SqL.of hml⟩, ?_⟩
    refine for_list (xs := strv zs) (fun i σ H' => (∃ o3 o4 o5, σ = [some (.ref p), some (.ref b), some (.ref q), o3, o4, o5]) ∧ Pen H' p l cs (n + 2 * i) ∧ But H H' p ∧ H' ml = some (.lst (strv zs)) ∧ ∃ Bl, BlL H' q [p, ml] Bl ∧ (allN Bl).Perm (zs.take i) ∧ NoBoth Bl ∧ Bl.length ≤ i ∧ ∀ x ∈ Bl, H x.1 = none)
      ⟨⟨_, _, _, rfl⟩, hP.same s02, But.of s02, hml, [], ⟨s2 _ _ hq1, fun x hx => (by cases hx), .nil⟩, List.Perm.refl _, fun x hx => (by cases hx), Nat.le_refl _, fun x hx => by cases hx⟩ (fun i σ H' _ h => SqL.of h.2.2.2.1) ?_ ?_
    · rintro i x σ H3 hx ⟨⟨o3, o4, o5, rfl⟩, P3, b3, hm3, Bl, hL, hpm, hnb, hbl, hfr⟩
      have hi : i < zs.length := by rw [← hzl]; exact (List.getElem?_eq_some_iff.mp hx).1
      have ex : (strv zs)[i]? = some (.str zs[i]) := by show (zs.map V.str)[i]? = _; rw [List.getElem?_map, List.getElem?_eq_getElem hi]; rfl
      rw [ex] at hx
      obtain rfl := Option.some.inj hx
      have hrl : (refsL Bl).length = Bl.length := List.length_map _
      have etk : zs.take (i + 1) = zs.take i ++ [zs[i]] := by rw [List.take_add_one, List.getElem?_eq_getElem hi]; rfl
      refine ⟨_, rfl, _, rfl, q, _, rfl, .inl (SqL.of hL.at_), _, 1, rfl, rfl, _, rfl, p, l, cs, _, 2, rfl, P3, by decide, by decide, by omega, fun d2 i4 g4 H4 d20 d21 i40 in4 hp4 b4 => ?_⟩
      have P4 : Pen H4 p l cs (n + 2 * i + 1) := P3.next i40 in4 hp4 b4
      refine ⟨_, d2, rfl, rfl, p, l, cs, _, _, rfl, P4, by omega, by omega, by omega, fun at_ i5 g5 H5 a0 a1 i50 in5 hp5 b5 => ?_⟩
      have P5 : Pen H5 p l cs (n + 2 * (i + 1)) := P4.next i50 in5 hp5 b5
      have b35 := b4.trans b5
      have b05 := b3.trans b35
      have hm5 := b35 _ _ nmp hm3
      have hL5 := hL.but b35 nqp (List.mem_cons_self)
      have z5 : H5 q = some (.lst (refsL Bl)) := hL5.at_
      have fin : ∀ (o5 : Option V) (H6 : Hp) (Bl' : List (Addr × List Str)), BlL H6 q [p, ml] Bl' → (allN Bl').Perm (zs.take (i + 1)) → NoBoth Bl' → Bl'.length ≤ i + 1 → (∀ x ∈ Bl', H x.1 = none) → Pen H6 p l cs (n + 2 * (i + 1)) → But H H6 p → H6 ml = some (.lst (strv zs)) →
          (∃ o3 o4 o5', ([some (V.ref p), some (.ref b), some (.ref q), some (.str zs[i]), some (.int at_), o5] : L2.St) = [some (.ref p), some (.ref b), some (.ref q), o3, o4, o5']) ∧ Pen H6 p l cs (n + 2 * (i + 1)) ∧ But H H6 p ∧ H6 ml = some (.lst (strv zs)) ∧ ∃ Bl, BlL H6 q [p, ml] Bl ∧ (allN Bl).Perm (zs.take (i + 1)) ∧ NoBoth Bl ∧ Bl.length ≤ i + 1 ∧ ∀ x ∈ Bl, H x.1 = none :=
        fun o5 H6 Bl' h1 h2 h3 h4 h5 h6 h7 h8 => ⟨⟨_, _, _, rfl⟩, h6, h7, h8, Bl', h1, h2, h3, h4, h5⟩
      -- a new block
      have els : ∀ l0, H5 l0 = none → (∃ o3 o4 o5', ([some (V.ref p), some (.ref b), some (.ref q), some (.str zs[i]), some (.int at_), o5] : L2.St) = [some (.ref p), some (.ref b), some (.ref q), o3, o4, o5']) ∧ Pen (upd (upd H5 l0 (.lst [.str zs[i]])) q (.lst (refsL Bl ++ [.ref l0]))) p l cs (n + 2 * (i + 1)) ∧ But H (upd (upd H5 l0 (.lst [.str zs[i]])) q (.lst (refsL Bl ++ [.ref l0]))) p ∧
          upd (upd H5 l0 (.lst [.str zs[i]])) q (.lst (refsL Bl ++ [.ref l0])) ml = some (.lst (strv zs)) ∧ ∃ Bl', BlL (upd (upd H5 l0 (.lst [.str zs[i]])) q (.lst (refsL Bl ++ [.ref l0]))) q [p, ml] Bl' ∧ (allN Bl').Perm (zs.take (i + 1)) ∧ NoBoth Bl' ∧ Bl'.length ≤ i + 1 ∧ ∀ x ∈ Bl', H x.1 = none := fun l0 hl0 => by
        have s56 := same_at (o := .lst [V.str zs[i]]) hl0
        have nlq : l0 ≠ q := fun e => by rw [e, z5] at hl0; cases hl0
        have nlm : l0 ≠ ml := fun e => by rw [e, hm5] at hl0; cases hl0
        have nlp : l0 ≠ p := nep P5 hl0
        have nlB : l0 ∉ Bl.map (·.1) := fun hm => by
          obtain ⟨y, hy, e⟩ := List.mem_map.mp hm
          rw [← e, (hL5.each y hy).1] at hl0
          cases hl0
        have h0 : H l0 = none := b05.free nlp hl0
        have keep : ∀ c o, c ≠ q → H5 c = some o → upd (upd H5 l0 (.lst [.str zs[i]])) q (.lst (refsL Bl ++ [.ref l0])) c = some o := fun c o hc e => by rw [upd_ne hc]; exact s56 _ _ e
        refine fin _ _ (Bl ++ [(l0, [zs[i]])]) ((hL5.same s56).snoc upd_same nlB nlq (by simp [nlp, nlm])) ?_ (fun x hx => ?_) (by rw [List.length_append]; show Bl.length + 1 ≤ _; omega) (fun x hx => ?_) ((P5.same s56).off (.upd _ _ _) nqp nql) (fun c o hc e => ?_) (keep _ _ nqm.symm hm5)
        · have : allN (Bl ++ [(l0, [zs[i]])]) = allN Bl ++ [zs[i]] := by unfold allN; rw [List.flatMap_append]; rfl
          rw [this, etk]
          exact hpm.append_right _
        · rcases List.mem_append.mp hx with hx | hx
          · exact hnb x hx
          · rw [List.mem_singleton.mp hx]
            rintro ⟨h1, h2⟩
            have e1 := List.mem_singleton.mp h1
            have e2 := List.mem_singleton.mp h2
            rw [← e1] at e2
            exact absurd e2 (by decide)
        · rcases List.mem_append.mp hx with hx | hx
          · exact hfr x hx
          · rw [List.mem_singleton.mp hx]
            exact h0
        · exact keep _ _ (ne_of_none e hq) (b05 _ _ hc e)
      -- a name more
      have thn : ∀ (y : Addr × List Str), Bl[at_.toNat]? = some y → (zs[i] = "power" → ("ground" : Str) ∉ y.2) → (∃ o3 o4 o5', ([some (V.ref p), some (.ref b), some (.ref q), some (.str zs[i]), some (.int at_), some (.ref y.1)] : L2.St) = [some (.ref p), some (.ref b), some (.ref q), o3, o4, o5']) ∧ Pen (upd H5 y.1 (.lst (strv y.2 ++ [.str zs[i]]))) p l cs (n + 2 * (i + 1)) ∧ But H (upd H5 y.1 (.lst (strv y.2 ++ [.str zs[i]]))) p ∧
          upd H5 y.1 (.lst (strv y.2 ++ [.str zs[i]])) ml = some (.lst (strv zs)) ∧ ∃ Bl', BlL (upd H5 y.1 (.lst (strv y.2 ++ [.str zs[i]]))) q [p, ml] Bl' ∧ (allN Bl').Perm (zs.take (i + 1)) ∧ NoBoth Bl' ∧ Bl'.length ≤ i + 1 ∧ ∀ x ∈ Bl', H x.1 = none := fun y ey hpg => by
        have hy := hL5.each y (List.mem_of_getElem? ey)
        have hy0 := hfr y (List.mem_of_getElem? ey)
        have nyp : y.1 ≠ p := fun e => hy.2.2.2 (by rw [e]; exact List.mem_cons_self)
        have nym : y.1 ≠ ml := fun e => hy.2.2.2 (by rw [e]; simp)
        refine fin _ _ (Bl.set at_.toNat (y.1, y.2 ++ [zs[i]])) (hL5.put ey) ?_ (fun x hx => ?_) (by rw [List.length_set]; omega) (fun x hx => ?_) (P5.off (.upd _ _ _) nyp (fun e => ?_)) (fun c o hc e => ?_) (by rw [upd_ne nym.symm]; exact hm5)
        · rw [etk]
          exact (allN_set ey).trans (hpm.append_right _)
        · rcases List.mem_or_eq_of_mem_set hx with hx | rfl
          · exact hnb x hx
          · rintro ⟨h1, h2⟩
            have hyb := hnb y (List.mem_of_getElem? ey)
            rcases List.mem_append.mp h1 with h1 | h1
            · rcases List.mem_append.mp h2 with h2 | h2
              · exact hyb ⟨h1, h2⟩
              · exact hpg (List.mem_singleton.mp h2).symm h1
            · rcases List.mem_append.mp h2 with h2 | h2
              · have hz : ("power" : Str) ∈ zs.take i := hpm.mem_iff.mp (List.mem_flatMap.mpr ⟨y, List.mem_of_getElem? ey, h2⟩)
                obtain ⟨j, hj, ej⟩ := List.getElem_of_mem hz
                rw [List.length_take] at hj
                rw [List.getElem_take] at ej
                have := List.pairwise_iff_getElem.mp pw j i (by omega) hi (by omega)
                rw [ej, ← List.mem_singleton.mp h1] at this
                exact power_le this
              · have e1 := List.mem_singleton.mp h1
                have e2 := List.mem_singleton.mp h2
                rw [← e1] at e2
                exact absurd e2 (by decide)
        · rcases List.mem_or_eq_of_mem_set hx with hx | rfl
          · exact hfr x hx
          · exact hy0
        · obtain ⟨_, _, _, z2, _⟩ := hP
          rw [e, z2] at hy0
          cases hy0
        · rw [upd_ne (ne_of_none e hy0)]
          exact b05 _ _ hc e
      refine ⟨_, rfl, _, rfl, q, _, rfl, .inl (SqL.of z5), at_, _, rfl, rfl, _, rfl, ?_⟩
      have z5l : (refsL Bl).length < sizeLine := by rw [hrl]; exact Nat.lt_of_lt_of_le (show Bl.length < 1000 by omega) (by decide)
      have zs5 : ∀ {l0 : Addr}, H5 l0 = none → upd H5 l0 (.lst [V.str zs[i]]) q = some (.lst (refsL Bl)) := fun {l0} h => by rw [upd_ne (ne_of_none z5 h)]; exact z5
      by_cases hlt : at_ < ((refsL Bl).length : Int)
      case neg =>
        rw [decide_eq_false hlt]
        exact iteF ⟨_, rfl, .inl ⟨rfl, _, SqL.of z5⟩, _, rfl, by show 1 ≤ sizeLine; decide, fun l0 hl0 => ⟨q, _, .ref l0, rfl, rfl, zs5 hl0, z5l, els l0 hl0⟩⟩
      rw [decide_eq_true hlt]
      rw [hrl] at hlt
      have hk : at_.toNat < Bl.length := by omega
      have ey : Bl[at_.toNat]? = some Bl[at_.toNat] := List.getElem?_eq_getElem hk
      obtain ⟨y, e⟩ : ∃ y, y = Bl[at_.toNat] := ⟨_, rfl⟩
      rw [← e] at ey
      have hyat := (hL5.each y (List.mem_of_getElem? ey)).1
      have hat : atI (refsL Bl) at_ = some (V.ref y.1) := by
        have e2 : at_ = ((at_.toNat : Nat) : Int) := by omega
        rw [e2]
        exact atI_nat (by unfold refsL; rw [List.getElem?_map, ey]; rfl)
      have hsyl : (strv y.2).length < sizeLine := by
        have e3 : (strv y.2).length = y.2.length := List.length_map _
        have e4 : y.2.length ≤ (allN Bl).length := List.Sublist.length_le (List.sublist_flatten_of_mem (List.mem_map.mpr ⟨y, List.mem_of_getElem? ey, rfl⟩))
        have e5 := hpm.length_eq
        rw [List.length_take] at e5
        rw [e3]
        exact Nat.lt_of_lt_of_le (show y.2.length < 1000 by omega) (by decide)
      refine iteT ⟨_, rfl, rfl, _, rfl, ?_⟩
      by_cases ez : zs[i] = "power"
      case neg =>
        rw [decide_eq_false (show ¬ V.str zs[i] = V.str "power" from fun q => ez (V.str.inj q))]
        exact iteF ⟨_, rfl, _, rfl, q, _, at_, _, rfl, rfl, SqL.of z5, hat, _, rfl, .inl ⟨rfl, _, SqL.of hyat⟩, _, rfl, y.1, _, _, rfl, rfl, hyat, hsyl, thn y ey fun e => absurd e ez⟩
      rw [decide_eq_true (show V.str zs[i] = V.str "power" by rw [ez])]
      refine iteT ⟨_, rfl, _, rfl, q, _, at_, _, rfl, rfl, SqL.of z5, hat, y.1, strv y.2, rfl, .inl (SqL.of hyat), rfl, flat_strs _, decide (("ground" : Str) ∈ y.2), ?_, ?_⟩
      · show V.bl (inV _ _) = _
        rw [inV_strs]
      by_cases hg : ("ground" : Str) ∈ y.2
      · rw [decide_eq_true hg]
        exact iteF ⟨_, rfl, .inl ⟨rfl, _, SqL.of z5⟩, _, rfl, by show 1 ≤ sizeLine; decide, fun l0 hl0 => ⟨q, _, .ref l0, rfl, rfl, zs5 hl0, z5l, els l0 hl0⟩⟩
      · rw [decide_eq_false hg]
        exact iteT ⟨_, rfl, _, rfl, q, _, at_, _, rfl, rfl, SqL.of z5, hat, _, rfl, .inl ⟨rfl, _, SqL.of hyat⟩, _, rfl, y.1, _, _, rfl, rfl, hyat, hsyl, thn y ey fun _ => hg⟩
    · rintro σ H3 ⟨⟨o3, o4, o5, rfl⟩, P3, b3, hm3, Bl, hL, hpm, hnb, hbl, hfr⟩
      rw [hzl, List.take_length] at hpm
      rw [hzl] at P3
      exact ⟨_, rfl, k q Bl H3 ⟨hL.at_, fun x hx => ⟨(hL.each x hx).1, (hL.each x hx).2.1, (hL.each x hx).2.2.1, fun hm => (hL.each x hx).2.2.2 (by rw [List.mem_singleton.mp hm]; exact List.mem_cons_self)⟩, hL.nd⟩ (hpm.trans hzs) hnb hq hfr (P3.mono (by omega)) b3⟩
end
end Sj
namespace Sj
open PySem L2 Sup StK Own Shw Exg Grd KepE
open NdefX (NF NScope ncx envF startF nscope_by)
open C8 (pss_cut tCut)
/-! k09: _law_plain -/
/-- each block in order, all in order -/
def RowsP (Bl : List (Addr × List Str)) (R : List (List Str)) : Prop := ∃ Ss : List (List Str), Ss.length = Bl.length ∧ (∀ (i : Nat) (y : Addr × List Str) (z : List Str), Bl[i]? = some y → Ss[i]? = some z → z.Perm y.2 ∧ PyProof.Rows.sortedS z = true) ∧ R.Perm Ss ∧ R.Pairwise SortB.RLe
theorem RowsP.uniq {Bl : List (Addr × List Str)} {R R' : List (List Str)} (h : RowsP Bl R) (h' : RowsP Bl R') : R = R' := by
  obtain ⟨S, l1, e1, p1, w1⟩ := h
  obtain ⟨S', l2, e2, p2, w2⟩ := h'
  have : S = S' := by
    refine List.ext_getElem? fun j => ?_
    by_cases hj : j < Bl.length
    · have a1 := e1 j _ S[j] (List.getElem?_eq_getElem hj) (List.getElem?_eq_getElem (by omega))
      have a2 := e2 j _ S'[j] (List.getElem?_eq_getElem hj) (List.getElem?_eq_getElem (by omega))
      rw [List.getElem?_eq_getElem (by omega), List.getElem?_eq_getElem (by omega), OrdS.uniq (a1.1.trans a2.1.symm) a1.2 a2.2]
    · rw [List.getElem?_eq_none (by omega), List.getElem?_eq_none (by omega)]
  subst this
  exact SortB.rows_uniq (p1.trans p2.symm) w1 w2
end Sj
namespace Sj
open PySem L2 Sup StK Own Shw Exg Grd KepE
/-! k09: blocks put in order; the rows of a board whose blocks were drawn in some order, some single ones left out -/
theorem lt_asym : ∀ a b : List Nat, PySem.Spec.ltCps a b = true → PySem.Spec.ltCps b a = false
  | [], [], h => by cases h
  | [], _ :: _, _ => rfl
  | _ :: _, [], h => by cases h
  | x :: a, y :: b, h => by
    have h1 : (decide (x < y) || (x == y && PySem.Spec.ltCps a b)) = true := h
    show (decide (y < x) || (y == x && PySem.Spec.ltCps b a)) = false
    rw [Bool.or_eq_true, decide_eq_true_eq, Bool.and_eq_true, beq_iff_eq] at h1
    rw [Bool.or_eq_false_iff, decide_eq_false_iff_not]
    rcases h1 with h1 | ⟨rfl, h1⟩
    · refine ⟨by omega, ?_⟩
      rw [beq_eq_false_iff_ne.mpr (by omega), Bool.false_and]
    · exact ⟨Nat.lt_irrefl _, by rw [lt_asym a b h1, Bool.and_false]⟩
def insZ (z : Str) : List Str → List Str
  | [] => [z]
  | y :: ys => if PySem.Spec.ltCps y.cps.toList z.cps.toList = true then y :: insZ z ys else z :: y :: ys
theorem insZ_perm (z : Str) : ∀ ys : List Str, (insZ z ys).Perm (z :: ys)
  | [] => List.Perm.refl _
  | y :: ys => by
    unfold insZ
    split
    · exact ((insZ_perm z ys).cons y).trans (List.Perm.swap _ _ _)
    · exact List.Perm.refl _
theorem insZ_pw (z : Str) : ∀ {ys : List Str}, ys.Pairwise OrdS.Le → (insZ z ys).Pairwise OrdS.Le
  | [], _ => List.pairwise_singleton _ _
  | y :: ys, h => by
    have h' := List.pairwise_cons.mp h
    unfold insZ
    split
    · rename_i q
      refine List.pairwise_cons.mpr ⟨fun x hx => ?_, insZ_pw z h'.2⟩
      rcases List.mem_cons.mp ((insZ_perm z ys).mem_iff.mp hx) with rfl | hx
      · exact lt_asym _ _ q
      · exact h'.1 x hx
    · rename_i q
      have zy : OrdS.Le z y := Bool.eq_false_iff.mpr q
      refine List.pairwise_cons.mpr ⟨fun x hx => ?_, h⟩
      rcases List.mem_cons.mp hx with rfl | hx
      · exact zy
      · exact zy.trans (h'.1 x hx)
def srt (zs : List Str) : List Str := zs.foldr insZ []
theorem srt_perm : ∀ zs : List Str, (srt zs).Perm zs
  | [] => .nil
  | z :: zs => (insZ_perm z (srt zs)).trans ((srt_perm zs).cons z)
theorem srt_pw : ∀ zs : List Str, (srt zs).Pairwise OrdS.Le
  | [] => .nil
  | z :: zs => insZ_pw z (srt_pw zs)
theorem srt_of {z y : List Str} (h : z.Perm y) (hs : PyProof.Rows.sortedS z = true) : z = srt y := OrdS.uniq (h.trans (srt_perm y).symm) hs (OrdS.pw_sorted (srt_pw y))
theorem srt_eq {z y : List Str} (h : z.Perm y) : srt z = srt y := srt_of ((srt_perm z).trans h) (OrdS.pw_sorted (srt_pw z))
abbrev srtB (Bl : List (Addr × List Str)) : List (List Str) := Bl.map fun y => srt y.2
theorem rows_srt {Bl : List (Addr × List Str)} {Ss : List (List Str)} (hl : Ss.length = Bl.length) (h : ∀ (i : Nat) (y : Addr × List Str) (z : List Str), Bl[i]? = some y → Ss[i]? = some z → z.Perm y.2 ∧ PyProof.Rows.sortedS z = true) : Ss = srtB Bl := by
  refine List.ext_getElem? fun j => ?_
  by_cases hj : j < Bl.length
  · have q := h j _ Ss[j] (List.getElem?_eq_getElem hj) (List.getElem?_eq_getElem (by omega))
    rw [List.getElem?_eq_getElem (by omega), List.getElem?_map, List.getElem?_eq_getElem hj, srt_of q.1 q.2]
    rfl
  · rw [List.getElem?_eq_none (by omega), List.getElem?_eq_none (by rw [List.length_map]; omega)]
theorem RowsP.perm {Bl : List (Addr × List Str)} {R : List (List Str)} (h : RowsP Bl R) : R.Perm (srtB Bl) := by
  obtain ⟨Ss, hl, hS, hp, _⟩ := h
  rw [rows_srt hl hS] at hp
  exact hp
theorem rowsP_of {Bl : List (Addr × List Str)} {R : List (List Str)} (h : R.Perm (srtB Bl)) (hw : R.Pairwise SortB.RLe) : RowsP Bl R := by
  refine ⟨srtB Bl, List.length_map _, fun i y z ey ez => ?_, h, hw⟩
  rw [List.getElem?_map, ey] at ez
  obtain rfl := Option.some.inj ez
  exact ⟨srt_perm _, OrdS.pw_sorted (srt_pw _)⟩
theorem allN_srt : ∀ Bl : List (Addr × List Str), ((srtB Bl).flatten).Perm (allN Bl)
  | [] => .nil
  | x :: Bl => by
    show (srt x.2 ++ (srtB Bl).flatten).Perm (x.2 ++ allN Bl)
    exact (srt_perm x.2).append (allN_srt Bl)
/-- the blocks Bl' are those of Bl in some order, but for single ones zs -/
def DrB (Bl Bl' : List (Addr × List Str)) (zs : List Str) : Prop := (srtB Bl' ++ zs.map fun z => [z]).Perm (srtB Bl)
theorem ones_flat : ∀ zs : List Str, (zs.map fun z => [z]).flatten = zs
  | [] => rfl
  | z :: zs => by
    show [z] ++ (zs.map fun z => [z]).flatten = _
    rw [ones_flat zs]
    rfl
theorem DrB.names {Bl Bl' : List (Addr × List Str)} {zs : List Str} (h : DrB Bl Bl' zs) : (allN Bl' ++ zs).Perm (allN Bl) := by
  have q := h.flatten
  rw [List.flatten_append, ones_flat] at q
  exact ((allN_srt Bl').symm.append_right zs).trans (q.trans (allN_srt Bl))
theorem DrB.row {Bl Bl' : List (Addr × List Str)} {zs : List Str} (h : DrB Bl Bl' zs) {y : Addr × List Str} (hy : y ∈ Bl') : ∃ x ∈ Bl, y.2.Perm x.2 := by
  have : srt y.2 ∈ srtB Bl := h.mem_iff.mp (List.mem_append_left _ (List.mem_map.mpr ⟨y, hy, rfl⟩))
  obtain ⟨x, hx, e⟩ := List.mem_map.mp this
  exact ⟨x, hx, (srt_perm y.2).symm.trans ((by rw [← e]; exact srt_perm x.2))⟩
theorem rows_board {d : FrD} {Bl Bl' L : List (Addr × List Str)} {zs : List Str} (hm : (allN Bl).Perm (membZ d)) (nd : (allN Bl).Nodup) (dr : DrB Bl Bl' zs) (h : RowsOf d Bl' L) : RowsP Bl (L.map (·.2)) := by
  obtain ⟨ms, Ss, hM, hl, hS, hp, hw⟩ := h
  rw [rows_srt hl hS] at hp
  have dn := dr.names
  have mb : ms.Perm (allN Bl' ++ zs) := (hM.1.trans hm.symm).trans dn.symm
  have n2 : (allN Bl' ++ zs).Nodup := dn.nodup_iff.mpr nd
  have n3 := List.nodup_append.mp n2
  have pf : (ms.filter fun z => decide (z ∉ allN Bl')).Perm zs := by
    refine (List.perm_ext_iff_of_nodup ((mb.nodup_iff.mpr n2).filter _) n3.2.1).mpr fun z => ?_
    rw [List.mem_filter, decide_eq_true_eq, mb.mem_iff, List.mem_append]
    exact ⟨fun q => q.1.resolve_left q.2, fun q => ⟨.inr q, fun q2 => n3.2.2 z q2 z q rfl⟩⟩
  exact rowsP_of (hp.trans (((pf.map _).append_left _).trans dr)) hw
end Sj
namespace Sj
open PySem L2 Sup StK Own Shw Exg Grd KepE
open NdefX (NF NScope ncx envF startF nscope_by)
open C8 (pss_cut tCut)
/-! k09: _law_text -/
/-- blocks as a plain board has them, short names -/
structure PlB (H : Hp) (q : Addr) (Bl : List (Addr × List Str)) : Prop where
  at_ : H q = some (.lst (refsL Bl))
  each : ∀ x ∈ Bl, H x.1 = some (.lst (strv x.2)) ∧ x.2 ≠ []
  le : Bl.length ≤ 60
  yle : ∀ x ∈ Bl, x.2.length ≤ 60
  zle : ∀ x ∈ Bl, ∀ z ∈ x.2, z.length ≤ 100
theorem PlB.same {H H' : Hp} {q : Addr} {Bl : List (Addr × List Str)} (h : PlB H q Bl) (s : Same H H') : PlB H' q Bl := ⟨s _ _ h.at_, fun x hx => ⟨s _ _ (h.each x hx).1, (h.each x hx).2⟩, h.le, h.yle, h.zle⟩
theorem RowsP.len {Bl : List (Addr × List Str)} {R : List (List Str)} (h : RowsP Bl R) : R.length = Bl.length := by
  rw [h.perm.length_eq, List.length_map]
theorem RowsP.row {Bl : List (Addr × List Str)} {R : List (List Str)} (h : RowsP Bl R) {r : List Str} (hr : r ∈ R) : ∃ x ∈ Bl, r.Perm x.2 := by
  obtain ⟨x, hx, e⟩ := List.mem_map.mp (h.perm.mem_iff.mp hr)
  exact ⟨x, hx, by rw [← e]; exact srt_perm x.2⟩
end Sj
/-! def f(a, *v) of which more is known: that nothing is being shown around it; o.m(e, ..), o.m() of such a def -/
namespace Grd
open PySem PySem.Spec PyProof.Rows L2
open StX
/-- a promise by positional values, asked where nothing is being shown -/
def FnGR (P : Program) (w : World) (K : PySem.W.Frag) (mg : Str → Option Value) (base : Heap) (CX : CXT) (k : Nat) (f : Addr) (sp : Sp) : Prop :=
  ∀ (A : Around) (outer : List Env) (s : Shared) (H : Hp) (us : List Value) (vs : List V) (Q : VK) (E : XK), A.guards = some [] → Room k A → Env0 P w K mg base A outer s H → Vals vs us → sp vs H Q E →
    codeAny (model P w) A (.call (.ref f) ⟨us, []⟩) (CR CX outer P w H s Q E) s
section
variable {P : Program} {w : World} {K : PySem.W.Frag} {mg : Str → Option Value} {base : Heap} {CX : CXT} {j k : Nat} {f : Addr} {sp sp' : Sp} {N ps : List Str} {name qual : Str} {params : Arguments} {body : List Stmt} {scope : Scope} {dV kV doc pm cdv ct oc : Value} {an od : Option Addr}
  {osl : Array (Option Value)}
theorem FnGR.mono (F : FnGR P w K mg base CX j f sp) (h : j ≤ k) : FnGR P w K mg base CX k f sp := fun A outer s H us vs Q E hg hr => F A outer s H us vs Q E hg (hr.mono h)
/-- behind the positional values a new tuple of the rest -/
def spStarG (ps : List Str) (sp : Sp) : Sp := fun vs H Q E => ∃ ws rest, vs = ws ++ rest ∧ ws.length = ps.length ∧ rest.length ≤ sizeLine ∧ ∀ p, H p = Option.none → sp (ws ++ [V.ref p]) (upd H p (.tup rest)) Q E
theorem fn_starG {pv : Str} (lk : K.lookup f = some ⟨oc, od, .func (PySem.W.fnOf name qual params body scope dV kV doc pm an cdv ct), osl⟩) (hcd : PySem.W.codeIn K cdv qual = true) (S : FnScope N (ps ++ [pv]) scope) (hCX : CXUp CX)
    (hb : ∀ us rest : List Value, us.length = ps.length → bindArgs (PySem.W.fnOf name qual params body scope dV kV doc pm an cdv ct) ⟨us ++ rest, []⟩ = (newTuple rest >>= fun t => pure (ps.zip us ++ [(pv, t)])))
    (hbody : ∀ (A : Around) (outer : List Env) (s : Shared) (H : Hp) (vs : List V) (Q : VK) (E : XK), A.guards = some [] → Room k (A.deeper (envOfC qual scope s.heap.objs.size f cdv)) → sp vs H Q E →
      ∃ t, PSs (cxOf CX P w K mg base N qual scope f cdv A outer s H E) body t ∧ t { nx := fun _ H' => Q .non H', rt := Q } (start N vs) H) :
    FnGR P w K mg base CX (k + 1) f (spStarG ps sp) := by
  intro A outer s H us vs Q E hg hr e0 r hsp
  obtain ⟨v1, rest, ev, hl1, hz, hsp⟩ := hsp
  subst ev
  obtain ⟨u1, u2, eu, r1, r2⟩ := vals_split r
  subst eu
  have free : H s.heap.objs.size = Option.none := e0.hok.fresh (Nat.le_refl _)
  have l1 : u1.length = ps.length := by rw [← r1.length]; exact hl1
  have l2 : u2.length ≤ sizeLine := by rw [← r2.length]; exact hz
  refine run_bnd lk hcd S hr e0 (G := fun xs H2 => ∃ p, H p = Option.none ∧ xs = v1 ++ [V.ref p] ∧ H2 = upd H p (.tup rest)) (fun A' Ex Q' h => ?_) fun s2 H2 xs ⟨p, hp, ex, eH⟩ hr' => ?_
  · rw [hb u1 u2 l1]
    refine wpAny_bind (wpAny_newTuple (wpAny_pure ?_) l2)
    have laid : ObjOk P w (upd H s.heap.objs.size (.tup rest)) (s.heap.push ({ cls := .type "tuple", data := .seq u2.toArray } : Obj)) s.heap.objs.size (.tup rest) := ⟨hz, u2, r2, ⟨_, Heap.get?_push_size _ rfl, rfl, _, rfl⟩⟩
    have upto := un_laid (fs := frs outer) (s := s) (o := ({ cls := .type "tuple", data := .seq u2.toArray } : Obj)) (u := .tup rest) free
    have done := h _ _ (v1 ++ [V.ref s.heap.objs.size]) (u1 ++ [Value.ref s.heap.objs.size]) (env0_laid e0 laid) upto rfl (fun e s' => hCX outer s H _ _ E e s' upto (fun b o q => Heap.get?_push_of_some _ q) rfl) (r1.append (.cons rfl .nil))
      (by rw [List.length_append, List.length_append, hl1] <;> rfl) ⟨_, free, rfl, rfl⟩
    rw [List.zip_append l1.symm] at done
    exact done
  · subst ex eH
    exact hbody A outer s2 _ _ Q E hg hr' (hsp p hp)
end
section
variable {X : Cx} {CX : CXT} {k : Nat} {f C : Addr} {m : Str} {sp : Sp} {E : XK} {e o : Expr} {es : List Expr} {ta : TE} {t : TA} {apos pos : Pos}
theorem run_gR {pins : List (Addr × Obj)} {σ : L2.St} {H : Hp} {s : Shared} {Q : VK} {us : List Value} {vs : List V} (F : FnGR X.prog X.w X.K X.mg X.base CX k f sp) (hG : X.A.guards = some []) (hr : Room k X.A) (hx : ∀ e s', CX X.stack H s E e s' → X.xe e s') (I : Inv X pins σ H s) (r : Vals vs us)
    (h : sp vs H Q E) : wpAny (model X.prog X.w) X.A (call (.ref f) us) (EP X pins σ Q) X.xe s := by
  refine wpAny_call (codeAny_mono (F X.A X.stack s H us vs Q E hG hr I.env0 r h) fun res s' hq => ?_)
  match res, hq with
  | .error e, hq => exact hx e s' hq
  | .ok (.ret u), hq => exact I.after hq
/-- o.m(e, ..) -/
theorem pe_methGR {pl : Sem Bool} (he : PE X o ta) (c : Cls X.K C) (hm : Meth X.K C m f) (F : FnGR X.prog X.w X.K X.mg X.base CX k f sp) (hG : X.A.guards = some []) (hr : Room k X.A) (hx : Passes CX X E) (ha : PA X (e :: es) t)
    (hst : starEach (e :: es) X.env = (false, eval e X.env) :: starEach es X.env := by rfl) (hpl : (backTo pos (starEach es X.env)).any (·.1) = false := by rfl)
    (ht : eval (.Call (.Attribute o m apos) (e :: es) [] pos) X.env = (do let ov ← eval o X.env; standAt apos.atName; let (f, first) ← holding [ov] (getMethod ov m pl); callWith pos f first (backTo pos (starEach (e :: es) X.env)) (backToKw pos (keywordEach [] X.env))) := by rfl) :
    PE X (.Call (.Attribute o m apos) (e :: es) [] pos) (tMethR C m sp E ta t) := by
  refine ⟨fun pins s σ H Q I h => ?_⟩
  refine PySem.W.methodCall_KW (pl := pl) (thn (he.run pins s σ H _ I h) fun u s1 ⟨x, H1, I1, rx, a, dx, fs, ex, ea, l, q⟩ => ?_) ht
  subst ex
  obtain rfl : u = Value.ref a := rx
  refine getmeth_ok I1 ea c hm l ?_
  refine PySem.W.callWith_K (first := [.ref a]) (h₀ := X.base) I.ok.mod.kin hm.kp (thn (ha.run pos pins s1 σ H1 _ I1 q) fun us s2 ⟨vs, H2, I2, r, q2⟩ => ⟨I2.kIn, ?_⟩) hst hpl
  exact run_gR (us := .ref a :: us) (vs := .ref a :: vs) F hG hr (fun e s' z => hx pins σ H2 s2 e s' I2 z) I2 (.cons rfl r) q2
end
end Grd
/-! a list comprehension whose element may raise: a call's exception leaves the block, its variables are let go, it goes on in the def -/
namespace LcX
open PySem PySem.Spec PyProof.Rows L2
/-- a call's exception came out of the block Y -/
def outX (Y : Cx) (E : XK) : Value → Shared → Prop := fun e s' => ∃ (pn : List (Addr × Obj)) (τ : L2.St) (G : Hp) (t : Shared), Inv Y pn τ G t ∧ L2.CX Y.prog Y.w Y.stack G t E e s'
abbrev blX (X : Cx) (E : XK) (s : Shared) (H : Hp) (scope : Scope) (ce : Env) (fp : List Addr) : Cx := (X.blk s H scope ce fp).wish (outX (X.blk s H scope ce fp) E)
theorem passX {X : Cx} {E : XK} {s : Shared} {H : Hp} {scope : Scope} {ce : Env} {fp : List Addr} : Passes (L2.CX X.prog X.w) (blX X E s H scope ce fp) E := fun pins σ H s e s' I c => ⟨pins, σ, H, s, I.unwish, c⟩
def postX (M : Model) (A : Around) (E : Value → Shared → Prop) (ce : Env) (Qf : Shared → Prop) : Result → Shared → Prop
  | .ok _, s' => ∃ m, s'.heap.Ns ce.locals m ∧ ∀ h', Heap.SameBut ce.locals s'.heap h' → Qf { s' with heap := h' }
  | .error x, s' => ∃ m, s'.heap.Ns ce.locals m ∧ ∀ h', Heap.SameBut ce.locals s'.heap h' → wpAny M A (PySem.passOn "comprehension.variables-let-go" x ce : Sem Value) (fun _ _ => False) E { s' with heap := h' }
theorem ff_new {h h' B B' : Heap} : ∀ {l : List Env}, h.FunFrames B l → (∀ b ∈ frs l, B'.get? b = none ∧ h'.get? b = h.get? b) → h'.FunFrames B' l
  | [], _, _ => trivial
  | env :: l, hh, k => by
    obtain ⟨k1, ⟨L, o, k2, k3, k4, k5⟩, k6⟩ := hh
    have kL := k L (List.mem_filterMap.mpr ⟨env, List.mem_cons_self, k2⟩)
    refine ⟨k1, ⟨L, o, k2, kL.1, kL.2.trans k4, k5⟩, ff_new k6 fun b hb => ?_⟩
    obtain ⟨e, he, q⟩ := List.mem_filterMap.mp hb
    exact k b (List.mem_filterMap.mpr ⟨e, List.mem_cons_of_mem _ he, q⟩)
section
variable {X : Cx} {pins : List (Addr × Obj)} {σ : L2.St} {H3 : Hp} {s3 : Shared}
/-- the exception behind the block is in the def's air -/
theorem out_air {fp : List Addr} {scope : Scope} {ce : Env} {E : XK} {e : Value} {s' : Shared} {what : String} {R : Value → Shared → Prop} (I3 : Inv X pins σ H3 s3) (hst : X.stack = X.env :: X.outer) (hfr : X.env.frame = some X.env.locals) (tk : Takes X (fun cls d _ H => E cls d H))
    (hL : ce.locals = s3.heap.objs.size) (hF : ce.frame = X.env.frame)
    (hch : ∀ b ∈ fp, (b ∈ X.ex ∨ X.s_0.heap.objs.size ≤ b) ∧ b ≠ X.env.locals ∧ (∀ x c, X.env.cells.lookup x = some c → c ≠ b) ∧ ∀ p ∈ X.pn ++ pins, p.1 ≠ b) (out : outX (X.blk s3 H3 scope ce fp) E e s') :
    wpAny (model X.prog X.w) X.A (noteFrame e ce) (fun _ t => ∃ m, t.heap.Ns ce.locals m ∧ ∀ h', Heap.SameBut ce.locals t.heap h' → wpAny (model X.prog X.w) X.A (PySem.passOn what e ce : Sem Value) (fun _ _ => False) X.xe { t with heap := h' }) R s' := by
  obtain ⟨pn, τ, G, t, I, a, B, H', cls, d, rfl, fl, hokB, ub, na, os, ag, hE⟩ := out
  have un : Un (frs X.stack) fp H3 G s3.heap t.heap := I.base
  have ub : UB (frs X.stack) G H' t.heap B s'.heap := ub
  have fl : HandSPX.FlyingZ B X.stack a (Zc cls d) s'.heap := fl
  have hA : X.A.frames = some (X.env :: X.outer) := by rw [I3.ok.frames, hst]
  have en : noteFrame (.ref a) ce = noteFrame (.ref a) X.env := by
    unfold noteFrame PySem.frameOf
    rw [hF]
  rw [en]
  rw [hst] at fl
  refine HandSPX.looks_onZ Zc.steady hA hfr fl fun h1 held up => ?_
  rw [← hst] at held
  -- the block's variables
  obtain ⟨m, hn, _⟩ := I.loc
  have hn : t.heap.Ns ce.locals m := hn
  have nC : G ce.locals = none := I.free
  obtain ⟨oC, es, ep, eC, rC⟩ := hn
  have fsz : ∀ b ∈ frs X.stack, ∃ o, s3.heap.get? b = some o ∧ ∀ vs, o.data ≠ .fields vs := fun b hb => by
    obtain ⟨_, o, ho, hd⟩ := I3.stack.mem hb
    exact ⟨o, ho, hd⟩
  have neC : ∀ b o, s3.heap.get? b = some o → b ≠ ce.locals := fun b o q z => by
    have := Heap.lt_size q
    rw [z, hL] at this
    exact Nat.lt_irrefl _ this
  have fC : ce.locals ∉ frs X.stack := fun hm => by
    obtain ⟨o, ho, _⟩ := fsz _ hm
    exact neC _ o ho rfl
  have bC : B.get? ce.locals = some oC := ub.keep _ _ eC nC fC
  have nC' : H' ce.locals = none := ub.free _ _ eC nC
  obtain ⟨st, na1, ff, oe, vs, T, oT, ts, q1, q2, q3, q4, q5, q6, q7, q8, q9⟩ := held
  refine ⟨m, ⟨oC, es, ep, st _ _ bC, rC⟩, fun h' sb => ?_⟩
  have aC : a ≠ ce.locals := fun z => by rw [z, bC] at na1; cases na1
  have TC : T ≠ ce.locals := fun z => by rw [z, bC] at q5; cases q5
  have qa : h'.get? a = some oe := (sb.2 a aC).trans q1
  have qT : h'.get? T = some oT := (sb.2 T TC).trans q7
  have hsz : 3 < ts.size := (Array.getElem?_eq_some_iff.mp q9).1
  -- the ground without them
  obtain ⟨B', eB'⟩ : ∃ B', B' = PySem.W.hideAll B [ce.locals] := ⟨_, rfl⟩
  have b1 : ∀ b o, B'.get? b = some o → B.get? b = some o ∧ b ≠ ce.locals := fun b o q => by
    rw [eB'] at q
    refine ⟨PySem.W.of_hideAll _ q, fun z => ?_⟩
    rw [PySem.W.hideAll_none _ (show b ∈ [ce.locals] by rw [z]; exact List.mem_singleton.mpr rfl)] at q
    cases q
  have b2 : ∀ b o, B.get? b = some o → b ≠ ce.locals → B'.get? b = some o := fun b o q n => by
    rw [eB']
    exact PySem.W.hideAll_get _ q fun z => n (List.mem_singleton.mp z)
  have b3 : ∀ b, B.get? b = none → B'.get? b = none := fun b q => by
    cases z : B'.get? b with
    | none => rfl
    | some o => rw [(b1 b o z).1] at q; cases q
  have st' : B'.StaysIn h' := fun b o q => (sb.2 b (b1 b o q).2).trans (st b o (b1 b o q).1)
  have ff' : h'.FunFrames B' X.stack := ff_new ff fun b hb => ⟨b3 b (ff.mem hb).1, sb.2 b fun z => fC (z ▸ hb)⟩
  have held' : HandSPX.HeldZ B' X.stack a (Zc cls d) X.env.locals h' := ⟨st', b3 a na1, ff', oe, vs, T, oT, ts, qa, q2, q3, q4, b3 T q5, q6, qT, q8, q9⟩
  have hok' : HOk X.prog X.w H' B' := fun b o q => (hokB b o q).stay (fun c u hc r => b2 c u r fun z => by
    rcases hc with hc | hc
    · rw [← z, hc, q] at nC'; cases nC'
    · rw [← z, hc] at nC'; cases nC') (fun _ r => r) fun _ _ r => r
  -- a state of the def
  obtain ⟨F, f1, f2⟩ := restrict h' fun b => (B'.get? b).isSome || decide (b ∈ frs X.stack)
  have gB : ∀ b o, B'.get? b = some o → F.get? b = some o := fun b o q => by
    rw [f1 b (by rw [q]; rfl)]
    exact st' b o q
  have gF : ∀ b, b ∈ frs X.stack → F.get? b = h'.get? b := fun b hb => f1 b (by rw [decide_eq_true hb, Bool.or_true])
  have gO : ∀ b o, F.get? b = some o → h'.get? b = some o ∧ ((B'.get? b).isSome = true ∨ b ∈ frs X.stack) := fun b o q => by
    cases z : ((B'.get? b).isSome || decide (b ∈ frs X.stack)) with
    | false => rw [f2 b z] at q; cases q
    | true =>
      rw [f1 b z] at q
      refine ⟨q, ?_⟩
      rcases Bool.or_eq_true_iff.mp z with z | z
      · exact .inl z
      · exact .inr (of_decide_eq_true z)
  have slo : ∀ b o, s3.heap.get? b = some o → H3 b = none → b ∈ frs X.stack → b ∉ fp → ∃ sl, F.get? b = some { o with slots := sl } := fun b o q n hb hx => by
    obtain ⟨sl, e1⟩ := un.slot b o q n hb hx
    obtain ⟨sl2, e2⟩ := ub.slot b _ e1 hb
    obtain ⟨o', e0, hnf⟩ := fsz b hb
    rw [q] at e0
    cases e0
    obtain ⟨sl3, e3⟩ := up b _ e2 hnf
    exact ⟨sl3, by rw [gF b hb, sb.2 b (neC b o q)]; exact e3⟩
  have J : Inv X pins σ H' { s3 with heap := F, gens := s'.gens, drawn := s'.drawn, toks := s'.toks } := by
    refine I3.call' (ch := fp) rfl ⟨fun b o q n hb hx => gB b o (b2 b o (ub.keep b o (un.keep b o q n hb hx) (un.free b o q n hx) hb) (neC b o q)), slo, fun b o q n hx => ?_, fun b o q hx => ?_, fun b xs q => ub.tups b xs (un.tups b xs q),
      fun b o u q => ub.frzs b o u (un.frzs b o u q), fun b ps q => ?_⟩ (hok'.kept gB) ag hch
    · obtain ⟨o', e1⟩ := un.there b o q hx
      exact ub.free b o' e1 (un.free b o q n hx)
    · by_cases hb : b ∈ frs X.stack
      · obtain ⟨sl, e1⟩ := slo b o q (I3.stkFree b hb) hb hx
        exact ⟨_, e1⟩
      · obtain ⟨o1, e1⟩ := un.there b o q hx
        obtain ⟨o2, e2⟩ := ub.there b o1 e1 hb
        exact ⟨o2, gB b o2 (b2 b o2 e2 (neC b o q))⟩
    · obtain ⟨m1, e1⟩ := un.tbls b ps q
      obtain ⟨m2, e2⟩ := ub.tbls b _ e1
      exact ⟨m1 ++ m2, by rw [e2, Array.append_assoc]⟩
  have air : XE X (fun cls d _ H => E cls d H) (.ref a) { s' with heap := h' } := by
    refine ⟨a, B', _, pins, σ, H', cls, d, rfl, J, fun b o q hb => ?_, Heap.UpToSlots.of_keeps fun b o q => (gO b o q).1, .inr (.inr held'), na, os.trans I.os, ag, hE⟩
    rcases (gO b o q).2 with z | z
    · obtain ⟨o', e1⟩ := Option.isSome_iff_exists.mp z
      have e2 := gB b o' e1
      rw [show F.get? b = some o from q] at e2
      cases e2
      exact e1
    · exact absurd z hb
  have go : wpAny (model X.prog X.w) X.A (setFlight (.ref a) ce.frame >>= fun _ => (throw (.ref a) : Sem Value)) (fun _ _ => False) X.xe { s' with heap := h' } := by
    rw [hF, hfr]
    unfold setFlight
    refine wpAny_bind (wpAny_bind (wpAny_field qa q3 q4 ?_))
    rw [if_pos (show (Value.ref T != Value.none) = true from by simp)]
    refine wpAny_setField qT q8 hsz ?_
    rw [show ((some X.env.locals : Option Addr).elim Value.none fun f => rawInt f) = rawInt X.env.locals from rfl, Heap.update_setField_same h' T oT ts 3 (rawInt X.env.locals) qT q8 q9]
    exact wpAny_throw (tk _ _ air)
  unfold PySem.passOn
  refine wpAny_bind (wpAny_field qa q3 q4 ?_)
  rw [if_neg (show ¬ ((Value.ref T == Value.none) = true) from by simp)]
  first
    | exact go
    | exact wpAny_bind (wpAny_pure go)
end
end LcX
namespace LcX
open PySem PySem.Spec PyProof.Rows L2
section
variable {M : Model} {A : Around} {E : Value → Shared → Prop} {t : Shared} {env : Env}
/-- the block as a whole, its end by postX: the exception's frame is that of the block's own environment -/
theorem block_free {lc : Expr} {scope : Scope} {pos : Pos} {acc0 first : Sem Value} {g : Comprehension} {gs : List Comprehension} {cl : List (Str × Addr)} {Q : Value → Shared → Prop}
    (hcl : clausesOf lc = g :: gs) (hf : ∀ x, foldedSetIterable g.iter env x = pure x) (hcf : closureFor scope env = pure cl) (hk : scope.kind = .function) (hn : ∀ x ∈ scope.names, x.2 = .local → scope.names.lookup x.1 = some .local)
    (h : wpAny M A first (fun x t1 => wpAny M A (pyIter x) (fun it t2 => wpAny M A acc0 (fun acc t3 => wpAny M A (newFunctionEnv scope env.globals cl [] env.qual none .none (some env)) (fun ce t4 =>
      codeAny M A (.compStart lc 0 it acc { ce with scope := relabel scope env }) (postX M A E { ce with scope := relabel scope env } (Q acc)) t4) E t3) E t2) E t1) E t) :
    wpAny M A (comprehension lc scope env pos acc0 false first none) Q E t := by
  unfold comprehension
  rw [hcf, hcl]
  have id1 : ∀ {α : Type} {Q1 Q2 : α → Shared → Prop} {m : Sem α} {u : Shared}, wpAny M A m Q1 E u → (∀ a s, Q1 a s → Q2 a s) → wpAny M A m Q2 E u := fun a b => wpAny_mono a b fun _ _ z => z
  refine wpAny_bind (id1 h fun x t1 k1 => wpAny_bind (wpAny_standAt (wpAny_bind (wpAny_of_eq (hf x) (wpAny_bind (wpAny_holding (id1 k1 fun it t2 k2 => wpAny_standIf (wpAny_bind (id1 k2 fun acc t3 k3 => wpAny_bind (wpAny_pure (wpAny_bind (id1 k3 fun ce t4 k4 => ?_))))))))))))
  dsimp only
  have own : ∀ x ∈ (scope.names.filter fun x => (x.2 == .local || x.2 == .cell) && x.1 != (".0" : Str)).reverse, x.2 = .local → Env.kindOf { ce with scope := relabel scope env } x.1 = some .local := fun x hx hl => lookup_relabel_local (hn x (List.mem_filter.mp (List.mem_reverse.mp hx)).1 hl)
  refine wpAny_holding (wpAny_bind (wpAny_attempt (wpAny_holding (wpAny_run (codeAny_mono k4 fun r t5 k5 => ?_)))))
  match r, k5 with
  | .ok f, ⟨m, n5, q5⟩ => exact wpAny_bind (wpAny_holding (wpAny_comp_letGo (cenv := { ce with scope := relabel scope env }) hk _ t5 m own n5 fun h' m' _ sb => wpAny_pure (q5 h' sb)))
  | .error x, ⟨m, n5, q5⟩ => exact wpAny_bind (wpAny_holding (wpAny_comp_letGo (cenv := { ce with scope := relabel scope env }) hk _ t5 m own n5 fun h' m' _ sb => wpAny_mono (q5 h' sb) (fun _ _ z => z.elim) fun _ _ z => z))
end
section
variable {X : Cx}
/-- [elt for target in iter if ..] whose elt lets a call's exceptions out -/
theorem pe_lcR {elt tg iter : Expr} {ifs : List Expr} {scope : Scope} {own : List (Str × Nat)} {pos : Pos} {wi : TI} {g : TG} {tt : TT} {te : TE} {E : XK} (hc : X.calm = true) (hN : X.N.Nodup) (hst : X.stack = X.env :: X.outer) (hfr : X.env.frame = some X.env.locals) (tk : Takes X (fun cls d _ H => E cls d H))
    (hi : PI X tg iter wi) (ok : BlkOk X.N X.env.scope scope own) (hg : ∀ (s : Shared) (H : Hp) (C : Addr) (cl : List (Str × Addr)) (fp : List Addr), PG (X.blk s H scope (compEnvC scope cl C X.env) fp) tg g)
    (ht : ∀ (s : Shared) (H : Hp) (C : Addr) (cl : List (Str × Addr)) (fp : List Addr), PTs (X.blk s H scope (compEnvC scope cl C X.env) fp) ifs tt)
    (he : ∀ (s : Shared) (H : Hp) (C : Addr) (cl : List (Str × Addr)) (fp : List Addr), PE (blX X E s H scope (compEnvC scope cl C X.env) fp) elt te) (hs : ∀ x, foldedSetIterable iter X.env x = pure x := by intro _; rfl) :
    PE X (.ListComp elt [⟨tg, iter, ifs, 0⟩] scope pos) (tLc wi g tt te (own.map (·.2))) := by
  refine ⟨fun pins s σ H Q I h => ?_⟩
  rw [eval_ListComp]
  have clo : ∀ y ∈ scope.names, y.2 = .free → ∃ c, X.env.cells.lookup y.1 = some c := fun y hy e => I.ok.has _ (ok.free y hy e)
  refine block_free rfl hs (closure_ok clo) ok.kind (fun y hy e => by rw [ok.uniq y hy, e]) (thn (hi.run pins s σ H _ I h) fun x0 t1 hx => thn hx fun i0 t2 ⟨it, fp, tn, J, H2, e, I2, T, st2, f2, q⟩ => ?_)
  subst e
  refine wpAny_newObj_type (newEnv_comp ?_) (by show 0 ≤ sizeLine; decide)
  obtain ⟨D, eD⟩ : ∃ D, D = t2.heap.objs.size := ⟨_, rfl⟩
  rw [← eD]
  have nD : H2 D = none := I2.hok.fresh (Nat.le_of_eq eD.symm)
  obtain ⟨W, ⟨m0, w0⟩, turn⟩ := q D nD
  obtain ⟨t3, e3⟩ : ∃ t3 : Shared, t3 = { t2 with heap := t2.heap.push { cls := .type "list", data := .seq ([] : List Value).toArray } } := ⟨_, rfl⟩
  rw [show ({ t2 with heap := t2.heap.push { cls := .type "list", data := .seq ([] : List Value).toArray } } : Shared) = t3 from e3.symm]
  have k23 : ∀ b o, t2.heap.get? b = some o → t3.heap.get? b = some o := fun b o e => by rw [e3]; exact Heap.get?_push_of_some _ e
  obtain ⟨H3, eH⟩ : ∃ H3, H3 = upd H2 D (.lst []) := ⟨_, rfl⟩
  rw [← eH] at w0
  have I3 : Inv X pins σ H3 t3 := by
    rw [eH, e3]
    exact I2.laid (t' := t2.toks) (fun b o e => Heap.get?_push_of_some _ e) (Nat.le_of_eq eD.symm) ⟨Nat.zero_le _, [], 0, .nil, by rw [eD]; exact Heap.get?_push_size _ rfl⟩
  have fpt : ∀ b ∈ fp, FpOk X pins H3 b ∧ b < t3.heap.objs.size := fun b hb => by
    obtain ⟨o, e, _⟩ := T.obj _ _ st2 b hb
    refine ⟨⟨?_, (f2 b hb).2⟩, Heap.lt_size (k23 b o e)⟩
    rw [eH, upd_ne (by rw [eD]; exact Nat.ne_of_lt (Heap.lt_size e))]
    exact (f2 b hb).1
  have hch : ∀ b ∈ fp, (b ∈ X.ex ∨ X.s_0.heap.objs.size ≤ b) ∧ b ≠ X.env.locals ∧ (∀ x c, X.env.cells.lookup x = some c → c ≠ b) ∧ ∀ p ∈ X.pn ++ pins, p.1 ≠ b := fun b hb => by
    obtain ⟨_, z1, _, z2, z3, z4⟩ := (fpt b hb).1
    exact ⟨z2, z1, z3, z4⟩
  have I4 := block_start I3 ok hN fpt
  obtain ⟨cl, ecl⟩ : ∃ cl, cl = cellsFrom (t3.heap.objs.size + 1) scope.names (cloFrom X.env.cells scope.names []) := ⟨_, rfl⟩
  obtain ⟨ce, ece⟩ : ∃ ce, ce = compEnvC scope cl t3.heap.objs.size X.env := ⟨_, rfl⟩
  have pg := hg t3 H3 t3.heap.objs.size cl fp
  have pt := ht t3 H3 t3.heap.objs.size cl fp
  have pe := he t3 H3 t3.heap.objs.size cl fp
  show codeAny _ _ (.compStart (.ListComp elt [⟨tg, iter, ifs, 0⟩] scope pos) 0 (.ref it) (.ref D) (compEnvC scope (cellsFrom (t3.heap.objs.size + 1) scope.names (cloFrom X.env.cells scope.names [])) t3.heap.objs.size X.env))
    (postX (model X.prog X.w) X.A X.xe (compEnvC scope (cellsFrom (t3.heap.objs.size + 1) scope.names (cloFrom X.env.cells scope.names [])) t3.heap.objs.size X.env) (EP X pins σ Q (.ref D))) { t3 with heap := pushCells (t3.heap.push { cls := .type "dict", data := .dict #[] }) scope.names }
  rw [← ecl, ← ece] at I4 ⊢
  rw [← ece] at pg pt pe
  have ceL : ce.locals = t3.heap.objs.size := by rw [ece]; rfl
  have ceF : ce.frame = X.env.frame := by rw [ece]; rfl
  obtain ⟨t4, e4⟩ : ∃ t4 : Shared, t4 = { t3 with heap := pushCells (t3.heap.push { cls := .type "dict", data := .dict #[] }) scope.names } := ⟨_, rfl⟩
  rw [show ({ t3 with heap := pushCells (t3.heap.push { cls := .type "dict", data := .dict #[] }) scope.names } : Shared) = t4 from e4.symm] at I4 ⊢
  have st4 : tn 0 t4.heap := T.keep _ _ _ st2 fun b _ o e => by rw [e4]; exact pushCells_keeps _ _ _ _ (Heap.get?_push_of_some _ (k23 b o e))
  have at_fp : ∀ {τ : L2.St} {G : Hp} {u : Shared}, Inv (X.blk t3 H3 scope ce fp) [] τ G u → (∀ b ∈ fp, G b = none) → ∀ b ∈ fp, FpOk (X.blk t3 H3 scope ce fp) [] G b := fun {τ G u} K n b hb =>
    ⟨n b hb, (K.ok.exf b hb).1, K.ok.exfs b hb, .inl hb, fun x c e => (K.ok.exf b hb).2 x c e, fun p hp => nomatch hp⟩
  have outE : ∀ e' u, outX (X.blk t3 H3 scope ce fp) E e' u → notedBy (model X.prog X.w) X.A ce (fun e u => postX (model X.prog X.w) X.A X.xe ce (EP X pins σ Q (.ref D)) (.error e) u) e' u := fun e' u o => out_air I3 hst hfr tk ceL ceF hch o
  have lop : codeAny (model X.prog X.w) X.A (.compLoop (.ListComp elt [⟨tg, iter, ifs, 0⟩] scope pos) 0 (.ref it) (.ref D) ce) (postX (model X.prog X.w) X.A X.xe ce (EP X pins σ Q (.ref D))) t4 := by
    refine compLoop_any (fun n u => ∃ i G, Inv (X.blk t3 H3 scope ce fp) [] (wipe σ (own.map (·.2))) G u ∧ tn i u.heap ∧ (∀ b ∈ fp, G b = none) ∧ W i n G) ?_ m0 ⟨0, H3, I4, st4, fun b hb => (fpt b hb).1.1, w0⟩
    rintro n t5 ⟨i, H5, I5, st5, n5, w5⟩
    rcases turn i n H5 w5 with ⟨halt, qq⟩ | ⟨goes, Nx, hNx, step⟩
    · refine thnF (T.done (X.blk t3 H3 scope ce fp) rfl rfl rfl hc i [] t5 _ H5 (fun _ _ => False) I5 (at_fp I5 n5) st5 halt) fun r t6 ⟨hr, I6⟩ => ?_
      subst hr
      obtain ⟨m, hm, _⟩ := I6.loc
      have K : Inv X pins σ H5 t6 := I3.call' (ch := fp) I6.os I6.base I6.hok I6.bare hch
      have nC : H5 t3.heap.objs.size = none := by
        rw [← ceL]
        exact I6.free
      obtain ⟨g0, g1, g2, g3, g4, g5⟩ := I3.fpOk (H' := H5) (Nat.le_refl _) nC
      refine ⟨m, hm, fun h' sb => ?_⟩
      rw [ceL] at sb
      exact ⟨.ref D, H5, K.turned (t' := t6.toks) (fun b o hb e => (sb.2 b hb).trans e) g0 g1 g3 g4 g5, rfl, qq⟩
    · refine thnF (T.item (X.blk t3 H3 scope ce fp) rfl rfl rfl hc i [] t5 _ H5 (fun _ _ => False) I5 (at_fp I5 n5) st5 goes) fun r t6 ⟨u, hr, k6⟩ => ?_
      subst hr
      refine thnF k6 fun _ t7 ⟨x, H7, I7, r7, y7, st7, n7⟩ => ?_
      refine thnF (pg.run _ t7 _ H7 x u _ (I7.pinned (at_fp I7 n7) (T.obj _ _ st7)) r7 (step x H7 y7)) fun _ t8 ⟨σ8, H8, I8, w8, k8⟩ => ?_
      refine thnF (pt.run _ t8 σ8 H8 _ I8 k8) fun b t9 ⟨H9, I9, k9⟩ => ?_
      have next : ∀ {v : Shared} {G : Hp}, Inv (X.blk t3 H3 scope ce fp) ([] ++ pinsAt fp t7.heap) σ8 G v → Nx G → ∃ m, m < n ∧ ∃ i G, Inv (X.blk t3 H3 scope ce fp) [] (wipe σ (own.map (·.2))) G v ∧ tn i v.heap ∧ (∀ b ∈ fp, G b = none) ∧ W i m G := fun {v G} K nx => by
        obtain ⟨m', lt, w'⟩ := hNx G nx
        have pinned : ∀ b ∈ fp, ∀ o, t7.heap.get? b = some o → v.heap.get? b = some o ∧ G b = none := fun b hb o e => by
          have z := K.pin (b, o) (List.mem_append_right _ (List.mem_append_right _ (mem_pinsAt hb e)))
          exact ⟨z.1, z.2.1⟩
        refine ⟨m', lt, i + 1, G, (K.unpinned (pins := [])).weak (by rw [← w8, wipe_length]) (fun j v e => ?_), T.keep _ _ _ st7 fun b hb o e => (pinned b hb o e).1, fun b hb => ?_, w'⟩
        · rw [← w8] at e
          exact (wipe_some e).1
        · obtain ⟨o, e, _⟩ := T.obj _ _ st7 b hb
          exact (pinned b hb o e).2
      match b, k9 with
      | false, k9 => exact next I9 k9
      | true, k9 =>
        refine wpAny_mono (pe.run _ t9 σ8 H9 _ (I9.wish _) k9) (fun z t10 ⟨y, H10, I10, r10, acc, d10, z10, nx⟩ => ?_) fun e' u o => outE e' u o
        exact app_ok (X := X.blk t3 H3 scope ce fp) I10.unwish d10 z10 r10 fun t11 I11 => next I11 nx
  exact codeAny_compStart_list lop (T.self X.A 0 _ _ _ st4 lop)
end
end LcX
/-! == of tuples of texts, and of tuples of such tuples -/
namespace Own
open PySem PySem.Spec PyProof.Rows L2 Sup
theorem all_same {α : Type} [DecidableEq α] (xs ys : List α) : ((List.range (min xs.length ys.length)).all (fun j => decide (xs[j]? = ys[j]?)) && xs.length == ys.length) = decide (xs = ys) := by
  refine Bool.eq_iff_iff.mpr ?_
  rw [Bool.and_eq_true, List.all_eq_true, decide_eq_true_eq, beq_iff_eq]
  constructor
  · rintro ⟨h1, h2⟩
    refine List.ext_getElem? fun j => ?_
    by_cases hj : j < xs.length
    · exact of_decide_eq_true (h1 j (List.mem_range.mpr (by omega)))
    · rw [List.getElem?_eq_none (by omega), List.getElem?_eq_none (by omega)]
  · rintro rfl
    exact ⟨fun j _ => decide_eq_true rfl, rfl⟩
theorem strs_nth : ∀ {zs : List Str} {its : List Value}, Vals (zs.map V.str) its → ∀ (j : Nat) (h : j < its.length), ∃ z tk, zs[j]? = some z ∧ its[j] = .str z tk
  | [], [], .nil, j, h => absurd h (Nat.not_lt_zero _)
  | z :: zs, _, .cons r t, 0, h => by
    obtain ⟨tk, rfl⟩ := r
    exact ⟨z, tk, rfl, rfl⟩
  | z :: zs, _, .cons r t, j + 1, h => by
    obtain ⟨y, tk, e1, e2⟩ := strs_nth t j (Nat.lt_of_succ_lt_succ h)
    exact ⟨y, tk, e1, e2⟩
theorem refs_nth : ∀ {as : List Addr} {its : List Value}, Vals (as.map V.ref) its → ∀ (j : Nat) (h : j < its.length), ∃ a, as[j]? = some a ∧ its[j] = .ref a
  | [], [], .nil, j, h => absurd h (Nat.not_lt_zero _)
  | a :: as, _, .cons r t, 0, h => by
    obtain rfl := r
    exact ⟨a, rfl, rfl⟩
  | a :: as, _, .cons r t, j + 1, h => refs_nth t j (Nat.lt_of_succ_lt_succ h)
section
variable {X : Cx} {pins : List (Addr × Obj)} {σ : L2.St} {H : Hp} {s : Shared}
theorem eqT_at (I : Inv X pins σ H s) {A : Around} {a b : Addr} {xs ys : List Str} (ha : H a = some (.tup (xs.map V.str))) (hb : H b = some (.tup (ys.map V.str))) (hu : A.units < cLine) : SeqAt.RcAt A s (.ref a) (.ref b) (decide (xs = ys)) := by
  obtain ⟨it1, r1, p1, _⟩ := I.tuple (SqT.of ha)
  obtain ⟨it2, r2, p2, _⟩ := I.tuple (SqT.of hb)
  have l1 : it1.length = xs.length := by rw [← r1.length, List.length_map]
  have l2 : it2.length = ys.length := by rw [← r2.length, List.length_map]
  have z := SeqAt.RcAt.tuples (A := A) (s := s) (e := fun j => decide (xs[j]? = ys[j]?)) p1 p2 hu fun j h1 h2 => by
    obtain ⟨x, t1, e1, q1⟩ := strs_nth r1 j h1
    obtain ⟨y, t2, e2, q2⟩ := strs_nth r2 j h2
    have w := SeqAt.EqAt.str_str (A := A.in1) (s := s) x t1 y t2
    have e : decide (xs[j]? = ys[j]?) = (x == y) := by
      rw [e1, e2]
      refine Bool.eq_iff_iff.mpr ?_
      rw [decide_eq_true_eq, beq_iff_eq]
      exact ⟨fun h => Option.some.inj h, fun h => by rw [h]⟩
    show SeqAt.EqAt A.in1 s it1[j] it2[j] _
    rw [e, q1, q2]
    exact w
  rw [List.size_toArray, List.size_toArray, l1, l2, all_same] at z
  exact z
def rEqT : R2 := fun x y H Q => ∃ (a b : Addr) (xs ys : List Str), x = .ref a ∧ y = .ref b ∧ H a = some (.tup (xs.map V.str)) ∧ H b = some (.tup (ys.map V.str)) ∧ Q (.bl (decide (xs = ys))) H
theorem op_eqT (hu : X.A.units < cLine) : OpR X (compareOp .Eq) rEqT := by
  intro pins s σ H x y v u Q I rx ry h
  obtain ⟨a, b, xs, ys, rfl, rfl, ha, hb, q⟩ := h
  obtain rfl : v = Value.ref a := rx
  obtain rfl : u = Value.ref b := ry
  exact eqT_at I ha hb hu _ _ _ _ ⟨.bl _, H, I, rfl, q⟩
end
end Own
namespace Sj
open PySem L2 Sup StK Own Shw Exg Grd KepE
open NdefX (NF NScope ncx envF startF nscope_by)
open C8 (pss_cut tCut)
/-! Board.joins -/
abbrev sBoJ : Stmt := inClass (top 25) 3
abbrev nBoJ : List Str := ["self", "names", "homes", "name", "home"]
theorem scBoJ : FnScope nBoJ ["self", "names"] (defScope sBoJ) := ⟨rfl, rfl, rfl, by decide +kernel, rfl, by decide +kernel, by decide +kernel⟩
def allSame (ys : List (Addr × List Str)) : Bool := ys.all fun y => decide (y.2 = ((ys.head?).map (·.2)).getD [])
/-- what is no element of the frame -/
def NoMem (K : PySem.W.Frag) (H : Hp) (x : V) (d : FrD) : Prop := (∃ z : Str, x = .str z ∧ z ∉ membZ d) ∨ (NotLeg K H x d ∧ InS K H (railsZ d.g d.r) x false)
theorem NoMem.same {K : PySem.W.Frag} {H H' : Hp} {x : V} {d : FrD} (h : NoMem K H x d) (s : Same H H') : NoMem K H' x d := h.imp id fun q => ⟨q.1.imp id fun ⟨t, ty, e⟩ => ⟨t, tyx_same ty s, e⟩, inS_same q.2 s⟩
/-- the names lead to the blocks ys; behind them stands nothing, or what is no element -/
def spBJo (K : PySem.W.Frag) (ks : Kinds) (CF CB CN : Addr) : Sp := fun vs H Q E => ∃ (o f t : Addr) (d : FrD) (L ys : List (Addr × List Str)) (xs : List V), vs = [.ref o, .ref t] ∧ BoAt H o CB f L ∧ FrIs ks CF H f d ∧ H t = some (.tup xs) ∧ ys.length ≤ 1000 ∧
  (∀ (i : Nat) (y : Addr × List Str), ys[i]? = some y → y ∈ L ∧ ∃ z ∈ y.2, z ∈ membZ d ∧ xs[i]? = some (.str z)) ∧
  ((xs.length = ys.length ∧ ∀ H', Same H H' → Q (.bl (allSame ys)) H') ∨
   ∃ x, xs[ys.length]? = some x ∧ NoMem K H x d ∧ ∃ pd, Dq K H x pd ∧ Smalls pd ∧ ∀ e H', H e = none → H' e = some (.xd [("name", x)]) → Same H H' → E (.ref CN) (some e) H')
def teHo (K : PySem.W.Frag) (ks : Kinds) (CF CB CN : Addr) (E : XK) : TE := tItO CB (spBGet K ks CF CB CN) E (tVar 0) (tVar 3)
def teHs (K : PySem.W.Frag) : TE := tOp rEqT (tVar 4) (tOp (rIxL K) (tVar 2) (tC (.int 0)))
section
variable {P : Program} {w : World} {K : PySem.W.Frag} {mg : Str → Option Value} {base : Heap}
theorem body_boJ {CF CB CN f : Addr} {ks : Kinds} (G : MetG P w K mg base (L2.CX P w) 4 CB "__getitem__" ["self", "at"] (spBGet K ks CF CB CN)) (mA : mg "all" = none) (cdv : Value) (A : Around) (outer : List Env) (s : Shared) (H : Hp) (vs : List V) (Q : VK) (E : XK) (hg : A.guards = some [])
    (hr : Room 5 (A.deeper (PyProof.Rows.envOfC "Board.joins" (defScope sBoJ) s.heap.objs.size f cdv))) (h : spBJo K ks CF CB CN vs H Q E) :
    ∃ t, PSs (cxOf (L2.CX P w) P w K mg base nBoJ "Board.joins" (defScope sBoJ) f cdv A outer s H E) (defBody sBoJ) t ∧ t { nx := fun _ H' => Q .non H', rt := Q } (start nBoJ vs) H := by
  obtain ⟨o, fr, t, d, L, ys, xs, rfl, hB, hF, ht, hyl, hyx, h⟩ := h
  refine ⟨_, pss_cons (ps_set (i := 2) scBoJ.nd rfl (Or.inr rfl) (LcX.pe_lcR (E := E) (te := teHo K ks CF CB CN E) (tt := tYes) (own := [("name", 3)]) (g := gName 3) rfl scBoJ.nd rfl rfl (takes_of rfl rfl rfl rfl) (pi_tup (pv 1)) (blkOk_by (N := nBoJ) (sc := defScope sBoJ) (by decide +kernel))
        (fun _ _ _ _ _ => pg_name (i := 3) scBoJ.nd rfl (Or.inl rfl)) (fun _ _ _ _ _ => pts_nil) (fun _ _ _ _ _ => pe_itO G hg hr LcX.passX (pv 0) (pv 3))))
    (pss_one (ps_ret (pe_callB (cr_all rfl) (by rfl) mA (by decide +kernel) (pa_cons (pe_lc (te := teHs K) (tt := tYes) (own := [("home", 4)]) (g := gName 4) rfl scBoJ.nd (pi_list (pv 2)) (blkOk_by (N := nBoJ) (sc := defScope sBoJ) (by decide +kernel))
        (fun _ _ _ _ _ => pg_name (i := 4) scBoJ.nd rfl (Or.inl rfl)) (fun _ _ _ _ _ => pts_nil) (fun _ _ _ _ _ => pe_cmpR (op_eqT hr.units0) (pv 4) (pe_ix ix_list (pv 2) pe_int (fun _ _ => rfl)) (nomark _))) pa_nil)))), ?_⟩
  obtain ⟨dx, B, D, hs, h1, h2, h3, _⟩ := id hB
  have add : ∀ {D1 : Addr} {H1 Hc : Hp} {acc acc' : List V} {v : V}, H1 D1 = none → acc.length ≤ 1000 → acc' = acc ++ [v] → Same H1 Hc → Hc D1 = some (.lst acc) → acc.length < sizeLine ∧ Same H1 (upd Hc D1 (.lst (acc ++ [v]))) ∧ upd Hc D1 (.lst (acc ++ [v])) D1 = some (.lst acc') := fun {D1 H1 Hc acc acc' v} hD hl e s hd =>
    ⟨Nat.lt_of_le_of_lt hl (by decide), fun c u q => by rw [upd_ne (ne_of_none q hD)]; exact s _ _ q, by rw [upd_same, e]⟩
  have tk : ∀ {β : Type} (g : Addr × List Str → β) {i : Nat} {y : Addr × List Str}, ys[i]? = some y → (ys.take (i + 1)).map g = (ys.take i).map g ++ [g y] := fun {β} g {i} {y} e => by rw [List.take_add_one, e, Option.toList_some, List.map_append]; rfl
  have tl : ∀ {β : Type} (g : Addr × List Str → β) (i : Nat), ((ys.take i).map g).length ≤ 1000 := fun g i => by rw [List.length_map, List.length_take]; omega
  -- homes
  refine ⟨_, rfl, t, rfl, ⟨_, SqT.of ht⟩, fun D1 hD1 => ?_⟩
  refine lc_it (walk_tup (K := K) (a := t) (xs := xs)) (fun i H' => i ≤ ys.length ∧ Same H H' ∧ H' D1 = some (.lst ((ys.take i).map fun y => V.ref y.1))) ⟨Nat.zero_le _, same_at hD1, upd_same⟩ (fun i H' _ p => SqT.of (p.2.1 _ _ ht)) ?_ ?_
  · rintro i x Ho Ha hi ⟨hil, sa, da⟩ ⟨rfl, hx⟩
    refine ⟨rfl, ?_⟩
    unfold tYes
    dsimp only
    rw [if_pos rfl]
    refine ⟨_, rfl, _, rfl, o, dx, _, rfl, sa _ _ h1, o, fr, d, L, x, rfl, hB.same sa, hF.same sa, ?_⟩
    by_cases hiy : i < ys.length
    · have ey : ys[i]? = some ys[i] := List.getElem?_eq_getElem hiy
      obtain ⟨hyL, z, hz, hm, hxz⟩ := hyx i _ ey
      rw [hx] at hxz
      obtain rfl := Option.some.inj hxz
      refine .inl ⟨ys[i], hyL, z, hz, rfl, hm, fun H1 s1 => ?_⟩
      obtain ⟨q1, q2, q3⟩ := add (v := .ref ys[i].1) hD1 (tl _ i) (tk (fun y => V.ref y.1) ey) (sa.trans s1) (s1 _ _ da)
      exact ⟨_, s1 _ _ da, q1, Nat.succ_le_of_lt hiy, q2, q3⟩
    · obtain rfl : i = ys.length := by omega
      rcases h with ⟨hl, _⟩ | ⟨x', hx', no, pd, hpd, sm, k⟩
      · exact absurd hi (by omega)
      · rw [hx'] at hx
        obtain rfl := Option.some.inj hx
        exact .inr ⟨no.same sa, pd, Dq.same sa _ _ hpd, sm, fun e H1 he hx1 s1 => k e H1 (sa.free he) hx1 (sa.trans s1)⟩
  rintro H1 ⟨hxl, s1, d1⟩
  rcases h with ⟨hl, k⟩ | ⟨x', hx', _⟩
  case inr => exact absurd (List.getElem?_eq_some_iff.mp hx').1 (by omega)
  rw [hl, List.take_length] at d1
  have hrl : (ys.map fun y => V.ref y.1).length = ys.length := List.length_map _
  refine ⟨_, rfl, D1, rfl, ⟨_, SqL.of d1⟩, fun D2 hD2 => ?_⟩
  refine lc_it (walk_list (K := K) (a := D1) (xs := ys.map fun y => V.ref y.1)) (fun i H' => Same H1 H' ∧ H' D2 = some (.lst ((ys.take i).map fun y => V.bl (decide (y.2 = ((ys.head?).map (·.2)).getD []))))) ⟨same_at hD2, upd_same⟩ (fun i H' _ p => SqL.of (p.1 _ _ d1)) ?_ ?_
  · rintro i x Ho Ha hi ⟨sa, da⟩ ⟨rfl, hx⟩
    rw [hrl] at hi
    have ey : ys[i]? = some ys[i] := List.getElem?_eq_getElem hi
    rw [List.getElem?_map, ey] at hx
    obtain rfl := Option.some.inj hx
    refine ⟨rfl, ?_⟩
    unfold tYes
    dsimp only
    rw [if_pos rfl]
    have h0 : 0 < ys.length := by omega
    have e0 : ys[0]? = some ys[0] := List.getElem?_eq_getElem h0
    have eh : ((ys.head?).map (·.2)).getD [] = ys[0].2 := by rw [List.head?_eq_getElem?, e0]; rfl
    have rw_ : ∀ {j : Nat} {y : Addr × List Str}, ys[j]? = some y → Ha y.1 = some (.tup (y.2.map V.str)) := fun {j y} e => (s1.trans sa) _ _ (h3 _ (hyx j y e).1).1
    have ea : (ys.take (i + 1)).map (fun y => V.bl (decide (y.2 = ((ys.head?).map (·.2)).getD []))) = (ys.take i).map (fun y => V.bl (decide (y.2 = ((ys.head?).map (·.2)).getD []))) ++ [V.bl (decide (ys[i].2 = ys[0].2))] := by rw [tk _ ey, eh]
    obtain ⟨q1, q2, q3⟩ := add (v := V.bl (decide (ys[i].2 = ys[0].2))) hD2 (tl _ i) ea sa da
    exact ⟨_, rfl, _, rfl, D1, _, 0, .ref ys[0].1, rfl, rfl, SqL.of (sa _ _ d1), atI_nat (j := 0) (by rw [List.getElem?_map, e0]; rfl), ys[i].1, ys[0].1, ys[i].2, ys[0].2, rfl, rfl, rw_ ey, rw_ e0, _, da, q1, q2, q3⟩
  rintro H2 ⟨s2, d2⟩
  rw [hrl, List.take_length] at d2
  refine ⟨D2, ys.map fun y => decide (y.2 = ((ys.head?).map (·.2)).getD []), rfl, by rw [List.map_map]; exact SqL.of d2, ?_⟩
  rw [List.all_map]
  exact k H2 (s1.trans s2)
/-- the def, with its star -/
theorem fg_boJ {CF CB CN f : Addr} {fd : FuncData} {ks : Kinds} (F : FunD K "joins" "Board.joins" (defArgs sBoJ) (defBody sBoJ) (defScope sBoJ) [] [] f fd) (G : MetG P w K mg base (L2.CX P w) 4 CB "__getitem__" ["self", "at"] (spBGet K ks CF CB CN)) (mA : mg "all" = none) :
    FnGR P w K mg base (L2.CX P w) 6 f (spStarG ["self"] (spBJo K ks CF CB CN)) := by
  obtain ⟨oc, od, dV, kV, doc, pm, an, cdv, ct, osl, rfl, lk, hcd, hD, hK⟩ := F.ex
  rcases hD with ⟨_, rfl⟩ | ⟨e, _⟩
  case inr => exact absurd rfl e
  refine fn_starG (pv := "names") (ps := ["self"]) lk hcd scBoJ StX.cxUp (fun us rest h => ?_) fun A outer s H vs Q E hg hr h => body_boJ G mA cdv A outer s H vs Q E hg hr h
  exact StX.bind_star1 (B := fun l => bindArgs _ ⟨l, []⟩) (fun a => rfl) (fun a r rs => rfl) us rest h
end
end Sj
/-! s - t of two sets of texts, the first of at most three -/
namespace SetS
open PySem PySem.Spec PyProof.Rows L2
section
variable {P : Program} {w : World} {A : Around} {E : Value → Shared → Prop} {s : Shared} {a b r : Addr} {ks ls : List Str}
theorem walk_at {o : Obj} {es : Array (Int × Value)} {ep : Nat} {t : SetTable} {Q : Array (Int × Value) → Shared → Prop} (e1 : s.heap.get? a = some o) (d1 : o.data = .set es ep t) (f1 : t.fits es.size = true) (l1 : w.params.followText "set-order" = true ∨ t.led = true) (hp : w.params.followText "set-order" = true ∨ t.plain = true ∨ es.size ≤ 1)
    (h : ∀ es' : Array (Int × Value), es'.toList.Perm es.toList → Q es' s) : wpAny (model P w) A (setWalk a) Q E s := by
  unfold setWalk
  refine wpAny_bind (wpAny_setState_of e1 d1 f1 ?_)
  dsimp only
  refine wpAny_bind (wpAny_byText ?_)
  by_cases hb : w.params.followText "set-order" = true
  · refine wp_if_pos hb ?_
    exact wpAny_bind (wpAny_askSetting (wpAny_pure (h _ (pick_perm _ _))))
  · refine wp_if_neg hb ?_
    have hl := l1.resolve_left hb
    have hd : (!t.plain && decide (es.size > 1)) = false := by
      rcases hp.resolve_left hb with e | e
      · rw [e]
        rfl
      · rw [decide_eq_false (by omega), Bool.and_false]
    try refine wpAny_bind (wpAny_pure ?_)
    refine wp_if_neg (by show ¬ ((!t.plain && decide (es.size > 1)) = true); rw [hd]; exact Bool.false_ne_true) ?_
    try refine wpAny_bind (wpAny_pure ?_)
    refine wpAny_bind (wpAny_of_eq (a := ()) ?_ ?_)
    · show (if (!t.led && decide (es.size > 1)) = true then unsupported "set:maker-not-led" else pure ()) = pure ()
      rw [hl] <;> rfl
    · exact wpAny_pure (h es (.refl _))
end
end SetS
/-! s - t of sets of texts; is and is not of two truth values; xs == [] -/
namespace SetS
open PySem PySem.Spec PyProof.Rows L2
section
variable {X : Cx}
def rEqNil : R2 := fun x y H Q => ∃ a b xs, x = .ref a ∧ y = .ref b ∧ H a = some (.lst xs) ∧ H b = some (.lst []) ∧ Q (.bl xs.isEmpty) H
theorem op_eqNil (hu : X.A.units + 64 < cLine) : OpR X (compareOp .Eq) rEqNil := by
  intro pins s σ H x y v u Q I rx ry h
  obtain ⟨a, b, xs, rfl, rfl, ha, hb, q⟩ := h
  cases xs with
  | nil => exact op_eqD hu pins s σ H _ _ v u Q I rx ry ⟨.list [], .list [], .lst (SqL.of ha) .nil, .lst (SqL.of hb) .nil, rfl, rfl, q⟩
  | cons y ys =>
    obtain rfl : v = Value.ref a := rx
    obtain rfl : u = Value.ref b := ry
    obtain ⟨its, r1, p1, _⟩ := I.list (SqL.of ha)
    obtain ⟨it2, r2, p2, _⟩ := I.list (SqL.of hb)
    have e1 : its.toArray.size ≠ it2.toArray.size := by
      rw [List.size_toArray, List.size_toArray, ← r1.length, ← r2.length]
      exact Nat.succ_ne_zero _
    exact SeqAt.RcAt.lists_lengths p1.isList p2.isList (by simpa using e1) (Nat.lt_of_le_of_lt (Nat.le_add_right _ _) hu) _ _ _ _ ⟨.bl false, H, I, rfl, q⟩
end
end SetS
namespace Sj
open PySem L2 Sup StK Own Shw Exg Grd KepE
/-! k09: joins, as the law asks it -/
theorem boF_joins (f B D : Addr) : (boF f B D).lookup ("joins" : Str) = none := by
  unfold boF
  rw [lookup_putF, if_neg (by decide +kernel), lookup_putF, if_neg (by decide +kernel), lookup_putF, if_neg (by decide +kernel)]
  rfl
theorem rows_for {L : List (Addr × List Str)} : ∀ {zs : List Str}, (∀ z ∈ zs, ∃ y ∈ L, z ∈ y.2) → ∃ ys : List (Addr × List Str), ys.length = zs.length ∧ ∀ (i : Nat) (y : Addr × List Str), ys[i]? = some y → y ∈ L ∧ ∃ z, zs[i]? = some z ∧ z ∈ y.2
  | [], _ => ⟨[], rfl, fun i y e => by simp at e⟩
  | z :: zs, h => by
    obtain ⟨y, hy, hz⟩ := h z List.mem_cons_self
    obtain ⟨ys, hl, hr⟩ := rows_for fun z hz => h z (List.mem_cons_of_mem _ hz)
    refine ⟨y :: ys, by rw [List.length_cons, List.length_cons, hl], fun i x e => ?_⟩
    cases i with
    | zero =>
      obtain rfl := Option.some.inj e
      exact ⟨hy, z, rfl, hz⟩
    | succ i => exact hr i x e
section
variable {K : PySem.W.Frag} {ks : Kinds} {CF CB CN o f : Addr} {H : Hp} {d : FrD} {L : List (Addr × List Str)} {zs : List Str} {Q : VK} {E : XK}
theorem jo_rd (hB : BoAt H o CB f L) (hF : FrIs ks CF H f d) (hz : ∀ z ∈ zs, ∃ y ∈ L, z ∈ y.2) (hm : ∀ y ∈ L, ∀ z ∈ y.2, z ∈ membZ d) (hl : zs.length ≤ 100)
    (k : ∀ (ys : List (Addr × List Str)) H', ys.length = zs.length → (∀ (i : Nat) (y : Addr × List Str), ys[i]? = some y → y ∈ L ∧ ∃ z, zs[i]? = some z ∧ z ∈ y.2) → Same H H' → Q (.bl (allSame ys)) H') : spStarG ["self"] (spBJo K ks CF CB CN) (.ref o :: zs.map V.str) H Q E := by
  obtain ⟨ys, yl, hy⟩ := rows_for hz
  refine ⟨[.ref o], zs.map V.str, rfl, rfl, by rw [List.length_map]; exact Nat.le_trans hl (by decide), fun t ht => ?_⟩
  have st := same_at (o := .tup (zs.map V.str)) ht
  refine ⟨o, f, t, d, L, ys, _, rfl, hB.same st, hF.same st, upd_same, by omega, fun i y e => ?_, .inl ⟨by rw [List.length_map, yl], fun H' s => k ys H' yl hy (st.trans s)⟩⟩
  obtain ⟨h1, z, h2, h3⟩ := hy i y e
  exact ⟨h1, z, h3, hm y h1 z h3, by rw [List.getElem?_map, h2]; rfl⟩
end
theorem rows_disj {R : List (List Str)} (h : R.flatten.Nodup) {r r' : List Str} (h1 : r ∈ R) (h2 : r' ∈ R) {z : Str} (z1 : z ∈ r) (z2 : z ∈ r') : r = r' := by
  induction R with
  | nil => cases h1
  | cons x R ih =>
    rw [List.flatten_cons] at h
    have n := List.nodup_append.mp h
    rcases List.mem_cons.mp h1 with rfl | h1'
    · rcases List.mem_cons.mp h2 with rfl | h2'
      · rfl
      · exact absurd rfl (n.2.2 z z1 z (List.mem_flatten.mpr ⟨r', h2', z2⟩))
    · rcases List.mem_cons.mp h2 with rfl | h2'
      · exact absurd rfl (n.2.2 z z2 z (List.mem_flatten.mpr ⟨r, h1', z1⟩))
      · exact ih n.2.1 h1' h2'
end Sj
namespace Sj
open PySem L2 Sup StK Own Shw Exg Grd KepE
open NdefX (NF NScope ncx envF startF nscope_by)
open C8 (pss_cut tCut)
/-! board == value -/
structure BeT (P : Program) (w : World) (K : PySem.W.Frag) (mg : Str → Option Value) (base : Heap) (ks : Kinds) (CF CB : Addr) : Prop where
  isi : mg "isinstance" = none
  mB : mg "Board" = some (.ref CB)
  icB : IsiC K CB
  self : PySem.W.kitOne K (.ref CB) (.ref CB) = some true
  nF : NoAttr K CB "frame"
  nB : NoAttr K CB "_blocks"
  eqF : EqN P w K mg base 4 CF (spFEq K ks CF)
  icF : IsiC K CF
  nfF : PySem.W.notFirst K CF (.ref CF) = true
section
variable {P : Program} {w : World} {K : PySem.W.Frag} {mg : Str → Option Value} {base : Heap}
theorem own_rdF {op : CmpOp} {ks : Kinds} {CF : Addr} {H : Hp} {Q : VK} {a b : Addr} {d e : FrD} {v : Bool} (ic : IsiC K CF) (nf : PySem.W.notFirst K CF (.ref CF) = true) (ha : FrIs ks CF H a d) (hb : FrIs ks CF H b e) (he : eqFr d e = v) (k : ∀ H', Same H H' → Q (.bl (ansOf op v)) H') :
    rOwnE K op (fun C => C = CF) (fun _ => spFEq K ks CF) (.ref a) (.ref b) H Q := by
  obtain ⟨dx, fs, ea⟩ := ha.ins
  obtain ⟨dy, gs, eb⟩ := hb.ins
  subst he
  exact ⟨a, CF, dx, fs, rfl, ea, rfl, .inl ⟨.ref CF, .base (.ins eb ic.cl ic.ca ic.cn ic.ct ic.cm), nf, a, d, .ref b, rfl, ha, .inl ⟨b, e, rfl, hb, fun H' s => ⟨_, rfl, k H' s⟩⟩⟩⟩
end
end Sj
namespace Sj
open PySem L2 Sup StK Own Shw Exg Grd KepE
open NdefX (NF NScope ncx envF startF nscope_by)
open C8 (pss_cut tCut)
/-! k09: _law_board -/
abbrev sBrd : Stmt := top 46
abbrev nBrd : List Str := ["_law_pen_here", "_law_made", "_law_blocks_so", "_law_left", "_law_row", "_law_turn", "_law_joint", "_law_names_so", "_law_time", "_law_block"]
theorem scBrd : FnScope nBrd ["_law_pen_here", "_law_made", "_law_blocks_so"] (defScope sBrd) := ⟨rfl, rfl, rfl, by decide +kernel, rfl, by decide +kernel, by decide +kernel⟩
/-- Board.of by place, by words -/
abbrev ksBF : List Str := ["blocks", "frame"]
structure BoK (P : Program) (w : World) (K : PySem.W.Frag) (mg : Str → Option Value) (base : Heap) (ks : Kinds) (CF CI CB gO : Addr) : Prop where
  mB : mg "Board" = some (.ref CB)
  cls : ∃ mc pO, ClX.CRead K CB mc ∧ ClX.CMet K CB mc "of" pO gO
  of0 : FnK P w K mg base (L2.CX P w) 7 gO [] (fun vs zs H Q E => vs.length = 3 ∧ spBOf K ks CF CI CB vs H Q E)
  ofK : FnK P w K mg base (L2.CX P w) 7 gO ksBF (fun vs zs H Q E => vs.length = 1 ∧ spBOf K ks CF CI CB (vs ++ zs.reverse) H Q E)
section
variable {P : Program} {w : World} {K : PySem.W.Frag} {mg : Str → Option Value} {base : Heap}
theorem bo_of0 {f CF CI CB : Addr} {fd : FuncData} {ks : Kinds} (F : FunD K "of" "Board.of" (defArgs sBoO) (defBody sBoO) (defScope sBoO) [] [] f fd) (G : FnOk P w K mg base (L2.CX P w) 7 f fd ["cls", "frame", "blocks"] (spBOf K ks CF CI CB)) :
    FnK P w K mg base (L2.CX P w) 7 f [] (fun vs zs H Q E => vs.length = 3 ∧ spBOf K ks CF CI CB vs H Q E) := by
  have hb : KBn K fd ["cls", "frame", "blocks"] 3 [] (fun us _ => us) (fun vs _ => vs) := by
    obtain ⟨oc, od, dV, kV, doc, pm, an, cdv, ct, osl, rfl, lk, hcd, hD, hK⟩ := F.ex
    rcases hD with ⟨_, rfl⟩ | ⟨e, _⟩
    case inr => exact absurd rfl e
    exact ⟨fun s us ws X h1 h2 => match us, ws, h1, h2 with
      | [a, b, c], [], _, _ => .of_eq rfl, fun r _ => r⟩
  exact fnK_of G hb
theorem bo_ofK {f CF CI CB : Addr} {fd : FuncData} {ks : Kinds} (F : FunD K "of" "Board.of" (defArgs sBoO) (defBody sBoO) (defScope sBoO) [] [] f fd) (G : FnOk P w K mg base (L2.CX P w) 7 f fd ["cls", "frame", "blocks"] (spBOf K ks CF CI CB)) :
    FnK P w K mg base (L2.CX P w) 7 f ksBF (fun vs zs H Q E => vs.length = 1 ∧ spBOf K ks CF CI CB (vs ++ zs.reverse) H Q E) := by
  have rev : ∀ {vs : List V} {us : List Value}, Vals vs us → Vals vs.reverse us.reverse := by
    intro vs us r
    induction r with
    | nil => exact .nil
    | cons r t ih =>
      rw [List.reverse_cons, List.reverse_cons]
      exact ih.append (.cons r .nil)
  have hb : KBn K fd ["cls", "frame", "blocks"] 1 ksBF (fun us ws => us ++ ws.reverse) (fun vs zs => vs ++ zs.reverse) := by
    obtain ⟨oc, od, dV, kV, doc, pm, an, cdv, ct, osl, rfl, lk, hcd, hD, hK⟩ := F.ex
    rcases hD with ⟨_, rfl⟩ | ⟨e, _⟩
    case inr => exact absurd rfl e
    exact ⟨fun s us ws X h1 h2 => match us, ws, h1, h2 with
      | [a], [b, c], _, _ => .of_eq rfl, fun r1 r2 => r1.append (rev r2)⟩
  exact fnK_of G hb
structure BrT (P : Program) (w : World) (K : PySem.W.Frag) (mg : Str → Option Value) (base : Heap) (ks : Kinds) (CF CI CB gO : Addr) : Prop where
  dw : DwT P w K mg base
  bo : BoK P w K mg base ks CF CI CB gO
  len : mg "len" = none
  list : mg "list" = none
  tuple : mg "tuple" = none
  range : mg "range" = none
def teLs (K : PySem.W.Frag) : TE := tCB (fun xs H Q => ∃ p ys, xs = [V.ref p] ∧ (SqL K H p ys ∨ SqT K H p ys) ∧ ∀ l, H l = none → Q (.ref l) (upd H l (.lst ys))) (tCons (tVar 9) tNil)
def ttLs (K : PySem.W.Frag) : TT := tOr (tTest (tOp rGt0 (tCB (lenR K) (tCons (tVar 9) tNil)) (tC (.int 1)))) (tTest (tOp rEq (tCall spDraw [] E0 (tCons (tVar 0) (tCons (tC (.int 2)) tNil))) (tC (.int 0))))
def spBrd (ks : Kinds) (CF CB : Addr) : Sp := fun vs H Q _ => ∃ (p l : Addr) (cs : List Int) (n : Nat) (m q : Addr) (d : FrD) (Bl : List (Addr × List Str)), vs = [.ref p, .ref m, .ref q] ∧ Pen H p l cs n ∧ FrIs ks CF H m d ∧ BlL H q [p] Bl ∧ (allN Bl).Perm (membZ d) ∧ (membZ d).Nodup ∧ NoBoth Bl ∧ n < 80000 ∧ (membZ d).length ≤ 18 ∧
  ∀ o L H', RowsP Bl (L.map (·.2)) → BoAt H' o CB m L → H o = none → Pen H' p l cs (n + 400) → But H H' p → Q (.ref o) H'
theorem refsL_erase (Bl : List (Addr × List Str)) (k : Nat) : (refsL Bl).eraseIdx k = refsL (Bl.eraseIdx k) := map_erase _ Bl k
theorem FrIs.keepP {ks : Kinds} {CF : Addr} {H H' : Hp} {p l : Addr} {cs : List Int} {n : Nat} {a : Addr} {d : FrD} (h : FrIs ks CF H a d) (hP : Pen H p l cs n) (b : But H H' p) : FrIs ks CF H' a d := by
  obtain ⟨dx, D, h1, h2, h3⟩ := h.at_
  refine ⟨⟨dx, D, b.keep hP h1 (fun ys z => by cases z), b.keep hP h2 (fun ys z => by cases z), h3⟩, fun r hr => ?_, h.nd, h.le, h.so⟩
  obtain ⟨hc, dy, hl⟩ := h.ok r hr
  exact ⟨hc, dy, b.keep hP hl fun ys z => by cases z⟩
/-- where the loop over the turns stands -/
structure BrI (H H' : Hp) (p l : Addr) (cs : List Int) (n t : Nat) (D R : Addr) (Lf0 : List (Addr × List Str)) (Lf Rw : List (Addr × List Str)) : Prop where
  pen : Pen H' p l cs n
  but : But H H' p
  len : Lf.length + t = Lf0.length
  hD : H' D = some (.lst (refsL Lf))
  hR : H' R = some (.lst (refsL Rw))
  lf : ∀ x ∈ Lf, H' x.1 = some (.lst (strv x.2)) ∧ H x.1 = none ∧ x.1 ≠ D ∧ x.1 ≠ R
  nd : (Lf.map (·.1)).Nodup
  rw_ : ∀ x ∈ Rw, (H' x.1 = some (.lst (strv x.2)) ∨ H' x.1 = some (.tup (strv x.2))) ∧ x.1 ≠ D ∧ x.1 ≠ R ∧ x.1 ∉ Lf.map (·.1) ∧ x.1 ≠ p
  pm : (srtB Rw ++ srtB Lf).Perm (srtB Lf0)
  rl : Rw.length = t
theorem ok_brd {f CF CI CB gO : Addr} {fd : FuncData} {ks : Kinds} (F : Fun K "_law_board" "_law_board" sBrd f fd) (T : BrT P w K mg base ks CF CI CB gO) : FnOk P w K mg base CX0 8 f fd ["_law_pen_here", "_law_made", "_law_blocks_so"] (spBrd ks CF CB) := by
  obtain ⟨fD, fdD, mD, kD, bD, GD⟩ := T.dw.draw
  obtain ⟨mc, pO, crB, cO⟩ := T.bo.cls
  refine F.ok scBrd (fun vs H Q E h => ?_) (fun cdv A outer s H vs Q E hr h => ?_)
  · obtain ⟨p, l, cs, n, m, q, d, Bl, rfl, _⟩ := h
    rfl
  have hr1 := hr.mono (show 1 ≤ 7 by decide)
  refine ⟨_, pss_cons (ps_par (i := 3) (j := 4) (by rfl) scBrd.nd rfl rfl (by decide) rfl rfl (pa_cons (pe_lc (te := teLs K) (tt := ttLs K) (own := [("_law_block", 9)]) (g := gName 9) rfl scBrd.nd (pi_list (pv 2)) (blkOk_by (N := nBrd) (sc := defScope sBrd) (by decide +kernel))
        (fun _ _ _ _ _ => pg_name (i := 9) scBrd.nd rfl (Or.inl rfl)) (fun _ _ _ _ _ => pts_one (PW.pt (pw_or (pt_cmpR op_gt0 (pe_callB call_lenK (by rfl) T.len PySem.boot_len (pa_cons (pv 9) pa_nil)) pe_int (nomark _)) (pw_or1 (pt_cmpR op_eq (pe_call GD hr1 rfl mD kD bD .nil pass0 (pa_cons (pv 0) (pa_cons pe_int pa_nil))) pe_int (nomark _))))))
        (fun _ _ _ _ _ => pe_callTy (T := "list") call_list_of (by rfl) T.list (by decide +kernel) (pa_cons (pv 9) pa_nil))) (pa_cons (pe_lst pa_nil) pa_nil)) (by rfl))
    (pss_cons (ps_for PassesOwn.never rfl (pi_range1 rfl T.range (pa_cons (pe_callB call_len_seq (by rfl) T.len PySem.boot_len (pa_cons (pv 3) pa_nil)) pa_nil)) (pg_name (i := 5) scBrd.nd rfl (Or.inl rfl))
      (pss_cons (ps_par (i := 6) (j := 7) (by rfl) scBrd.nd rfl rfl (by decide) rfl rfl (pa_cons (pe_bm PySem.F.plainAttrs_list PySem.F.slot_list_pop PySem.F.type_list_pop mt_popAt (pv 3) (pa_cons (pe_call GD hr1 rfl mD kD bD .nil pass0 (pa_cons (pv 0) (pa_cons (pe_callB call_len_seq (by rfl) T.len PySem.boot_len (pa_cons (pv 3) pa_nil)) pa_nil))) pa_nil)) (pa_cons (pe_lst pa_nil) pa_nil)) (by rfl))
      (pss_cons (ps_for PassesOwn.never rfl (pi_range1 rfl T.range (pa_cons (pe_callB call_len_seq (by rfl) T.len PySem.boot_len (pa_cons (pv 6) pa_nil)) pa_nil)) (pg_name (i := 8) scBrd.nd rfl (Or.inl rfl))
        (pss_one (ps_expr (pe_bm PySem.F.plainAttrs_list PySem.F.slot_list_append PySem.F.type_list_append mt_append (pv 7) (pa_cons (pe_bm PySem.F.plainAttrs_list PySem.F.slot_list_pop PySem.F.type_list_pop mt_popAt (pv 6) (pa_cons (pe_call GD hr1 rfl mD kD bD .nil pass0 (pa_cons (pv 0) (pa_cons (pe_callB call_len_seq (by rfl) T.len PySem.boot_len (pa_cons (pv 6) pa_nil)) pa_nil))) pa_nil)) pa_nil)))))
      (pss_one (ps_expr (pe_bm PySem.F.plainAttrs_list PySem.F.slot_list_append PySem.F.type_list_append mt_append (pv 4) (pa_cons (pe_ix ix_list (pe_lst (pa_cons (pv 7) (pa_cons (pe_callTy (T := "tuple") call_tuple_of (by rfl) T.tuple (by decide +kernel) (pa_cons (pv 7) pa_nil)) pa_nil))) (pe_call GD hr1 rfl mD kD bD .nil pass0 (pa_cons (pv 0) (pa_cons pe_int pa_nil))) (fun _ _ => rfl)) pa_nil)))))))
    (pss_one (ps_ret (pe_cmethK (pe_glob rfl T.bo.mB (v := .ref CB) rfl) crB cO T.bo.of0 hr (passNo rfl rfl) (pa_cons (pv 1) (pa_cons (pv 4) pa_nil)) pk_nil)))), ?_⟩
  obtain ⟨p, l, cs, n, m, q, d, Bl, rfl, hP, hF, hL, hpm, hnd, hnb, hn, h18, k⟩ := h
  have hBl : (refsL Bl).length = Bl.length := List.length_map _
  have aN : (allN Bl).length ≤ 18 := by rw [hpm.length_eq]; exact h18
  have bl18 : Bl.length ≤ 18 := Nat.le_trans (blk_le fun x hx => (hL.each x hx).2.1) aN
  have nqp : q ≠ p := fun e => by
    obtain ⟨i', g', z1, z2, _⟩ := hP
    have := hL.at_
    rw [e, z1] at this
    unfold penO refsL at this
    cases Bl with
    | nil => cases this
    | cons x Bl =>
      injection this with this
      injection this with this
      rw [List.map_cons] at this
      injection this with _ this
      cases Bl with
      | nil => cases this
      | cons y Bl => rw [List.map_cons] at this; injection this with this; cases this
  -- what is left
  refine ⟨_, rfl, q, rfl, ⟨_, SqL.of hL.at_⟩, fun D hD => ?_⟩
  have nDp : D ≠ p := nep hP hD
  refine lc_it (walk_list (K := K) (a := q) (xs := refsL Bl)) (fun i H' => Pen H' p l cs (n + i) ∧ But H H' p ∧ ∃ (Lf : List (Addr × List Str)) (zs : List Str), H' D = some (.lst (refsL Lf)) ∧ (∀ x ∈ Lf, H' x.1 = some (.lst (strv x.2)) ∧ H x.1 = none ∧ x.1 ≠ D) ∧ (Lf.map (·.1)).Nodup ∧ (srtB Lf ++ zs.map fun z => [z]).Perm (srtB (Bl.take i)) ∧ Lf.length ≤ i)
    ⟨hP.same (same_at hD), But.of (same_at hD), [], [], upd_same, fun x hx => (by cases hx), .nil, .refl _, Nat.zero_le _⟩ (fun i H' _ p => SqL.of (p.2.1 _ _ nqp hL.at_)) ?_ ?_
  · rintro i x Ho Ha hi ⟨Pa, ba, Lf, zs, da, hLf, hLn, hLp, hLl⟩ ⟨rfl, hx⟩
    rw [hBl] at hi
    obtain ⟨y, ey0⟩ : ∃ y, y = Bl[i] := ⟨_, rfl⟩
    have ey : Bl[i]? = some y := by rw [ey0]; exact List.getElem?_eq_getElem hi
    have ex : (refsL Bl)[i]? = some (.ref y.1) := by unfold refsL; rw [List.getElem?_map, ey]; rfl
    rw [ex] at hx
    obtain rfl := Option.some.inj hx
    have hy := hL.each y (List.mem_of_getElem? ey)
    have ypn : y.1 ≠ p := fun e => hy.2.2.2 (by rw [e]; exact List.mem_cons_self)
    have hyl : (strv y.2).length = y.2.length := List.length_map _
    have etk : srtB (Bl.take (i + 1)) = srtB (Bl.take i) ++ [srt y.2] := by
      show List.map _ _ = _
      rw [List.take_add_one, ey, Option.toList_some, List.map_append]
      rfl
    refine ⟨rfl, ?_⟩
    -- the block is kept
    have keep : ∀ H4, But Ha H4 p → Pen H4 p l cs (n + i + 1) → ∀ l0, H4 l0 = none → ∃ acc, upd H4 l0 (.lst (strv y.2)) D = some (.lst acc) ∧ acc.length < sizeLine ∧ (Pen (upd (upd H4 l0 (.lst (strv y.2))) D (.lst (acc ++ [.ref l0]))) p l cs (n + (i + 1)) ∧ But H (upd (upd H4 l0 (.lst (strv y.2))) D (.lst (acc ++ [.ref l0]))) p ∧
        ∃ (Lf : List (Addr × List Str)) (zs : List Str), upd (upd H4 l0 (.lst (strv y.2))) D (.lst (acc ++ [.ref l0])) D = some (.lst (refsL Lf)) ∧ (∀ x ∈ Lf, upd (upd H4 l0 (.lst (strv y.2))) D (.lst (acc ++ [.ref l0])) x.1 = some (.lst (strv x.2)) ∧ H x.1 = none ∧ x.1 ≠ D) ∧ (Lf.map (·.1)).Nodup ∧ (srtB Lf ++ zs.map fun z => [z]).Perm (srtB (Bl.take (i + 1))) ∧ Lf.length ≤ i + 1) := fun H4 b4 P4 l0 hl0 => by
      have d4 := b4 _ _ nDp da
      have s5 := same_at (o := .lst (strv y.2)) hl0
      have nl0D : l0 ≠ D := fun e => by rw [e, d4] at hl0; cases hl0
      have nl0p : l0 ≠ p := nep P4 hl0
      have hl00 : H l0 = none := (ba.trans b4).free nl0p hl0
      have nDl : D ≠ l := fun e => by
        obtain ⟨_, _, _, z2, _⟩ := hP
        rw [e, z2] at hD
        cases hD
      have lfp : ∀ x ∈ Lf, x.1 ≠ p ∧ x.1 ≠ l0 := fun x hx => ⟨nep hP (hLf x hx).2.1, fun e => by
        have := b4 _ _ (nep hP (hLf x hx).2.1) (hLf x hx).1
        rw [e, hl0] at this
        cases this⟩
      refine ⟨_, s5 _ _ d4, ?_, ((P4.same s5).off (.upd _ _ _) nDp nDl).mono (by omega), fun c o hc e => ?_, Lf ++ [(l0, y.2)], zs, ?_, fun x hx => ?_, ?_, ?_, ?_⟩
      · show (List.map _ Lf).length < _
        rw [List.length_map]
        exact Nat.lt_of_le_of_lt (show Lf.length ≤ 18 by omega) (by decide)
      · rw [upd_ne (ne_of_none e hD)]
        exact s5 _ _ (b4 _ _ hc (ba _ _ hc e))
      · rw [upd_same]
        unfold refsL
        rw [List.map_append]
        rfl
      · rcases List.mem_append.mp hx with hx | hx
        · obtain ⟨h1, h2, h3⟩ := hLf x hx
          exact ⟨by rw [upd_ne h3]; exact s5 _ _ (b4 _ _ (lfp x hx).1 h1), h2, h3⟩
        · rw [List.mem_singleton.mp hx]
          exact ⟨by rw [upd_ne nl0D]; exact upd_same, hl00, nl0D⟩
      · rw [List.map_append]
        refine List.nodup_append.mpr ⟨hLn, by simp, fun a ha b hb e => ?_⟩
        obtain ⟨x, hx, ex⟩ := List.mem_map.mp ha
        rw [show b = l0 from List.mem_singleton.mp hb] at e
        exact (lfp x hx).2 (ex.trans e)
      · rw [etk]
        have : srtB (Lf ++ [(l0, y.2)]) = srtB Lf ++ [srt y.2] := by show List.map _ _ = _; rw [List.map_append]; rfl
        rw [this, List.append_assoc]
        refine ((List.perm_append_comm (l₁ := [srt y.2])).append_left _).trans ?_
        rw [← List.append_assoc]
        exact hLp.append_right _
      · rw [List.length_append]
        show Lf.length + 1 ≤ _
        omega
    refine ⟨_, rfl, y.1, strv y.2, rfl, .inl (SqL.of (ba _ _ ypn hy.1)), _, _, rfl, rfl, ?_⟩
    by_cases h1 : 1 < y.2.length
    · have e : decide ((1 : Int) < ((strv y.2).length : Int)) = true := decide_eq_true (by omega)
      refine ⟨true, by show V.bl (decide ((1 : Int) < ((strv y.2).length : Int))) = _; rw [e], iteT ?_⟩
      exact ⟨_, rfl, y.1, _, rfl, .inl (SqL.of (ba _ _ ypn hy.1)), fun l0 hl0 => keep Ha (But.of (Same.refl _)) (Pa.mono (by omega)) l0 hl0⟩
    · have e : decide ((1 : Int) < ((strv y.2).length : Int)) = false := decide_eq_false (by omega)
      refine ⟨false, by show V.bl (decide ((1 : Int) < ((strv y.2).length : Int))) = _; rw [e], iteF ?_⟩
      refine ⟨_, rfl, p, l, cs, _, 2, rfl, Pa, by decide, by decide, by omega, fun d4 i4 g4 H4 d40 d41 i40 in4 hp4 b4 => ?_⟩
      have P4 : Pen H4 p l cs (n + i + 1) := Pa.next i40 in4 hp4 b4
      refine ⟨rfl, _, rfl, ?_⟩
      by_cases ed : d4 = 0
      · rw [decide_eq_true (show V.int d4 = V.int 0 by rw [ed])]
        exact ⟨_, rfl, y.1, _, rfl, .inl (SqL.of (b4 _ _ ypn (ba _ _ ypn hy.1))), fun l0 hl0 => keep H4 b4 P4 l0 hl0⟩
      · rw [decide_eq_false (show ¬ V.int d4 = V.int 0 from fun q => ed (V.int.inj q))]
        obtain ⟨z, ez⟩ : ∃ z, y.2 = [z] := by
          match hyy : y.2, hy.2.1 with
          | [z], _ => exact ⟨z, rfl⟩
          | z :: z' :: r, _ => rw [hyy] at h1; exact absurd (by simp) h1
        refine ⟨P4, ba.trans b4, Lf, zs ++ [z], b4 _ _ nDp da, fun x hx => ⟨b4 _ _ (nep hP (hLf x hx).2.1) (hLf x hx).1, (hLf x hx).2⟩, hLn, ?_, by omega⟩
        rw [etk, ez, List.map_append, ← List.append_assoc]
        exact hLp.append_right _
  rintro H1 ⟨P1, b1, Lf0, zs, d1, hLf, hLn, hLp, hLl⟩
  rw [hBl] at P1 hLl hLp
  rw [List.take_length] at hLp
  refine ⟨by show 0 ≤ sizeLine; decide, fun R hR => ⟨_, _, rfl, ?_⟩⟩
  have s12 := same_at (o := .lst []) hR
  obtain ⟨H2, e2⟩ : ∃ H2, H2 = upd H1 R (.lst []) := ⟨_, rfl⟩
  have hR2 : H2 R = some (.lst []) := by rw [e2, upd_same]
  rw [← e2] at s12 ⊢
  have nRp : R ≠ p := nep P1 hR
  have hR0 : H R = none := b1.free nRp hR
  have nRD : R ≠ D := fun e => by rw [e, d1] at hR; cases hR
  have offl : ∀ {x : Addr}, H x = none → x ≠ l := fun {x} hx e => by
    obtain ⟨_, _, _, z2, _⟩ := hP
    rw [e, z2] at hx
    cases hx
  have hl0 : (refsL Lf0).length = Lf0.length := List.length_map _
  have L0 : ∀ y ∈ Lf0, y.2.length ≤ 18 := fun y hy => by
    have h1 : srt y.2 ∈ srtB Bl := hLp.mem_iff.mp (List.mem_append_left _ (List.mem_map.mpr ⟨y, hy, rfl⟩))
    obtain ⟨x, hx, ex⟩ := List.mem_map.mp h1
    have h2 : y.2.Perm x.2 := (srt_perm y.2).symm.trans ((by rw [← ex]; exact srt_perm x.2))
    rw [h2.length_eq]
    exact Nat.le_trans (List.Sublist.length_le (List.sublist_flatten_of_mem (List.mem_map.mpr ⟨x, hx, rfl⟩))) aN
  have I0 : BrI H H2 p l cs (n + 18) 0 D R Lf0 Lf0 [] := ⟨(P1.same s12).mono (by omega), b1.same s12, rfl, s12 _ _ d1, hR2, fun x hx => ⟨s12 _ _ (hLf x hx).1, (hLf x hx).2.1, (hLf x hx).2.2, fun e => by
    have := (hLf x hx).1
    rw [e, hR] at this
    cases this⟩, hLn, fun x hx => (by cases hx), List.Perm.refl _, rfl⟩
  refine ⟨_, rfl, D, _, rfl, .inl (SqL.of (s12 _ _ d1)), Lf0.length, by rw [hl0], by omega, by omega, for_range (n := Lf0.length) (fun t σ H' => (∃ o5 o6 o7 o8, σ = ([some (.ref p), some (.ref m), some (.ref q), some (.ref D), some (.ref R), o5, o6, o7, o8, none] : L2.St)) ∧ ∃ Lf Rw, BrI H H' p l cs (n + 18 + 20 * t) t D R Lf0 Lf Rw) ⟨⟨_, _, _, _, rfl⟩, Lf0, [], I0⟩ ?_ ?_⟩
  · rintro t σ H3 ht ⟨⟨o5, o6, o7, o8, rfl⟩, Lf, Rw, I3⟩
    have hl3 : (refsL Lf).length = Lf.length := List.length_map _
    have hlt : 0 < Lf.length := by have := I3.len; omega
    have lf18 : Lf.length ≤ 18 := by have := I3.len; omega
    have rw18 : Rw.length ≤ 18 := by have := I3.rl; omega
    refine ⟨_, rfl, .inl ⟨rfl, _, SqL.of I3.hD⟩, _, rfl, _, rfl, D, _, rfl, .inl (SqL.of I3.hD), p, l, cs, _, _, rfl, I3.pen, by omega, by omega, by omega, fun d4 i4 g4 H4 d40 d41 i40 in4 hp4 b4 => ?_⟩
    rw [hl3] at d41
    have P4 := I3.pen.next i40 in4 hp4 b4
    have hk : d4.toNat < Lf.length := by omega
    obtain ⟨y, ey0⟩ : ∃ y, y = Lf[d4.toNat] := ⟨_, rfl⟩
    have ey : Lf[d4.toNat]? = some y := by rw [ey0]; exact List.getElem?_eq_getElem hk
    have hD4 := b4 _ _ nDp I3.hD
    refine ⟨D, _, d4, d4.toNat, .ref y.1, rfl, rfl, hD4, by omega, by omega, seqIndex_of d40 (by rw [hl3]; omega), by unfold refsL; rw [List.getElem?_map, ey]; rfl, ?_⟩
    rw [refsL_erase]
    obtain ⟨Lg, eLg⟩ : ∃ Lg, Lg = Lf.eraseIdx d4.toNat := ⟨_, rfl⟩
    have pmL : (y :: Lg).Perm Lf := by rw [ey0, eLg]; exact perm_erase Lf _ hk
    rw [← eLg]
    obtain ⟨H5, e5⟩ : ∃ H5, H5 = upd H4 D (.lst (refsL Lg)) := ⟨_, rfl⟩
    rw [← e5]
    have hD5 : H5 D = some (.lst (refsL Lg)) := by rw [e5, upd_same]
    have P5 : Pen H5 p l cs (n + 18 + 20 * t + 1) := P4.off (by rw [e5]; exact .upd _ _ _) nDp (offl hD)
    have nd5 : (y.1 :: Lg.map (·.1)).Nodup := by
      have := (pmL.map (·.1)).nodup_iff.mpr I3.nd
      exact this
    have nyg := (List.nodup_cons.mp nd5).1
    have ymem : y ∈ Lf := List.mem_of_getElem? ey
    have gsub : ∀ x ∈ Lg, x ∈ Lf := fun x hx => pmL.mem_iff.mp (List.mem_cons_of_mem _ hx)
    have hy := I3.lf y ymem
    have nyp : y.1 ≠ p := nep hP hy.2.1
    have k35 : ∀ c o, c ≠ p → c ≠ D → H3 c = some o → H5 c = some o := fun c o h1 h2 e => by rw [e5, upd_ne h2]; exact b4 _ _ h1 e
    refine ⟨by show 0 ≤ sizeLine; decide, fun N hN => ⟨_, _, rfl, ?_⟩⟩
    have s56 := same_at (o := .lst []) hN
    obtain ⟨H6, e6⟩ : ∃ H6, H6 = upd H5 N (.lst []) := ⟨_, rfl⟩
    have hN6 : H6 N = some (.lst []) := by rw [e6, upd_same]
    rw [← e6] at s56 ⊢
    have k36 : ∀ c o, c ≠ p → c ≠ D → H3 c = some o → H6 c = some o := fun c o h1 h2 e => s56 _ _ (k35 c o h1 h2 e)
    have P6 := P5.same s56
    have nNp : N ≠ p := nep P5 hN
    have nND : N ≠ D := fun e => by rw [e, hD5] at hN; cases hN
    have b05 : But H H5 p := fun c o hc e => k35 c o hc (ne_of_none e hD) (I3.but _ _ hc e)
    have hN0 : H N = none := b05.free nNp hN
    have nNR : N ≠ R := fun e => by rw [e, k35 _ _ nRp nRD I3.hR] at hN; cases hN
    have y6 : H6 y.1 = some (.lst (strv y.2)) := k36 _ _ nyp hy.2.2.1 hy.1
    have nNy : N ≠ y.1 := fun e => by rw [e, k35 _ _ nyp hy.2.2.1 hy.1] at hN; cases hN
    have hyl : (strv y.2).length = y.2.length := List.length_map _
    have y18 : y.2.length ≤ 18 := by
      have h1 : srt y.2 ∈ srtB Lf0 := I3.pm.mem_iff.mp (List.mem_append_right _ (List.mem_map.mpr ⟨y, ymem, rfl⟩))
      obtain ⟨x, hx, ex⟩ := List.mem_map.mp h1
      have h2 : y.2.Perm x.2 := (srt_perm y.2).symm.trans ((by rw [← ex]; exact srt_perm x.2))
      rw [h2.length_eq]
      exact L0 x hx
    -- the names of the block, drawn
    refine ⟨_, rfl, y.1, _, rfl, .inl (SqL.of y6), y.2.length, by rw [hyl], by omega, by omega, for_range (n := y.2.length) (fun s σ H' => (∃ o8, σ = ([some (.ref p), some (.ref m), some (.ref q), some (.ref D), some (.ref R), some (.int (0 + t)), some (.ref y.1), some (.ref N), o8, none] : L2.St)) ∧ Pen H' p l cs (n + 18 + 20 * t + 1 + s) ∧ (∀ c o, c ≠ p → c ≠ y.1 → c ≠ N → H6 c = some o → H' c = some o) ∧
        ∃ as bs : List Str, as.length + s = y.2.length ∧ H' y.1 = some (.lst (strv as)) ∧ H' N = some (.lst (strv bs)) ∧ (bs ++ as).Perm y.2) ⟨⟨_, rfl⟩, P6, fun c o _ _ _ e => e, y.2, [], rfl, y6, hN6, List.Perm.refl _⟩ ?_ ?_⟩
    · rintro s σ H7 hs ⟨⟨o8, rfl⟩, P7, k7, as, bs, hab, ha7, hb7, hpb⟩
      have hal : (strv as).length = as.length := List.length_map _
      refine ⟨_, rfl, .inl ⟨rfl, _, SqL.of hb7⟩, _, rfl, .inl ⟨rfl, _, SqL.of ha7⟩, _, rfl, _, rfl, y.1, _, rfl, .inl (SqL.of ha7), p, l, cs, _, _, rfl, P7, by omega, by omega, by omega, fun d8 i8 g8 H8 d80 d81 i80 in8 hp8 b8 => ?_⟩
      rw [hal] at d81
      have P8 := P7.next i80 in8 hp8 b8
      have hk8 : d8.toNat < as.length := by omega
      have ha8 := b8 _ _ nyp ha7
      have hb8 := b8 _ _ nNp hb7
      refine ⟨y.1, _, d8, d8.toNat, .str as[d8.toNat], rfl, rfl, ha8, by omega, by omega, seqIndex_of d80 (by rw [hal]; omega), by unfold strv; rw [List.getElem?_map, List.getElem?_eq_getElem hk8]; rfl, ?_⟩
      rw [show (strv as).eraseIdx d8.toNat = strv (as.eraseIdx d8.toNat) from map_erase V.str as _]
      obtain ⟨H9, e9⟩ : ∃ H9, H9 = upd H8 y.1 (.lst (strv (as.eraseIdx d8.toNat))) := ⟨_, rfl⟩
      rw [← e9]
      have hb9 : H9 N = some (.lst (strv bs)) := by rw [e9, upd_ne nNy]; exact hb8
      have pe := perm_erase as _ hk8
      have lbs : bs.length ≤ 18 := by
        have := hpb.length_eq
        rw [List.length_append] at this
        omega
      refine ⟨N, _, _, rfl, rfl, hb9, ?_, ⟨_, rfl⟩, ?_, fun c o h1 h2 h3 e => ?_, as.eraseIdx d8.toNat, bs ++ [as[d8.toNat]], ?_, ?_, ?_, ?_⟩
      · show (List.map V.str bs).length < _
        rw [List.length_map]
        exact Nat.lt_of_le_of_lt lbs (by decide)
      · have P9 : Pen H9 p l cs (n + 18 + 20 * t + 1 + (s + 1)) := P8.off (by rw [e9]; exact .upd _ _ _) nyp (offl hy.2.1)
        exact P9.off (.upd _ _ _) nNp (offl hN0)
      · rw [upd_ne h3, e9, upd_ne h2]
        exact b8 _ _ h1 (k7 _ _ h1 h2 h3 e)
      · rw [List.length_eraseIdx_of_lt hk8]
        omega
      · rw [upd_ne nNy.symm, e9, upd_same]
      · rw [upd_same]
        unfold strv
        rw [List.map_append]
        rfl
      · rw [List.append_assoc]
        exact (pe.append_left bs).trans hpb
    · rintro σ H7 ⟨⟨o8, rfl⟩, P7, k7, as, bs, hab, ha7, hb7, hpb⟩
      obtain rfl : as = [] := List.length_eq_zero_iff.mp (by omega)
      rw [List.append_nil] at hpb
      have k37 : ∀ c o, c ≠ p → c ≠ D → c ≠ y.1 → H3 c = some o → H7 c = some o := fun c o h1 h2 h3 e => k7 c o h1 h3 (fun z => by
        have := k35 c o h1 h2 e
        rw [z, hN] at this
        cases this) (k36 c o h1 h2 e)
      have hD7 : H7 D = some (.lst (refsL Lg)) := k7 _ _ nDp hy.2.2.1.symm nND.symm (s56 _ _ hD5)
      have hR7 : H7 R = some (.lst (refsL Rw)) := k37 _ _ nRp nRD hy.2.2.2.symm I3.hR
      refine ⟨_, rfl, .inl ⟨rfl, _, SqL.of hR7⟩, _, rfl, _, rfl, N, strv bs, rfl, .inl ⟨SqL.of hb7, fun TT hTT => ?_⟩⟩
      have s78 := same_at (o := .tup (strv bs)) hTT
      obtain ⟨H8, e8⟩ : ∃ H8, H8 = upd H7 TT (.tup (strv bs)) := ⟨_, rfl⟩
      have hT8 : H8 TT = some (.tup (strv bs)) := by rw [e8, upd_same]
      rw [← e8] at s78 ⊢
      refine ⟨by show 2 ≤ sizeLine; decide, fun C hC => ?_⟩
      have s89 := same_at (o := .lst [V.ref N, .ref TT]) hC
      obtain ⟨H9, e9⟩ : ∃ H9, H9 = upd H8 C (.lst [V.ref N, .ref TT]) := ⟨_, rfl⟩
      have hC9 : H9 C = some (.lst [V.ref N, .ref TT]) := by rw [e9, upd_same]
      rw [← e9] at s89 ⊢
      have s79 := s78.trans s89
      have nCp : C ≠ p := nep (P7.same s78) hC
      refine ⟨_, rfl, p, l, cs, _, 2, rfl, P7.same s79, by decide, by decide, by omega, fun d9 i9 g9 Ha d90 d91 i90 in9 hp9 b9 => ?_⟩
      have Pa : Pen Ha p l cs (n + 18 + 20 * (t + 1)) := ((P7.same s79).next i90 in9 hp9 b9).mono (by omega)
      have k3a : ∀ c o, c ≠ p → c ≠ D → c ≠ y.1 → H3 c = some o → Ha c = some o := fun c o h1 h2 h3 e => b9 _ _ h1 (s79 _ _ (k37 c o h1 h2 h3 e))
      have hDa := b9 _ _ nDp (s79 _ _ hD7)
      have hRa := b9 _ _ nRp (s79 _ _ hR7)
      have nTp : TT ≠ p := nep P7 hTT
      have hNa : Ha N = some (.lst (strv bs)) := b9 _ _ nNp (s79 _ _ hb7)
      have hTa : Ha TT = some (.tup (strv bs)) := b9 _ _ nTp (s89 _ _ hT8)
      have nTD : TT ≠ D := fun e => by rw [e, hD7] at hTT; cases hTT
      have nTR : TT ≠ R := fun e => by rw [e, hR7] at hTT; cases hTT
      have b3a : But H Ha p := fun c o hc e => k3a c o hc (ne_of_none e hD) (ne_of_none e hy.2.1) (I3.but _ _ hc e)
      -- the row grows
      have fin : ∀ v : Addr, (Ha v = some (.lst (strv bs)) ∨ Ha v = some (.tup (strv bs))) → v ≠ D → v ≠ R → v ∉ Lg.map (·.1) → v ≠ p → BrI H (upd Ha R (.lst (refsL Rw ++ [.ref v]))) p l cs (n + 18 + 20 * (t + 1)) (t + 1) D R Lf0 Lg (Rw ++ [(v, bs)]) := fun v hv n1 n2 n3 n4 => by
        refine ⟨Pa.off (.upd _ _ _) nRp (offl hR0), fun c o hc e => ?_, ?_, ?_, ?_, fun x hx => ?_, (List.nodup_cons.mp nd5).2, fun x hx => ?_, ?_, ?_⟩
        · rw [upd_ne (ne_of_none e hR0)]
          exact b3a _ _ hc e
        · have := pmL.length_eq
          have := I3.len
          rw [List.length_cons] at *
          omega
        · rw [upd_ne nRD.symm]
          exact hDa
        · rw [upd_same]
          unfold refsL
          rw [List.map_append]
          rfl
        · obtain ⟨h1, h2, h3, h4⟩ := I3.lf x (gsub x hx)
          refine ⟨?_, h2, h3, h4⟩
          rw [upd_ne h4]
          exact k3a _ _ (nep hP h2) h3 (fun e => nyg (List.mem_map.mpr ⟨x, hx, e⟩)) h1
        · rcases List.mem_append.mp hx with hx | hx
          · obtain ⟨h1, h2, h3, h4, h5⟩ := I3.rw_ x hx
            refine ⟨?_, h2, h3, fun hm => h4 ?_, h5⟩
            · rw [upd_ne h3]
              have nxy : x.1 ≠ y.1 := fun e => h4 (List.mem_map.mpr ⟨y, ymem, e.symm⟩)
              exact h1.imp (k3a _ _ h5 h2 nxy) (k3a _ _ h5 h2 nxy)
            · obtain ⟨z, hz, ez⟩ := List.mem_map.mp hm
              exact List.mem_map.mpr ⟨z, gsub z hz, ez⟩
          · rw [List.mem_singleton.mp hx]
            exact ⟨by rw [upd_ne n2]; exact hv, n1, n2, n3, n4⟩
        · have e1 : srtB (Rw ++ [(v, bs)]) = srtB Rw ++ [srt y.2] := by
            show List.map _ _ = _
            rw [List.map_append]
            show _ ++ [srt bs] = _
            rw [srt_eq hpb]
          rw [e1, List.append_assoc]
          exact (((pmL.map fun y => srt y.2)).append_left (srtB Rw)).trans I3.pm
        · rw [List.length_append, I3.rl]
          rfl
      have nN3 : N ∉ Lg.map (·.1) := fun hm => by
        obtain ⟨z, hz, ez⟩ := List.mem_map.mp hm
        have := k35 _ _ (nep hP (I3.lf z (gsub z hz)).2.1) (I3.lf z (gsub z hz)).2.2.1 (I3.lf z (gsub z hz)).1
        rw [ez, hN] at this
        cases this
      have nT3 : TT ∉ Lg.map (·.1) := fun hm => by
        obtain ⟨z, hz, ez⟩ := List.mem_map.mp hm
        have := k37 _ _ (nep hP (I3.lf z (gsub z hz)).2.1) (I3.lf z (gsub z hz)).2.2.1 (fun e => nyg (List.mem_map.mpr ⟨z, hz, e⟩)) (I3.lf z (gsub z hz)).1
        rw [ez, hTT] at this
        cases this
      have hrl : (refsL Rw).length < sizeLine := by
        show (List.map _ Rw).length < _
        rw [List.length_map]
        exact Nat.lt_of_le_of_lt rw18 (by decide)
      have hCa : Ha C = some (.lst [V.ref N, .ref TT]) := b9 _ _ nCp hC9
      by_cases ed : d9 = 0
      · exact ⟨C, _, d9, .ref N, rfl, rfl, SqL.of hCa, by rw [ed]; exact atI_nat (j := 0) rfl, R, _, _, rfl, rfl, hRa, hrl, ⟨_, _, _, _, rfl⟩, Lg, _, fin N (.inl hNa) nND nNR nN3 nNp⟩
      · exact ⟨C, _, d9, .ref TT, rfl, rfl, SqL.of hCa, by rw [show d9 = ((1 : Nat) : Int) by omega]; exact atI_nat (j := 1) rfl, R, _, _, rfl, rfl, hRa, hrl, ⟨_, _, _, _, rfl⟩, Lg, _, fin TT (.inr hTa) nTD nTR nT3 nTp⟩
  · rintro σ H3 ⟨⟨o5, o6, o7, o8, rfl⟩, Lf, Rw, I3⟩
    have hll := I3.len
    obtain rfl : Lf = [] := List.length_eq_zero_iff.mp (by omega)
    have dr : DrB Bl Rw zs := by
      have h1 := I3.pm
      rw [show srtB ([] : List (Addr × List Str)) = [] from rfl, List.append_nil] at h1
      exact (h1.append_right _).trans hLp
    have nms := dr.names
    have ndB : (allN Bl).Nodup := hpm.nodup_iff.mpr hnd
    have nd2 := List.nodup_append.mp (nms.nodup_iff.mpr ndB)
    have rne : ∀ x ∈ Rw, x.2 ≠ [] := fun x hx e => by
      obtain ⟨y, hy, pe⟩ := dr.row hx
      rw [e] at pe
      exact (hL.each y hy).2.1 (List.nil_perm.mp pe)
    have part : PartOf ks CF H3 m d Rw := ⟨hF.keepP hP I3.but, fun x hx => ⟨(I3.rw_ x hx).1, rne x hx⟩, fun z hz => hpm.mem_iff.mp (nms.mem_iff.mp (List.mem_append_left _ hz)), nd2.1, hnd, by
      have := nms.length_eq
      rw [List.length_append] at this
      omega, fun x hx h => by
      obtain ⟨y, hy, pe⟩ := dr.row hx
      exact hnb y hy ⟨pe.mem_iff.mp h.1, pe.mem_iff.mp h.2⟩⟩
    refine ⟨rfl, _, rfl, _, rfl, rfl, rfl, m, .ref R, rfl, .inr ⟨R, d, Rw, rfl, .inl I3.hR, part, fun x H4 L hx hLr hB s34 => ?_⟩⟩
    have nxp : x ≠ p := nep I3.pen hx
    exact k x L H4 (rows_board hpm ndB dr hLr) hB (I3.but.free nxp hx) ((I3.pen.same s34).mono (by omega)) (I3.but.same s34)
end
end Sj
namespace Sj
open PySem L2 Sup StK Own Shw Exg Grd KepE SetS
open NdefX (NF NScope ncx envF startF nscope_by)
open C8 (pss_cut tCut)
/-! k09: _law_tells -/
def FnIs (P : Program) (w : World) (K : PySem.W.Frag) (mg : Str → Option Value) (base : Heap) (nm : Str) (k : Nat) (ps : List Str) (sp : Sp) : Prop := ∃ f fd, mg nm = some (.ref f) ∧ PySem.W.keepIn K (.ref f) = true ∧ Binds K fd ps [] ∧ FnOk P w K mg base CX0 k f fd ps sp
theorem rails_nd (g r : Bool) : (railsZ g r).Nodup := by cases g <;> cases r <;> decide +kernel
theorem rails_out {g r : Bool} {z : Str} (h : z ∈ railsZ g r) : z ∉ poolS := by
  revert z
  cases g <;> cases r <;> decide +kernel
theorem memB_nd {d : BareD} (ok : d.ok) : (memB d).Nodup := List.nodup_append.mpr ⟨ok.nd, rails_nd _ _, fun a ha b hb e => rails_out hb (e ▸ ok.po a ha)⟩
theorem memB_18 {d : BareD} (ok : d.ok) : (memB d).length ≤ 18 := by
  unfold memB
  rw [List.length_append, List.length_append]
  have := ok.le
  have := rails_le d.g d.r
  omega
end Sj
/-! a lambda handed to a def, where it is known that nothing is being shown -/
namespace LamX
open PySem PySem.Spec PyProof.Rows L2
end LamX
/-! x(lambda: e, y), where it is known that nothing is being shown -/
namespace LamX
open PySem PySem.Spec PyProof.Rows L2
end LamX
namespace Sj
open PySem L2 Sup StK Own Shw Exg Grd KepE LamX
open NdefX (NF NScope ncx envF startF nscope_by)
open C8 (pss_cut tCut)
/-! k09: what stays behind a lambda; _law_far_right -/
section
variable {K : PySem.W.Frag} {ks : Kinds} {CF : Addr} {H H' : Hp}
theorem LegR.ok.ext {r : LegR} (h : r.ok ks H) (s : ExtN H H') : r.ok ks H' := by
  obtain ⟨h1, dx, e⟩ := h
  exact ⟨h1, dx, s _ _ e fun ps z => by cases z⟩
theorem FrIs.ext {a : Addr} {d : FrD} (h : FrIs ks CF H a d) (s : ExtN H H') : FrIs ks CF H' a d := by
  obtain ⟨dx, D, h1, h2, h3⟩ := h.at_
  exact ⟨⟨dx, D, s _ _ h1 (fun ps z => by cases z), s _ _ h2 (fun ps z => by cases z), h3⟩, fun r hr => (h.ok r hr).ext s, h.nd, h.le, h.so⟩
theorem BareAt.ext {b p : Addr} {d : BareD} (h : BareAt H b d p) (s : ExtN H H') : BareAt H' b d p := by
  obtain ⟨dl, ll, rl, h1, h2, h3, h4, h5⟩ := h.ex
  exact ⟨dl, ll, rl, s _ _ h1 (fun ps z => by cases z), s _ _ h2 (fun ps z => by cases z), s _ _ h3 (fun ps z => by cases z), s _ _ h4 (fun ps z => by cases z), h5⟩
theorem Pen.ext {p l : Addr} {cs : List Int} {n : Nat} (h : Pen H p l cs n) (s : ExtN H H') : Pen H' p l cs n := by
  obtain ⟨i, g, h1, h2, h3⟩ := h
  exact ⟨i, g, s _ _ h1 (fun ps z => by cases z), s _ _ h2 (fun ps z => by cases z), h3⟩
theorem OddX.ext {p : Addr} {x : V} (h : OddX H p x) (s : ExtN H H') : OddX H' p x := by
  cases h with
  | flat h => exact .flat h
  | tup h => exact .tup (s _ _ h fun ps z => by cases z)
  | lst h n m => exact .lst (s _ _ h fun ps z => by cases z) n m
  | dic h => exact .dic (s _ _ h fun ps z => by cases z)
theorem BoAt.ext {o CB f : Addr} {L : List (Addr × List Str)} (h : BoAt H o CB f L) (s : ExtN H H') : BoAt H' o CB f L := by
  obtain ⟨dx, B, D, hs, h1, h2, h3, h4, h5⟩ := h
  exact ⟨dx, B, D, hs, s _ _ h1 (fun ps z => by cases z), s _ _ h2 (fun ps z => by cases z), fun x hx => ⟨s _ _ (h3 x hx).1 (fun ps z => by cases z), (h3 x hx).2⟩, s _ _ h4 (fun ps z => by cases z), h5⟩
theorem BlL.ext {q : Addr} {av : List Addr} {Bl : List (Addr × List Str)} (h : BlL H q av Bl) (s : ExtN H H') : BlL H' q av Bl := ⟨s _ _ h.at_ (fun ps z => by cases z), fun x hx => ⟨s _ _ (h.each x hx).1 (fun ps z => by cases z), (h.each x hx).2⟩, h.nd⟩
end
/-! the code objects' tables -/
end Sj
namespace Sj
open PySem L2 Sup StK Own Shw Exg Grd KepE LamX
open NdefX (NF NScope ncx envF startF nscope_by)
open C8 (pss_cut tCut)
/-! k09: _law_other_frames_right -/
theorem kinds_names {ks : Kinds} {ys : List LegR} {ds ls : List Str} (h : KindsOf ks ys ds ls) : (names ys).Perm (ds ++ ls) := by
  obtain ⟨r1, r2, hp, e1, e2, _⟩ := h
  have := hp.map (fun r : LegR => r.z)
  rw [List.map_append] at this
  rw [← e1, ← e2]
  exact this
theorem kinds_mem {ks : Kinds} {ys : List LegR} {d e : BareD} (h : KindsOf ks ys e.ds e.ls) (p : (e.ds ++ e.ls).Perm (d.ds ++ d.ls)) (hg : e.g = d.g) (hr : e.r = d.r) : (membZ ⟨ys, e.t, e.g, e.r⟩).Perm (memB d) := by
  show (names ys ++ railsZ e.g e.r).Perm (d.ds ++ d.ls ++ railsZ d.g d.r)
  rw [hg, hr]
  exact ((kinds_names h).trans p).append_right _
/-- and its rows are the plain ones -/
theorem rows_all {d : BareD} {fd : FrD} {Bl L : List (Addr × List Str)} (hpm : (allN Bl).Perm (memB d)) (ok : d.ok) (hfm : (membZ fd).Perm (memB d)) (h : RowsOf fd Bl L) : RowsP Bl (L.map (·.2)) :=
  rows_board (zs := []) (hpm.trans hfm.symm) (hpm.nodup_iff.mpr (memB_nd ok)) (by unfold DrB; rw [List.map_nil, List.append_nil]) h
end Sj
namespace Sj
open PySem L2 Sup StK Own Shw Exg Grd KepE LamX
open StX (tMakeR)
/-! k09: what the law needs of its pieces -/
/-- all but lists stay -/
def NL (H H' : Hp) : Prop := ∀ b o, H b = some o → (∀ ys, o ≠ .lst ys) → H' b = some o
theorem NL.trans {H H1 H2 : Hp} (a : NL H H1) (b : NL H1 H2) : NL H H2 := fun c o h n => b c o (a c o h n) n
theorem NL.of {H H' : Hp} (s : Same H H') : NL H H' := fun c o h _ => s c o h
theorem NL.upd {H : Hp} {a : Addr} {xs : List V} {o : HO} (h : H a = some (.lst xs)) : NL H (upd H a o) := fun c u e n => by
  rw [upd_ne fun q => n xs (by rw [q, h] at e; exact (Option.some.inj e).symm)]
  exact e
theorem BoAt.nl {H H' : Hp} {o CB f : Addr} {L : List (Addr × List Str)} (h : BoAt H o CB f L) (s : NL H H') : BoAt H' o CB f L := by
  obtain ⟨dx, B, D, hs, h1, h2, h3, h4, h5⟩ := h
  exact ⟨dx, B, D, hs, s _ _ h1 (fun ys z => by cases z), s _ _ h2 (fun ys z => by cases z), fun x hx => ⟨s _ _ (h3 x hx).1 (fun ys z => by cases z), (h3 x hx).2⟩, s _ _ h4 (fun ys z => by cases z), h5⟩
theorem BoAt.keepP {H H' : Hp} {o CB f : Addr} {L : List (Addr × List Str)} {p l : Addr} {cs : List Int} {n : Nat} (h : BoAt H o CB f L) (hP : Pen H p l cs n) (b : But H H' p) : BoAt H' o CB f L := by
  obtain ⟨xs, hp⟩ := hP.at'
  exact h.nl fun c u e n => b _ _ (fun q => n xs (by rw [q, hp] at e; exact (Option.some.inj e).symm)) e
theorem NL.ins {H H' : Hp} {a C dx : Addr} {fs : List (Str × V)} (s : NL H H') (h : H a = some (.ins C dx fs)) : H' a = some (.ins C dx fs) := s _ _ h fun ys z => by cases z
/-! the board that is written out -/
theorem rows_fit {d : BareD} {Bl L : List (Addr × List Str)} (hR : RowsP Bl (L.map (·.2))) (hpm : (allN Bl).Perm (memB d)) (ok : d.ok) (hne : ∀ x ∈ Bl, x.2 ≠ []) : L.length ≤ 18 ∧ ∀ x ∈ L, (∀ z ∈ x.2, z ∈ memB d) ∧ x.2.length ≤ 18 := by
  have m18 := memB_18 ok
  have aN : (allN Bl).length ≤ 18 := by rw [hpm.length_eq]; exact m18
  have bl18 : Bl.length ≤ 18 := Nat.le_trans (blk_le hne) aN
  refine ⟨?_, fun y hy => ?_⟩
  · have := hR.len
    rw [List.length_map] at this
    omega
  · obtain ⟨x, hx, pe⟩ := hR.row (List.mem_map.mpr ⟨y, hy, rfl⟩)
    refine ⟨fun z hz => hpm.mem_iff.mp (List.mem_flatMap.mpr ⟨_, hx, pe.mem_iff.mp hz⟩), ?_⟩
    rw [pe.length_eq]
    exact Nat.le_trans (List.Sublist.length_le (List.sublist_flatten_of_mem (List.mem_map.mpr ⟨x, hx, rfl⟩))) aN
theorem bl_le {d : BareD} {Bl : List (Addr × List Str)} (hpm : (allN Bl).Perm (memB d)) (ok : d.ok) (hne : ∀ x ∈ Bl, x.2 ≠ []) : Bl.length ≤ 18 ∧ ∀ x ∈ Bl, x.2.length ≤ 18 := by
  have aN : (allN Bl).length ≤ 18 := by rw [hpm.length_eq]; exact memB_18 ok
  exact ⟨Nat.le_trans (blk_le hne) aN, fun x hx => Nat.le_trans (List.Sublist.length_le (List.sublist_flatten_of_mem (List.mem_map.mpr ⟨x, hx, rfl⟩))) aN⟩
theorem allN_map (Bl : List (Addr × List Str)) : allN Bl = (Bl.map (·.2)).flatten := by
  unfold allN
  rw [List.flatMap_def]
theorem allN_eq {G Bl : List (Addr × List Str)} (e : G.map (·.2) = Bl.map (·.2)) : allN G = allN Bl := by rw [allN_map, allN_map, e]
theorem rowsP_eq {G Bl : List (Addr × List Str)} {R : List (List Str)} (e : G.map (·.2) = Bl.map (·.2)) (h : RowsP G R) : RowsP Bl R := by
  have eb : srtB G = srtB Bl := by
    show List.map (fun y => srt y.2) G = List.map (fun y => srt y.2) Bl
    rw [show (fun y : Addr × List Str => srt y.2) = srt ∘ (·.2) from rfl, ← List.map_map, ← List.map_map, e]
  refine rowsP_of (by rw [← eb]; exact h.perm) ?_
  obtain ⟨_, _, _, _, hw⟩ := h
  exact hw
end Sj
/-! != of tuples of texts, and of tuples of such; a list of texts in a list of such; a tuple of texts not in a list of such -/
namespace Own
open PySem PySem.Spec PyProof.Rows L2 Sup
section
variable {X : Cx} {pins : List (Addr × Obj)} {σ : L2.St} {H : Hp} {s : Shared}
open Classical in
def isRow (L : List (Addr × List Str)) (xs : List Str) (u : Value) : Bool := decide (∃ x ∈ L, u = .ref x.1 ∧ x.2 = xs)
theorem any_row {L : List (Addr × List Str)} {its : List Value} (xs : List Str) (h : Vals (L.map fun x => V.ref x.1) its) : its.any (isRow L xs) = decide (xs ∈ L.map (·.2)) := by
  refine Bool.eq_iff_iff.mpr ?_
  rw [List.any_eq_true, decide_eq_true_eq, List.mem_map]
  have n1 : Vals ((L.map (·.1)).map V.ref) its := by rw [List.map_map]; exact h
  constructor
  · rintro ⟨u, hu, q⟩
    obtain ⟨x, hx, _, e⟩ := of_decide_eq_true q
    exact ⟨x, hx, e⟩
  · rintro ⟨x, hx, e⟩
    obtain ⟨j, hj, ej⟩ := List.getElem_of_mem hx
    have hj' : j < its.length := by rw [← h.length, List.length_map]; exact hj
    obtain ⟨c, e1, q1⟩ := refs_nth n1 j hj'
    rw [List.getElem?_map, List.getElem?_eq_getElem hj, ej] at e1
    obtain rfl := Option.some.inj e1
    exact ⟨its[j], List.getElem_mem hj', decide_eq_true ⟨x, hx, q1, e⟩⟩
theorem row_at {A : Around} {a : Addr} {xs : List Str} {L : List (Addr × List Str)} {its : List Value} (g : List V → HO) (hg : ∀ a b : List V, g a = g b → a = b) (hr : Vals (L.map fun x => V.ref x.1) its) (ha : H a = some (g (xs.map V.str))) (hL : ∀ x ∈ L, H x.1 = some (g (x.2.map V.str)))
    (eq : ∀ {b : Addr} {ys : List Str}, H b = some (g (ys.map V.str)) → SeqAt.RcAt A s (.ref b) (.ref a) (decide (ys = xs))) (u : Value) (hu : u ∈ its.toArray) : SeqAt.EqAt A s u (.ref a) (isRow L xs u) := by
  have n1 : Vals ((L.map (·.1)).map V.ref) its := by rw [List.map_map]; exact hr
  obtain ⟨j, hj, ej⟩ := List.getElem_of_mem (show u ∈ its by simpa using hu)
  obtain ⟨c, e1, q1⟩ := refs_nth n1 j hj
  have hjL : j < L.length := by rw [← hr.length, List.length_map] at hj; exact hj
  rw [List.getElem?_map, List.getElem?_eq_getElem hjL] at e1
  obtain rfl := Option.some.inj e1
  have hx := hL _ (List.getElem_mem hjL)
  rw [← ej, q1]
  have same : ∀ x ∈ L, x.1 = L[j].1 → x.2 = L[j].2 := fun x hx' e => by
    have h1 := hL x hx'
    rw [e, hx] at h1
    exact (List.map_inj_right fun _ _ h => by injection h).mp (hg _ _ (Option.some.inj h1)).symm
  have er : isRow L xs (.ref L[j].1) = decide (L[j].2 = xs) := by
    refine Bool.eq_iff_iff.mpr ?_
    unfold isRow
    rw [decide_eq_true_eq, decide_eq_true_eq]
    constructor
    · rintro ⟨x, hx', e, e2⟩
      rw [← same x hx' (by injection e with e; exact e.symm)]
      exact e2
    · intro e
      exact ⟨_, List.getElem_mem hjL, rfl, e⟩
  show SeqAt.EqAt A s (.ref L[j].1) (.ref a) _
  rw [er]
  by_cases hc : L[j].1 = a
  · have e2 : L[j].2 = xs := by
      rw [hc, ha] at hx
      exact (List.map_inj_right fun _ _ h => by injection h).mp (hg _ _ (Option.some.inj hx)).symm
    rw [decide_eq_true e2, hc]
    exact SeqAt.EqAt.same _
  · exact SeqAt.EqAt.of_refs hc (eq hx)
/-- a tuple of texts not in a list of tuples of texts -/
def rNotInT : R2 := fun x y H Q => ∃ (a b : Addr) (xs : List Str) (L : List (Addr × List Str)), x = .ref a ∧ y = .ref b ∧ H a = some (.tup (xs.map V.str)) ∧ H b = some (.lst (L.map fun x => V.ref x.1)) ∧ (∀ x ∈ L, H x.1 = some (.tup (x.2.map V.str))) ∧ Q (.bl (!decide (xs ∈ L.map (·.2)))) H
theorem op_notInT (hu : X.A.in1.units < cLine) : OpR X (compareOp .NotIn) rNotInT := by
  intro pins s σ H x y v u Q I rx ry h
  obtain ⟨a, b, xs, L, rfl, rfl, ha, hb, hL, q⟩ := h
  obtain rfl : v = Value.ref a := rx
  obtain rfl : u = Value.ref b := ry
  obtain ⟨its, r, pl, _⟩ := I.list (SqL.of hb)
  refine SeqAt.notIn_listAt (isRow L xs) pl.isList (row_at .tup (fun a b h => by injection h) r ha hL fun h => eqT_at I h ha hu) ?_
  rw [show its.toArray.any (isRow L xs) = its.any (isRow L xs) by simp, any_row xs r]
  exact ⟨.bl _, H, I, rfl, q⟩
end
end Own
namespace Sj
open PySem L2 Sup StK Own Shw Exg Grd KepE
open NdefX (NF NScope ncx envF startF nscope_by)
open C8 (pss_cut tCut)
/-! Board - name -/
abbrev sBoM : Stmt := inClass (top 25) 13
abbrev nBoM : List Str := ["self", "other", "left", "blocks", "name", "block"]
theorem scBoM : FnScope nBoM ["self", "other"] (defScope sBoM) := ⟨rfl, rfl, rfl, by decide +kernel, rfl, by decide +kernel, by decide +kernel⟩
/-- the blocks without a name, those that are left -/
def offZ (z : Str) (r : List Str) : List Str := r.filter fun y => !decide (y = z)
def outR (z : Str) (R : List (List Str)) : List (List Str) := (R.map (offZ z)).filter fun r => !r.isEmpty
/-- a board of the frame whose rows are told -/
structure BdOk (d : FrD) (L : List (Addr × List Str)) : Prop where
  mem : ∀ z ∈ allN L, z ∈ membZ d
  nd : (allN L).Nodup
  mn : (membZ d).Nodup
  le : (allN L).length ≤ 60
  gp : ∀ x ∈ L, ¬ (("ground" : Str) ∈ x.2 ∧ ("power" : Str) ∈ x.2)
def spBSub (K : PySem.W.Frag) (ks : Kinds) (CF CB CN : Addr) : Sp := fun vs H Q E => ∃ (o f : Addr) (d : FrD) (L : List (Addr × List Str)) (x : V), vs = [.ref o, x] ∧ BoAt H o CB f L ∧ FrIs ks CF H f d ∧
  ((∃ z, x = .str z ∧ z ∈ membZ d ∧ BdOk d L ∧ ∀ o' Bl L' H', Bl.map (·.2) = outR z (L.map (·.2)) → RowsOf d Bl L' → H o' = none → BoAt H' o' CB f L' → Same H H' → Q (.ref o') H') ∨
   (NoMem K H x d ∧ ∃ pd, Dq K H x pd ∧ Smalls pd ∧ ∀ e H', H e = none → H' e = some (.xd [("name", x)]) → Same H H' → E (.ref CN) (some e) H'))
theorem out_sub (z : Str) : ∀ R : List (List Str), ((outR z R).flatten).Sublist R.flatten
  | [] => .slnil
  | r :: R => by
    have ih := out_sub z R
    have h1 : (offZ z r).Sublist r := List.filter_sublist
    unfold outR
    rw [List.map_cons]
    by_cases e : (offZ z r).isEmpty = true
    · rw [List.filter_cons_of_neg (by simp [e])]
      exact ih.trans (List.sublist_append_right _ _)
    · rw [List.filter_cons_of_pos (by simp [e])]
      exact h1.append ih
def sBk : Scope := { kind := .function, names := [(".0", .local), ("block", .local), ("other", .cell)], isGenerator := false, isCoroutine := false }
def ttM1 : TT := tTest (tOp rNe (tVar 4) (tVar 1))
def teM1 (K : PySem.W.Frag) : TE := tLc (iTup K (tVar 5)) (gName 4) ttM1 (tVar 4) [4]
def ttM2 (K : PySem.W.Frag) : TT := fun σ H Q => tVar 5 σ H fun x H' => ∃ k, TruV K x H' k ∧ Q k H'
section
variable {P : Program} {w : World} {K : PySem.W.Frag} {mg : Str → Option Value} {base : Heap}
theorem ok_bsub {f CF CB CN fN fB : Addr} {fd : FuncData} {ks : Kinds} (F : Fun K "__sub__" "Board.__sub__" sBoM f fd) (cl : Cls K CB) (nF : NoAttr K CB "frame") (nB : NoAttr K CB "_blocks") (mB : mg "Board" = some (.ref CB)) (M : Mk K CB fB) (GB : FnR P w K mg base (L2.CX P w) 5 fB (spBoS K ks CF CB))
    (im : ∃ f fd, mg "is_member" = some (.ref f) ∧ PySem.W.keepIn K (.ref f) = true ∧ Binds K fd ["frame", "value"] [] ∧ FnOk P w K mg base CX0 3 f fd ["frame", "value"] (spIsM K ks CF)) (T : NlT P w K mg base CN fN) :
    FnG P w K mg base (L2.CX P w) 7 f fd ["self", "other"] (spBSub K ks CF CB CN) := by
  obtain ⟨fM, fdM, mM, kM, bM, GM⟩ := im
  obtain ⟨fdN, GN, bN⟩ := T.init
  refine fun_gX F scBoM (fun vs H Q E h => ?_) (fun cdv A outer s H vs Q E hg hr h => ?_)
  · obtain ⟨o, fr, d, L, x, rfl, _⟩ := h
    rfl
  obtain ⟨o, fr, d, L, x, rfl, hB, hF, h⟩ := h
  obtain ⟨dx, B, D, hs, h1, h2, h3, h4, h5⟩ := id hB
  refine ⟨_, pss_cons (ps_if (pt_not (pt_val (pe_call GM (hr.mono (by decide)) rfl mM kM bM .nil pass0 (pa_cons (pe_fld (pv 0) rfl) (pa_cons (pv 1) pa_nil))))) (pss_one (ps_raise rfl (takes_of rfl rfl rfl rfl) (pmk_e bL T.oex T.iC T.tI GN hg (hr.mono (by decide)) bN rfl T.mN (pa_cons (pv 1) pa_nil)))) pss_nil)
    (pss_cons (ps_setLc (i := 2) (te := teM1 K) (tt := tYes) (own := [("block", 5)]) (g := gName 5) rfl scBoM.nd rfl rfl (sw_true rfl rfl rfl (by decide +kernel)) (pi_tup (pe_fld (pv 0) rfl)) (blkOk_by (N := nBoM) (sc := defScope sBoM) (by decide +kernel))
        (fun _ _ _ _ _ => pg_name (i := 5) scBoM.nd rfl (Or.inl rfl)) (fun _ _ _ _ _ => pts_nil)
        (fun _ _ _ _ _ => pe_lc (te := tVar 4) (tt := ttM1) (own := [("name", 4)]) (g := gName 4) rfl scBoM.nd (pi_tup (pv 5)) (blkOk_by (N := nBoM) (sc := sBk) (by decide +kernel)) (fun _ _ _ _ _ => pg_name (i := 4) scBoM.nd rfl (Or.inl rfl)) (fun _ _ _ _ _ => pts_one (pt_cmpR op_ne (pv 4) (pv 1) (nomark _))) (fun _ _ _ _ _ => pv 4)))
    (pss_cons (ps_setLc (i := 3) (te := tVar 5) (tt := ttM2 K) (own := [("block", 5)]) (g := gName 5) rfl scBoM.nd rfl rfl (sw_true rfl rfl rfl (by decide +kernel)) (pi_list (pv 2)) (blkOk_by (N := nBoM) (sc := defScope sBoM) (by decide +kernel))
        (fun _ _ _ _ _ => pg_name (i := 5) scBoM.nd rfl (Or.inl rfl)) (fun _ _ _ _ _ => pts_one (pt_truth (pv 5) (fun _ => rfl))) (fun _ _ _ _ _ => pv 5))
    (pss_one (ps_ret (MakeS.pe_makeS M GB hr rfl mB (passes_call (takes_of rfl rfl rfl rfl) fun _ _ _ _ h => h) (pa_cons (pe_fld (pv 0) rfl) (StX.pa_star (pv 3) pa_nil))))))), ?_⟩
  rcases h.symm with ⟨no, pd, hpd, sm, k⟩ | ⟨z, rfl, hz, ok, k⟩
  · have go : ∀ H1, Same H H1 → tMkR CN (spOne K CN "name") (tCons (tVar 1) tNil) (L2.start nBoM [.ref o, x]) H1 E := fun H1 s1 => raise_one (fun Q' q => ⟨_, rfl, q⟩) (Dq.same s1 _ _ hpd) sm s1 (fun b hb => Dq.same (same_at hb) _ _ (Dq.same s1 _ _ hpd)) k
    refine ⟨_, rfl, o, CB, dx, _, _, rfl, h1, cl, nF, boF_frame _ _ _, _, rfl, fr, d, _, rfl, hF, ?_⟩
    rcases no with ⟨z, rfl, hz⟩ | ⟨hn, hi⟩
    · refine .inl ⟨z, rfl, fun H1 s1 => ?_⟩
      rw [decide_eq_false hz]
      exact ⟨_, rfl, iteT (go H1 s1)⟩
    · exact .inr ⟨hn, hi, fun H1 s1 => ⟨_, rfl, iteT (go H1 s1)⟩⟩
  have hLl : (refsB L).length = L.length := List.length_map _
  have hne : ∀ y ∈ L, y.2 ≠ [] := fun y hy => (h3 y hy).2
  have ll : L.length ≤ 60 := Nat.le_trans (blk_le hne) ok.le
  have yl : ∀ y ∈ L, y.2.length ≤ 60 := fun y hy => Nat.le_trans (List.Sublist.length_le (List.sublist_flatten_of_mem (List.mem_map.mpr ⟨y, hy, rfl⟩))) ok.le
  refine ⟨_, rfl, o, CB, dx, _, _, rfl, h1, cl, nF, boF_frame _ _ _, _, rfl, fr, d, _, rfl, hF, .inl ⟨z, rfl, fun H1 s1 => ?_⟩⟩
  rw [decide_eq_true hz]
  refine ⟨_, rfl, iteF ?_⟩
  -- left
  refine ⟨_, rfl, o, CB, dx, _, _, rfl, s1 _ _ h1, cl, nB, boF_blocks _ _ _, B, rfl, ⟨_, SqT.of (s1 _ _ h2)⟩, fun D1 hD1 => ?_⟩
  refine lc_it (walk_tup (K := K) (a := B) (xs := refsB L)) (fun i H' => Same H1 H' ∧ ∃ G : List (Addr × List Str), H' D1 = some (.lst (refsB G)) ∧ G.map (·.2) = (L.take i).map (fun y => offZ z y.2) ∧ ∀ x ∈ G, H' x.1 = some (.lst (strv x.2)) ∧ x.1 ≠ D1)
    ⟨same_at hD1, [], upd_same, rfl, fun x hx => by cases hx⟩ (fun i H' _ p => SqT.of (p.1 _ _ (s1 _ _ h2))) ?_ ?_
  · rintro i x Ho Ha hi ⟨sa, G, dG, eG, hG⟩ ⟨rfl, hx⟩
    rw [hLl] at hi
    obtain ⟨y, ey0⟩ : ∃ y, y = L[i] := ⟨_, rfl⟩
    have ey : L[i]? = some y := by rw [ey0]; exact List.getElem?_eq_getElem hi
    have ex : (refsB L)[i]? = some (.ref y.1) := by unfold refsB; rw [List.getElem?_map, ey]; rfl
    rw [ex] at hx
    obtain rfl := Option.some.inj hx
    have hyL := List.mem_of_getElem? ey
    have hy := (s1.trans sa) _ _ (h3 y hyL).1
    have hyl : (strv y.2).length = y.2.length := List.length_map _
    have gl : G.length = i := by
      have := congrArg List.length eG
      rw [List.length_map, List.length_map, List.length_take] at this
      omega
    refine ⟨rfl, ?_⟩
    unfold tYes
    dsimp only
    rw [if_pos rfl]
    refine ⟨_, rfl, y.1, rfl, ⟨_, SqT.of hy⟩, fun D2 hD2 => ?_⟩
    refine lc_it (walk_tup (K := K) (a := y.1) (xs := strv y.2)) (fun j H' => Same Ha H' ∧ H' D2 = some (.lst (strv (offZ z (y.2.take j))))) ⟨same_at hD2, upd_same⟩ (fun j H' _ p => SqT.of (p.1 _ _ hy)) ?_ ?_
    · rintro j x Hc Hd hj ⟨sc, dc⟩ ⟨rfl, hxj⟩
      rw [hyl] at hj
      have exj : (strv y.2)[j]? = some (.str y.2[j]) := by show (y.2.map V.str)[j]? = _; rw [List.getElem?_map, List.getElem?_eq_getElem hj]; rfl
      rw [exj] at hxj
      obtain rfl := Option.some.inj hxj
      have etk : offZ z (y.2.take (j + 1)) = offZ z (y.2.take j) ++ if y.2[j] = z then [] else [y.2[j]] := by
        unfold offZ
        rw [List.take_add_one, List.getElem?_eq_getElem hj, Option.toList_some, List.filter_append]
        congr 1
        by_cases e : y.2[j] = z
        · rw [if_pos e, List.filter_cons_of_neg (by simp [e])]; rfl
        · rw [if_neg e, List.filter_cons_of_pos (by simp [e])]; rfl
      refine ⟨rfl, _, rfl, _, rfl, rfl, _, rfl, ?_⟩
      by_cases e : y.2[j] = z
      · rw [show (!decide (V.str y.2[j] = V.str z)) = false by rw [e, decide_eq_true rfl]; rfl]
        refine iteF ⟨sc, ?_⟩
        rw [etk, if_pos e, List.append_nil]
        exact dc
      · rw [show (!decide (V.str y.2[j] = V.str z)) = true by rw [decide_eq_false fun q => e (V.str.inj q)]; rfl]
        refine iteT ⟨_, rfl, _, dc, ?_, fun c u q => ?_, ?_⟩
        · have q : (offZ z (y.2.take j)).length ≤ 60 := Nat.le_trans (List.length_filter_le _ _) (Nat.le_trans (by rw [List.length_take]; omega) (yl y hyL))
          show (List.map _ _).length < _
          rw [List.length_map]
          exact Nat.lt_of_le_of_lt q (by decide)
        · rw [upd_ne (ne_of_none q hD2)]
          exact sc _ _ q
        · rw [upd_same, etk, if_neg e]
          show _ = some (HO.lst (List.map _ _))
          rw [List.map_append]
          rfl
    rintro Hc ⟨sc, dc⟩
    rw [hyl, List.take_length] at dc
    have nD : D2 ≠ D1 := fun e => by rw [e, dG] at hD2; cases hD2
    refine ⟨_, sc _ _ dG, ?_, fun c u q => ?_, G ++ [(D2, offZ z y.2)], ?_, ?_, fun x hx => ?_⟩
    · show (List.map _ G).length < _
      rw [List.length_map, gl]
      exact Nat.lt_of_lt_of_le (show i < 60 by omega) (by decide)
    · rw [upd_ne (ne_of_none q hD1)]
      exact sc _ _ (sa _ _ q)
    · rw [upd_same]
      unfold refsB
      rw [List.map_append]
      rfl
    · rw [List.map_append, eG, List.take_add_one, ey, Option.toList_some, List.map_append]
      rfl
    · rcases List.mem_append.mp hx with hx | hx
      · obtain ⟨q1, q2⟩ := hG x hx
        exact ⟨by rw [upd_ne q2]; exact sc _ _ q1, q2⟩
      · rw [List.mem_singleton.mp hx]
        exact ⟨by rw [upd_ne nD]; exact dc, nD⟩
  rintro H2 ⟨s12, G, dG, eG, hG⟩
  rw [hLl, List.take_length] at eG
  have gl : G.length = L.length := by
    have := congrArg List.length eG
    rw [List.length_map, List.length_map] at this
    exact this
  -- blocks
  have hGl : (refsB G).length = G.length := List.length_map _
  refine ⟨_, rfl, D1, rfl, ⟨_, SqL.of dG⟩, fun D3 hD3 => ?_⟩
  refine lc_it (walk_list (K := K) (a := D1) (xs := refsB G)) (fun i H' => Same H2 H' ∧ H' D3 = some (.lst (refsB ((G.take i).filter fun x => !x.2.isEmpty)))) ⟨same_at hD3, upd_same⟩ (fun i H' _ p => SqL.of (p.1 _ _ dG)) ?_ ?_
  · rintro i x Ho Ha hi ⟨sa, da⟩ ⟨rfl, hx⟩
    rw [hGl] at hi
    obtain ⟨y, ey0⟩ : ∃ y, y = G[i] := ⟨_, rfl⟩
    have ey : G[i]? = some y := by rw [ey0]; exact List.getElem?_eq_getElem hi
    have ex : (refsB G)[i]? = some (.ref y.1) := by unfold refsB; rw [List.getElem?_map, ey]; rfl
    rw [ex] at hx
    obtain rfl := Option.some.inj hx
    have hy := sa _ _ (hG y (List.mem_of_getElem? ey)).1
    have etk : (G.take (i + 1)).filter (fun x => !x.2.isEmpty) = (G.take i).filter (fun x => !x.2.isEmpty) ++ if y.2.isEmpty = true then [] else [y] := by
      rw [List.take_add_one, ey, Option.toList_some, List.filter_append]
      congr 1
      by_cases e : y.2.isEmpty = true
      · rw [if_pos e, List.filter_cons_of_neg (by simp [e])]; rfl
      · rw [if_neg e, List.filter_cons_of_pos (by simp [e])]; rfl
    refine ⟨rfl, _, rfl, !(strv y.2).isEmpty, .inl ⟨_, SqL.of hy, rfl⟩, ?_⟩
    rw [show (strv y.2).isEmpty = y.2.isEmpty from List.isEmpty_map]
    by_cases e : y.2.isEmpty = true
    · rw [e]
      refine iteF ⟨sa, ?_⟩
      rw [etk, if_pos e, List.append_nil]
      exact da
    · rw [Bool.eq_false_iff.mpr e]
      refine iteT ⟨_, rfl, _, da, ?_, fun c u q => ?_, ?_⟩
      · have q : ((G.take i).filter fun x => !x.2.isEmpty).length ≤ 60 := Nat.le_trans (List.length_filter_le _ _) (by rw [List.length_take]; omega)
        show (List.map _ _).length < _
        rw [List.length_map]
        exact Nat.lt_of_le_of_lt q (by decide)
      · rw [upd_ne (ne_of_none q hD3)]
        exact sa _ _ q
      · rw [upd_same, etk, if_neg e]
        unfold refsB
        rw [List.map_append]
        rfl
  rintro H3 ⟨s23, d3⟩
  rw [hGl, List.take_length] at d3
  obtain ⟨Bl, eBl⟩ : ∃ Bl, Bl = G.filter fun x => !x.2.isEmpty := ⟨_, rfl⟩
  rw [← eBl] at d3
  have s03 := (s1.trans s12).trans s23
  have er : Bl.map (·.2) = outR z (L.map (·.2)) := by
    unfold outR
    rw [List.map_map, show (offZ z ∘ fun x : Addr × List Str => x.2) = fun y => offZ z y.2 from rfl, ← eG, eBl, List.filter_map]
    rfl
  have sub : (allN Bl).Sublist (allN L) := by
    rw [allN_map, er, allN_map]
    exact out_sub z _
  have hBl : ∀ x ∈ Bl, H2 x.1 = some (.lst (strv x.2)) ∧ x.2 ≠ [] := fun x hx => by
    rw [eBl] at hx
    obtain ⟨q1, q2⟩ := List.mem_filter.mp hx
    exact ⟨(hG x q1).1, fun e => by rw [e] at q2; cases q2⟩
  have part : PartOf ks CF H3 fr d Bl := ⟨hF.same s03, fun x hx => ⟨.inl (s23 _ _ (hBl x hx).1), (hBl x hx).2⟩, fun z hz => ok.mem z (sub.subset hz), sub.nodup ok.nd, ok.mn, Nat.le_trans sub.length_le ok.le, fun x hx q => by
    have hm : x.2 ∈ outR z (L.map (·.2)) := by rw [← er]; exact List.mem_map.mpr ⟨x, hx, rfl⟩
    obtain ⟨r, hr, e⟩ := List.mem_map.mp (List.mem_filter.mp hm).1
    obtain ⟨y, hy, rfl⟩ := List.mem_map.mp hr
    rw [← e] at q
    exact ok.gp y hy ⟨List.filter_sublist.mem q.1, List.filter_sublist.mem q.2⟩⟩
  refine ⟨_, rfl, o, CB, dx, _, _, rfl, s03 _ _ h1, cl, nF, boF_frame _ _ _, _, rfl, D3, refsB Bl, rfl, .inr (SqL.of d3), ?_⟩
  intro o' dx' ho' hdx' hne'
  rw [List.append_nil]
  exact mk_bo part ho' hdx' hne' fun H' L' hR hB' s' => ⟨rfl, k o' Bl L' H' er hR (s03.free ho') hB' (s03.trans s')⟩
end
end Sj
/-! o.m(*y) of a def with a star; a promise with its binding, by place (where nothing is being shown) -/
namespace Grd
open PySem PySem.Spec PyProof.Rows L2
open StX
theorem fnGR_of {P : Program} {w : World} {K : PySem.W.Frag} {mg : Str → Option Value} {base : Heap} {CX : CXT} {k : Nat} {f : Addr} {fd : FuncData} {ps : List Str} {sp : Sp} (F : FnG P w K mg base CX k f fd ps sp) (hb : Binds K fd ps []) : FnGR P w K mg base CX k f sp := fun A outer s H us vs Q E hg hr e0 r h => by
  have hl : (us ++ []).length = ps.length := by rw [List.append_nil, ← r.length]; exact F.len _ _ _ _ h
  have hB := hb s us (e0.mod.kin.keeps fun b o e => (e0.bs b o e).1) hl
  rw [List.append_nil] at hB
  exact F.run A outer s H ⟨us, []⟩ us vs Q E hg hr e0 hB r h
section
variable {X : Cx} {CX : CXT} {k : Nat} {f C : Addr} {m : Str} {sp : Sp} {E : XK} {e o : Expr} {ta te : TE} {p apos pos : Pos}
theorem run_fnGR {pins : List (Addr × Obj)} {σ : L2.St} {H : Hp} {s : Shared} {Q : VK} {us : List Value} {vs : List V} (F : FnGR X.prog X.w X.K X.mg X.base CX k f sp) (hG : X.A.guards = some []) (hr : Room k X.A) (hx : Passes CX X E) (I : Inv X pins σ H s) (r : Vals vs us) (h : sp vs H Q E) :
    codeAny (model X.prog X.w) X.A (.call (.ref f) ⟨us, []⟩) (fun r s' => match r with | .ok (.ret v) => EP X pins σ Q v s' | .ok _ => False | .error e => X.xe e s') s := by
  refine codeAny_mono (F X.A X.stack s H us vs Q E hG hr I.env0 r h) fun r s' hq => ?_
  cases r with
  | error e => exact hx pins σ H s e s' I hq
  | ok fl =>
    cases fl with
    | ret u => exact I.after hq
    | next => exact False.elim hq
    | brk => exact False.elim hq
    | cont => exact False.elim hq
/-- o.m(*y) -/
theorem pe_methGS (he : PE X o ta) (c : Cls X.K C) (b : BMeth X.K C m f) (F : FnGR X.prog X.w X.K X.mg X.base CX k f sp) (hG : X.A.guards = some []) (hr : Room k X.A)
    (hx : Passes CX X E) (ha : PE X e te) (hbase : attributeBase o m X.env (eval o X.env) = eval o X.env := by rfl) : PE X (.Call (.Attribute o m apos) [.Starred e p] [] pos) (tMethS X.K C m f sp E ta te) := by
  refine ⟨fun pins s σ H Q I h => ?_⟩
  refine starcall_of hbase (thn (he.run pins s σ H _ I h) fun u s1 ⟨x, H1, I1, rx, a, dx, fs, ex, ea, l, q⟩ => ?_)
  subst ex
  obtain rfl : u = Value.ref a := rx
  refine getbound_ok I1 ea c b l fun q1 s2 hq1 I2 => ?_
  refine PySem.W.ks_call (P := PySem.W.MethP X.K q1 f (.ref a)) rfl (PySem.W.keeps_M b.fi) (PySem.W.ks_lone ?_)
  refine thn (ha.run pins s2 σ _ _ I2 (q q1 hq1)) fun v s3 ⟨y, H2, I3, ry, t, vs, ey, ht, hm, hsp⟩ => ?_
  subst ey
  obtain rfl : v = Value.ref t := ry
  refine star_tup I3 ht fun us s4 I4 rv => ⟨met_P I4 hm, ?_⟩
  exact wpAny_call (PySem.W.method_call (met_P I4 hm).1 (run_fnGR (us := Value.ref a :: us) (vs := V.ref a :: vs) F hG hr hx I4 (.cons rfl rv) hsp))
end
end Grd
namespace Sj
open PySem L2 Sup StK Own Shw Exg Grd KepE
open NdefX (NF NScope ncx envF startF nscope_by)
open C8 (pss_cut tCut)
/-! is_board_of, Board.within -/
abbrev sIbo : Stmt := top 27
theorem scIbo : FnScope ["frame", "value"] ["frame", "value"] (defScope sIbo) := ⟨rfl, rfl, rfl, by decide +kernel, rfl, by decide +kernel, by decide +kernel⟩
def spIbo (K : PySem.W.Frag) (ks : Kinds) (CF CB : Addr) : Sp := fun vs H Q _ => ∃ (f : Addr) (d : FrD) (y : V), vs = [.ref f, y] ∧ FrIs ks CF H f d ∧
  ((∃ (o g : Addr) (e : FrD) (L : List (Addr × List Str)), y = .ref o ∧ BoAt H o CB g L ∧ FrIs ks CF H g e ∧ ∀ H', Same H H' → Q (.bl (eqFr e d)) H') ∨ ∃ t, TyX K H y t ∧ PySem.W.kitOne K t (.ref CB) = some false ∧ ∀ H', Same H H' → Q (.bl false) H')
section
variable {P : Program} {w : World} {K : PySem.W.Frag} {mg : Str → Option Value} {base : Heap}
theorem ok_ibo {f CF CB : Addr} {fd : FuncData} {ks : Kinds} (F : Fun K "is_board_of" "is_board_of" sIbo f fd) (T : BeT P w K mg base ks CF CB) : FnOk P w K mg base CX0 6 f fd ["frame", "value"] (spIbo K ks CF CB) := by
  refine F.ok scIbo (fun vs H Q E h => ?_) (fun cdv A outer s H vs Q E hr h => ?_)
  · obtain ⟨fr, d, y, rfl, _⟩ := h
    rfl
  obtain ⟨fr, d, y, rfl, hF, h⟩ := h
  refine ⟨_, pss_one (ps_ret (pe_and (pe_callB call_isi (by rfl) T.isi (by decide +kernel) (pa_cons (pv 1) (pa_cons (pe_glob rfl T.mB (v := .ref CB) rfl) pa_nil))) (pe_one (pe_cmpR (op_ownE (.inl rfl) (S := fun C => C = CF) (spE := fun _ => spFEq K ks CF) (fun C e => by rw [e]; exact T.eqF.eqC hr)) (pe_fld (pv 1) rfl) (pv 0) (nomark _))))), ?_⟩
  rcases h with ⟨o, g, e, L, rfl, hB, hG, k⟩ | ⟨t, ty, hk, k⟩
  · obtain ⟨dy, B, D, hs, g1, g2, g3, _⟩ := id hB
    have tyb : TyX K H (.ref o) (.ref CB) := .base (.ins g1 T.icB.cl T.icB.ca T.icB.cn T.icB.ct T.icB.cm)
    refine ⟨_, rfl, _, _, .ref CB, .ref CB, true, rfl, .own _, tyb, T.self, true, rfl, iteT ?_⟩
    exact ⟨_, rfl, o, CB, dy, _, _, rfl, g1, T.icB.cl, T.nF, boF_frame _ _ _, _, rfl, own_rdF T.icF T.nfF hG hF rfl fun H1 s1 => k H1 s1⟩
  · exact ⟨_, rfl, _, _, t, .ref CB, false, rfl, .own _, ty, hk, false, rfl, iteF (k H (Same.refl H))⟩
end
abbrev sBoW : Stmt := inClass (top 25) 6
abbrev nBoW : List Str := ["self", "other", "block"]
theorem scBoW : FnScope nBoW ["self", "other"] (defScope sBoW) := ⟨rfl, rfl, rfl, by decide +kernel, rfl, by decide +kernel, by decide +kernel⟩
/-- each row of one lies in a row of the other -/
def withinR (R S : List (List Str)) : Bool := R.all fun r => S.any fun s => r.all fun z => decide (z ∈ s)
theorem same_within {M ys : List (Addr × List Str)} {r : List Str} (nd : (M.map (·.2)).flatten.Nodup) (hr : r ≠ []) (hl : ys.length = r.length) (hy : ∀ (i : Nat) (y : Addr × List Str), ys[i]? = some y → y ∈ M ∧ ∃ z, r[i]? = some z ∧ z ∈ y.2) :
    allSame ys = (M.map (·.2)).any fun s => r.all fun z => decide (z ∈ s) := by
  match ys, hl with
  | [], hl => exact absurd (List.length_eq_zero_iff.mp hl.symm) hr
  | y0 :: yr, hl =>
    refine Bool.eq_iff_iff.mpr ?_
    unfold allSame
    rw [List.all_eq_true, List.any_eq_true]
    constructor
    · intro h
      refine ⟨y0.2, List.mem_map.mpr ⟨y0, (hy 0 y0 rfl).1, rfl⟩, List.all_eq_true.mpr fun z hz => decide_eq_true ?_⟩
      obtain ⟨i, hi, e⟩ := List.getElem_of_mem hz
      have hi' : i < (y0 :: yr).length := by rw [hl]; exact hi
      obtain ⟨_, z', e1, e2⟩ := hy i _ (List.getElem?_eq_getElem hi')
      rw [List.getElem?_eq_getElem hi, e] at e1
      obtain rfl := Option.some.inj e1
      have q := of_decide_eq_true (h _ (List.getElem_mem hi'))
      rw [q] at e2
      exact e2
    · rintro ⟨s, hs, hall⟩ y hyy
      obtain ⟨m, hm, rfl⟩ := List.mem_map.mp hs
      have row : ∀ y ∈ y0 :: yr, y.2 = m.2 := fun y hyy => by
        obtain ⟨i, hi, e⟩ := List.getElem_of_mem hyy
        obtain ⟨h1, z, e1, e2⟩ := hy i y (by rw [List.getElem?_eq_getElem hi, e])
        exact rows_disj nd (List.mem_map.mpr ⟨y, h1, rfl⟩) hs e2 (of_decide_eq_true (List.all_eq_true.mp hall z (List.mem_of_getElem? e1)))
      refine decide_eq_true ?_
      show y.2 = y0.2
      rw [row y hyy, row y0 List.mem_cons_self]
/-- a board within another of a frame like its own; what is no such board is refused -/
def spBWi (K : PySem.W.Frag) (ks : Kinds) (CF CV CB : Addr) : Sp := fun vs H Q E => ∃ (o f : Addr) (d : FrD) (L : List (Addr × List Str)) (y : V), vs = [.ref o, y] ∧ BoAt H o CB f L ∧ FrIs ks CF H f d ∧
  ((∃ (b g : Addr) (e : FrD) (M : List (Addr × List Str)), y = .ref b ∧ BoAt H b CB g M ∧ FrIs ks CF H g e ∧ eqFr e d = true ∧ (∀ r ∈ L, ∀ z ∈ r.2, ∃ y ∈ M, z ∈ y.2) ∧ (∀ y ∈ M, ∀ z ∈ y.2, z ∈ membZ e) ∧ (M.map (·.2)).flatten.Nodup ∧ L.length ≤ 100 ∧ (∀ r ∈ L, r.2.length ≤ 100) ∧ ∀ H', Same H H' → Q (.bl (withinR (L.map (·.2)) (M.map (·.2)))) H') ∨
   (((∃ (b g : Addr) (e : FrD) (M : List (Addr × List Str)), y = .ref b ∧ BoAt H b CB g M ∧ FrIs ks CF H g e ∧ eqFr e d = false) ∨ ∃ t, TyX K H y t ∧ PySem.W.kitOne K t (.ref CB) = some false) ∧ ∀ e H', errH H H' e "reason" (.str "frame") → E (.ref CV) (some e) H'))
def teWi (K : PySem.W.Frag) (ks : Kinds) (CF CB CN fJ : Addr) (E : XK) : TE := tMethS K CB "joins" fJ (spStarG ["self"] (spBJo K ks CF CB CN)) E (tVar 1) (tVar 2)
structure WinT (P : Program) (w : World) (K : PySem.W.Frag) (mg : Str → Option Value) (base : Heap) (ks : Kinds) (CF CV fV CB CN fJ : Addr) : Prop where
  cl : Cls K CB
  nF : NoAttr K CB "frame"
  nB : NoAttr K CB "_blocks"
  ibo : ∃ f fd, mg "is_board_of" = some (.ref f) ∧ PySem.W.keepIn K (.ref f) = true ∧ Binds K fd ["frame", "value"] [] ∧ FnOk P w K mg base CX0 6 f fd ["frame", "value"] (spIbo K ks CF CB)
  all : mg "all" = none
  jm : BMeth K CB "joins" fJ
  jo : FnGR P w K mg base (L2.CX P w) 6 fJ (spStarG ["self"] (spBJo K ks CF CB CN))
  mV : mg "InvalidBoard" = some (.ref CV)
  ex : ExT P K mg CV "reason"
  iC : PySem.W.findIn K (.ref CV) "__init__" = some (some (.ref fV))
  tI : PySem.W.typeIn K (.ref fV) = some (.type "function")
  inv : ∃ fdI, Binds K fdI ["self", "reason"] [] ∧ FnOk P w K mg base CX0 1 fV fdI ["self", "reason"] (spInv K CV)
section
variable {P : Program} {w : World} {K : PySem.W.Frag} {mg : Str → Option Value} {base : Heap}
theorem ok_bwi {f CF CV fV CB CN fJ : Addr} {fd : FuncData} {ks : Kinds} (F : Fun K "within" "Board.within" sBoW f fd) (T : WinT P w K mg base ks CF CV fV CB CN fJ) : FnG P w K mg base (L2.CX P w) 7 f fd ["self", "other"] (spBWi K ks CF CV CB) := by
  obtain ⟨fM, fdM, mM, kM, bM, GM⟩ := T.ibo
  obtain ⟨fdI, bI, GI⟩ := T.inv
  refine fun_gX F scBoW (fun vs H Q E h => ?_) (fun cdv A outer s H vs Q E hg hr h => ?_)
  · obtain ⟨o, fr, d, L, y, rfl, _⟩ := h
    rfl
  obtain ⟨o, fr, d, L, y, rfl, hB, hF, h⟩ := h
  obtain ⟨dx, B, D, hs, h1, h2, h3, h4, h5⟩ := id hB
  refine ⟨_, pss_cons (ps_if (pt_not (pt_val (pe_call GM hr rfl mM kM bM .nil pass0 (pa_cons (pe_fld (pv 0) rfl) (pa_cons (pv 1) pa_nil))))) (pss_one (ps_raise rfl (takes_of rfl rfl rfl rfl) (pmk_oex T.ex.oex T.iC T.tI GI (hr.mono (by decide)) bI .nil pass0 rfl T.mV (pa_cons pe_str pa_nil)))) pss_nil)
    (pss_one (ps_ret (pe_callB (cr_all rfl) (by rfl) T.all (by decide +kernel) (pa_cons (pe_lc (te := teWi K ks CF CB CN fJ E0) (tt := tYes) (own := [("block", 2)]) (g := gName 2) rfl scBoW.nd (pi_tup (pe_fld (pv 0) rfl)) (blkOk_by (N := nBoW) (sc := defScope sBoW) (by decide +kernel))
        (fun _ _ _ _ _ => pg_name (i := 2) scBoW.nd rfl (Or.inl rfl)) (fun _ _ _ _ _ => pts_nil) (fun _ _ _ _ _ => pe_methGS (pv 1) T.cl T.jm T.jo hg hr (passNo rfl rfl) (pv 2))) pa_nil)))), ?_⟩
  rcases h with ⟨b, g, e, M, rfl, hB2, hF2, he, hin, hmM, hnd, hll, hrl, k⟩ | ⟨hb, k⟩
  · refine ⟨_, rfl, o, CB, dx, _, _, rfl, h1, T.cl, T.nF, boF_frame _ _ _, _, rfl, fr, d, _, rfl, hF, .inl ⟨b, g, e, M, rfl, hB2, hF2, fun H1 s1 => ?_⟩⟩
    rw [he]
    refine ⟨_, rfl, iteF ?_⟩
    obtain ⟨dy, B', D', hs', g1, g2, g3, _⟩ := id hB2
    have hLl : (refsB L).length = L.length := List.length_map _
    refine ⟨_, rfl, o, CB, dx, _, _, rfl, s1 _ _ h1, T.cl, T.nB, boF_blocks _ _ _, B, rfl, ⟨_, SqT.of (s1 _ _ h2)⟩, fun D1 hD1 => ?_⟩
    refine lc_it (walk_tup (K := K) (a := B) (xs := refsB L)) (fun i H' => Same H1 H' ∧ H' D1 = some (.lst (((L.take i).map fun y => (M.map (·.2)).any fun s => y.2.all fun z => decide (z ∈ s)).map V.bl))) ⟨same_at hD1, upd_same⟩ (fun i H' _ p => SqT.of (p.1 _ _ (s1 _ _ h2))) ?_ ?_
    · rintro i x Ho Ha hi ⟨sa, da⟩ ⟨rfl, hx⟩
      rw [hLl] at hi
      obtain ⟨y, ey0⟩ : ∃ y, y = L[i] := ⟨_, rfl⟩
      have ey : L[i]? = some y := by rw [ey0]; exact List.getElem?_eq_getElem hi
      have ex : (refsB L)[i]? = some (.ref y.1) := by unfold refsB; rw [List.getElem?_map, ey]; rfl
      rw [ex] at hx
      obtain rfl := Option.some.inj hx
      have hyL := List.mem_of_getElem? ey
      have s0a := s1.trans sa
      refine ⟨rfl, ?_⟩
      unfold tYes
      dsimp only
      rw [if_pos rfl]
      refine ⟨_, rfl, b, dy, _, rfl, s0a _ _ g1, boF_joins _ _ _, fun q hq => ?_⟩
      have sq := same_at (o := .met fJ b) hq
      refine ⟨_, rfl, y.1, strv y.2, rfl, SqT.of (sq _ _ (s0a _ _ (h3 y hyL).1)), upd_same, ?_⟩
      refine jo_rd (zs := y.2) (hB2.same (s0a.trans sq)) (hF2.same (s0a.trans sq)) (hin y hyL) hmM (hrl y hyL) fun ys Hb yl hy sb => ?_
      have sab := sq.trans sb
      rw [same_within hnd (h3 y hyL).2 yl hy]
      refine ⟨_, sab _ _ da, ?_, fun c u q' => ?_, ?_⟩
      · rw [List.length_map, List.length_map, List.length_take]
        exact Nat.lt_of_le_of_lt (show _ ≤ 100 by omega) (by decide)
      · rw [upd_ne (ne_of_none q' hD1)]
        exact sab _ _ (sa _ _ q')
      · rw [upd_same, List.take_add_one, ey, Option.toList_some, List.map_append, List.map_append]
        rfl
    rintro H2 ⟨s12, d2⟩
    rw [hLl, List.take_length] at d2
    refine ⟨D1, _, rfl, SqL.of d2, ?_⟩
    have e2 : (L.map fun y => (M.map (·.2)).any fun s => y.2.all fun z => decide (z ∈ s)).all id = withinR (L.map (·.2)) (M.map (·.2)) := by
      unfold withinR
      rw [List.all_map, List.all_map]
      rfl
    rw [e2]
    exact k H2 (s1.trans s12)
  · rcases hb with ⟨b, g, e, M, rfl, hB2, hF2, he⟩ | ⟨t, ty, hk⟩
    · refine ⟨_, rfl, o, CB, dx, _, _, rfl, h1, T.cl, T.nF, boF_frame _ _ _, _, rfl, fr, d, _, rfl, hF, .inl ⟨b, g, e, M, rfl, hB2, hF2, fun H1 s1 => ?_⟩⟩
      rw [he]
      exact ⟨_, rfl, iteT (raise_inv (fun Q' q => q) (by decide +kernel) s1 k)⟩
    · exact ⟨_, rfl, o, CB, dx, _, _, rfl, h1, T.cl, T.nF, boF_frame _ _ _, _, rfl, fr, d, _, rfl, hF, .inr ⟨t, ty, hk, fun H1 s1 => ⟨_, rfl, iteT (raise_inv (fun Q' q => q) (by decide +kernel) s1 k)⟩⟩⟩
end
end Sj
namespace Sj
open PySem L2 Sup StK Own Shw Exg Grd KepE
open NdefX (NF NScope ncx envF startF nscope_by)
open C8 (pss_cut tCut)
/-! joined_blocks -/
abbrev sJo : Stmt := top 29
abbrev nJo : List Str := ["blocks", "more", "found", "block", "met", "merged", "old", "name"]
theorem scJo : FnScope nJo ["blocks", "more"] (defScope sJo) := ⟨rfl, rfl, rfl, by decide +kernel, rfl, by decide +kernel, by decide +kernel⟩
def sJk : Scope := { kind := .function, names := [(".0", .local), ("old", .local), ("any", .globalImplicit), ("block", .cell)], isGenerator := false, isCoroutine := false }
/-- the rows that a block meets; the rows behind it -/
def meets (b o : List Str) : Bool := o.any fun z => decide (z ∈ b)
def metR (F : List (List Str)) (b : List Str) : List (List Str) := F.filter (meets b)
def joinR (F : List (List Str)) (b : List Str) : List (List Str) := (F.filter fun o => !decide (o ∈ metR F b)) ++ [(metR F b).flatten]
theorem joinR_eq (F : List (List Str)) (b : List Str) : joinR F b = (F.filter fun o => !meets b o) ++ [(metR F b).flatten] := by
  unfold joinR
  congr 1
  refine List.filter_congr fun o ho => ?_
  unfold metR
  by_cases e : meets b o = true
  · rw [e, decide_eq_true (List.mem_filter.mpr ⟨ho, e⟩)]
  · rw [Bool.eq_false_iff.mpr e, decide_eq_false fun h => e (List.mem_filter.mp h).2]
theorem part_perm {α : Type} (p : α → Bool) : ∀ xs : List α, ((xs.filter fun x => !p x) ++ xs.filter p).Perm xs
  | [] => .nil
  | x :: xs => by
    have ih := part_perm p xs
    by_cases e : p x = true
    · rw [List.filter_cons_of_neg (by simp [e]), List.filter_cons_of_pos e]
      exact (List.perm_middle).trans (ih.cons x)
    · rw [List.filter_cons_of_pos (by simp [e]), List.filter_cons_of_neg e]
      exact ih.cons x
theorem joinR_perm (F : List (List Str)) (b : List Str) : ((joinR F b).flatten).Perm F.flatten := by
  rw [joinR_eq, List.flatten_append, List.flatten_singleton, ← List.flatten_append]
  exact (part_perm (meets b) F).flatten
theorem foldl_perm (F : List (List Str)) : ∀ M : List (List Str), ((M.foldl joinR F).flatten).Perm F.flatten := fun M => by
  induction M generalizing F with
  | nil => exact .refl _
  | cons b M ih => exact (ih (joinR F b)).trans (joinR_perm F b)
theorem filt_len (p : Addr × List Str → Bool) : ∀ G : List (Addr × List Str), (allN (G.filter p)).length ≤ (allN G).length
  | [] => Nat.le_refl _
  | x :: G => by
    have ih := filt_len p G
    show _ ≤ (x.2 ++ allN G).length
    rw [List.length_append]
    by_cases e : p x = true
    · rw [List.filter_cons_of_pos e]
      show (x.2 ++ allN (G.filter p)).length ≤ _
      rw [List.length_append]
      omega
    · rw [List.filter_cons_of_neg e]
      omega
def ttMet (K : PySem.W.Frag) : TT := tB (tCB (rAny K) (tCons (tLc (iTup K (tVar 6)) (gName 7) tYes (tOp (rIn K false) (tVar 7) (tVar 3)) [7]) tNil))
def ttNm : TT := tB (tOp rNotInT (tVar 6) (tVar 4))
def spJo : Sp := fun vs H Q _ => ∃ (p q : Addr) (L M : List (Addr × List Str)), vs = [.ref p, .ref q] ∧ H p = some (.tup (refsB L)) ∧ H q = some (.tup (refsB M)) ∧ (∀ x ∈ L, H x.1 = some (.tup (strv x.2))) ∧ (∀ x ∈ M, H x.1 = some (.tup (strv x.2))) ∧ (allN L).length ≤ 60 ∧ L.length ≤ 60 ∧ M.length ≤ 60 ∧
  ∀ l G H', H' l = some (.lst (refsB G)) → (∀ x ∈ G, H' x.1 = some (.tup (strv x.2))) → G.map (·.2) = (M.map (·.2)).foldl joinR (L.map (·.2)) → Same H H' → Q (.ref l) H'
section
variable {P : Program} {w : World} {K : PySem.W.Frag} {mg : Str → Option Value} {base : Heap}
theorem ok_jo {f : Addr} {fd : FuncData} (F : Fun K "joined_blocks" "joined_blocks" sJo f fd) (mL : mg "list" = none) (mT : mg "tuple" = none) (mA : mg "any" = none) : FnOk P w K mg base CX0 2 f fd ["blocks", "more"] spJo := by
  refine F.ok scJo (fun vs H Q E h => ?_) (fun cdv A outer s H vs Q E hr h => ?_)
  · obtain ⟨p, q, L, M, rfl, _⟩ := h
    rfl
  refine ⟨_, pss_cons (ps_set (i := 2) scJo.nd rfl (Or.inl rfl) (pe_callTy (T := "list") call_list_of (by rfl) mL (by decide +kernel) (pa_cons (pv 0) pa_nil)))
    (pss_cons (ps_for PassesOwn.never rfl (pi_tup (pv 1)) (pg_name (i := 3) scJo.nd rfl (Or.inr rfl))
      (pss_cons (ps_set (i := 4) scJo.nd rfl (Or.inr rfl) (pe_lc (te := tVar 6) (tt := ttMet K) (own := [("old", 6)]) (g := gName 6) rfl scJo.nd (pi_list (pv 2)) (blkOk_by (N := nJo) (sc := defScope sJo) (by decide +kernel)) (fun _ _ _ _ _ => pg_name (i := 6) scJo.nd rfl (Or.inl rfl))
          (fun _ _ _ _ _ => pts_one (pt_val (pe_callB (cr_any rfl) (by rfl) mA (by decide +kernel) (pa_cons (pe_lc (te := tOp (rIn K false) (tVar 7) (tVar 3)) (tt := tYes) (own := [("name", 7)]) (g := gName 7) rfl scJo.nd (pi_tup (pv 6)) (blkOk_by (N := nJo) (sc := sJk) (by decide +kernel)) (fun _ _ _ _ _ => pg_name (i := 7) scJo.nd rfl (Or.inl rfl)) (fun _ _ _ _ _ => pts_nil) (fun _ _ _ _ _ => pe_cmpR op_in_seq (pv 7) (pv 3) (by rfl))) pa_nil))))
          (fun _ _ _ _ _ => pv 6)))
      (pss_cons (ps_set (i := 5) scJo.nd rfl (Or.inl rfl) (pe_callTy (T := "tuple") call_tuple_of (by rfl) mT (by decide +kernel) (pa_cons (pe_lc2 (wi1 := iTup K (tVar 6)) (te := tVar 7) (tt := tYes) (tt1 := tYes) (own := [("old", 6), ("name", 7)]) (vs1 := [7]) (g := gName 6) (g1 := gName 7) rfl scJo.nd (pi_list (pv 4)) (blkOk_by (N := nJo) (sc := defScope sJo) (by decide +kernel)) (by decide)
          (fun _ _ _ _ _ => pg_name (i := 6) scJo.nd rfl (Or.inl rfl)) (fun _ _ _ _ _ => pts_nil) (fun _ _ _ _ _ => pi_tup (pv 6)) (fun _ _ _ _ _ => pg_name (i := 7) scJo.nd rfl (Or.inl rfl)) (fun _ _ _ _ _ => pts_nil) (fun _ _ _ _ _ => pv 7)) pa_nil)))
      (pss_one (ps_set (i := 2) scJo.nd rfl (Or.inl rfl) (pe_op op_cat (pe_lc (te := tVar 6) (tt := ttNm) (own := [("old", 6)]) (g := gName 6) rfl scJo.nd (pi_list (pv 2)) (blkOk_by (N := nJo) (sc := defScope sJo) (by decide +kernel)) (fun _ _ _ _ _ => pg_name (i := 6) scJo.nd rfl (Or.inl rfl)) (fun _ _ _ _ _ => pts_one (pt_cmpR (op_notInT hr.in1.units0) (pv 6) (pv 4) (by rfl))) (fun _ _ _ _ _ => pv 6))
          (pe_lst (pa_cons (pv 5) pa_nil))))))))
    (pss_one (ps_ret (pv 2)))), ?_⟩
  obtain ⟨p, q, L, M, rfl, hp, hq, hL, hM, lN, lL, lM, k⟩ := h
  have hMl : (refsB M).length = M.length := List.length_map _
  refine ⟨_, rfl, p, _, rfl, .inr (SqT.of hp), fun l0 hl0 => ?_⟩
  have s01 := same_at (o := .lst (refsB L)) hl0
  obtain ⟨H1, e1⟩ : ∃ H1, H1 = upd H l0 (.lst (refsB L)) := ⟨_, rfl⟩
  have hl01 : H1 l0 = some (.lst (refsB L)) := by rw [e1, upd_same]
  rw [← e1] at s01 ⊢
  have mps : ∀ {G : List (Addr × List Str)} {b : List Str}, metR (G.map (·.2)) b = (G.filter fun o => meets b o.2).map (·.2) := fun {G b} => by unfold metR; rw [List.filter_map]; rfl
  refine ⟨_, rfl, q, rfl, ⟨_, SqT.of (s01 _ _ hq)⟩, for_it (walk_tup (K := K) (a := q) (xs := refsB M)) (fun i σ H' => ∃ l o3 o4 o5, σ = ([some (.ref p), some (.ref q), some (.ref l), o3, o4, o5, none, none] : L2.St) ∧ Same H H' ∧ ∃ G, H' l = some (.lst (refsB G)) ∧ (∀ x ∈ G, H' x.1 = some (.tup (strv x.2))) ∧ G.map (·.2) = ((M.take i).map (·.2)).foldl joinR (L.map (·.2)) ∧ G.length ≤ 60 + i)
    ⟨l0, none, none, none, rfl, s01, L, hl01, fun x hx => s01 _ _ (hL x hx), rfl, by omega⟩ (fun i σ H' _ h => SqT.of (h.choose_spec.choose_spec.choose_spec.choose_spec.2.1 _ _ hq)) ?_ ?_⟩
  · rintro i x σ Ho Ha hi ⟨l, o3, o4, o5, rfl, sa, G, hG, hGr, eG, gl⟩ ⟨rfl, hx⟩
    rw [hMl] at hi
    obtain ⟨y, ey0⟩ : ∃ y, y = M[i] := ⟨_, rfl⟩
    have ey : M[i]? = some y := by rw [ey0]; exact List.getElem?_eq_getElem hi
    have ex : (refsB M)[i]? = some (.ref y.1) := by unfold refsB; rw [List.getElem?_map, ey]; rfl
    rw [ex] at hx
    obtain rfl := Option.some.inj hx
    have hy := sa _ _ (hM y (List.mem_of_getElem? ey))
    have hGl : (refsB G).length = G.length := List.length_map _
    have gN : (allN G).length ≤ 60 := by
      rw [allN_map, eG, (foldl_perm _ _).length_eq, ← allN_map]
      exact lN
    have gr : ∀ x ∈ G, x.2.length ≤ 60 := fun x hx => Nat.le_trans (List.Sublist.length_le (List.sublist_flatten_of_mem (List.mem_map.mpr ⟨x, hx, rfl⟩))) gN
    -- met
    refine ⟨_, rfl, l, rfl, ⟨_, SqL.of hG⟩, fun D1 hD1 => ?_⟩
    refine lc_it (walk_list (K := K) (a := l) (xs := refsB G)) (fun j H' => Same Ha H' ∧ H' D1 = some (.lst (refsB ((G.take j).filter fun o => meets y.2 o.2)))) ⟨same_at hD1, upd_same⟩ (fun j H' _ p => SqL.of (p.1 _ _ hG)) ?_ ?_
    · rintro j x Hc Hd hj ⟨sc, dc⟩ ⟨rfl, hxj⟩
      rw [hGl] at hj
      obtain ⟨g, eg0⟩ : ∃ g, g = G[j] := ⟨_, rfl⟩
      have eg : G[j]? = some g := by rw [eg0]; exact List.getElem?_eq_getElem hj
      have exj : (refsB G)[j]? = some (.ref g.1) := by unfold refsB; rw [List.getElem?_map, eg]; rfl
      rw [exj] at hxj
      obtain rfl := Option.some.inj hxj
      have hgG := List.mem_of_getElem? eg
      have hg := sc _ _ (hGr g hgG)
      have hgl : (strv g.2).length = g.2.length := List.length_map _
      have etk : (G.take (j + 1)).filter (fun o => meets y.2 o.2) = (G.take j).filter (fun o => meets y.2 o.2) ++ if meets y.2 g.2 = true then [g] else [] := by
        rw [List.take_add_one, eg, Option.toList_some, List.filter_append]
        congr 1
        by_cases e : meets y.2 g.2 = true
        · rw [if_pos e, List.filter_cons_of_pos (by simp [e])]; rfl
        · rw [if_neg e, List.filter_cons_of_neg (by simp [e])]; rfl
      refine ⟨rfl, _, rfl, g.1, rfl, ⟨_, SqT.of hg⟩, fun D2 hD2 => ?_⟩
      refine lc_it (walk_tup (K := K) (a := g.1) (xs := strv g.2)) (fun n H' => Same Hd H' ∧ H' D2 = some (.lst (((g.2.take n).map fun z => inV (.str z) (strv y.2)).map V.bl))) ⟨same_at hD2, upd_same⟩ (fun n H' _ p => SqT.of (p.1 _ _ hg)) ?_ ?_
      · rintro n x He Hf hn ⟨se, de⟩ ⟨rfl, hxn⟩
        rw [hgl] at hn
        have exn : (strv g.2)[n]? = some (.str g.2[n]) := by show (g.2.map V.str)[n]? = _; rw [List.getElem?_map, List.getElem?_eq_getElem hn]; rfl
        rw [exn] at hxn
        obtain rfl := Option.some.inj hxn
        refine ⟨rfl, ?_⟩
        unfold tYes
        dsimp only
        rw [if_pos rfl]
        refine ⟨_, rfl, _, rfl, y.1, strv y.2, rfl, .inr (SqT.of (se _ _ (sc _ _ hy))), rfl, flat_strs _, _, de, ?_, fun c u e => ?_, ?_⟩
        · rw [List.length_map, List.length_map, List.length_take]
          exact Nat.lt_of_le_of_lt (show _ ≤ 60 by have := gr g hgG; omega) (by decide)
        · rw [upd_ne (ne_of_none e hD2)]
          exact se _ _ e
        · rw [upd_same, List.take_add_one, List.getElem?_eq_getElem hn, Option.toList_some, List.map_append, List.map_append]
          rfl
      rintro He ⟨se, de⟩
      rw [hgl, List.take_length] at de
      refine ⟨D2, _, rfl, SqL.of de, _, rfl, ?_⟩
      have em : (g.2.map fun z => inV (.str z) (strv y.2)).any id = meets y.2 g.2 := by
        unfold meets
        rw [List.any_map]
        refine congrArg (fun f => g.2.any f) (funext fun z => ?_)
        exact inV_strs _ _
      rw [em]
      have sce := sc.trans se
      by_cases e : meets y.2 g.2 = true
      · rw [e]
        refine iteT ⟨_, rfl, _, se _ _ dc, ?_, fun c u q' => ?_, ?_⟩
        · have q : ((G.take j).filter fun o => meets y.2 o.2).length ≤ 120 := Nat.le_trans (List.length_filter_le _ _) (by rw [List.length_take]; omega)
          show (List.map _ _).length < _
          rw [List.length_map]
          exact Nat.lt_of_le_of_lt q (by decide)
        · rw [upd_ne (ne_of_none q' hD1)]
          exact sce _ _ q'
        · rw [upd_same, etk, if_pos e]
          unfold refsB
          rw [List.map_append]
          rfl
      · rw [Bool.eq_false_iff.mpr e]
        refine iteF ⟨sce, ?_⟩
        rw [etk, if_neg e, List.append_nil]
        exact se _ _ dc
    rintro Hb ⟨sb, db⟩
    rw [hGl, List.take_length] at db
    obtain ⟨Mt, eMt⟩ : ∃ Mt, Mt = G.filter fun o => meets y.2 o.2 := ⟨_, rfl⟩
    rw [← eMt] at db
    have hMt : ∀ x ∈ Mt, Hb x.1 = some (.tup (strv x.2)) := fun x hx => sb _ _ (hGr x (by rw [eMt] at hx; exact (List.mem_filter.mp hx).1))
    have mN : (allN Mt).length ≤ 60 := by
      refine Nat.le_trans ?_ gN
      rw [eMt]
      exact filt_len _ G
    have hMtl : (refsB Mt).length = Mt.length := List.length_map _
    -- merged
    refine ⟨_, rfl, D1, rfl, ⟨_, SqL.of db⟩, fun D3 hD3 => ?_⟩
    refine lc2_it (walk_list (K := K) (a := D1) (xs := refsB Mt)) (fun j H' => Same Hb H' ∧ H' D3 = some (.lst (strv (allN (Mt.take j))))) ⟨same_at hD3, upd_same⟩ (fun j H' _ p => SqL.of (p.1 _ _ db)) ?_ ?_
    · rintro j x Hc Hd hj ⟨sc, dc⟩ ⟨rfl, hxj⟩
      rw [hMtl] at hj
      obtain ⟨g, eg0⟩ : ∃ g, g = Mt[j] := ⟨_, rfl⟩
      have eg : Mt[j]? = some g := by rw [eg0]; exact List.getElem?_eq_getElem hj
      have exj : (refsB Mt)[j]? = some (.ref g.1) := by unfold refsB; rw [List.getElem?_map, eg]; rfl
      rw [exj] at hxj
      obtain rfl := Option.some.inj hxj
      have hg := sc _ _ (hMt g (List.mem_of_getElem? eg))
      have hgl : (strv g.2).length = g.2.length := List.length_map _
      have hle : (allN (Mt.take j) ++ g.2).length ≤ 60 := by
        rw [← allN_snoc eg]
        refine Nat.le_trans ?_ mN
        have e : allN Mt = allN (Mt.take (j + 1)) ++ allN (Mt.drop (j + 1)) := by
          unfold allN
          rw [← List.flatMap_append, List.take_append_drop]
        rw [e, List.length_append]
        omega
      rw [List.length_append] at hle
      refine ⟨rfl, ?_⟩
      unfold tYes
      dsimp only
      rw [if_pos rfl]
      refine ⟨_, rfl, g.1, rfl, ⟨_, SqT.of hg⟩, ?_⟩
      refine in_it (walk_tup (K := K) (a := g.1) (xs := strv g.2)) (fun n H' => Same Hb H' ∧ H' D3 = some (.lst (strv (allN (Mt.take j) ++ g.2.take n)))) ⟨sc, by rw [List.take_zero, List.append_nil]; exact dc⟩ (fun n H' _ p => SqT.of (p.1 _ _ (hMt g (List.mem_of_getElem? eg)))) ?_ ?_
      · rintro n x He Hf hn ⟨se, de⟩ ⟨rfl, hxn⟩
        rw [hgl] at hn
        have exn : (strv g.2)[n]? = some (.str g.2[n]) := by show (g.2.map V.str)[n]? = _; rw [List.getElem?_map, List.getElem?_eq_getElem hn]; rfl
        rw [exn] at hxn
        obtain rfl := Option.some.inj hxn
        refine ⟨rfl, ?_⟩
        dsimp only
        rw [if_pos rfl]
        refine ⟨_, rfl, _, de, ?_, fun c u e => ?_, ?_⟩
        · unfold strv
          rw [List.length_map, List.length_append, List.length_take]
          exact Nat.lt_of_le_of_lt (show _ ≤ 60 by omega) (by decide)
        · rw [upd_ne (ne_of_none e hD3)]
          exact se _ _ e
        · rw [upd_same, List.take_add_one, List.getElem?_eq_getElem hn, Option.toList_some, ← List.append_assoc]
          show _ = some (HO.lst (List.map V.str _))
          rw [List.map_append (l₁ := allN (Mt.take j) ++ g.2.take n)]
          rfl
      · rintro He ⟨se, de⟩
        rw [hgl, List.take_length, ← allN_snoc eg] at de
        exact ⟨se, de⟩
    rintro Hc ⟨sc, dc⟩
    rw [hMtl, List.take_length] at dc
    refine ⟨D3, _, rfl, .inl ⟨SqL.of dc, fun tm htm => ?_⟩⟩
    have scd := same_at (o := .tup (strv (allN Mt))) htm
    obtain ⟨Hd, eHd⟩ : ∃ Hd, Hd = upd Hc tm (.tup (strv (allN Mt))) := ⟨_, rfl⟩
    have htmd : Hd tm = some (.tup (strv (allN Mt))) := by rw [eHd, upd_same]
    rw [← eHd] at scd ⊢
    have sad : Same Ha Hd := (sb.trans sc).trans scd
    have sbd := sc.trans scd
    -- found
    refine ⟨_, rfl, l, rfl, ⟨_, SqL.of (sad _ _ hG)⟩, fun D5 hD5 => ?_⟩
    refine lc_it (walk_list (K := K) (a := l) (xs := refsB G)) (fun j H' => Same Hd H' ∧ H' D5 = some (.lst (refsB ((G.take j).filter fun o => !decide (o.2 ∈ Mt.map (·.2)))))) ⟨same_at hD5, upd_same⟩ (fun j H' _ p => SqL.of (p.1 _ _ (sad _ _ hG))) ?_ ?_
    · rintro j x He Hf hj ⟨se, de⟩ ⟨rfl, hxj⟩
      rw [hGl] at hj
      obtain ⟨g, eg0⟩ : ∃ g, g = G[j] := ⟨_, rfl⟩
      have eg : G[j]? = some g := by rw [eg0]; exact List.getElem?_eq_getElem hj
      have exj : (refsB G)[j]? = some (.ref g.1) := by unfold refsB; rw [List.getElem?_map, eg]; rfl
      rw [exj] at hxj
      obtain rfl := Option.some.inj hxj
      have hg := (sad.trans se) _ _ (hGr g (List.mem_of_getElem? eg))
      have etk : (G.take (j + 1)).filter (fun o => !decide (o.2 ∈ Mt.map (·.2))) = (G.take j).filter (fun o => !decide (o.2 ∈ Mt.map (·.2))) ++ if (!decide (g.2 ∈ Mt.map (·.2))) = true then [g] else [] := by
        rw [List.take_add_one, eg, Option.toList_some, List.filter_append]
        congr 1
        by_cases e : (!decide (g.2 ∈ Mt.map (·.2))) = true
        · rw [if_pos e, List.filter_cons, if_pos e]; rfl
        · rw [if_neg e, List.filter_cons, if_neg e]; rfl
      refine ⟨rfl, _, rfl, _, rfl, g.1, D1, g.2, Mt, rfl, rfl, hg, (sbd.trans se) _ _ db, fun x hx => (sbd.trans se) _ _ (hMt x hx), _, rfl, ?_⟩
      by_cases e : (!decide (g.2 ∈ Mt.map (·.2))) = true
      · rw [if_pos e] at etk
        rw [e]
        refine iteT ⟨_, rfl, _, de, ?_, fun c u q' => ?_, ?_⟩
        · have q : ((G.take j).filter fun o => !decide (o.2 ∈ Mt.map (·.2))).length ≤ 120 := Nat.le_trans (List.length_filter_le _ _) (by rw [List.length_take]; omega)
          show (List.map _ _).length < _
          rw [List.length_map]
          exact Nat.lt_of_le_of_lt q (by decide)
        · rw [upd_ne (ne_of_none q' hD5)]
          exact se _ _ q'
        · rw [upd_same, etk]
          unfold refsB
          rw [List.map_append]
          rfl
      · rw [if_neg e] at etk
        rw [Bool.eq_false_iff.mpr e]
        refine iteF ⟨se, ?_⟩
        rw [etk, List.append_nil]
        exact de
    rintro He ⟨se, de⟩
    rw [hGl, List.take_length] at de
    refine ⟨_, rfl, by show 1 ≤ sizeLine; decide, fun l8 hl8 => ?_⟩
    have s8 := same_at (o := .lst [V.ref tm]) hl8
    obtain ⟨G', eG'⟩ : ∃ G', G' = (G.filter fun o => !decide (o.2 ∈ Mt.map (·.2))) ++ [(tm, allN Mt)] := ⟨_, rfl⟩
    have fl : (G.filter fun o => !decide (o.2 ∈ Mt.map (·.2))).length ≤ G.length := List.length_filter_le _ _
    refine ⟨D5, l8, _, _, rfl, rfl, s8 _ _ de, upd_same, ?_, fun l9 hl9 => ?_⟩
    · show (List.map _ _).length + 1 ≤ _
      rw [List.length_map]
      exact Nat.le_trans (show _ ≤ 121 by omega) (by decide)
    have s9 := same_at (o := .lst (refsB G')) hl9
    have sa9 := ((sad.trans se).trans s8).trans s9
    have eL : refsB ((G.filter fun o => !decide (o.2 ∈ Mt.map (·.2)))) ++ [V.ref tm] = refsB G' := by rw [eG']; unfold refsB; rw [List.map_append]; rfl
    rw [eL]
    refine ⟨l9, _, _, _, rfl, sa.trans sa9, G', upd_same, fun x hx => ?_, ?_, ?_⟩
    · rw [eG'] at hx
      rcases List.mem_append.mp hx with hx | hx
      · exact sa9 _ _ (hGr x (List.mem_filter.mp hx).1)
      · rw [List.mem_singleton.mp hx]
        exact ((se.trans s8).trans s9) _ _ htmd
    · rw [List.take_add_one, ey, Option.toList_some, List.map_append, List.foldl_append, ← eG, eG', List.map_append]
      show _ = joinR (G.map (·.2)) y.2
      unfold joinR
      rw [mps, ← eMt, ← allN_map, List.filter_map]
      rfl
    · rw [eG', List.length_append]
      show _ + 1 ≤ _
      omega
  · rintro σ H2 ⟨l, o3, o4, o5, rfl, s2, G, hG, hGr, eG, gl⟩
    rw [hMl, List.take_length] at eG
    exact ⟨_, rfl, k l G H2 hG hGr eG s2⟩
end
end Sj
namespace Sj
open PySem L2 Sup StK Own Shw Exg Grd KepE
open NdefX (NF NScope ncx envF startF nscope_by)
open C8 (pss_cut tCut)
/-! Board | board, where ground and power stay apart -/
abbrev sBoR : Stmt := inClass (top 25) 12
abbrev nBoR : List Str := ["self", "other", "blocks"]
theorem scBoR : FnScope nBoR ["self", "other"] (defScope sBoR) := ⟨rfl, rfl, rfl, by decide +kernel, rfl, by decide +kernel, by decide +kernel⟩
def joinA (L M : List (Addr × List Str)) : List (List Str) := (M.map (·.2)).foldl joinR (L.map (·.2))
def spBOr (K : PySem.W.Frag) (ks : Kinds) (CF CV CB : Addr) : Sp := fun vs H Q E => ∃ (o f : Addr) (d : FrD) (L : List (Addr × List Str)) (y : V), vs = [.ref o, y] ∧ BoAt H o CB f L ∧ FrIs ks CF H f d ∧
  ((∃ (b g : Addr) (e : FrD) (M : List (Addr × List Str)), y = .ref b ∧ BoAt H b CB g M ∧ FrIs ks CF H g e ∧ eqFr e d = true ∧ BdOk d L ∧ M.length ≤ 60 ∧ (∀ r ∈ joinA L M, r ≠ [] ∧ ¬ (("ground" : Str) ∈ r ∧ ("power" : Str) ∈ r)) ∧
      ∀ o' G L' H', G.map (·.2) = joinA L M → RowsOf d G L' → H o' = none → BoAt H' o' CB f L' → Same H H' → Q (.ref o') H') ∨
   (((∃ (b g : Addr) (e : FrD) (M : List (Addr × List Str)), y = .ref b ∧ BoAt H b CB g M ∧ FrIs ks CF H g e ∧ eqFr e d = false) ∨ ∃ t, TyX K H y t ∧ PySem.W.kitOne K t (.ref CB) = some false) ∧ ∀ e H', errH H H' e "reason" (.str "frame") → E (.ref CV) (some e) H'))
structure OrT (P : Program) (w : World) (K : PySem.W.Frag) (mg : Str → Option Value) (base : Heap) (ks : Kinds) (CF CV fV CB fB : Addr) : Prop where
  cl : Cls K CB
  nF : NoAttr K CB "frame"
  nB : NoAttr K CB "_blocks"
  mB : mg "Board" = some (.ref CB)
  mk_ : Mk K CB fB
  init : FnR P w K mg base (L2.CX P w) 5 fB (spBoS K ks CF CB)
  ibo : ∃ f fd, mg "is_board_of" = some (.ref f) ∧ PySem.W.keepIn K (.ref f) = true ∧ Binds K fd ["frame", "value"] [] ∧ FnOk P w K mg base CX0 6 f fd ["frame", "value"] (spIbo K ks CF CB)
  jo : ∃ f fd, mg "joined_blocks" = some (.ref f) ∧ PySem.W.keepIn K (.ref f) = true ∧ Binds K fd ["blocks", "more"] [] ∧ FnOk P w K mg base CX0 2 f fd ["blocks", "more"] spJo
  mV : mg "InvalidBoard" = some (.ref CV)
  ex : ExT P K mg CV "reason"
  iC : PySem.W.findIn K (.ref CV) "__init__" = some (some (.ref fV))
  tI : PySem.W.typeIn K (.ref fV) = some (.type "function")
  inv : ∃ fdI, Binds K fdI ["self", "reason"] [] ∧ FnOk P w K mg base CX0 1 fV fdI ["self", "reason"] (spInv K CV)
section
variable {P : Program} {w : World} {K : PySem.W.Frag} {mg : Str → Option Value} {base : Heap}
theorem ok_bor {f CF CV fV CB fB : Addr} {fd : FuncData} {ks : Kinds} (F : Fun K "__or__" "Board.__or__" sBoR f fd) (T : OrT P w K mg base ks CF CV fV CB fB) : FnOk P w K mg base (L2.CX P w) 7 f fd ["self", "other"] (spBOr K ks CF CV CB) := by
  obtain ⟨fM, fdM, mM, kM, bM, GM⟩ := T.ibo
  obtain ⟨fJ, fdJ, mJ, kJ, bJ, GJ⟩ := T.jo
  obtain ⟨fdI, bI, GI⟩ := T.inv
  refine F.okX scBoR (fun vs H Q E h => ?_) (fun cdv A outer s H vs Q E hr h => ?_)
  · obtain ⟨o, fr, d, L, y, rfl, _⟩ := h
    rfl
  obtain ⟨o, fr, d, L, y, rfl, hB, hF, h⟩ := h
  obtain ⟨dx, B, D, hs, h1, h2, h3, h4, h5⟩ := id hB
  refine ⟨_, pss_cons (ps_if (pt_not (pt_val (pe_call GM hr rfl mM kM bM .nil pass0 (pa_cons (pe_fld (pv 0) rfl) (pa_cons (pv 1) pa_nil))))) (pss_one (ps_raise rfl (takes_of rfl rfl rfl rfl) (pmk_oex T.ex.oex T.iC T.tI GI (hr.mono (by decide)) bI .nil pass0 rfl T.mV (pa_cons pe_str pa_nil)))) pss_nil)
    (pss_cons (ps_set (i := 2) scBoR.nd rfl (Or.inl rfl) (pe_call GJ (hr.mono (by decide)) rfl mJ kJ bJ .nil pass0 (pa_cons (pe_fld (pv 0) rfl) (pa_cons (pe_fld (pv 1) rfl) pa_nil))))
    (pss_one (ps_ret (MakeS.pe_makeS T.mk_ T.init hr rfl T.mB (passes_call (takes_of rfl rfl rfl rfl) fun _ _ _ _ h => h) (pa_cons (pe_fld (pv 0) rfl) (StX.pa_star (pv 2) pa_nil)))))), ?_⟩
  rcases h with ⟨b, g, e, M, rfl, hB2, hF2, he, ok, lM, hJ, k⟩ | ⟨hb, k⟩
  · refine ⟨_, rfl, o, CB, dx, _, _, rfl, h1, T.cl, T.nF, boF_frame _ _ _, _, rfl, fr, d, _, rfl, hF, .inl ⟨b, g, e, M, rfl, hB2, hF2, fun H1 s1 => ?_⟩⟩
    rw [he]
    refine ⟨_, rfl, iteF ?_⟩
    obtain ⟨dy, B', D', hs', g1, g2, g3, _⟩ := id hB2
    have ll : L.length ≤ 60 := Nat.le_trans (blk_le fun y hy => (h3 y hy).2) ok.le
    refine ⟨_, rfl, o, CB, dx, _, _, rfl, s1 _ _ h1, T.cl, T.nB, boF_blocks _ _ _, _, rfl, b, CB, dy, _, _, rfl, s1 _ _ g1, T.cl, T.nB, boF_blocks _ _ _, B, B', L, M, rfl, s1 _ _ h2, s1 _ _ g2, fun x hx => s1 _ _ (h3 x hx).1, fun x hx => s1 _ _ (g3 x hx).1, ok.le, ll, lM, fun l G H2 hl hG eG s12 => ?_⟩
    have s02 := s1.trans s12
    have pm : (allN G).Perm (allN L) := by
      rw [allN_map, allN_map, eG]
      exact foldl_perm _ _
    have mem : ∀ x ∈ G, x.2 ∈ joinA L M := fun x hx => by
      unfold joinA
      rw [← eG]
      exact List.mem_map.mpr ⟨x, hx, rfl⟩
    have part : PartOf ks CF H2 fr d G := ⟨hF.same s02, fun x hx => ⟨.inr (hG x hx), (hJ _ (mem x hx)).1⟩, fun z hz => ok.mem z (pm.mem_iff.mp hz), pm.nodup_iff.mpr ok.nd, ok.mn, by rw [pm.length_eq]; exact ok.le, fun x hx => (hJ _ (mem x hx)).2⟩
    refine ⟨_, rfl, o, CB, dx, _, _, rfl, s02 _ _ h1, T.cl, T.nF, boF_frame _ _ _, _, rfl, l, refsB G, rfl, .inr (SqL.of hl), ?_⟩
    intro o' dx' ho' hdx' hne'
    rw [List.append_nil]
    exact mk_bo part ho' hdx' hne' fun H' L' hR hB' s' => ⟨rfl, k o' G L' H' eG hR (s02.free ho') hB' (s02.trans s')⟩
  · rcases hb with ⟨b, g, e, M, rfl, hB2, hF2, he⟩ | ⟨t, ty, hk⟩
    · refine ⟨_, rfl, o, CB, dx, _, _, rfl, h1, T.cl, T.nF, boF_frame _ _ _, _, rfl, fr, d, _, rfl, hF, .inl ⟨b, g, e, M, rfl, hB2, hF2, fun H1 s1 => ?_⟩⟩
      rw [he]
      exact ⟨_, rfl, iteT (raise_inv (fun Q' q => q) (by decide +kernel) s1 k)⟩
    · exact ⟨_, rfl, o, CB, dx, _, _, rfl, h1, T.cl, T.nF, boF_frame _ _ _, _, rfl, fr, d, _, rfl, hF, .inr ⟨t, ty, hk, fun H1 s1 => ⟨_, rfl, iteT (raise_inv (fun Q' q => q) (by decide +kernel) s1 k)⟩⟩⟩
end
end Sj
namespace Sj
open PySem L2 Sup StK Own Shw Exg Grd KepE
/-! k13: rows of boards from which elements are taken -/
theorem offZ_perm {z : Str} {r s : List Str} (h : r.Perm s) : (offZ z r).Perm (offZ z s) := h.filter _
theorem outR_cons (z : Str) (r : List Str) (R : List (List Str)) : outR z (r :: R) = if (offZ z r).isEmpty = true then outR z R else offZ z r :: outR z R := by
  unfold outR
  rw [List.map_cons, List.filter_cons]
  by_cases e : (offZ z r).isEmpty = true
  · rw [if_pos e, if_neg (by rw [e]; exact Bool.false_ne_true)]
  · rw [if_neg e, if_pos (by rw [Bool.eq_false_iff.mpr e]; rfl)]
theorem outR_perm {z : Str} {R S : List (List Str)} (h : R.Perm S) : (outR z R).Perm (outR z S) := (h.map _).filter _
theorem perm_empty {r s : List Str} (h : r.Perm s) : r.isEmpty = s.isEmpty := by
  cases r with
  | nil => rw [List.nil_perm.mp h]
  | cons x r =>
    cases s with
    | nil => exact absurd (List.perm_nil.mp h) (List.cons_ne_nil _ _)
    | cons y s => rfl
theorem outR_srt (z : Str) : ∀ B : List (List Str), (outR z (B.map srt)).map srt = (outR z B).map srt
  | [] => rfl
  | b :: B => by
    have ih := outR_srt z B
    have p := offZ_perm (z := z) (srt_perm b)
    rw [List.map_cons, outR_cons, outR_cons, perm_empty p]
    by_cases e : (offZ z b).isEmpty = true
    · rw [if_pos e, if_pos e, ih]
    · rw [if_neg e, if_neg e, List.map_cons, List.map_cons, ih, srt_eq p]
theorem outR_flat (z : Str) : ∀ B : List (List Str), (outR z B).flatten = offZ z B.flatten
  | [] => rfl
  | b :: B => by
    have ih := outR_flat z B
    rw [outR_cons, List.flatten_cons]
    unfold offZ at *
    rw [List.filter_append]
    by_cases e : (b.filter fun y => !decide (y = z)).isEmpty = true
    · rw [if_pos e, ih, List.isEmpty_iff.mp e, List.nil_append]
    · rw [if_neg e, List.flatten_cons, ih]
theorem offZ_put {z : Str} : ∀ {xs : List Str}, xs.Nodup → z ∈ xs → (offZ z xs ++ [z]).Perm xs
  | [], _, h => by cases h
  | x :: xs, nd, h => by
    have nd' := List.nodup_cons.mp nd
    unfold offZ
    by_cases e : x = z
    · subst e
      rw [List.filter_cons_of_neg (by simp), List.filter_eq_self.mpr fun y hy => by
        rw [decide_eq_false fun q => nd'.1 (by rw [← q]; exact hy)]; rfl]
      exact List.perm_append_comm
    · rw [List.filter_cons_of_pos (by simp [e])]
      exact (offZ_put nd'.2 ((List.mem_cons.mp h).resolve_left fun q => e q.symm)).cons x
theorem offZ_mem {z y : Str} {r : List Str} : y ∈ offZ z r ↔ y ∈ r ∧ y ≠ z := by
  unfold offZ
  rw [List.mem_filter]
  refine and_congr Iff.rfl ⟨fun h e => ?_, fun h => ?_⟩
  · rw [e, decide_eq_true rfl] at h
    cases h
  · rw [decide_eq_false h]
    rfl
theorem outR_mem {z : Str} {B : List (List Str)} {r : List Str} (h : r ∈ outR z B) : r ≠ [] ∧ ∃ b ∈ B, r = offZ z b := by
  obtain ⟨h1, h2⟩ := List.mem_filter.mp h
  obtain ⟨b, hb, e⟩ := List.mem_map.mp h1
  exact ⟨(fun e => by rw [e] at h2; cases h2), b, hb, e.symm⟩
/-- the plain blocks with one taken out -/
def outB (z : Str) (Bl : List (Addr × List Str)) : List (Addr × List Str) := (outR z (Bl.map (·.2)) ++ [[z]]).map fun r => (0, r)
theorem outB_map (z : Str) (Bl : List (Addr × List Str)) : (outB z Bl).map (·.2) = outR z (Bl.map (·.2)) ++ [[z]] := by
  unfold outB
  rw [List.map_map, show ((·.2) ∘ fun r : List Str => ((0 : Addr), r)) = id from rfl, List.map_id]
theorem srtB_map (Bl : List (Addr × List Str)) : srtB Bl = (Bl.map (·.2)).map srt := by
  show List.map _ Bl = _
  rw [List.map_map]
  rfl
/-- the board L is that of the plain one Bl -/
structure PlL (d : BareD) (L Bl : List (Addr × List Str)) : Prop where
  rows : RowsP Bl (L.map (·.2))
  pm : (allN Bl).Perm (memB d)
  nb : NoBoth Bl
  ne : ∀ x ∈ Bl, x.2 ≠ []
theorem PlL.ok {d : BareD} {fd : FrD} {L Bl : List (Addr × List Str)} (h : PlL d L Bl) (ok : d.ok) (hfm : (membZ fd).Perm (memB d)) : BdOk fd L := by
  have p : (allN L).Perm (memB d) := by
    rw [allN_map]
    exact (h.rows.perm.flatten.trans (allN_srt Bl)).trans h.pm
  refine ⟨fun z hz => hfm.mem_iff.mpr (p.mem_iff.mp hz), p.nodup_iff.mpr (memB_nd ok), hfm.nodup_iff.mpr (memB_nd ok), by rw [p.length_eq]; exact Nat.le_trans (memB_18 ok) (by decide), fun x hx q => ?_⟩
  obtain ⟨y, hy, pe⟩ := h.rows.row (List.mem_map.mpr ⟨x, hx, rfl⟩)
  exact h.nb y hy ⟨pe.mem_iff.mp q.1, pe.mem_iff.mp q.2⟩
theorem outB_pm {z : Str} {d : BareD} {Bl : List (Addr × List Str)} (hm : (allN Bl).Perm (memB d)) (ok : d.ok) (hz : z ∈ memB d) : (allN (outB z Bl)).Perm (memB d) := by
  rw [allN_map, outB_map, List.flatten_append, outR_flat, List.flatten_singleton, ← allN_map]
  exact (offZ_put (hm.nodup_iff.mpr (memB_nd ok)) (hm.mem_iff.mpr hz)).trans hm
theorem outB_rows {z : Str} {d : BareD} {fd : FrD} {L Bl Bl' L' : List (Addr × List Str)} (h : PlL d L Bl) (ok : d.ok) (hfm : (membZ fd).Perm (memB d)) (hz : z ∈ memB d) (e : Bl'.map (·.2) = outR z (L.map (·.2))) (hR : RowsOf fd Bl' L') : PlL d L' (outB z Bl) := by
  have pm := outB_pm h.pm ok hz
  refine ⟨rows_board (Bl := outB z Bl) (Bl' := Bl') (zs := [z]) (pm.trans hfm.symm) (pm.nodup_iff.mpr (memB_nd ok)) ?_ hR, pm, fun x hx q => ?_, fun x hx => ?_⟩
  · show (srtB Bl' ++ [[z]]).Perm (srtB (outB z Bl))
    rw [srtB_map, srtB_map, outB_map, e, List.map_append, ← outR_srt z (Bl.map (·.2))]
    have q := h.rows.perm
    rw [srtB_map] at q
    exact ((outR_perm q).map srt).append_right _
  · have hx' : x.2 ∈ outR z (Bl.map (·.2)) ++ [[z]] := by rw [← outB_map]; exact List.mem_map.mpr ⟨x, hx, rfl⟩
    rcases List.mem_append.mp hx' with hx' | hx'
    · obtain ⟨_, b, hb, e⟩ := outR_mem hx'
      obtain ⟨y, hy, rfl⟩ := List.mem_map.mp hb
      rw [e] at q
      exact h.nb y hy ⟨(offZ_mem.mp q.1).1, (offZ_mem.mp q.2).1⟩
    · rw [List.mem_singleton.mp hx'] at q
      have e1 := List.mem_singleton.mp q.1
      have e2 := List.mem_singleton.mp q.2
      rw [← e1] at e2
      exact absurd e2 (by decide)
  · have hx' : x.2 ∈ outR z (Bl.map (·.2)) ++ [[z]] := by rw [← outB_map]; exact List.mem_map.mpr ⟨x, hx, rfl⟩
    rcases List.mem_append.mp hx' with hx' | hx'
    · exact (outR_mem hx').1
    · rw [List.mem_singleton.mp hx']
      exact List.cons_ne_nil _ _
theorem PlL.of {d : BareD} {L Bl Bl' : List (Addr × List Str)} (h : PlL d L Bl) (e : Bl'.map (·.2) = Bl.map (·.2)) : PlL d L Bl' := by
  have back : ∀ x ∈ Bl', ∃ y ∈ Bl, y.2 = x.2 := fun x hx => List.mem_map.mp (show x.2 ∈ Bl.map (·.2) by rw [← e]; exact List.mem_map.mpr ⟨x, hx, rfl⟩)
  refine ⟨rowsP_eq e.symm h.rows, by rw [allN_eq e]; exact h.pm, fun x hx => ?_, fun x hx => ?_⟩
  · obtain ⟨y, hy, ey⟩ := back x hx
    rw [← ey]
    exact h.nb y hy
  · obtain ⟨y, hy, ey⟩ := back x hx
    rw [← ey]
    exact h.ne y hy
theorem PlL.flat {d : BareD} {L Bl : List (Addr × List Str)} (h : PlL d L Bl) : ((L.map (·.2)).flatten).Perm (memB d) := (h.rows.perm.flatten.trans (allN_srt Bl)).trans h.pm
theorem PlL.has {d : BareD} {L Bl : List (Addr × List Str)} (h : PlL d L Bl) {z : Str} (hz : z ∈ memB d) : ∃ y ∈ L, z ∈ y.2 := by
  obtain ⟨r, hr, hzr⟩ := List.mem_flatten.mp (h.flat.mem_iff.mpr hz)
  obtain ⟨y, hy, rfl⟩ := List.mem_map.mp hr
  exact ⟨y, hy, hzr⟩
theorem PlL.mem {d : BareD} {L Bl : List (Addr × List Str)} (h : PlL d L Bl) {y : Addr × List Str} (hy : y ∈ L) {z : Str} (hz : z ∈ y.2) : z ∈ memB d := h.flat.mem_iff.mp (List.mem_flatten.mpr ⟨_, List.mem_map.mpr ⟨y, hy, rfl⟩, hz⟩)
theorem PlL.nd {d : BareD} {L Bl : List (Addr × List Str)} (h : PlL d L Bl) (ok : d.ok) : (L.map (·.2)).flatten.Nodup := h.flat.nodup_iff.mpr (memB_nd ok)
theorem PlL.fit {d : BareD} {L Bl : List (Addr × List Str)} (h : PlL d L Bl) (ok : d.ok) : L.length ≤ 18 ∧ ∀ x ∈ L, (∀ z ∈ x.2, z ∈ memB d) ∧ x.2.length ≤ 18 := rows_fit h.rows h.pm ok h.ne
theorem PlL.le {d : BareD} {L Bl : List (Addr × List Str)} (h : PlL d L Bl) (ok : d.ok) : Bl.length ≤ 18 ∧ ∀ x ∈ Bl, x.2.length ≤ 18 := bl_le h.pm ok h.ne
theorem FrIs.nl {ks : Kinds} {CF : Addr} {H H' : Hp} {a : Addr} {d : FrD} (h : FrIs ks CF H a d) (s : NL H H') : FrIs ks CF H' a d := by
  obtain ⟨dx, D, h1, h2, h3⟩ := h.at_
  refine ⟨⟨dx, D, s _ _ h1 (fun ps z => by cases z), s _ _ h2 (fun ps z => by cases z), h3⟩, fun r hr => ?_, h.nd, h.le, h.so⟩
  obtain ⟨hc, dy, hl⟩ := h.ok r hr
  exact ⟨hc, dy, s _ _ hl fun ys z => by cases z⟩
/-! a board that is written out -/
/-! what is no element -/
end Sj
namespace Sj
open PySem L2 Sup StK Own Shw Exg Grd KepE
/-! k16: boards as partings, one within another -/
/-- each row lies in a row -/
def Le (R S : List (List Str)) : Prop := ∀ r ∈ R, ∃ s ∈ S, ∀ z ∈ r, z ∈ s
theorem Le.refl (R : List (List Str)) : Le R R := fun r h => ⟨r, h, fun z q => q⟩
theorem Le.trans {R S T : List (List Str)} (a : Le R S) (b : Le S T) : Le R T := fun r h => by
  obtain ⟨s, hs, q⟩ := a r h
  obtain ⟨t, ht, q'⟩ := b s hs
  exact ⟨t, ht, fun z hz => q' z (q z hz)⟩
theorem within_le {R S : List (List Str)} : withinR R S = true ↔ Le R S := by
  unfold withinR
  rw [List.all_eq_true]
  refine forall_congr' fun r => forall_congr' fun h => ?_
  rw [List.any_eq_true]
  refine exists_congr fun s => and_congr Iff.rfl ?_
  rw [List.all_eq_true]
  exact forall_congr' fun z => forall_congr' fun _ => decide_eq_true_iff
/-- the rows of a board -/
structure Brd (d : BareD) (R : List (List Str)) : Prop where
  fl : R.flatten.Perm (memB d)
  ne : ∀ r ∈ R, r ≠ []
  so : ∀ r ∈ R, PyProof.Rows.sortedS r = true
  pw : R.Pairwise SortB.RLe
theorem Brd.nd {d : BareD} {R : List (List Str)} (h : Brd d R) (ok : d.ok) : R.flatten.Nodup := h.fl.nodup_iff.mpr (memB_nd ok)
/-- a board made of blocks -/
theorem brd_of {d : BareD} {Bl : List (Addr × List Str)} {R : List (List Str)} (h : RowsP Bl R) (pm : (allN Bl).Perm (memB d)) (ne : ∀ x ∈ Bl, x.2 ≠ []) : Brd d R ∧ Le (Bl.map (·.2)) R ∧ Le R (Bl.map (·.2)) := by
  have p := h.perm
  rw [srtB_map] at p
  have back : ∀ r ∈ R, ∃ b ∈ Bl.map (·.2), srt b = r := fun r hr => List.mem_map.mp (p.mem_iff.mp hr)
  refine ⟨⟨?_, fun r hr e => ?_, fun r hr => ?_, ?_⟩, fun b hb => ⟨srt b, p.mem_iff.mpr (List.mem_map.mpr ⟨b, hb, rfl⟩), fun z hz => (srt_perm b).mem_iff.mpr hz⟩, fun r hr => ?_⟩
  · exact (h.perm.flatten.trans (allN_srt Bl)).trans pm
  · obtain ⟨b, hb, eb⟩ := back r hr
    obtain ⟨x, hx, rfl⟩ := List.mem_map.mp hb
    rw [e] at eb
    have := srt_perm x.2
    rw [eb] at this
    exact ne x hx (List.nil_perm.mp this)
  · obtain ⟨b, _, eb⟩ := back r hr
    rw [← eb]
    exact OrdS.pw_sorted (srt_pw b)
  · obtain ⟨_, _, _, _, hw⟩ := h
    exact hw
  · obtain ⟨b, hb, eb⟩ := back r hr
    refine ⟨b, hb, fun z hz => ?_⟩
    rw [← eb] at hz
    exact (srt_perm b).mem_iff.mp hz
/-! the join -/
def Cov (R : List (List Str)) (b : List Str) : Prop := ∀ z ∈ b, ∃ r ∈ R, z ∈ r
theorem joinR_up {F : List (List Str)} {b : List Str} : Le F (joinR F b) := fun r hr => by
  rw [joinR_eq]
  by_cases e : meets b r = true
  · exact ⟨_, List.mem_append_right _ (List.mem_singleton.mpr rfl), fun z hz => List.mem_flatten.mpr ⟨r, List.mem_filter.mpr ⟨hr, e⟩, hz⟩⟩
  · exact ⟨r, List.mem_append_left _ (List.mem_filter.mpr ⟨hr, by rw [Bool.eq_false_iff.mpr e]; rfl⟩), fun z hz => hz⟩
theorem joinR_blk {F : List (List Str)} {b : List Str} (c : Cov F b) : ∃ s ∈ joinR F b, ∀ z ∈ b, z ∈ s := by
  rw [joinR_eq]
  refine ⟨_, List.mem_append_right _ (List.mem_singleton.mpr rfl), fun z hz => ?_⟩
  obtain ⟨r, hr, hzr⟩ := c z hz
  exact List.mem_flatten.mpr ⟨r, List.mem_filter.mpr ⟨hr, List.any_eq_true.mpr ⟨z, hzr, decide_eq_true hz⟩⟩, hzr⟩
theorem joinR_least {F C : List (List Str)} {b : List Str} (nd : C.flatten.Nodup) (ne : C ≠ []) (h : Le F C) (hb : ∃ c ∈ C, ∀ z ∈ b, z ∈ c) : Le (joinR F b) C := fun r hr => by
  rw [joinR_eq] at hr
  rcases List.mem_append.mp hr with hr | hr
  · exact h r (List.mem_filter.mp hr).1
  · rw [List.mem_singleton.mp hr]
    obtain ⟨c, hc, q⟩ := hb
    refine ⟨c, hc, fun z hz => ?_⟩
    obtain ⟨o, ho, hzo⟩ := List.mem_flatten.mp hz
    obtain ⟨h1, h2⟩ := List.mem_filter.mp ho
    obtain ⟨y, hyo, hyb⟩ := List.any_eq_true.mp h2
    obtain ⟨c', hc', q'⟩ := h o h1
    rw [rows_disj nd hc hc' (q y (of_decide_eq_true hyb)) (q' y hyo)]
    exact q' z hzo
theorem cov_perm {F F' : List (List Str)} {b : List Str} (p : F'.flatten.Perm F.flatten) (c : Cov F b) : Cov F' b := fun z hz => by
  obtain ⟨r, hr, q⟩ := c z hz
  exact List.mem_flatten.mp (p.mem_iff.mpr (List.mem_flatten.mpr ⟨r, hr, q⟩))
theorem foldl_up : ∀ (M F : List (List Str)), Le F (M.foldl joinR F)
  | [], F => Le.refl F
  | b :: M, F => joinR_up.trans (foldl_up M (joinR F b))
theorem foldl_blk : ∀ (M F : List (List Str)), (∀ b ∈ M, Cov F b) → Le M (M.foldl joinR F)
  | [], F, _ => fun r h => by cases h
  | b :: M, F, c => fun r h => by
    rcases List.mem_cons.mp h with rfl | h
    · obtain ⟨s, hs, q⟩ := joinR_blk (c r List.mem_cons_self)
      obtain ⟨t, ht, q'⟩ := foldl_up M (joinR F r) s hs
      exact ⟨t, ht, fun z hz => q' z (q z hz)⟩
    · exact foldl_blk M (joinR F b) (fun b' hb' => cov_perm (joinR_perm F b) (c b' (List.mem_cons_of_mem _ hb'))) r h
theorem foldl_least {C : List (List Str)} (nd : C.flatten.Nodup) (ne : C ≠ []) : ∀ (M F : List (List Str)), Le F C → Le M C → Le (M.foldl joinR F) C
  | [], F, h, _ => h
  | b :: M, F, h, hM => foldl_least nd ne M (joinR F b) (joinR_least nd ne h (hM b List.mem_cons_self)) fun r hr => hM r (List.mem_cons_of_mem _ hr)
/-- rows that are none are not joined -/
theorem joinR_ne {F : List (List Str)} {b : List Str} (hb : b ≠ []) (c : Cov F b) (h : ∀ r ∈ F, r ≠ []) : ∀ r ∈ joinR F b, r ≠ [] := fun r hr => by
  rw [joinR_eq] at hr
  rcases List.mem_append.mp hr with hr | hr
  · exact h r (List.mem_filter.mp hr).1
  · rw [List.mem_singleton.mp hr]
    obtain ⟨z, zr, e⟩ := List.exists_cons_of_ne_nil hb
    obtain ⟨r', hr', q⟩ := c z (by rw [e]; exact List.mem_cons_self)
    intro e'
    have : z ∈ (metR F b).flatten := List.mem_flatten.mpr ⟨r', List.mem_filter.mpr ⟨hr', List.any_eq_true.mpr ⟨z, q, decide_eq_true (by rw [e]; exact List.mem_cons_self)⟩⟩, q⟩
    rw [e'] at this
    cases this
theorem foldl_ne : ∀ (M F : List (List Str)), (∀ b ∈ M, b ≠ [] ∧ Cov F b) → (∀ r ∈ F, r ≠ []) → ∀ r ∈ M.foldl joinR F, r ≠ []
  | [], F, _, h => h
  | b :: M, F, c, h => foldl_ne M (joinR F b) (fun b' hb' => ⟨(c b' (List.mem_cons_of_mem _ hb')).1, cov_perm (joinR_perm F b) (c b' (List.mem_cons_of_mem _ hb')).2⟩) (joinR_ne (c b List.mem_cons_self).1 (c b List.mem_cons_self).2 h)
theorem Brd.cov {d : BareD} {R S : List (List Str)} (hR : Brd d R) (hS : Brd d S) : ∀ b ∈ S, b ≠ [] ∧ Cov R b := fun b hb => ⟨hS.ne b hb, fun z hz => List.mem_flatten.mp (hR.fl.mem_iff.mpr (hS.fl.mem_iff.mp (List.mem_flatten.mpr ⟨b, hb, hz⟩)))⟩
theorem le_nil {R C : List (List Str)} (h : C = []) (p : R.flatten.Perm C.flatten) (ne : ∀ r ∈ R, r ≠ []) : R = [] := by
  subst h
  cases R with
  | nil => rfl
  | cons r R =>
    have := p.length_eq
    rw [List.flatten_cons, List.length_append] at this
    have h1 : 0 < r.length := List.length_pos_iff.mpr (ne r List.mem_cons_self)
    have h2 : (([] : List (List Str)).flatten).length = 0 := rfl
    omega
/-- what joins two boards -/
structure Jn (d : BareD) (R S T : List (List Str)) : Prop where
  brd : Brd d T
  l : Le R T
  r : Le S T
  least : ∀ C : List (List Str), C.flatten.Perm (memB d) → Le R C → Le S C → Le T C
theorem join_of {d : BareD} {fd : FrD} {L M G L' : List (Addr × List Str)} (ok : d.ok) (hfm : (membZ fd).Perm (memB d)) (hR : Brd d (L.map (·.2))) (hS : Brd d (M.map (·.2))) (e : G.map (·.2) = joinA L M) (h : RowsOf fd G L') : Jn d (L.map (·.2)) (M.map (·.2)) (L'.map (·.2)) := by
  have pm : (allN G).Perm (memB d) := by
    rw [allN_map, e]
    exact (foldl_perm _ _).trans hR.fl
  have ne : ∀ x ∈ G, x.2 ≠ [] := fun x hx => foldl_ne _ _ (hR.cov hS) hR.ne x.2 (by show x.2 ∈ joinA L M; rw [← e]; exact List.mem_map.mpr ⟨x, hx, rfl⟩)
  obtain ⟨b1, b2, b3⟩ := brd_of (rows_all pm ok hfm h) pm ne
  rw [e] at b2 b3
  refine ⟨b1, (foldl_up _ _).trans b2, (foldl_blk _ _ fun b hb => ((hR.cov hS) b hb).2).trans b2, fun C hC h1 h2 => b3.trans ?_⟩
  by_cases en : C = []
  · have eR := le_nil en (hR.fl.trans hC.symm) hR.ne
    have eS := le_nil en (hS.fl.trans hC.symm) hS.ne
    unfold joinA
    rw [eR, eS]
    exact fun r hr => by cases hr
  · exact foldl_least (hC.nodup_iff.mpr (memB_nd ok)) en _ _ h1 h2
theorem join_fit {d : BareD} {L M : List (Addr × List Str)} (hR : Brd d (L.map (·.2))) (hS : Brd d (M.map (·.2))) (hp : ("power" : Str) ∉ memB d) : ∀ r ∈ joinA L M, r ≠ [] ∧ ¬ (("ground" : Str) ∈ r ∧ ("power" : Str) ∈ r) := fun r hr =>
  ⟨foldl_ne _ _ (hR.cov hS) hR.ne r hr, fun q => hp (((foldl_perm _ _).trans hR.fl).mem_iff.mp (List.mem_flatten.mpr ⟨r, hr, q.2⟩))⟩
end Sj
namespace Sj
open PySem L2 Sup StK Own Shw Exg Grd KepE
/-! k16: what follows for joins -/
section
variable {d : BareD} {R S T U V' W : List (List Str)}
/-! one element taken out -/
def outO (z : Str) (R : List (List Str)) : List (List Str) := outR z R ++ [[z]]
structure Ot (d : BareD) (z : Str) (R T : List (List Str)) : Prop where
  brd : Brd d T
  a : Le (outO z R) T
  b : Le T (outO z R)
theorem srt_id {r : List Str} (h : PyProof.Rows.sortedS r = true) : srt r = r := (srt_of (List.Perm.refl r) h).symm
theorem pl_self {L : List (Addr × List Str)} (h : Brd d (L.map (·.2))) (gp : NoBoth L) : PlL d L L := by
  refine ⟨rowsP_of ?_ h.pw, by rw [allN_map]; exact h.fl, gp, fun x hx => h.ne _ (List.mem_map.mpr ⟨x, hx, rfl⟩)⟩
  rw [srtB_map]
  have e : (L.map (·.2)).map srt = (L.map (·.2)).map id := List.map_congr_left fun r hr => srt_id (h.so r hr)
  rw [e, List.map_id]
theorem out_of {z : Str} {fd : FrD} {L Bl' L' : List (Addr × List Str)} (ok : d.ok) (hfm : (membZ fd).Perm (memB d)) (h : Brd d (L.map (·.2))) (gp : NoBoth L) (hz : z ∈ memB d) (e : Bl'.map (·.2) = outR z (L.map (·.2))) (hR : RowsOf fd Bl' L') : Ot d z (L.map (·.2)) (L'.map (·.2)) := by
  have p := outB_rows (pl_self h gp) ok hfm hz e hR
  obtain ⟨b1, b2, b3⟩ := brd_of p.rows p.pm p.ne
  rw [outB_map] at b2 b3
  exact ⟨b1, b2, b3⟩
theorem Brd.row (h : Brd d R) {z : Str} (hz : z ∈ memB d) : ∃ r ∈ R, z ∈ r := List.mem_flatten.mp (h.fl.mem_iff.mpr hz)
end
end Sj
namespace Sj
open PySem L2 Sup StK Own Shw Exg Grd KepE
/-! k16: boards as they are made, joined, compared -/
/-- what stands around the boards of a frame -/
structure Sur (K : PySem.W.Frag) (ks : Kinds) (CF CB m : Addr) (d : BareD) (fd : FrD) : Prop where
  ok : d.ok
  hfm : (membZ fd).Perm (memB d)
  hp : ("power" : Str) ∉ memB d
  eqF : eqFr fd fd = true
  icB : IsiC K CB
  nfB : PySem.W.notFirst K CB (.ref CB) = true
/-- a board of the frame stands -/
structure BoW (H : Hp) (CB m : Addr) (d : BareD) (o : Addr) (L : List (Addr × List Str)) : Prop where
  at_ : BoAt H o CB m L
  brd : Brd d (L.map (·.2))
theorem BoW.same {H H' : Hp} {CB m o : Addr} {d : BareD} {L : List (Addr × List Str)} (h : BoW H CB m d o L) (s : Same H H') : BoW H' CB m d o L := ⟨h.at_.same s, h.brd⟩
section
variable {K : PySem.W.Frag} {ks : Kinds} {CF CV CB CN m o1 o2 : Addr} {d : BareD} {fd : FrD} {L1 L2 : List (Addr × List Str)} {H : Hp} {Q : VK} {E : XK}
theorem Sur.gp (S : Sur K ks CF CB m d fd) {L : List (Addr × List Str)} (h : Brd d (L.map (·.2))) : NoBoth L := fun x hx q => S.hp (h.fl.mem_iff.mp (List.mem_flatten.mpr ⟨_, List.mem_map.mpr ⟨x, hx, rfl⟩, q.2⟩))
theorem Sur.bdok (S : Sur K ks CF CB m d fd) {L : List (Addr × List Str)} (h : Brd d (L.map (·.2))) : BdOk fd L :=
  ⟨fun z hz => S.hfm.mem_iff.mpr (h.fl.mem_iff.mp (by rw [← allN_map]; exact hz)), by rw [allN_map]; exact h.nd S.ok, S.hfm.nodup_iff.mpr (memB_nd S.ok), by rw [allN_map, h.fl.length_eq]; exact Nat.le_trans (memB_18 S.ok) (by decide), S.gp h⟩
theorem Brd.len {R : List (List Str)} (ok : d.ok) (h : Brd d R) : R.length ≤ 18 ∧ ∀ r ∈ R, r.length ≤ 18 := by
  have fl18 : R.flatten.length ≤ 18 := by rw [h.fl.length_eq]; exact memB_18 ok
  refine ⟨?_, fun r hr => Nat.le_trans (List.sublist_flatten_of_mem hr).length_le fl18⟩
  have := blk_le (Bl := R.map fun r => (0, r)) fun x hx => by
    obtain ⟨r, hr, rfl⟩ := List.mem_map.mp hx
    exact h.ne r hr
  rw [List.length_map, allN_map, List.map_map, show ((·.2) ∘ fun r : List Str => ((0 : Addr), r)) = id from rfl, List.map_id] at this
  omega
end
end Sj
namespace Sj
open PySem L2 Sup StK Own Shw Exg Grd
open NdefX (NF NScope ncx envF startF nscope_by)
open C8 (pss_cut tCut)
/-! k06: _law_unlike, _law_levels -/
theorem BareAt.grow {H H' : Hp} {b p q : Addr} {d : BareD} {xs : List V} (h : BareAt H b d p) (h' : BareAt H b d q) (hq : H q = some (.lst xs)) (s : But H H' q) : BareAt H' b d p := by
  obtain ⟨dl, ll, rl, h1, h2, h3, h4, h5, h6, h7⟩ := h.ex
  obtain ⟨dl', ll', rl', g1, _, _, _, g5, g6, g7⟩ := h'.ex
  rw [h1] at g1
  injection Option.some.inj g1 with g1
  unfold rowsB at g1
  simp only [List.cons.injEq, Prod.mk.injEq, V.ref.injEq, true_and, and_true] at g1
  obtain ⟨rfl, rfl, rfl⟩ := g1
  exact ⟨dl, ll, rl, s _ _ (ne_of h1 hq (by intro z; cases z)) h1, s _ _ g5 h2, s _ _ g6 h3, s _ _ g7 h4, h5, h6, h7⟩
abbrev sLvs : Stmt := top 43
/-- unlike: another top, or a leg of the other kind -/
def UnlikeD (d d' : BareD) : Prop := d'.t ≠ d.t ∨ ∃ z, (z ∈ d'.ds ∧ z ∈ d.ls) ∨ (z ∈ d'.ls ∧ z ∈ d.ds)
def arefs (as : List (Addr × BareD)) : List V := as.map fun x => .ref x.1
def UnlL (H : Hp) (p q : Addr) (d : BareD) (as : List (Addr × BareD)) : Prop := H q = some (.lst (arefs as)) ∧ ∀ x ∈ as, BareAt H x.1 x.2 p ∧ BareAt H x.1 x.2 q ∧ x.2.ok ∧ UnlikeD d x.2
theorem UnlL.snoc {H : Hp} {p q x : Addr} {d e : BareD} {as : List (Addr × BareD)} {ys : List V} (h : UnlL H p q d as) (hp : BareAt H x e p) (hq : BareAt H x e q) (ok : e.ok) (u : UnlikeD d e) : UnlL (upd H q (.lst (arefs as ++ [.ref x]))) p q d (as ++ [(x, e)]) := by
  have bt := But.upd H q (.lst (arefs as ++ [.ref x]))
  refine ⟨?_, fun y hy => ?_⟩
  · rw [upd_same]
    unfold arefs
    rw [List.map_append]
    rfl
  · rcases List.mem_append.mp hy with hy | hy
    · obtain ⟨h1, h2, h3, h4⟩ := h.2 y hy
      exact ⟨h1.grow h2 h.1 bt, h2.grow h2 h.1 bt, h3, h4⟩
    · obtain rfl := List.mem_singleton.mp hy
      exact ⟨hp.grow hq h.1 bt, hq.grow hq h.1 bt, ok, u⟩
theorem UnlL.same {H H' : Hp} {p q : Addr} {d : BareD} {as : List (Addr × BareD)} (h : UnlL H p q d as) (s : Same H H') : UnlL H' p q d as := ⟨s _ _ h.1, fun x hx => ⟨(h.2 x hx).1.same s, (h.2 x hx).2.1.same s, (h.2 x hx).2.2⟩⟩
abbrev nLv : List Str := ["_law_pen_here", "_law_bare_here", "_law_way", "_law_found", "_law_tag", "_law_far"]
theorem scLv : FnScope nLv ["_law_pen_here", "_law_bare_here"] (defScope sLvs) := ⟨rfl, rfl, rfl, by decide +kernel, rfl, by decide +kernel, by decide +kernel⟩
def spLvs : Sp := fun vs H Q _ => ∃ (p l : Addr) (cs : List Int) (n : Nat) (b : Addr) (d : BareD), vs = [.ref p, .ref b] ∧ Pen H p l cs n ∧ BareAt H b d p ∧ d.ok ∧ n < 80000 ∧
  ∀ D gv H', LvB d gv → (gv.map (·.1)).Nodup → LvAt H' D gv → H D = none → Pen H' p l cs (n + 60) → But H H' p → Q (.ref D) H'
section
variable {P : Program} {w : World} {K : PySem.W.Frag} {mg : Str → Option Value} {base : Heap}
theorem ok_lvs {f : Addr} {fd : FuncData} (F : Fun K "_law_levels" "_law_levels" sLvs f fd) (T : DwT P w K mg base) : FnOk P w K mg base CX0 3 f fd ["_law_pen_here", "_law_bare_here"] spLvs := by
  obtain ⟨fD, fdD, mD, kD, bD, GD⟩ := T.draw
  refine F.ok scLv (fun vs H Q E h => ?_) (fun cdv A outer s H vs Q E hr h => ?_)
  · obtain ⟨p, l, cs, n, b, d, rfl, _⟩ := h
    rfl
  · obtain ⟨p, l, cs, n, b, d, rfl, hP, hB, ok, hn, k⟩ := h
    have hu := hu_of hr
    have hr1 := hr.mono (show 1 ≤ 2 by decide)
    refine ⟨_, pss_cons (ps_par (i := 2) (j := 3) (by rfl) scLv.nd rfl rfl (by decide) rfl rfl (pa_cons (pe_call GD hr1 rfl mD kD bD .nil pass0 (pa_cons (pv 0) (pa_cons pe_int pa_nil))) (pa_cons pe_dnewK pa_nil)) (by rfl))
      (pss_cons (ps_for PassesOwn.never rfl (pi_list (pe_dget hu (pv 1) pe_str (fun _ _ => rfl))) (pg_name (i := 4) scLv.nd rfl (Or.inl rfl))
        (pss_cons (ps_set (i := 5) scLv.nd rfl (Or.inl rfl) (pe_ix ix_list (pe_lst (pa_cons pe_int (pa_cons (pe_call GD hr1 rfl mD kD bD .nil pass0 (pa_cons (pv 0) (pa_cons (pe_op op_add (pe_dget hu (pv 1) pe_str (fun _ _ => rfl)) pe_int) pa_nil)))
            (pa_cons (pe_op op_mul (pe_call GD hr1 rfl mD kD bD .nil pass0 (pa_cons (pv 0) (pa_cons pe_int pa_nil))) (pe_dget hu (pv 1) pe_str (fun _ _ => rfl))) (pa_cons (pe_dget hu (pv 1) pe_str (fun _ _ => rfl)) pa_nil))))) (pv 2) (fun _ _ => rfl)))
        (pss_one (ps_if (PW.pt (pw_or (pt_cmpR op_eq (pv 2) pe_int (nomark _)) (pw_or1 (pt_cmpR op_eq (pe_call GD hr1 rfl mD kD bD .nil pass0 (pa_cons (pv 0) (pa_cons pe_int pa_nil))) pe_int (nomark _))))) (pss_one (ps_dput hu (pv 3) (pv 4) (pv 5) rfl)) pss_nil))))
      (pss_one (ps_ret (pv 3)))), ?_⟩
    have t1 := ok.t1
    have t3 := ok.t3
    refine ⟨_, rfl, p, l, cs, n, 4, rfl, hP, by decide, by decide, by omega, fun way i1 g1 H1 w0 w4 i10 in1 hp1 b1 => ?_⟩
    have P1 : Pen H1 p l cs (n + 1) := hP.next i10 in1 hp1 b1
    refine fun D hD => ⟨_, _, rfl, ?_⟩
    have sD := same_at (o := .dK []) hD
    have P2 := P1.same sD
    have hDp : D ≠ p := nep P1 hD
    have hD0 : H D = none := b1.free hDp hD
    have b2 : But H (upd H1 D (.dK [])) p := b1.same sD
    obtain ⟨H2, e2⟩ : ∃ H2, H2 = upd H1 D (.dK []) := ⟨_, rfl⟩
    have hD2 : H2 D = some (.dK []) := by rw [e2, upd_same]
    rw [← e2] at P2 b2 ⊢
    obtain ⟨dl, ll, rl, hb, hdl, hll, hrl, nd, nl, nr⟩ := hB.ex
    have hdsl : (strv d.ds).length = d.ds.length := List.length_map _
    have hd16 : d.ds.length ≤ 16 := by have := ok.le; omega
    have ndup : d.ds.Nodup := (List.nodup_append.mp ok.nd).1
    have hb2 := b2.keep hP hb (fun ys z => by cases z)
    have hdl2 := b2 _ _ nd hdl
    refine ⟨_, rfl, b, _, rfl, DGet.k (k := Sum.inr "drivers") hb2, dl, rfl, ⟨_, SqL.of hdl2⟩, ?_⟩
    refine for_list (xs := strv d.ds) (fun i σ H' => (∃ o4 o5, σ = [some (.ref p), some (.ref b), some (.int way), some (.ref D), o4, o5]) ∧ Pen H' p l cs (n + 1 + 3 * i) ∧ But H H' p ∧
        ∃ gv : List (Str × Int), H' D = some (.dK (gv.map lvRow)) ∧ (gv.map (·.1)).Sublist (d.ds.take i) ∧ ∀ q ∈ gv, 0 ≤ q.2 ∧ q.2 ≤ d.t) ⟨⟨_, _, rfl⟩, P2, b2, [], hD2, List.nil_sublist _, fun q hq => by cases hq⟩ (fun i σ H' _ h => SqL.of (h.2.2.1 _ _ nd hdl)) ?_ ?_
    · rintro i x σ H3 hx ⟨⟨o4, o5, rfl⟩, P3, b3, gv, hv3, hsub, hbd⟩
      have hi : i < d.ds.length := by rw [← hdsl]; exact (List.getElem?_eq_some_iff.mp hx).1
      have ex : (strv d.ds)[i]? = some (.str d.ds[i]) := by show (d.ds.map V.str)[i]? = _; rw [List.getElem?_map, List.getElem?_eq_getElem hi]; rfl
      rw [ex] at hx
      obtain rfl := Option.some.inj hx
      have hb3 := b3.keep hP hb (fun ys z => by cases z)
      have top : ∀ {H' : Hp}, But H3 H' p → DGet H' b (.str "top") (some (.int d.t)) := fun bb => DGet.k (k := Sum.inr "top") (bb.keep P3 hb3 (fun ys z => by cases z))
      have hn3 : n + 1 + 3 * i < 1000000 := by omega
      refine ⟨_, rfl, _, rfl, b, _, rfl, top (But.of (Same.refl _)), d.t, 1, rfl, rfl, p, l, cs, _, d.t + 1, rfl, P3, by omega, by omega, hn3, fun d1 i4 g4 H4 d10 d11 i40 in4 hp4 b4 => ?_⟩
      have P4 : Pen H4 p l cs (n + 1 + 3 * i + 1) := P3.next i40 in4 hp4 b4
      refine ⟨_, rfl, p, l, cs, _, 2, rfl, P4, by decide, by decide, by omega, fun d2 i5 g5 H5 d20 d21 i50 in5 hp5 b5 => ?_⟩
      have P5 : Pen H5 p l cs (n + 1 + 3 * i + 2) := P4.next i50 in5 hp5 b5
      have b35 := b4.trans b5
      refine ⟨_, rfl, b, _, rfl, top b35, d2, d.t, rfl, rfl, .inl ⟨by omega, by omega⟩, _, rfl, b, _, rfl, top b35, by show 4 ≤ sizeLine; decide, fun L hL => ?_⟩
      obtain ⟨far, f0, f1, hfar⟩ : ∃ far : Int, 0 ≤ far ∧ far ≤ d.t ∧ atI [V.int 0, .int d1, .int (d2 * d.t), .int d.t] way = some (.int far) := by
        have h2 : d2 = 0 ∨ d2 = 1 := by omega
        have hm : 0 ≤ d2 * d.t ∧ d2 * d.t ≤ d.t := by
          rcases h2 with e | e <;> rw [e] <;> omega
        obtain e | e | e | e : way = ((0 : Nat) : Int) ∨ way = ((1 : Nat) : Int) ∨ way = ((2 : Nat) : Int) ∨ way = ((3 : Nat) : Int) := by omega
        · exact ⟨0, Int.le_refl _, by omega, by rw [e]; exact atI_nat rfl⟩
        · exact ⟨d1, d10, by omega, by rw [e]; exact atI_nat rfl⟩
        · exact ⟨d2 * d.t, hm.1, hm.2, by rw [e]; exact atI_nat rfl⟩
        · exact ⟨d.t, by omega, Int.le_refl _, by rw [e]; exact atI_nat rfl⟩
      have s56 := same_at (o := .lst [V.int 0, .int d1, .int (d2 * d.t), .int d.t]) hL
      obtain ⟨H6, e6⟩ : ∃ H6, H6 = upd H5 L (.lst [V.int 0, .int d1, .int (d2 * d.t), .int d.t]) := ⟨_, rfl⟩
      have hL6 : H6 L = some (.lst [V.int 0, .int d1, .int (d2 * d.t), .int d.t]) := by rw [e6, upd_same]
      rw [← e6] at s56 ⊢
      have P6 := P5.same s56
      have b36 := b35.same s56
      refine ⟨_, rfl, L, _, _, _, rfl, rfl, SqL.of hL6, hfar, ?_⟩
      have hz : d.ds[i] ∉ gv.map (·.1) := fun hm => by
        obtain ⟨j, hj, ej⟩ := List.getElem_of_mem (hsub.subset hm)
        rw [List.length_take] at hj
        rw [List.getElem_take] at ej
        have := (List.getElem_inj ndup).mp ej
        omega
      have etake : d.ds.take (i + 1) = d.ds.take i ++ [d.ds[i]] := by rw [List.take_add_one, List.getElem?_eq_getElem hi]; rfl
      have skip : ∀ H7, But H3 H7 p → Pen H7 p l cs (n + 1 + 3 * i + 3) → (∃ o4 o5, [some (V.ref p), some (.ref b), some (.int way), some (.ref D), some (.str d.ds[i]), some (.int far)] = [some (.ref p), some (.ref b), some (.int way), some (.ref D), o4, o5]) ∧ Pen H7 p l cs (n + 1 + 3 * (i + 1)) ∧ But H H7 p ∧
          ∃ gv : List (Str × Int), H7 D = some (.dK (gv.map lvRow)) ∧ (gv.map (·.1)).Sublist (d.ds.take (i + 1)) ∧ ∀ q ∈ gv, 0 ≤ q.2 ∧ q.2 ≤ d.t := fun H7 b37 P7 =>
        ⟨⟨_, _, rfl⟩, P7.mono (by omega), b3.trans b37, gv, b37 _ _ hDp hv3, by rw [etake]; exact hsub.trans (List.sublist_append_left _ _), hbd⟩
      have put : ∀ H7, But H3 H7 p → Pen H7 p l cs (n + 1 + 3 * i + 3) → ∃ a H8, V.ref D = .ref a ∧ DPut H7 a (.str d.ds[i]) (.int far) H8 ∧ ((∃ o4 o5, [some (V.ref p), some (.ref b), some (.int way), some (.ref D), some (.str d.ds[i]), some (.int far)] = [some (.ref p), some (.ref b), some (.int way), some (.ref D), o4, o5]) ∧ Pen H8 p l cs (n + 1 + 3 * (i + 1)) ∧ But H H8 p ∧
          ∃ gv : List (Str × Int), H8 D = some (.dK (gv.map lvRow)) ∧ (gv.map (·.1)).Sublist (d.ds.take (i + 1)) ∧ ∀ q ∈ gv, 0 ≤ q.2 ∧ q.2 ≤ d.t) := fun H7 b37 P7 => by
        have hv7 := b37 _ _ hDp hv3
        have hgl : (gv.map lvRow).length ≤ 16 := by
          rw [List.length_map]
          have := hsub.length_le
          rw [List.length_map, List.length_take] at this
          omega
        refine ⟨D, _, rfl, DPut.k (k := Sum.inr d.ds[i]) hv7 (Nat.lt_of_le_of_lt hgl (by decide)), ⟨_, _, rfl⟩, ?_, fun c o hc e => ?_, gv ++ [(d.ds[i], far)], ?_, ?_, fun q hq => ?_⟩
        · obtain ⟨i', g', q1, q2, q3⟩ := P7
          exact ⟨i', g', by rw [upd_ne (ne_of q1 hv7 (by intro z; cases z))]; exact q1, by rw [upd_ne (ne_of q2 hv7 (by intro z; cases z))]; exact q2, q3.1, q3.2.1, by omega⟩
        · rw [upd_ne (ne_of_none e hD0)]
          exact b37 _ _ hc (b3 _ _ hc e)
        · have hout : valV (gv.map lvRow) (Sum.inr d.ds[i]) = none := by
            rw [valV_lv]
            cases q : lvG gv d.ds[i] with
            | none => rfl
            | some j => exact absurd (List.mem_map.mpr ⟨_, lvG_mem q, rfl⟩) hz
          rw [upd_same, putK_new _ hout, List.map_append]
          rfl
        · rw [List.map_append, etake]
          exact List.Sublist.append hsub (List.Sublist.refl _)
        · rcases List.mem_append.mp hq with hq | hq
          · exact hbd q hq
          · rw [List.mem_singleton.mp hq]
            exact ⟨f0, f1⟩
      refine ⟨_, rfl, rfl, _, rfl, ?_⟩
      by_cases ew : way = 1
      · rw [decide_eq_true (show V.int way = V.int 1 by rw [ew])]
        refine iteT ⟨_, rfl, _, rfl, _, rfl, ?_⟩
        exact put H6 b36 (P6.mono (by omega))
      · rw [decide_eq_false (show ¬ V.int way = V.int 1 from fun q => ew (V.int.inj q))]
        refine iteF ⟨_, rfl, p, l, cs, _, 2, rfl, P6, by decide, by decide, by omega, fun d7 i7 g7 H7 d70 d71 i70 in7 hp7 b7 => ?_⟩
        have P7 : Pen H7 p l cs (n + 1 + 3 * i + 3) := P6.next i70 in7 hp7 b7
        have b37 := b36.trans b7
        refine ⟨rfl, _, rfl, ?_⟩
        by_cases ed : d7 = 0
        · rw [decide_eq_true (show V.int d7 = V.int 0 by rw [ed])]
          refine iteT ⟨_, rfl, _, rfl, _, rfl, ?_⟩
          exact put H7 b37 P7
        · rw [decide_eq_false (show ¬ V.int d7 = V.int 0 from fun q => ed (V.int.inj q))]
          exact iteF (skip H7 b37 P7)
    · rintro σ H3 ⟨⟨o4, o5, rfl⟩, P3, b3, gv, hv3, hsub, hbd⟩
      rw [hdsl, List.take_length] at hsub
      rw [hdsl] at P3
      refine ⟨_, rfl, k D gv H3 ⟨?_, fun q hq => ⟨hsub.subset (List.mem_map.mpr ⟨q, hq, rfl⟩), hbd q hq⟩⟩ (ndup.sublist hsub) hv3 hD0 (P3.mono (by omega)) b3⟩
      have := hsub.length_le
      rw [List.length_map] at this
      omega
end
end Sj
namespace Sj
open PySem L2 Sup StK Own Shw Exg Grd KepE
open NdefX (NF NScope ncx envF startF nscope_by)
/-! the forms in which k06 makes words -/
section
variable {P : Program} {w : World} {K : PySem.W.Frag} {mg : Str → Option Value} {base : Heap} {f CF CW : Addr} {fd : FuncData} {ks : Kinds}
theorem wof_k0 (F : Fun K "of" "Word.of" (sWd 1) f fd) (G : FnOk P w K mg base CX0 8 f fd ["cls", "frame", "levels"] (spWOf ks CF CW)) : FnK P w K mg base CX0 8 f [] (fun vs zs H Q E => vs.length = 3 ∧ spWOf ks CF CW vs H Q E) := by
  obtain ⟨oc, od, kV, doc, pm, an, cdv, ct, osl, rfl, lk, hcd⟩ := F.ex
  exact fnK_of (g := fun us _ => us) (gV := fun vs _ => vs) G ⟨fun s us ws _ l1 l2 => .of_eq (match us, ws, l1, l2 with | [_, _, _], [], _, _ => rfl), fun r _ => r⟩
theorem wre_k0 (F : Fun K "rest" "Word.rest" (sWd 2) f fd) (G : FnOk P w K mg base CX0 8 f fd ["cls", "frame"] (spWRest ks CF CW)) : FnK P w K mg base CX0 8 f [] (fun vs zs H Q E => vs.length = 2 ∧ spWRest ks CF CW vs H Q E) := by
  obtain ⟨oc, od, kV, doc, pm, an, cdv, ct, osl, rfl, lk, hcd⟩ := F.ex
  exact fnK_of (g := fun us _ => us) (gV := fun vs _ => vs) G ⟨fun s us ws _ l1 l2 => .of_eq (match us, ws, l1, l2 with | [_, _], [], _, _ => rfl), fun r _ => r⟩
end
end Sj
namespace Sj
open PySem L2 Sup StK Own Shw Exg Grd KepE
open NdefX (NF NScope ncx envF startF nscope_by)
open C8 (pss_cut tCut)
/-! one word and another (k08, ..) -/
abbrev sIsW : Stmt := top 33
theorem scIsW : FnScope ["frame", "value"] ["frame", "value"] (defScope sIsW) := ⟨rfl, rfl, rfl, by decide +kernel, rfl, by decide +kernel, by decide +kernel⟩
theorem valV_no : ∀ {kvs : List (Key × V)} {k : Key}, (∀ p ∈ kvs, p.1 ≠ k) → valV kvs k = none
  | [], _, _ => rfl
  | p :: kvs, k, h => by
    rw [valV_neg (h p List.mem_cons_self)]
    exact valV_no fun q hq => h q (List.mem_cons_of_mem _ hq)
/-- a word of an equal frame -/
def spIsW (ks : Kinds) (CF CW : Addr) : Sp := fun vs H Q _ => ∃ a d b e hv, vs = [.ref a, .ref b] ∧ FrIs ks CF H a d ∧ WdIs ks CF CW H b e hv ∧ ∀ H', Same H H' → Q (.bl (eqFr e d)) H'
def lvMin (i j : Int) : Int := if j < i then j else i
/-- the lesser level of each driver -/
def minL (ks : Kinds) (d e : FrD) (gv hv : List (Str × Int)) : List (Str × Int) := (kindZ ks true d.ys).map fun z => (z, lvMin (lvl gv d.t z) (lvl hv e.t z))
def spWAnd (ks : Kinds) (CF CW : Addr) : Sp := fun vs H Q _ => ∃ a d gv b e hv, vs = [.ref a, .ref b] ∧ WdIs ks CF CW H a d gv ∧ WdIs ks CF CW H b e hv ∧ eqFr e d = true ∧ ∀ r H', H r = none → WdIs ks CF CW H' r d (minL ks d e gv hv) → Same H H' → Q (.ref r) H'
theorem lvl_map {zs : List Str} {f : Str → Int} {t : Int} {z : Str} (hn : zs.Nodup) (hz : z ∈ zs) : lvl (zs.map fun z => (z, f z)) t z = f z := by
  have h2 := lvG_nd (lv := zs.map fun z => (z, f z)) (p := (z, f z)) (by rw [List.map_map]; show (zs.map fun z => z).Nodup; rw [List.map_id']; exact hn) (List.mem_map.mpr ⟨z, hz, rfl⟩)
  unfold lvl
  dsimp only at h2
  rw [h2]
  rfl
abbrev rMin : List V → Hp → VK → Prop := fun xs H Q => ∃ i j, xs = [V.int i, .int j] ∧ Q (.int (if j < i then j else i)) H
def tMn (K : PySem.W.Frag) : TE := tCB rMin (tCons (tVar 4) (tCons (tDGet (tFld K (tVar 1) "_levels") (tVar 3)) tNil))
structure WaT (P : Program) (w : World) (K : PySem.W.Frag) (mg : Str → Option Value) (base : Heap) (ks : Kinds) (CF CW fW : Addr) : Prop where
  f : WfT P w K mg base ks CF CW
  isi : mg "isinstance" = none
  min : mg "min" = none
  mW : mg "Word" = some (.ref CW)
  icW : IsiC K CW
  self : PySem.W.kitOne K (.ref CW) (.ref CW) = some true
  eqF : EqN P w K mg base 4 CF (spFEq K ks CF)
  icF : IsiC K CF
  nf : PySem.W.notFirst K CF (.ref CF) = true
  mkc : Mk K CW fW
  i0 : FnK P w K mg base CX0 6 fW [] (spKw 2 [] (spWdI ks CF CW))
section
variable {P : Program} {w : World} {K : PySem.W.Frag} {mg : Str → Option Value} {base : Heap}
theorem ok_isw {f CF CW fW : Addr} {fd : FuncData} {ks : Kinds} (F : Fun K "is_word_of" "is_word_of" sIsW f fd) (T : WaT P w K mg base ks CF CW fW) : FnOk P w K mg base CX0 6 f fd ["frame", "value"] (spIsW ks CF CW) := by
  refine F.ok scIsW (fun vs H Q E h => ?_) (fun cdv A outer s H vs Q E hr h => ?_)
  · obtain ⟨a, d, b, e, hv, rfl, _⟩ := h
    rfl
  · obtain ⟨a, d, b, e, hv, rfl, hF, hV, k⟩ := h
    obtain ⟨fr', dy, D', eb, eD', hne', hF'⟩ := hV.ex
    obtain ⟨fx, fs, ef⟩ := hF.ins
    obtain ⟨fy, fs', ef'⟩ := hF'.ins
    refine ⟨_, pss_one (ps_ret (pe_and (pe_callB call_isi (by rfl) T.isi (by decide +kernel) (pa_cons (pv 1) (pa_cons (pe_glob rfl T.mW (v := .ref CW) rfl) pa_nil)))
      (pe_one (pe_cmpR (op_ownE (.inl rfl) (S := fun C => C = CF) (spE := fun _ => spFEq K ks CF) (fun C e => by rw [e]; exact T.eqF.eqC (hr.mono (by decide)))) (pe_fld (pv 1) rfl) (pv 0) (nomark _))))), ?_⟩
    have tyb : TyX K H (.ref b) (.ref CW) := .base (.ins eb T.icW.cl T.icW.ca T.icW.cn T.icW.ct T.icW.cm)
    refine ⟨_, rfl, _, _, .ref CW, .ref CW, true, rfl, .own _, tyb, T.self, _, rfl, iteT ?_⟩
    refine ⟨_, rfl, b, CW, dy, _, _, rfl, eb, T.f.cw, T.f.nF, wdF_frame _ _, _, rfl, ?_⟩
    exact ⟨fr', CF, fy, fs', rfl, ef', rfl, .inl ⟨.ref CF, .base (.ins ef T.icF.cl T.icF.ca T.icF.cn T.icF.ct T.icF.cm), T.nf, fr', e, .ref a, rfl, hF', .inl ⟨a, d, rfl, hF, fun H1 s1 => ⟨_, rfl, k H1 s1⟩⟩⟩⟩
theorem ok_wand {f CF CW fW : Addr} {fd : FuncData} {ks : Kinds} (F : Fun K "__and__" "Word.__and__" (sWd 9) f fd) (T : WaT P w K mg base ks CF CW fW) (isw : FnIs P w K mg base "is_word_of" 6 ["frame", "value"] (spIsW ks CF CW)) : FnOk P w K mg base CX0 8 f fd ["self", "other"] (spWAnd ks CF CW) := by
  obtain ⟨fI, fdI, mI, kI, bI, GI⟩ := isw
  have sc : FnScope ["self", "other", "both", "name", "level"] ["self", "other"] (defScope (sWd 9)) := ⟨rfl, rfl, rfl, by decide +kernel, rfl, by decide +kernel, by decide +kernel⟩
  refine F.ok sc (fun vs H Q E h => ?_) (fun cdv A outer s H vs Q E hr h => ?_)
  · obtain ⟨a, d, gv, b, e, hv, rfl, _⟩ := h
    rfl
  · obtain ⟨a, d, gv, b, e, hv, rfl, hW, hV, hfr, k⟩ := h
    have hu := hu_of hr
    refine ⟨_, PSs.nox (pss_cons (ps_if (pt_not (pt_val (pe_call GI (hr.mono (by decide)) rfl mI kI bI .nil pass0 (pa_cons (pe_fld (pv 0) rfl) (pa_cons (pv 1) pa_nil))))) pss_never pss_nil)
      (pss_cons (ps_set (i := 2) sc.nd rfl (Or.inl rfl) (pe_makeS T.mkc T.i0 hr rfl T.mW pass0 (pa_cons (pe_fld (pv 0) rfl) pa_nil) pk_nil))
      (pss_cons (ps_fld (pv 2) (pe_lock (pe_dc (tk := tVar 3) (tv := tMn K) (tt := tYes) (own := [("name", 3), ("level", 4)]) (g := gTup K 2 (gCons (gName 3) (gCons (gName 4) gNil))) rfl sc.nd (pi_items (pe_fld (pv 0) rfl))
          (blkOk_by (N := ["self", "other", "both", "name", "level"]) (sc := defScope (sWd 9)) (by decide +kernel)) (fun _ _ _ _ _ => pg_tup rfl (pgs_cons (pg_name (i := 3) sc.nd rfl (Or.inl rfl)) (pgs_cons (pg_name (i := 4) sc.nd rfl (Or.inl rfl)) pgs_nil)))
          (fun _ _ _ _ _ => pts_nil) (fun _ _ _ _ _ => pv 3) (fun _ _ _ _ _ => pe_callB (call_min2 rfl) (by rfl) T.min (by decide +kernel) (pa_cons (pv 4) (pa_cons (pe_dget hu (pe_fld (pv 1) rfl) (pv 3) (fun _ _ => rfl)) pa_nil))))) rfl)
      (pss_one (ps_ret (pv 2)))))), ?_⟩
    obtain ⟨fr, dx, D, ea, eD, hne, hF⟩ := hW.ex
    obtain ⟨fr', dy, D', eb, eD', hne', hF'⟩ := hV.ex
    obtain ⟨_, _, _, e4⟩ := eqFr_parts hfr
    have et : e.t = d.t := (eqFr_parts hfr).1
    have ek := eqLegs_kindZ (ks := ks) e4 hF'.nd hF.nd hF'.so hF.so
    refine ⟨_, rfl, a, CW, dx, _, _, rfl, ea, T.f.cw, T.f.nF, wdF_frame _ _, _, rfl, fr, d, b, e, hv, rfl, hF, hV, fun H1 s1 => ?_⟩
    rw [hfr]
    obtain ⟨lv, elv⟩ : ∃ lv, lv = lvAll ks d gv := ⟨_, rfl⟩
    have hll : lv.length ≤ 40 := by rw [elv, lvAll_len]; exact Nat.le_trans (kind_le ks true d.ys) hF.le
    have ndz : (kindZ ks true d.ys).Nodup := kind_nd hF.nd
    rw [← elv] at eD
    refine ⟨_, rfl, iteF ⟨_, rfl, a, CW, dx, _, _, rfl, s1 _ _ ea, T.f.cw, T.f.nF, wdF_frame _ _, rfl, wd_rd (gv := []) rfl (hF.same s1) lv_nil fun r dr D0 H2 hr0 h1 h2 h3 s2 => ?_⟩⟩
    have s02 := s1.trans s2
    refine ⟨D, _, s02 _ _ eD, trivial, fun od => ?_⟩
    obtain ⟨HL, eL⟩ : ∃ HL, HL = upd H2 D (.frz od (.dK (lv.map lvRow))) := ⟨_, rfl⟩
    rw [← eL]
    have hDL : HL D = some (.frz od (.dK (lv.map lvRow))) := by rw [eL, upd_same]
    have haL : HL a = some (.ins CW dx (wdF fr D)) := by rw [eL, upd_ne (Ne.symm hne)]; exact s02 _ _ ea
    have hbL : HL b = some (.ins CW dy (wdF fr' D')) := by rw [eL, upd_ne (ne_of eb eD (by intro z; cases z))]; exact s02 _ _ eb
    have hvL : Rd HL D' (.dK ((lvAll ks e hv).map lvRow)) := by
      by_cases z : D' = D
      · rw [z] at eD'
        rw [eD] at eD'
        rw [z]
        exact .inr ⟨od, by rw [hDL, ← HO.dK.inj (Option.some.inj eD')]⟩
      · exact .inl (by rw [eL, upd_ne z]; exact s02 _ _ eD')
    have hlm : (lv.map lvRow).length = lv.length := List.length_map _
    have hlk : lv.length = (kindZ ks true d.ys).length := by rw [elv, lvAll_len]
    refine ⟨_, rfl, a, CW, dx, _, _, rfl, haL, T.f.cw, T.f.nL, wdF_lv _ _, D, od, _, rfl, hDL, fun Dn hDn => ?_⟩
    refine SetT.dict_it (walk_items (d := D) (o := od) (kvs := lv.map lvRow)) (fun i H' => Same HL H' ∧ H' Dn = some (.dK (((minL ks d e gv hv).take i).map lvRow))) ⟨same_at hDn, upd_same⟩ (fun i H' _ p => p.1 _ _ hDL) ?_ ?_
    · rintro i x H3 H4 hi ⟨s3, d3⟩ ⟨Tp, kx, vx, rfl, hT, rfl, hk, hvx⟩
      rw [hlm, hlk] at hi
      obtain ⟨z, ez⟩ : ∃ z, z = (kindZ ks true d.ys)[i] := ⟨_, rfl⟩
      have hz : z ∈ kindZ ks true d.ys := by rw [ez]; exact List.getElem_mem hi
      have e1 : (lv.map lvRow)[i]? = some (Sum.inr z, .int (lvl gv d.t z)) := by
        rw [elv]
        unfold lvAll
        rw [List.getElem?_map, List.getElem?_map, List.getElem?_eq_getElem hi, ez]
        rfl
      have e2 : (minL ks d e gv hv)[i]? = some (z, lvMin (lvl gv d.t z) (lvl hv e.t z)) := by
        unfold minL
        rw [List.getElem?_map, List.getElem?_eq_getElem hi, ez]
        rfl
      dsimp only at hk hvx
      rw [e1] at hk hvx
      obtain rfl : V.str z = kx := Option.some.inj hk
      obtain rfl : V.int (lvl gv d.t z) = vx := Option.some.inj hvx
      have s4 : Same HL (upd H3 Tp (.tup [.str z, .int (lvl gv d.t z)])) := s3.trans (same_at hT)
      have d4 : upd H3 Tp (.tup [.str z, .int (lvl gv d.t z)]) Dn = some (.dK (((minL ks d e gv hv).take i).map lvRow)) := by rw [upd_ne (ne_of_none d3 hT)]; exact d3
      refine ⟨Tp, _, rfl, SqT.of upd_same, rfl, _, _, rfl, _, _, rfl, rfl, rfl, ?_⟩
      unfold tYes
      dsimp only
      rw [if_pos rfl]
      have hget : DGet (upd H3 Tp (.tup [.str z, .int (lvl gv d.t z)])) D' (.str z) (some (.int (lvl hv e.t z))) := by
        refine .inl ⟨_, Sum.inr z, hvL.imp (s4 _ _) (fun ⟨o, q⟩ => ⟨o, s4 _ _ q⟩), rfl, ?_⟩
        have q := lvG_nd (lv := lvAll ks e hv) (p := (z, lvl hv e.t z)) (by rw [lvAll_fst, ek]; exact ndz) (List.mem_map.mpr ⟨z, by rw [ek]; exact hz, rfl⟩)
        rw [valV_lv, q]
        rfl
      refine ⟨_, rfl, _, rfl, _, rfl, b, CW, dy, _, _, rfl, s4 _ _ hbL, T.f.cw, T.f.nL, wdF_lv _ _, _, rfl, D', _, rfl, hget, _, _, rfl, ?_⟩
      have hnew : valV (((minL ks d e gv hv).take i).map lvRow) (Sum.inr z : Key) = none := valV_no fun p hp ep => by
        obtain ⟨q, hq, rfl⟩ := List.mem_map.mp hp
        obtain ⟨j, hj, ej⟩ := List.getElem_of_mem hq
        rw [List.length_take] at hj
        rw [List.getElem_take] at ej
        have hj2 : j < (kindZ ks true d.ys).length := by
          have : (minL ks d e gv hv).length = (kindZ ks true d.ys).length := List.length_map _
          omega
        have ej2 : q.1 = (kindZ ks true d.ys)[j] := by
          rw [← ej]
          unfold minL
          rw [List.getElem_map]
        have ep2 : q.1 = z := Sum.inr.inj ep
        rw [ep2, ez] at ej2
        have := (List.getElem_inj ndz).mp ej2
        omega
      refine ⟨_, Sum.inr z, rfl, d4, ?_, fun c o hc => ?_, ?_⟩
      · rw [List.length_map, List.length_take]
        exact Nat.lt_of_le_of_lt (show _ ≤ 40 by omega) (by decide)
      · rw [upd_ne (ne_of_none hc hDn)]
        exact s4 _ _ hc
      · rw [upd_same, putK_new _ hnew, List.take_add_one, e2, List.map_append]
        rfl
    · rintro H3 ⟨s3, d3⟩
      have hml : (minL ks d e gv hv).length = (lv.map lvRow).length := by rw [hlm, hlk]; exact List.length_map _
      rw [List.take_of_length_le (Nat.le_of_eq hml)] at d3
      have hDn0 : Dn ≠ D := fun z => by rw [z, hDL] at hDn; cases hDn
      have hraw : H2 Dn = none := by
        rw [eL, upd_ne hDn0] at hDn
        exact hDn
      refine ⟨s3 _ _ hDL, ?_⟩
      obtain ⟨H5, e5⟩ : ∃ H5, H5 = upd H3 D (.dK (lv.map lvRow)) := ⟨_, rfl⟩
      rw [← e5]
      have s25 : Same H2 H5 := by rw [e5]; exact same_unlock (od := od) (s02 _ _ eD) (by rw [← eL]; exact s3)
      have d5 : H5 Dn = some (.dK ((minL ks d e gv hv).map lvRow)) := by rw [e5, upd_ne hDn0]; exact d3
      refine ⟨_, rfl, r, CW, dr, _, rfl, s25 _ _ h1, T.f.cw, T.f.nL, by show 2 < 1000; decide, ?_⟩
      rw [wdF_put]
      have nD : Dn ≠ r := fun z => by rw [z, h1] at hraw; cases hraw
      have s36 : ∀ {o : HO}, Same H (upd H5 r o) := fun {o} c u q => by
        rw [upd_ne (ne_of_none (s1 _ _ q) hr0)]
        exact s25 _ _ (s02 _ _ q)
      refine ⟨_, rfl, k r _ (s1.free hr0) ⟨⟨fr, dr, Dn, upd_same, ?_, nD, hF.same s36⟩, ?_, hW.t1, hW.t3⟩ s36⟩
      · rw [upd_ne nD, d5]
        congr 2
        unfold lvAll
        refine congrArg (fun l => List.map lvRow l) ?_
        refine List.map_congr_left fun z hz => ?_
        unfold minL
        rw [lvl_map (f := fun z => lvMin (lvl gv d.t z) (lvl hv e.t z)) ndz hz]
      · refine ⟨by rw [hml, hlm]; omega, fun q hq => ?_⟩
        obtain ⟨z, hz, rfl⟩ := List.mem_map.mp hq
        have b1 := lvl_le hW.ok (by have := hW.t1; omega) z
        have b2 := lvl_le hV.ok (by have := hV.t1; omega) z
        refine ⟨hz, ?_⟩
        show 0 ≤ lvMin _ _ ∧ lvMin _ _ ≤ d.t
        unfold lvMin
        split <;> omega
end
end Sj
namespace Sj
open PySem L2 Sup StK Own Shw Exg Grd KepE
open NdefX (NF NScope ncx envF startF nscope_by)
open C8 (pss_cut tCut)
/-! k08: words of frames alike -/
/-- a word of a frame like d -/
theorem WdIs.but {ks : Kinds} {CF CW : Addr} {H H' : Hp} {a p l : Addr} {cs : List Int} {n : Nat} {d : FrD} {gv : List (Str × Int)} (h : WdIs ks CF CW H a d gv) (hP : Pen H p l cs n) (b : But H H' p) : WdIs ks CF CW H' a d gv := by
  obtain ⟨f, dx, D, h1, h2, h3, h4⟩ := h.ex
  exact ⟨⟨f, dx, D, b.keep hP h1 (fun ys z => by cases z), b.keep hP h2 (fun ys z => by cases z), h3, h4.keepP hP b⟩, h.ok, h.t1, h.t3⟩
def WdT (ks : Kinds) (CF CW : Addr) (H : Hp) (a : Addr) (d : BareD) (gv : List (Str × Int)) : Prop := ∃ ys, KindsOf ks ys d.ds d.ls ∧ Told ks ys d ∧ WdIs ks CF CW H a ⟨ys, d.t, d.g, d.r⟩ gv
theorem WdT.same {ks : Kinds} {CF CW : Addr} {H H' : Hp} {a : Addr} {d : BareD} {gv : List (Str × Int)} (h : WdT ks CF CW H a d gv) (s : Same H H') : WdT ks CF CW H' a d gv := by
  obtain ⟨ys, hk, ht, hw⟩ := h
  exact ⟨ys, hk, ht, hw.same s⟩
theorem WdT.but {ks : Kinds} {CF CW : Addr} {H H' : Hp} {a p l : Addr} {cs : List Int} {n : Nat} {d : BareD} {gv : List (Str × Int)} (h : WdT ks CF CW H a d gv) (hP : Pen H p l cs n) (b : But H H' p) : WdT ks CF CW H' a d gv := by
  obtain ⟨ys, hk, ht, hw⟩ := h
  exact ⟨ys, hk, ht, hw.but hP b⟩
theorem WdT.ins {ks : Kinds} {CF CW : Addr} {H : Hp} {a : Addr} {d : BareD} {gv : List (Str × Int)} (h : WdT ks CF CW H a d gv) : ∃ dx fs, H a = some (.ins CW dx fs) := by
  obtain ⟨ys, hk, ht, hw⟩ := h
  exact hw.ins
abbrev sWrd : Stmt := top 44
theorem scWrd : FnScope ["_law_made", "_law_levels_so"] ["_law_made", "_law_levels_so"] (defScope sWrd) := ⟨rfl, rfl, rfl, by decide +kernel, rfl, by decide +kernel, by decide +kernel⟩
def spWrd (ks : Kinds) (CF CW : Addr) : Sp := fun vs H Q _ => ∃ f L d gv, vs = [.ref f, .ref L] ∧ FrIs ks CF H f d ∧ H L = some (.dK (gv.map lvRow)) ∧ LvOk ks d gv ∧ 1 ≤ d.t ∧ d.t ≤ 3 ∧ ∀ a H', H a = none → WdIs ks CF CW H' a d gv → Same H H' → Q (.ref a) H'
structure W8K (P : Program) (w : World) (K : PySem.W.Frag) (mg : Str → Option Value) (base : Heap) (ks : Kinds) (CF CW gO gR : Addr) : Prop where
  mW : mg "Word" = some (.ref CW)
  cls : ∃ mc pO pR, ClX.CRead K CW mc ∧ ClX.CMet K CW mc "of" pO gO ∧ ClX.CMet K CW mc "rest" pR gR
  of0 : FnK P w K mg base CX0 8 gO [] (fun vs zs H Q E => vs.length = 3 ∧ spWOf ks CF CW vs H Q E)
  re0 : FnK P w K mg base CX0 8 gR [] (fun vs zs H Q E => vs.length = 2 ∧ spWRest ks CF CW vs H Q E)
section
variable {P : Program} {w : World} {K : PySem.W.Frag} {mg : Str → Option Value} {base : Heap}
theorem ok_wrd {f CF CW gO gR : Addr} {fd : FuncData} {ks : Kinds} (F : Fun K "_law_word" "_law_word" sWrd f fd) (T : W8K P w K mg base ks CF CW gO gR) : FnOk P w K mg base CX0 9 f fd ["_law_made", "_law_levels_so"] (spWrd ks CF CW) := by
  obtain ⟨mcW, pO, pR, crW, cO, cR⟩ := T.cls
  refine F.ok scWrd (fun vs H Q E h => ?_) (fun cdv A outer s H vs Q E hr h => ?_)
  · obtain ⟨f, L, d, gv, rfl, _⟩ := h
    rfl
  · obtain ⟨f, L, d, gv, rfl, hF, hL, ok, t1, t3, k⟩ := h
    refine ⟨_, pss_one (ps_ret (pe_cmethK (pe_glob rfl T.mW (v := .ref CW) rfl) crW cO T.of0 hr pass0 (pa_cons (pv 0) (pa_cons (pv 1) pa_nil)) pk_nil)), ?_⟩
    exact ⟨rfl, _, rfl, _, rfl, rfl, rfl, f, L, d, gv, rfl, hF, hL, ok, t1, t3, fun a H' ha hw s _ => k a H' ha hw s⟩
end
end Sj
/-! o(x, ..) of an instance whose class has an own __call__ (where nothing is being shown) -/
namespace Grd
open PySem PySem.Spec PySem.Calls PyProof.Rows L2
section
variable {M : Model} {A : Around} {E : Value → Shared → Prop} {s : Shared} {K : PySem.W.Frag} {env : Env} {pos : Pos} {x C : Addr} {ox : Obj} {Q : Value → Shared → Prop}
theorem ci_args {as : List (Bool × Sem Value)} (plain : as.any (·.1) = false) (dat : ox.data = .plain)
    (w : wpAny M A (evalArgs (.ref x) true as []) (fun a t => (∃ od, PySem.W.InstAt t.heap x ox C od) ∧ wpAny M A (call (.ref x) a.pos a.kw) Q E t) E s) : wpAny M A (callWith pos (.ref x) [] as []) Q E s := by
  unfold callWith; refine wpAny_bind (wpAny_holding (wpAny_mono w (fun a t k => ?_) fun _ _ y => y)); obtain ⟨⟨od, J⟩, k⟩ := k
  refine wpAny_bind (wpAny_standAt ?_); simp only [plain, List.any_nil, Bool.or_false]
  have L := PySem.W.kco_keeper (M := M) J dat; refine wpAny_bind (L.here ?_)
  refine wpAny_bind (wpAny_mono (wpAny_operateT (by simpa using k)) (fun r t' q => ?_) fun _ _ y => y); exact wpAny_bind (wpAny_holding (wpAny_point (wpAny_pure q)))
end
open Own
section
variable {X : Cx} {CX : CXT} {k : Nat} {C : Addr} {sp : Sp} {E : XK} {ps : List Str} {x : Str} {e : Expr} {es : List Expr} {ta : TE} {t : TA} {p pos : Pos}
def tCallI (C : Addr) (sp : Sp) (E : XK) (ta : TE) (t : TA) : TE := fun σ H Q => ta σ H fun y H1 => ∃ a dx fs, y = .ref a ∧ H1 a = some (.ins C dx fs) ∧ t σ H1 fun vs H2 => (∃ gs, H2 a = some (.ins C dx gs)) ∧ sp (.ref a :: vs) H2 Q E
theorem pe_callI (M : MetG X.prog X.w X.K X.mg X.base CX k C "__call__" ps sp) (hG : X.A.guards = some []) (hr : Room k X.A) (hx : Passes CX X E) (hf : PE X (.Name x p) ta) (ha : PA X (e :: es) t)
    (hs : starEach (e :: es) X.env = (false, eval e X.env) :: starEach es X.env := by rfl) (hp : (backTo pos (starEach (e :: es) X.env)).any (·.1) = false := by rfl) :
    PE X (.Call (.Name x p) (e :: es) [] pos) (tCallI C sp E ta t) := by
  obtain ⟨f, fd, h1, h2, h3, F, hb⟩ := M
  refine ⟨fun pins s σ H Q I h => wpAny_Call_Name_kw (thn (hf.run pins s σ H _ I h) fun u s1 ⟨y, H1, I1, ry, a, dx, fs, ey, ea, q⟩ => ?_)⟩
  subst ey
  obtain rfl : u = Value.ref a := ry
  have hat : ∀ {H' : Hp} {s' : Shared} {gs : List (Str × V)}, Inv X pins σ H' s' → H' a = some (.ins C dx gs) → ∃ od, PySem.W.InstAt s'.heap a (PySem.W.instObj C dx) C od := fun {H' s' gs} J z => by
    obtain ⟨mA, O, _⟩ := ins_get J.hok z
    obtain ⟨od, L, _⟩ := O.look
    exact ⟨_, L⟩
  refine ci_args (C := C) (ox := PySem.W.instObj C dx) hp rfl ?_
  have key := ha.run pos pins s1 σ H1 _ I1 q
  rw [hs] at key ⊢
  refine evalArgs_plain (thn key fun us s2 ⟨vs, H2, I2, r, ⟨gs, ea2⟩, hsp⟩ => ⟨hat I2 ea2, ?_⟩)
  obtain ⟨od, J⟩ := hat I2 ea2
  have hl : (Value.ref a :: us ++ []).length = ps.length := by rw [List.append_nil, List.length_cons, ← r.length]; exact F.len _ _ _ _ hsp
  have hB := hb s2 (.ref a :: us) I2.kIn hl
  rw [List.append_nil] at hB
  refine wpAny_call (PySem.W.kco_code I2.kIn J rfl h1 h2 h3 (codeAny_mono (F.run X.A X.stack s2 H2 ⟨.ref a :: us, []⟩ (.ref a :: us) (.ref a :: vs) Q E hG hr I2.env0 hB (.cons rfl r) hsp) fun res s' hq => ?_))
  match res, hq with
  | .error e, hq => exact hx pins σ H2 s2 e s' I2 hq
  | .ok (.ret u), hq => exact I2.after hq
end
end Grd
namespace Sj
open PySem L2 Sup StK Own Shw Exg Grd KepE
open NdefX (NF NScope ncx envF startF nscope_by)
open C8 (pss_cut tCut)
/-! what a block, an element, a whole board reads at a word -/
/-- what an element is driven at -/
def eLv (ks : Kinds) (d : FrD) (gv : List (Str × Int)) (z : Str) : Int := if z ∈ names d.ys then wlv ks d gv z else if z = ("ground" : Str) then 0 else d.t
def IsMin (m : Int) (ns : List Int) : Prop := m ∈ ns ∧ ∀ y ∈ ns, m ≤ y
theorem IsMin.uniq {m n : Int} {ns : List Int} (h : IsMin m ns) (h' : IsMin n ns) : m = n := by
  have := h.2 n h'.1
  have := h'.2 m h.1
  omega
/-- what a block reads -/
def BlV (ks : Kinds) (d : FrD) (gv : List (Str × Int)) (zs : List Str) (v : Int) : Prop := (("power" : Str) ∈ zs ∧ v = d.t) ∨ (("power" : Str) ∉ zs ∧ IsMin v (zs.map (eLv ks d gv)))
theorem BlV.uniq {ks : Kinds} {d : FrD} {gv : List (Str × Int)} {zs : List Str} {v u : Int} (h : BlV ks d gv zs v) (h' : BlV ks d gv zs u) : v = u := by
  rcases h with ⟨a, e⟩ | ⟨a, e⟩ <;> rcases h' with ⟨b, e'⟩ | ⟨b, e'⟩
  · rw [e, e']
  · exact absurd a b
  · exact absurd b a
  · exact e.uniq e'
abbrev sBlv : Stmt := top 28
abbrev nBlv : List Str := ["block", "word", "name"]
theorem scBlv : FnScope nBlv ["block", "word"] (defScope sBlv) := ⟨rfl, rfl, rfl, by decide +kernel, rfl, by decide +kernel, by decide +kernel⟩
def teWg (K : PySem.W.Frag) (ks : Kinds) (CF CW CN : Addr) : TE := tItO CW (spWGet K ks CF CW CN) E0 (tVar 1) (tVar 2)
def spBlv (ks : Kinds) (CF CW : Addr) : Sp := fun vs H Q _ => ∃ (q a : Addr) (d : FrD) (gv : List (Str × Int)) (zs : List Str), vs = [.ref q, .ref a] ∧ H q = some (.tup (strv zs)) ∧ zs ≠ [] ∧ zs.length ≤ 60 ∧ (∀ z ∈ zs, z ∈ membZ d) ∧ WdIs ks CF CW H a d gv ∧
  ∀ v H', BlV ks d gv zs v → Same H H' → Q (.int v) H'
structure RdT (P : Program) (w : World) (K : PySem.W.Frag) (mg : Str → Option Value) (base : Heap) (ks : Kinds) (CF CW CN : Addr) : Prop where
  f : WfT P w K mg base ks CF CW
  wg : MetG P w K mg base (L2.CX P w) 3 CW "__getitem__" ["self", "at"] (spWGet K ks CF CW CN)
  min : mg "min" = none
section
variable {P : Program} {w : World} {K : PySem.W.Frag} {mg : Str → Option Value} {base : Heap}
theorem ok_blv {f CF CW CN : Addr} {fd : FuncData} {ks : Kinds} (F : Fun K "block_level" "block_level" sBlv f fd) (T : RdT P w K mg base ks CF CW CN) : FnG P w K mg base CX0 5 f fd ["block", "word"] (spBlv ks CF CW) := by
  refine fun_g F scBlv (fun vs H Q E h => ?_) (fun cdv A outer s H vs Q E hg hr h => ?_)
  · obtain ⟨q, a, d, gv, zs, rfl, _⟩ := h
    rfl
  refine ⟨_, pss_cons (ps_if (pt_cmpR op_in_seq pe_str (pv 0) (by rfl)) (pss_one (ps_ret (pe_fld (pe_fld (pv 1) rfl) rfl))) pss_nil)
    (pss_one (ps_ret (pe_callB (cr_min rfl) (by rfl) T.min (by decide +kernel) (pa_cons (pe_lc (te := teWg K ks CF CW CN) (tt := tYes) (own := [("name", 2)]) (g := gName 2) rfl scBlv.nd (pi_tup (pv 0)) (blkOk_by (N := nBlv) (sc := defScope sBlv) (by decide +kernel))
      (fun _ _ _ _ _ => pg_name (i := 2) scBlv.nd rfl (Or.inl rfl)) (fun _ _ _ _ _ => pts_nil) (fun _ _ _ _ _ => pe_itO T.wg hg hr (passNo rfl rfl) (pv 1) (pv 2))) pa_nil)))), ?_⟩
  obtain ⟨q, a, d, gv, zs, rfl, hq, ne, zl, zm, hW, k⟩ := h
  obtain ⟨fr, dx, D, ea, eD, hne, hF⟩ := id hW.ex
  obtain ⟨dy, DD, ef, _⟩ := hF.at_
  have hzl : (strv zs).length = zs.length := List.length_map _
  refine ⟨_, rfl, q, _, rfl, .inr (SqT.of hq), rfl, flat_strv _, _, rfl, ?_⟩
  rw [inV_strs]
  by_cases hp : ("power" : Str) ∈ zs
  · rw [decide_eq_true hp]
    exact iteT ⟨_, rfl, a, CW, dx, _, _, rfl, ea, T.f.cw, T.f.nF, wdF_frame _ _, fr, CF, dy, _, _, rfl, ef, T.f.cf, T.f.nT, frF_top _ _ _ _, k _ _ (.inl ⟨hp, rfl⟩) (Same.refl _)⟩
  rw [decide_eq_false hp]
  refine iteF ⟨_, rfl, q, rfl, ⟨_, SqT.of hq⟩, fun D1 hD1 => ?_⟩
  refine lc_it (walk_tup (K := K) (a := q) (xs := strv zs)) (fun i H' => Same H H' ∧ H' D1 = some (.lst (((zs.take i).map (eLv ks d gv)).map V.int))) ⟨same_at hD1, upd_same⟩ (fun i H' _ p => SqT.of (p.1 _ _ hq)) ?_ ?_
  · rintro i x Ho Ha hi ⟨sa, da⟩ ⟨rfl, hx⟩
    rw [hzl] at hi
    obtain ⟨z, ez⟩ : ∃ z, z = zs[i] := ⟨_, rfl⟩
    have exi : (strv zs)[i]? = some (.str z) := by show (zs.map V.str)[i]? = _; rw [List.getElem?_map, List.getElem?_eq_getElem hi, ez]; rfl
    rw [exi] at hx
    obtain rfl := Option.some.inj hx
    have hz : z ∈ zs := by rw [ez]; exact List.getElem_mem hi
    have fin : ∀ H', Same Ha H' → ∃ acc, H' D1 = some (.lst acc) ∧ acc.length < sizeLine ∧ (Same H (upd H' D1 (.lst (acc ++ [.int (eLv ks d gv z)]))) ∧ upd H' D1 (.lst (acc ++ [.int (eLv ks d gv z)])) D1 = some (.lst (((zs.take (i + 1)).map (eLv ks d gv)).map V.int))) := fun H' s => by
      refine ⟨_, s _ _ da, ?_, fun c u e => ?_, ?_⟩
      · rw [List.length_map, List.length_map, List.length_take]
        exact Nat.lt_of_le_of_lt (show min i zs.length ≤ 60 by omega) (by decide)
      · rw [upd_ne (ne_of_none e hD1)]
        exact s _ _ (sa _ _ e)
      · rw [upd_same, List.take_add_one, List.getElem?_eq_getElem hi, ← ez, Option.toList_some, List.map_append, List.map_append]
        rfl
    refine ⟨rfl, ?_⟩
    unfold tYes
    dsimp only
    rw [if_pos rfl]
    refine ⟨_, rfl, _, rfl, a, dx, _, rfl, sa _ _ ea, a, d, gv, _, rfl, hW.same sa, ?_⟩
    by_cases hn : z ∈ names d.ys
    · refine .inl ⟨z, hn, rfl, ?_⟩
      have := fin Ha (Same.refl _)
      rw [show eLv ks d gv z = wlv ks d gv z from if_pos hn] at this
      exact this
    · have hr' : z ∈ railsZ d.g d.r := (List.mem_append.mp (zm z hz)).resolve_left hn
      refine .inr (.inl ⟨z, hr', rfl, hn, fun H' s => ?_⟩)
      have := fin H' s
      rw [show eLv ks d gv z = if z = ("ground" : Str) then 0 else d.t from if_neg hn] at this
      exact this
  rintro H1 ⟨s1, d1⟩
  rw [hzl, List.take_length] at d1
  refine ⟨D1, zs.map (eLv ks d gv), rfl, SqL.of d1, ?_, fun m hm hle => k m H1 (.inr ⟨hp, hm, hle⟩) s1⟩
  rw [List.length_map]
  exact List.length_pos_iff.mpr ne
end
end Sj
namespace Sj
open PySem L2 Sup StK Own Shw Exg Grd KepE
open NdefX (NF NScope ncx envF startF nscope_by)
open C8 (pss_cut tCut)
/-! Board.reads, a board called with a word -/
abbrev sRds : Stmt := inClass (top 25) 4
abbrev sCal : Stmt := inClass (top 25) 7
abbrev nCal : List Str := ["self", "word", "levels", "block", "level", "name"]
theorem scRds : FnScope ["self", "word", "name"] ["self", "word", "name"] (defScope sRds) := ⟨rfl, rfl, rfl, by decide +kernel, rfl, by decide +kernel, by decide +kernel⟩
theorem scCal : FnScope nCal ["self", "word"] (defScope sCal) := ⟨rfl, rfl, rfl, by decide +kernel, rfl, by decide +kernel, by decide +kernel⟩
/-- the rows of a board are of its frame -/
structure RowOk (d : FrD) (L : List (Addr × List Str)) : Prop where
  mem : ∀ y ∈ L, ∀ z ∈ y.2, z ∈ membZ d
  le : ∀ y ∈ L, y.2.length ≤ 60
def spRds (K : PySem.W.Frag) (ks : Kinds) (CF CB CW : Addr) : Sp := fun vs H Q _ => ∃ (o a m : Addr) (d : FrD) (gv : List (Str × Int)) (L : List (Addr × List Str)) (y : Addr × List Str) (z : Str), vs = [.ref o, .ref a, .str z] ∧ BoAt H o CB m L ∧ FrIs ks CF H m d ∧ WdIs ks CF CW H a d gv ∧ RowOk d L ∧ y ∈ L ∧ z ∈ y.2 ∧
  ∀ v H', BlV ks d gv y.2 v → Same H H' → Q (.int v) H'
def spCal (K : PySem.W.Frag) (ks : Kinds) (CF CB CW : Addr) : Sp := fun vs H Q _ => ∃ (o a m : Addr) (d : FrD) (gv : List (Str × Int)) (L : List (Addr × List Str)), vs = [.ref o, .ref a] ∧ BoAt H o CB m L ∧ FrIs ks CF H m d ∧ WdIs ks CF CW H a d gv ∧ RowOk d L ∧ (L.map (·.2)).flatten.Nodup ∧ (L.map (·.2)).flatten.length ≤ 60 ∧ (∀ z ∈ names d.ys, ∃ y ∈ L, z ∈ y.2) ∧
  ∀ D (g : Str → Int) H', (∀ y ∈ L, ∀ z ∈ y.2, BlV ks d gv y.2 (g z)) → H D = none → H' D = some (.dK (((names d.ys).map fun z => (z, g z)).map lvRow)) → Same H H' → Q (.ref D) H'
structure ReT (P : Program) (w : World) (K : PySem.W.Frag) (mg : Str → Option Value) (base : Heap) (ks : Kinds) (CF CB CW CN : Addr) : Prop where
  cl : Cls K CB
  nF : NoAttr K CB "frame"
  nB : NoAttr K CB "_blocks"
  get : MetG P w K mg base (L2.CX P w) 4 CB "__getitem__" ["self", "at"] (spBGet K ks CF CB CN)
  blv : ∃ f fd, mg "block_level" = some (.ref f) ∧ PySem.W.keepIn K (.ref f) = true ∧ Binds K fd ["block", "word"] [] ∧ FnG P w K mg base CX0 5 f fd ["block", "word"] (spBlv ks CF CW)
  nms : PropN P w K mg base 1 CF "names" (spTup ks CF fun d => names d.ys)
section
variable {P : Program} {w : World} {K : PySem.W.Frag} {mg : Str → Option Value} {base : Heap}
theorem ok_rds {f CF CB CW CN : Addr} {fd : FuncData} {ks : Kinds} (F : Fun K "reads" "Board.reads" sRds f fd) (T : ReT P w K mg base ks CF CB CW CN) : FnG P w K mg base CX0 6 f fd ["self", "word", "name"] (spRds K ks CF CB CW) := by
  obtain ⟨fV, fdV, mV, kV, bV, GV⟩ := T.blv
  refine fun_g F scRds (fun vs H Q E h => ?_) (fun cdv A outer s H vs Q E hg hr h => ?_)
  · obtain ⟨o, a, m, d, gv, L, y, z, rfl, _⟩ := h
    rfl
  refine ⟨_, pss_one (ps_ret (pe_callG GV hg hr rfl mV kV bV pass0 (pa_cons (pe_itO T.get hg hr (passNo rfl rfl) (pv 0) (pv 2)) (pa_cons (pv 1) pa_nil)))), ?_⟩
  obtain ⟨o, a, m, d, gv, L, y, z, rfl, hB, hF, hW, ok, hy, hz, k⟩ := h
  obtain ⟨dx, B, D, hs, h1, h2, h3, h4, h5⟩ := id hB
  refine ⟨_, rfl, _, rfl, o, dx, _, rfl, h1, o, m, d, L, _, rfl, hB, hF, .inl ⟨y, hy, z, hz, rfl, ok.mem y hy z hz, fun H1 s1 => ⟨_, rfl, y.1, a, d, gv, y.2, rfl, s1 _ _ (h3 y hy).1, (h3 y hy).2, ok.le y hy, ok.mem y hy, hW.same s1, fun v H2 hv s2 => k v H2 hv (s1.trans s2)⟩⟩⟩
theorem ok_cal {f CF CB CW CN : Addr} {fd : FuncData} {ks : Kinds} (F : Fun K "__call__" "Board.__call__" sCal f fd) (T : ReT P w K mg base ks CF CB CW CN) : FnG P w K mg base CX0 6 f fd ["self", "word"] (spCal K ks CF CB CW) := by
  obtain ⟨fV, fdV, mV, kV, bV, GV⟩ := T.blv
  refine fun_g F scCal (fun vs H Q E h => ?_) (fun cdv A outer s H vs Q E hg hr h => ?_)
  · obtain ⟨o, a, m, d, gv, L, rfl, _⟩ := h
    rfl
  have hu := hu_of hr
  refine ⟨_, pss_cons (ps_set (i := 2) scCal.nd rfl (Or.inr rfl) pe_dnewK)
    (pss_cons (ps_for PassesOwn.never rfl (pi_tup (pe_fld (pv 0) rfl)) (pg_name (i := 3) scCal.nd rfl (Or.inl rfl))
      (pss_cons (ps_set (i := 4) scCal.nd rfl (Or.inl rfl) (pe_callG GV hg hr rfl mV kV bV pass0 (pa_cons (pv 3) (pa_cons (pv 1) pa_nil))))
      (pss_one (ps_for PassesOwn.never rfl (pi_tup (pv 3)) (pg_name (i := 5) scCal.nd rfl (Or.inl rfl)) (pss_one (ps_dput hu (pv 2) (pv 5) (pv 4) rfl))))))
    (pss_one (ps_ret (pe_dc (tk := tVar 5) (tv := tDGet (tVar 2) (tVar 5)) (own := [("name", 5)]) (g := gName 5) (tt := tYes) rfl scCal.nd (pi_tup (pe_propS (S := fun C => C = CF) (spP := fun _ => spTup ks CF fun d => names d.ys) (pe_fld (pv 0) rfl) (fun C e => by rw [e]; exact T.nms) (hr.mono (by decide)))) (blkOk_by (N := nCal) (sc := defScope sCal) (by decide +kernel))
      (fun _ _ _ _ _ => pg_name (i := 5) scCal.nd rfl (Or.inl rfl)) (fun _ _ _ _ _ => pts_nil) (fun _ _ _ _ _ => pv 5) (fun _ _ _ _ _ => pe_dget hu (pv 2) (pv 5) (fun _ _ => rfl)))))), ?_⟩
  obtain ⟨o, a, m, d, gv, L, rfl, hB, hF, hW, ok, nd, fl, cov, k⟩ := h
  obtain ⟨dx, B, D0, hs, h1, h2, h3, h4, h5⟩ := id hB
  have hLl : (refsB L).length = L.length := List.length_map _
  obtain ⟨dxf, fsf, eaf⟩ := hF.ins
  refine fun D hD => ?_
  obtain ⟨H1, e1⟩ : ∃ H1, H1 = upd H D (.dK []) := ⟨_, rfl⟩
  have s01 : Same H H1 := by rw [e1]; exact same_at hD
  have hD1 : H1 D = some (.dK []) := by rw [e1, upd_same]
  rw [← e1]
  refine ⟨_, rfl, o, CB, dx, _, _, rfl, s01 _ _ h1, T.cl, T.nB, boF_blocks _ _ _, B, rfl, ⟨_, SqT.of (s01 _ _ h2)⟩, for_it (walk_tup (K := K) (a := B) (xs := refsB L)) (fun i σ H' => ∃ o3 o4 o5 kvs, σ = ([some (.ref o), some (.ref a), some (.ref D), o3, o4, o5] : L2.St) ∧ Same H H' ∧ H' D = some (.dK kvs) ∧ kvs.length ≤ ((L.take i).map (·.2)).flatten.length ∧ ∀ y ∈ L.take i, ∀ z ∈ y.2, ∃ v, valV kvs (Sum.inr z) = some (.int v) ∧ BlV ks d gv y.2 v)
    ⟨none, none, none, [], rfl, s01, hD1, Nat.zero_le _, fun y hy => by cases hy⟩ (fun i σ H' _ h => SqT.of (h.choose_spec.choose_spec.choose_spec.choose_spec.2.1 _ _ h2)) ?_ ?_⟩
  · rintro i x σ Ho Ha hi ⟨o3, o4, o5, kvs, rfl, sa, da, kl, kv⟩ ⟨rfl, hx⟩
    rw [hLl] at hi
    obtain ⟨y, ey0⟩ : ∃ y, y = L[i] := ⟨_, rfl⟩
    have ey : L[i]? = some y := by rw [ey0]; exact List.getElem?_eq_getElem hi
    have ex : (refsB L)[i]? = some (.ref y.1) := by unfold refsB; rw [List.getElem?_map, ey]; rfl
    rw [ex] at hx
    obtain rfl := Option.some.inj hx
    have ymem := List.mem_of_getElem? ey
    have yL : y.2 ∈ L.map (·.2) := List.mem_map.mpr ⟨y, ymem, rfl⟩
    have hyl : (strv y.2).length = y.2.length := List.length_map _
    have etk : ((L.take (i + 1)).map (·.2)).flatten = ((L.take i).map (·.2)).flatten ++ y.2 := by
      rw [List.take_add_one, ey, Option.toList_some, List.map_append, List.flatten_append]
      show _ = _ ++ y.2
      rw [show ([y].map (·.2)).flatten = y.2 from by rw [List.map_singleton, List.flatten_singleton]]
    have tot : ((L.take i).map (·.2)).flatten.length + y.2.length ≤ 60 := by
      have h : ((L.take (i + 1)).map (·.2)).flatten.length ≤ (L.map (·.2)).flatten.length := by
        have q : (L.map (·.2)).flatten = ((L.take (i + 1)).map (·.2)).flatten ++ ((L.drop (i + 1)).map (·.2)).flatten := by rw [← List.flatten_append, ← List.map_append, List.take_append_drop]
        rw [q, List.length_append]
        omega
      rw [etk, List.length_append] at h
      omega
    refine ⟨_, rfl, _, rfl, y.1, a, d, gv, y.2, rfl, sa _ _ (h3 y ymem).1, (h3 y ymem).2, ok.le y ymem, ok.mem y ymem, hW.same sa, fun v Hb hv sab => ?_⟩
    have sb := sa.trans sab
    refine ⟨_, rfl, y.1, rfl, ⟨_, SqT.of (sb _ _ (h3 y ymem).1)⟩, for_it (walk_tup (K := K) (a := y.1) (xs := strv y.2)) (fun j σ H' => ∃ o5 kvs, σ = ([some (.ref o), some (.ref a), some (.ref D), some (.ref y.1), some (.int v), o5] : L2.St) ∧ Same H H' ∧ H' D = some (.dK kvs) ∧ kvs.length ≤ ((L.take i).map (·.2)).flatten.length + j ∧ (∀ y ∈ L.take i, ∀ z ∈ y.2, ∃ v, valV kvs (Sum.inr z) = some (.int v) ∧ BlV ks d gv y.2 v) ∧ ∀ z ∈ y.2.take j, valV kvs (Sum.inr z) = some (.int v))
      ⟨_, kvs, rfl, sb, sab _ _ da, kl, kv, fun z hz => by cases hz⟩ (fun j σ H' _ h => SqT.of (h.choose_spec.choose_spec.2.1 _ _ (h3 y ymem).1)) ?_ ?_⟩
    · rintro j x σ Hc Hd hj ⟨o5', kvs', rfl, sc, dc, kl', kv', kw⟩ ⟨rfl, hxj⟩
      rw [hyl] at hj
      obtain ⟨z, ez⟩ : ∃ z, z = y.2[j] := ⟨_, rfl⟩
      have exj : (strv y.2)[j]? = some (.str z) := by show (y.2.map V.str)[j]? = _; rw [List.getElem?_map, List.getElem?_eq_getElem hj, ez]; rfl
      rw [exj] at hxj
      obtain rfl := Option.some.inj hxj
      have hz : z ∈ y.2 := by rw [ez]; exact List.getElem_mem hj
      refine ⟨_, rfl, _, rfl, _, rfl, D, _, rfl, DPut.k (k := Sum.inr z) dc (Nat.lt_of_le_of_lt (show kvs'.length ≤ 60 by omega) (by decide)), _, putK kvs' (Sum.inr z) (.int v), rfl, fun c u e => ?_, upd_same, ?_, fun y' hy' z' hz' => ?_, fun z' hz' => ?_⟩
      · rw [upd_ne (ne_of_none e hD)]
        exact sc _ _ e
      · have := length_putK kvs' (Sum.inr z : Key) (.int v)
        omega
      · rw [valV_put]
        by_cases e : z' = z
        · rw [if_pos (by rw [e])]
          have hy2 := List.mem_of_mem_take hy'
          have := rows_disj nd (List.mem_map.mpr ⟨y', hy2, rfl⟩) yL hz' (by rw [e]; exact hz)
          exact ⟨v, rfl, by rw [this]; exact hv⟩
        · rw [if_neg (fun q => e (Sum.inr.inj q))]
          exact kv' y' hy' z' hz'
      · rw [valV_put]
        by_cases e : z' = z
        · rw [if_pos (by rw [e])]
        · rw [if_neg (fun q => e (Sum.inr.inj q))]
          rw [List.take_add_one, List.getElem?_eq_getElem hj, ← ez, Option.toList_some] at hz'
          rcases List.mem_append.mp hz' with q | q
          · exact kw z' q
          · exact absurd (List.mem_singleton.mp q) e
    · rintro σ He ⟨o5', kvs', rfl, se, de, kl', kv', kw⟩
      rw [hyl, List.take_length] at kw
      refine ⟨_, _, _, kvs', rfl, se, de, ?_, fun y' hy' z' hz' => ?_⟩
      · rw [etk, List.length_append]
        rw [hyl] at kl'
        exact kl'
      · rw [List.take_add_one, ey, Option.toList_some] at hy'
        rcases List.mem_append.mp hy' with q | q
        · exact kv' y' q z' hz'
        · rw [List.mem_singleton.mp q] at hz' ⊢
          exact ⟨v, kw z' hz', hv⟩
  rintro σ H2 ⟨o3, o4, o5, kvs, rfl, s02, d2, kl, kv⟩
  rw [hLl, List.take_length] at kv
  obtain ⟨g, hg⟩ : ∃ g : Str → Int, ∀ y ∈ L, ∀ z ∈ y.2, valV kvs (Sum.inr z) = some (.int (g z)) ∧ BlV ks d gv y.2 (g z) := by
    refine ⟨fun z => match valV kvs (Sum.inr z) with | some (.int v) => v | _ => 0, fun y hy z hz => ?_⟩
    obtain ⟨v, e, hv⟩ := kv y hy z hz
    dsimp only
    rw [e]
    exact ⟨rfl, hv⟩
  refine ⟨_, rfl, o, CB, dx, _, _, rfl, s02 _ _ h1, T.cl, T.nF, boF_frame _ _ _, m, CF, dxf, fsf, rfl, s02 _ _ eaf, rfl, m, d, rfl, hF.same s02, fun p H3 hp0 hp s23 => ⟨p, rfl, ⟨_, SqT.of hp⟩, fun D2 hD2 => ?_⟩⟩
  have s03 := s02.trans s23
  have hnl : (strv (names d.ys)).length = (names d.ys).length := List.length_map _
  refine SetT.dict_it (walk_tup (K := K) (a := p) (xs := strv (names d.ys))) (fun i H' => Same H3 H' ∧ H' D2 = some (.dK ((((names d.ys).take i).map fun z => (z, g z)).map lvRow))) ⟨same_at hD2, upd_same⟩ (fun i H' _ q => SqT.of (q.1 _ _ hp)) ?_ ?_
  · rintro i x Ho Ha hi ⟨sa, da⟩ ⟨rfl, hx⟩
    rw [hnl] at hi
    obtain ⟨z, ez⟩ : ∃ z, z = (names d.ys)[i] := ⟨_, rfl⟩
    have exi : (strv (names d.ys))[i]? = some (.str z) := by show ((names d.ys).map V.str)[i]? = _; rw [List.getElem?_map, List.getElem?_eq_getElem hi, ez]; rfl
    rw [exi] at hx
    obtain rfl := Option.some.inj hx
    have hz : z ∈ names d.ys := by rw [ez]; exact List.getElem_mem hi
    obtain ⟨y, hy, hzy⟩ := cov z hz
    have hout : valV ((((names d.ys).take i).map fun z => (z, g z)).map lvRow) (Sum.inr z) = none := by
      rw [valV_lv]
      cases e : lvG (((names d.ys).take i).map fun z => (z, g z)) z with
      | none => rfl
      | some j =>
        obtain ⟨z', hz', ez'⟩ := List.mem_map.mp (lvG_mem e)
        have e2 : z' = (names d.ys)[i] := (congrArg Prod.fst ez').trans ez
        obtain ⟨j, hj, ej⟩ := List.getElem_of_mem hz'
        rw [List.length_take] at hj
        rw [List.getElem_take, e2] at ej
        have := (List.getElem_inj hF.nd).mp ej
        omega
    refine ⟨rfl, ?_⟩
    unfold tYes
    dsimp only
    rw [if_pos rfl]
    refine ⟨_, rfl, _, rfl, _, rfl, D, _, rfl, by rw [← (hg y hy z hzy).1]; exact DGet.k (k := Sum.inr z) (s23.trans sa _ _ d2), _, Sum.inr z, rfl, da, ?_, fun c u e => ?_, ?_⟩
    · rw [List.length_map, List.length_map, List.length_take]
      have := hF.le
      have q : (names d.ys).length = d.ys.length := List.length_map _
      exact Nat.lt_of_le_of_lt (show min i (names d.ys).length ≤ 40 by omega) (by decide)
    · rw [upd_ne (ne_of_none e hD2)]
      exact sa _ _ e
    · rw [upd_same, putK_new _ hout, List.take_add_one, List.getElem?_eq_getElem hi, ← ez, Option.toList_some, List.map_append, List.map_append]
      rfl
  · rintro H4 ⟨s34, d4⟩
    rw [hnl, List.take_length] at d4
    exact k D2 g H4 (fun y hy z hz => (hg y hy z hz).2) (s03.free hD2) d4 (s03.trans s34)
end
end Sj
namespace Sj
open PySem L2 Sup StK Own Shw Exg Grd KepE
/-! k15: what joined, parted, held together reads -/
section
variable {ks : Kinds} {d : BareD} {fr : FrD} {gv hv : List (Str × Int)} {R S T : List (List Str)}
theorem lvMin_le (i j : Int) : lvMin i j ≤ i ∧ lvMin i j ≤ j ∧ (lvMin i j = i ∨ lvMin i j = j) := by
  unfold lvMin
  split
  · exact ⟨by omega, by omega, .inr rfl⟩
  · exact ⟨by omega, by omega, .inl rfl⟩
theorem lvMin_self (i : Int) : lvMin i i = i := by
  unfold lvMin
  split <;> rfl
theorem eLv_nn (ok : LvOk ks fr gv) (ht : 0 ≤ fr.t) (z : Str) : 0 ≤ eLv ks fr gv z := by
  unfold eLv
  split
  · rw [wlv_eq]
    split
    · exact (lvl_le ok ht z).1
    · exact ht
  · split
    · exact Int.le_refl _
    · exact ht
theorem isMin_map {f : Str → Int} {zs : List Str} {m : Int} : IsMin m (zs.map f) ↔ (∃ z ∈ zs, f z = m) ∧ ∀ z ∈ zs, m ≤ f z := by
  unfold IsMin
  rw [List.mem_map]
  refine and_congr Iff.rfl ⟨fun h z hz => h _ (List.mem_map.mpr ⟨z, hz, rfl⟩), fun h y hy => ?_⟩
  obtain ⟨z, hz, rfl⟩ := List.mem_map.mp hy
  exact h z hz
theorem BlV.low {zs : List Str} {v : Int} (h : BlV ks fr gv zs v) (np : ("power" : Str) ∉ zs) : (∃ z ∈ zs, eLv ks fr gv z = v) ∧ ∀ z ∈ zs, v ≤ eLv ks fr gv z := by
  rcases h with ⟨a, _⟩ | ⟨_, h⟩
  · exact absurd a np
  · exact isMin_map.mp h
theorem BlV.of {zs : List Str} {v : Int} (np : ("power" : Str) ∉ zs) (h1 : ∃ z ∈ zs, eLv ks fr gv z = v) (h2 : ∀ z ∈ zs, v ≤ eLv ks fr gv z) : BlV ks fr gv zs v := .inr ⟨np, isMin_map.mpr ⟨h1, h2⟩⟩
/-- the row of an element lies within its row of what is coarser -/
theorem row_in (ok : d.ok) (hT : Brd d T) (le : Le R T) {r t : List Str} {z : Str} (hr : r ∈ R) (ht : t ∈ T) (zr : z ∈ r) (zt : z ∈ t) : ∀ y ∈ r, y ∈ t := by
  obtain ⟨s, hs, q⟩ := le r hr
  rw [rows_disj (hT.nd ok) ht hs zt (q z zr)]
  exact q
theorem due_eq (ok : d.ok) (J : Jn d R S T) (hR : Brd d R) (hS : Brd d S) {g1 g2 : Str → Int} (h1 : ∀ r ∈ R, ∀ z ∈ r, BlV ks fr gv r (g1 z)) (h2 : ∀ r ∈ S, ∀ z ∈ r, BlV ks fr gv r (g2 z)) {B : List Str} {u v : Int} (hB : B ∈ T) (hv : BlV ks fr gv B v)
    (np : ("power" : Str) ∉ B) {zs : List Str} (hz : ∀ z, z ∈ zs ↔ z ∈ B) (hu : IsMin u (zs.map fun z => lvMin (g1 z) (g2 z))) : u = v := by
  obtain ⟨⟨z0, m0, e0⟩, lo⟩ := hv.low np
  obtain ⟨⟨z1, m1, e1⟩, lu⟩ := isMin_map.mp hu
  have mB : ∀ z ∈ B, z ∈ memB d := fun z h => J.brd.fl.mem_iff.mp (List.mem_flatten.mpr ⟨B, hB, h⟩)
  have part : ∀ {Q : List (List Str)} {g : Str → Int}, Brd d Q → Le Q T → (∀ r ∈ Q, ∀ z ∈ r, BlV ks fr gv r (g z)) → ∀ z ∈ B, v ≤ g z ∧ g z ≤ eLv ks fr gv z := fun {Q g} hQ le h z hz => by
    obtain ⟨r, hr, zr⟩ := hQ.row (mB z hz)
    have sub := row_in ok J.brd le hr hB zr hz
    obtain ⟨⟨y, hy, ey⟩, l⟩ := (h r hr z zr).low fun q => np (sub _ q)
    exact ⟨by rw [← ey]; exact lo y (sub y hy), l z zr⟩
  have b1 := (hz z1).mp m1
  have p1 := part hR J.l h1
  have p2 := part hS J.r h2
  have q1 := p1 z1 b1
  have q2 := p2 z1 b1
  have m1' := lvMin_le (g1 z1) (g2 z1)
  have l0 := lu z0 ((hz z0).mpr m0)
  have m0' := lvMin_le (g1 z0) (g2 z0)
  have q0 := p1 z0 m0
  refine Int.le_antisymm (by omega) ?_
  rcases m1'.2.2 with e | e <;> omega
theorem blv_ground (ok : LvOk ks fr gv) (ht : 0 ≤ fr.t) (ng : ("ground" : Str) ∉ names fr.ys) {B : List Str} {v : Int} (h : BlV ks fr gv B v) (np : ("power" : Str) ∉ B) (hg : ("ground" : Str) ∈ B) : v = 0 := by
  obtain ⟨⟨z, hz, e⟩, l⟩ := h.low np
  have h1 := l _ hg
  rw [show eLv ks fr gv "ground" = 0 from by unfold eLv; rw [if_neg ng, if_pos rfl]] at h1
  have := eLv_nn ok ht z
  omega
theorem out_lone (O : Ot d z R T) {s : List Str} (hs : s ∈ T) (zs : z ∈ s) (zp : z ≠ ("power" : Str)) {u : Int} (h : BlV ks fr gv s u) : u = eLv ks fr gv z := by
  obtain ⟨o, ho, q⟩ := O.b s hs
  have one : ∀ y ∈ s, y = z := fun y hy => by
    rcases List.mem_append.mp ho with ho | ho
    · obtain ⟨_, b, _, e⟩ := outR_mem ho
      have := q z zs
      rw [e] at this
      exact absurd rfl (offZ_mem.mp this).2
    · have := q y hy
      rw [List.mem_singleton.mp ho] at this
      exact List.mem_singleton.mp this
  obtain ⟨⟨y, hy, e⟩, _⟩ := h.low fun q => zp (one _ q).symm
  rw [← e, one y hy]
theorem out_mate (ok : d.ok) (hR : Brd d R) (O : Ot d z R T) {r s : List Str} {y : Str} (hr : r ∈ R) (hs : s ∈ T) (zr : z ∈ r) (yr : y ∈ r) (yz : y ≠ z) (ys : y ∈ s) (np : ("power" : Str) ∉ r) {u v : Int} (hu : BlV ks fr gv s u) (hv : BlV ks fr gv r v) : lvMin u (eLv ks fr gv z) = v := by
  have sub : ∀ x ∈ s, x ∈ r ∧ x ≠ z := by
    obtain ⟨o, ho, q⟩ := O.b s hs
    rcases List.mem_append.mp ho with ho | ho
    · obtain ⟨_, b, hb, e⟩ := outR_mem ho
      rw [e] at q
      have := rows_disj (hR.nd ok) hb hr (offZ_mem.mp (q y ys)).1 yr
      rw [this] at q
      exact fun x hx => offZ_mem.mp (q x hx)
    · rw [List.mem_singleton.mp ho] at q
      exact absurd (List.mem_singleton.mp (q y ys)) yz
  have sup : ∀ x ∈ r, x ≠ z → x ∈ s := by
    have ne : offZ z r ≠ [] := fun e => by
      have : y ∈ offZ z r := offZ_mem.mpr ⟨yr, yz⟩
      rw [e] at this
      cases this
    have : offZ z r ∈ outO z R := List.mem_append_left _ (List.mem_filter.mpr ⟨List.mem_map.mpr ⟨r, hr, rfl⟩, by
      cases h : offZ z r with
      | nil => exact absurd h ne
      | cons => rfl⟩)
    obtain ⟨t, ht, q⟩ := O.a _ this
    rw [rows_disj (O.brd.nd ok) hs ht ys (q y (offZ_mem.mpr ⟨yr, yz⟩))]
    exact fun x hx xz => q x (offZ_mem.mpr ⟨hx, xz⟩)
  obtain ⟨⟨a, ha, ea⟩, la⟩ := hu.low fun q => np (sub _ q).1
  obtain ⟨⟨b, hb, eb⟩, lb⟩ := hv.low np
  have m := lvMin_le u (eLv ks fr gv z)
  have h1 := lb a (sub a ha).1
  have h2 := lb z zr
  refine Int.le_antisymm ?_ (by rcases m.2.2 with e | e <;> omega)
  by_cases e : b = z
  · rw [e] at eb
    omega
  · have := la b (sup b hb e)
    omega
theorem eLv_min (nd : (kindZ ks true fr.ys).Nodup) (z : Str) : eLv ks fr (minL ks fr fr gv hv) z = lvMin (eLv ks fr gv z) (eLv ks fr hv z) := by
  unfold eLv
  by_cases hn : z ∈ names fr.ys
  · rw [if_pos hn, if_pos hn, if_pos hn, wlv_eq, wlv_eq, wlv_eq]
    by_cases hk : z ∈ kindZ ks true fr.ys
    · rw [if_pos hk, if_pos hk, if_pos hk]
      unfold minL
      exact lvl_map nd hk
    · rw [if_neg hk, if_neg hk, if_neg hk, lvMin_self]
  · rw [if_neg hn, if_neg hn, if_neg hn, lvMin_self]
theorem words_min (nd : (kindZ ks true fr.ys).Nodup) {r : List Str} {a b c : Int} (ha : BlV ks fr gv r a) (hb : BlV ks fr hv r b) (hc : BlV ks fr (minL ks fr fr gv hv) r c) : c = lvMin a b := by
  by_cases hp : ("power" : Str) ∈ r
  · have top : ∀ {gv : List (Str × Int)} {v : Int}, BlV ks fr gv r v → v = fr.t := fun {gv v} h => by
      rcases h with ⟨_, e⟩ | ⟨n, _⟩
      · exact e
      · exact absurd hp n
    rw [top ha, top hb, top hc, lvMin_self]
  obtain ⟨⟨x, hx, ex⟩, lx⟩ := ha.low hp
  obtain ⟨⟨y, hy, ey⟩, ly⟩ := hb.low hp
  obtain ⟨⟨w, hw, ew⟩, lw⟩ := hc.low hp
  rw [eLv_min nd] at ew
  have h1 := lw x hx
  have h2 := lw y hy
  rw [eLv_min nd] at h1 h2
  have m1 := lvMin_le (eLv ks fr gv x) (eLv ks fr hv x)
  have m2 := lvMin_le (eLv ks fr gv y) (eLv ks fr hv y)
  have m3 := lvMin_le (eLv ks fr gv w) (eLv ks fr hv w)
  have m4 := lvMin_le a b
  have k1 := lx w hw
  have k2 := ly w hw
  rcases m3.2.2 with e | e <;> rcases m4.2.2 with e' | e' <;> omega
theorem mono_le (ok : d.ok) (hT : Brd d T) (le : Le R T) {r s : List Str} {z : Str} (hr : r ∈ R) (hs : s ∈ T) (zr : z ∈ r) (zs : z ∈ s) (np : ("power" : Str) ∉ s) {a b : Int} (ha : BlV ks fr gv r a) (hb : BlV ks fr gv s b) : b ≤ a := by
  have sub := row_in ok hT le hr hs zr zs
  obtain ⟨⟨x, hx, ex⟩, _⟩ := ha.low fun q => np (sub _ q)
  have := (hb.low np).2 x (sub x hx)
  omega
theorem rest_eq (ht : 0 ≤ fr.t) (ng : ("ground" : Str) ∉ names fr.ys) {r : List Str} {v : Int} (h : BlV ks fr [] r v) (gp : ¬ (("ground" : Str) ∈ r ∧ ("power" : Str) ∈ r)) : v = if ("ground" : Str) ∈ r then 0 else fr.t := by
  have top : ∀ z, z ≠ ("ground" : Str) → eLv ks fr [] z = fr.t := fun z e => by
    unfold eLv
    split
    · rw [wlv_eq]
      split <;> rfl
    · first | rfl | rw [if_neg e]
  by_cases hg : ("ground" : Str) ∈ r
  · rw [if_pos hg]
    exact blv_ground ⟨Nat.zero_le _, fun p hp => by cases hp⟩ ht ng h (fun q => gp ⟨hg, q⟩) hg
  · rw [if_neg hg]
    rcases h with ⟨_, e⟩ | ⟨_, h⟩
    · exact e
    · obtain ⟨⟨z, hz, e⟩, _⟩ := isMin_map.mp h
      rw [← e]
      exact top z fun q => hg (by rw [← q]; exact hz)
end
end Sj
namespace Sj
open PySem L2 Sup StK Own Shw Exg Grd KepE
/-! k15: boards of a frame, power too, as they are made, joined, read -/
structure Sv (K : PySem.W.Frag) (ks : Kinds) (CF CB m : Addr) (d : BareD) (fd : FrD) : Prop where
  ok : d.ok
  hfm : (membZ fd).Perm (memB d)
  eqF : eqFr fd fd = true
  icB : IsiC K CB
  nfB : PySem.W.notFirst K CB (.ref CB) = true
  ng : ("ground" : Str) ∉ names fd.ys
  np : ("power" : Str) ∉ names fd.ys
theorem lvG_map (g : Str → Int) : ∀ (zs : List Str) (z : Str), lvG (zs.map fun z => (z, g z)) z = if z ∈ zs then some (g z) else none
  | [], z => rfl
  | y :: zs, z => by
    rw [List.map_cons, lvG_cons]
    by_cases e : y = z
    · rw [if_pos e, if_pos (by rw [e]; exact List.mem_cons_self), e]
    · rw [if_neg e, lvG_map g zs z]
      have h2 : (z ∈ y :: zs) = (z ∈ zs) := propext ⟨fun h => (List.mem_cons.mp h).resolve_left fun q => e q.symm, fun h => List.mem_cons_of_mem _ h⟩
      simp only [h2]
theorem same_lock {H H1 : Hp} {D : Addr} {o : HO} (h0 : H D = none) (s : Same H H1) : Same H (upd H1 D o) := fun c u e => by
  rw [upd_ne (ne_of_none e h0)]
  exact s _ _ e
section
variable {K : PySem.W.Frag} {ks : Kinds} {CF CV CB CN CW m o1 o2 a : Addr} {d : BareD} {fd : FrD} {gv : List (Str × Int)} {L1 L2 : List (Addr × List Str)} {H : Hp} {Q : VK} {E : XK}
theorem Sv.mem (S : Sv K ks CF CB m d fd) {z : Str} (hz : z ∈ names fd.ys) : z ∈ memB d := S.hfm.mem_iff.mp (List.mem_append_left _ hz)
theorem Sv.row (S : Sv K ks CF CB m d fd) {L : List (Addr × List Str)} (h : Brd d (L.map (·.2))) : RowOk fd L :=
  ⟨fun y hy z hz => S.hfm.mem_iff.mpr (h.fl.mem_iff.mp (List.mem_flatten.mpr ⟨_, List.mem_map.mpr ⟨y, hy, rfl⟩, hz⟩)), fun y hy => Nat.le_trans ((h.len S.ok).2 _ (List.mem_map.mpr ⟨y, hy, rfl⟩)) (by decide)⟩
theorem Sv.bdok (S : Sv K ks CF CB m d fd) {L : List (Addr × List Str)} (h : Brd d (L.map (·.2))) (gp : NoBoth L) : BdOk fd L :=
  ⟨fun z hz => S.hfm.mem_iff.mpr (h.fl.mem_iff.mp (by rw [← allN_map]; exact hz)), by rw [allN_map]; exact h.nd S.ok, S.hfm.nodup_iff.mpr (memB_nd S.ok), by rw [allN_map, h.fl.length_eq]; exact Nat.le_trans (memB_18 S.ok) (by decide), gp⟩
theorem cal_c (S : Sv K ks CF CB m d fd) (hF : FrIs ks CF H m fd) (h1 : BoW H CB m d o1 L1) (hW : WdIs ks CF CW H a fd gv) (k : ∀ D (g : Str → Int) H', (∀ r ∈ L1.map (·.2), ∀ z ∈ r, BlV ks fd gv r (g z)) → H D = none → H' D = some (.dK (((names fd.ys).map fun z => (z, g z)).map lvRow)) → Same H H' → Q (.ref D) H') : spCal K ks CF CB CW [.ref o1, .ref a] H Q E := by
  refine ⟨o1, a, m, fd, gv, L1, rfl, h1.at_, hF, hW, S.row h1.brd, h1.brd.nd S.ok, by rw [h1.brd.fl.length_eq]; exact Nat.le_trans (memB_18 S.ok) (by decide), fun z hz => ?_, fun D g H' hg h0 hD s => k D g H' (fun r hr z hz => ?_) h0 hD s⟩
  · obtain ⟨r, hr, q⟩ := h1.brd.row (S.mem hz)
    obtain ⟨y, hy, rfl⟩ := List.mem_map.mp hr
    exact ⟨y, hy, q⟩
  · obtain ⟨y, hy, rfl⟩ := List.mem_map.mp hr
    exact hg y hy z hz
theorem rds_c {r : List Str} {z : Str} (S : Sv K ks CF CB m d fd) (hF : FrIs ks CF H m fd) (h1 : BoW H CB m d o1 L1) (hW : WdIs ks CF CW H a fd gv) (hr : r ∈ L1.map (·.2)) (hz : z ∈ r) (k : ∀ v H', BlV ks fd gv r v → Same H H' → Q (.int v) H') : spRds K ks CF CB CW [.ref o1, .ref a, .str z] H Q E := by
  obtain ⟨y, hy, rfl⟩ := List.mem_map.mp hr
  exact ⟨o1, a, m, fd, gv, L1, y, z, rfl, h1.at_, hF, hW, S.row h1.brd, hy, hz, k⟩
/-- Board[..] -/
theorem get_c {z : Str} (S : Sv K ks CF CB m d fd) (hF : FrIs ks CF H m fd) (h1 : BoW H CB m d o1 L1) (hz : z ∈ memB d) (k : ∀ y ∈ L1, z ∈ y.2 → ∀ H', Same H H' → Q (.ref y.1) H') : ∃ (a dx : Addr) (fs : List (Str × V)), V.ref o1 = .ref a ∧ H a = some (.ins CB dx fs) ∧ spBGet K ks CF CB CN [.ref a, .str z] H Q E := by
  obtain ⟨dx, B, D, hs, e1, _⟩ := id h1.at_
  obtain ⟨r, hr, q⟩ := h1.brd.row hz
  obtain ⟨y, hy, rfl⟩ := List.mem_map.mp hr
  exact ⟨o1, dx, _, rfl, e1, o1, m, fd, L1, _, rfl, h1.at_, hF, .inl ⟨y, hy, z, q, rfl, S.hfm.mem_iff.mpr hz, k y hy q⟩⟩
theorem joinA_le {C : List (List Str)} (ok : d.ok) (hR : Brd d (L1.map (·.2))) (hS : Brd d (L2.map (·.2))) (hC : C.flatten.Perm (memB d)) (h1 : Le (L1.map (·.2)) C) (h2 : Le (L2.map (·.2)) C) : Le (joinA L1 L2) C := by
  by_cases en : C = []
  · have eR := le_nil en (hR.fl.trans hC.symm) hR.ne
    have eS := le_nil en (hS.fl.trans hC.symm) hS.ne
    unfold joinA
    rw [eR, eS]
    exact fun r hr => by cases hr
  · exact foldl_least (hC.nodup_iff.mpr (memB_nd ok)) en _ _ h1 h2
theorem or_v (S : Sv K ks CF CB m d fd) (hF : FrIs ks CF H m fd) (h1 : BoW H CB m d o1 L1) (h2 : BoW H CB m d o2 L2) (gp : NoBoth L1) (hJ : ∀ r ∈ joinA L1 L2, ¬ (("ground" : Str) ∈ r ∧ ("power" : Str) ∈ r)) (k : ∀ o' L' H', Jn d (L1.map (·.2)) (L2.map (·.2)) (L'.map (·.2)) → BoW H' CB m d o' L' → Same H H' → Q (.ref o') H') :
    ∃ (a dx : Addr) (fs : List (Str × V)) (t : Value), V.ref o1 = .ref a ∧ H a = some (.ins CB dx fs) ∧ TyX K H (.ref o2) t ∧ (RightT K CB "or" t ∨ t = .ref CB) ∧ spBOr K ks CF CV CB [.ref a, .ref o2] H (fun z H3 => ∃ r : Addr, z = .ref r ∧ Q z H3) E := by
  obtain ⟨dx, B, D, hs, e1, _⟩ := id h1.at_
  obtain ⟨dy, B2, D2, hs2, e2, _⟩ := id h2.at_
  refine ⟨o1, dx, _, .ref CB, rfl, e1, .base (.ins e2 S.icB.cl S.icB.ca S.icB.cn S.icB.ct S.icB.cm), .inr rfl, o1, m, fd, L1, _, rfl, h1.at_, hF, .inl ⟨o2, m, fd, L2, rfl, h2.at_, hF, S.eqF, S.bdok h1.brd gp, ?_, fun r hr => ⟨foldl_ne _ _ (h1.brd.cov h2.brd) h1.brd.ne r hr, hJ r hr⟩, fun o' G L' H' eG hR ho hO s => ⟨o', rfl, ?_⟩⟩⟩
  · have := (h2.brd.len S.ok).1
    rw [List.length_map] at this
    exact Nat.le_trans this (by decide)
  · have J := join_of S.ok S.hfm h1.brd h2.brd eG hR
    exact k o' L' H' J ⟨hO, J.brd⟩ s
theorem sub_v {z : Str} (S : Sv K ks CF CB m d fd) (hF : FrIs ks CF H m fd) (h1 : BoW H CB m d o1 L1) (gp : NoBoth L1) (hz : z ∈ memB d) (rt : RightT K CB "sub" (.type "str")) (k : ∀ o' L' H', Ot d z (L1.map (·.2)) (L'.map (·.2)) → NoBoth L' → BoW H' CB m d o' L' → Same H H' → Q (.ref o') H') :
    ∃ (a dx : Addr) (fs : List (Str × V)) (t : Value), V.ref o1 = .ref a ∧ H a = some (.ins CB dx fs) ∧ TyX K H (.str z) t ∧ (RightT K CB "sub" t ∨ t = .ref CB) ∧ spBSub K ks CF CB CN [.ref a, .str z] H (fun z H3 => ∃ r : Addr, z = .ref r ∧ Q z H3) E := by
  obtain ⟨dx, B, D, hs, e1, _⟩ := id h1.at_
  refine ⟨o1, dx, _, .type "str", rfl, e1, .base (.str _), .inl rt, o1, m, fd, L1, _, rfl, h1.at_, hF, .inl ⟨z, rfl, S.hfm.mem_iff.mpr hz, S.bdok h1.brd gp, fun o' Bl' L' H' eB hR ho hO s => ⟨o', rfl, ?_⟩⟩⟩
  have T := out_of S.ok S.hfm h1.brd gp hz eB hR
  refine k o' L' H' T (fun x hx q => ?_) ⟨hO, T.brd⟩ s
  obtain ⟨w, hw, sub⟩ := T.b x.2 (List.mem_map.mpr ⟨x, hx, rfl⟩)
  rcases List.mem_append.mp hw with hw | hw
  · obtain ⟨_, b, hb, e⟩ := outR_mem hw
    obtain ⟨y, hy, rfl⟩ := List.mem_map.mp hb
    rw [e] at sub
    exact gp y hy ⟨(offZ_mem.mp (sub _ q.1)).1, (offZ_mem.mp (sub _ q.2)).1⟩
  · rw [List.mem_singleton.mp hw] at sub
    have e1 := List.mem_singleton.mp (sub _ q.1)
    have e2 := List.mem_singleton.mp (sub _ q.2)
    exact absurd (e1.trans e2.symm) (by decide +kernel)
theorem wi_v (S : Sv K ks CF CB m d fd) (hF : FrIs ks CF H m fd) (h1 : BoW H CB m d o1 L1) (h2 : BoW H CB m d o2 L2) (k : ∀ H', Same H H' → Q (.bl (withinR (L1.map (·.2)) (L2.map (·.2)))) H') : spBWi K ks CF CV CB [.ref o1, .ref o2] H Q E := by
  have l1 := h1.brd.len S.ok
  rw [List.length_map] at l1
  refine ⟨o1, m, fd, L1, _, rfl, h1.at_, hF, .inl ⟨o2, m, fd, L2, rfl, h2.at_, hF, S.eqF, fun r hr z hz => ?_, fun y hy z hz => S.hfm.mem_iff.mpr (h2.brd.fl.mem_iff.mp (List.mem_flatten.mpr ⟨_, List.mem_map.mpr ⟨y, hy, rfl⟩, hz⟩)), h2.brd.nd S.ok, Nat.le_trans l1.1 (by decide), fun r hr => Nat.le_trans (l1.2 _ (List.mem_map.mpr ⟨r, hr, rfl⟩)) (by decide), k⟩⟩
  obtain ⟨s, hs, q⟩ := h2.brd.row (h1.brd.fl.mem_iff.mp (List.mem_flatten.mpr ⟨_, List.mem_map.mpr ⟨r, hr, rfl⟩, hz⟩))
  obtain ⟨y, hy, rfl⟩ := List.mem_map.mp hs
  exact ⟨y, hy, q⟩
end
end Sj
namespace Sj
open PySem L2 Sup StK Own Shw Exg Grd KepE
open NdefX (NF NScope ncx envF startF nscope_by)
open C8 (pss_cut tCut)
/-! k15: _law_joined_right -/
structure H5T (P : Program) (w : World) (K : PySem.W.Frag) (mg : Str → Option Value) (base : Heap) (ks : Kinds) (CF CV CB CN CW fR fW : Addr) : Prop where
  cal : MetG P w K mg base CX0 6 CB "__call__" ["self", "word"] (spCal K ks CF CB CW)
  rm : Meth K CB "reads" fR
  rd : FnGR P w K mg base CX0 6 fR (spRds K ks CF CB CW)
  get : MetG P w K mg base (L2.CX P w) 4 CB "__getitem__" ["self", "at"] (spBGet K ks CF CB CN)
  wg : MetG P w K mg base (L2.CX P w) 3 CW "__getitem__" ["self", "at"] (spWGet K ks CF CW CN)
  sub : BinG P w K mg base (L2.CX P w) 7 CB "sub" ["self", "other"] (spBSub K ks CF CB CN)
  or_ : BinG P w K mg base (L2.CX P w) 7 CB "or" ["self", "other"] (spBOr K ks CF CV CB)
  and_ : BinG P w K mg base CX0 8 CW "and" ["self", "other"] (spWAnd ks CF CW)
  wm : Meth K CB "within" fW
  wi : FnGR P w K mg base (L2.CX P w) 7 fW (spBWi K ks CF CV CB)
  clB : Cls K CB
  nF : NoAttr K CB "frame"
  clF : Cls K CF
  nT : NoAttr K CF "top"
  nms : PropN P w K mg base 1 CF "names" (spTup ks CF fun d => names d.ys)
  min : mg "min" = none
  repr : mg "repr" = none
theorem pAt {CX : CXT} {X : Cx} {E : XK} (h : Passes CX X E) : ∀ σ, PassesAt CX X σ E := fun σ pins H s e s' I q => h pins σ H s e s' I q
abbrev sJoi : Stmt := top 47
abbrev nJoi : List Str := ["_law_made", "_law_mate", "_law_both", "_law_word_so", "_law_one", "_law_two", "_law_told", "_law_tag", "_law_block", "_law_due", "_law_leg"]
theorem scJoi : FnScope nJoi ["_law_made", "_law_mate", "_law_both", "_law_word_so"] (defScope sJoi) := ⟨rfl, rfl, rfl, by decide +kernel, rfl, by decide +kernel, by decide +kernel⟩
def ttMj : TT := tB (tDIn (tVar 10) (tVar 4))
def teMj : TE := tCB (fun xs H Q => ∃ i j, xs = [V.int i, .int j] ∧ Q (.int (if j < i then j else i)) H) (tCons (tDGet (tVar 4) (tVar 10)) (tCons (tDGet (tVar 5) (tVar 10)) tNil))
def spJoi (K : PySem.W.Frag) (ks : Kinds) (CF CB CW : Addr) : Sp := fun vs H Q _ => ∃ (m o1 o2 o3 a : Addr) (d : BareD) (fd : FrD) (gv : List (Str × Int)) (L1 L2 L3 : List (Addr × List Str)), vs = [.ref o1, .ref o2, .ref o3, .ref a] ∧ Sv K ks CF CB m d fd ∧ FrIs ks CF H m fd ∧ BoW H CB m d o1 L1 ∧ BoW H CB m d o2 L2 ∧ BoW H CB m d o3 L3 ∧ Jn d (L1.map (·.2)) (L2.map (·.2)) (L3.map (·.2)) ∧ WdIs ks CF CW H a fd gv ∧ ∀ H', Same H H' → Q (.bl true) H'
theorem lv_get {H : Hp} {D : Addr} {g : Str → Int} {zs : List Str} {z : Str} (h : Rd H D (.dK ((zs.map fun z => (z, g z)).map lvRow))) (hz : z ∈ zs) : DGet H D (.str z) (some (.int (g z))) := by
  refine .inl ⟨_, Sum.inr z, h, rfl, ?_⟩
  rw [valV_lv, lvG_map, if_pos hz]
  rfl
theorem lv_in {H : Hp} {D : Addr} {g : Str → Int} {zs : List Str} {z : Str} (h : Rd H D (.dK ((zs.map fun z => (z, g z)).map lvRow))) : ∃ o, DGet H D (.str z) o ∧ o.isSome = decide (z ∈ zs) := by
  refine ⟨_, .inl ⟨_, Sum.inr z, h, rfl, rfl⟩, ?_⟩
  rw [valV_lv, lvG_map]
  by_cases hz : z ∈ zs
  · rw [if_pos hz, decide_eq_true hz]
    rfl
  · rw [if_neg hz, decide_eq_false hz]
    rfl
theorem blv_top {ks : Kinds} {fr : FrD} {gv : List (Str × Int)} (ok : LvOk ks fr gv) (t1 : 1 ≤ fr.t) (t3 : fr.t ≤ 3) {r : List Str} {v : Int} (h : BlV ks fr gv r v) : 0 ≤ v ∧ v ≤ 3 := by
  rcases h with ⟨_, e⟩ | ⟨_, h⟩
  · exact ⟨by omega, by omega⟩
  · obtain ⟨⟨z, hz, e⟩, _⟩ := isMin_map.mp h
    have h0 := eLv_nn (gv := gv) (ks := ks) ok (by omega : 0 ≤ fr.t) z
    have h1 : eLv ks fr gv z ≤ fr.t := by
      unfold eLv
      split
      · rw [wlv_eq]
        split
        · exact (lvl_le ok (by omega) z).2
        · exact Int.le_refl _
      · split <;> omega
    omega
theorem lg_small {v : Int} (h : 0 ≤ v ∧ v ≤ 3) : v.natAbs.log2 < 1920 := by
  obtain rfl | rfl | rfl | rfl : v = 0 ∨ v = 1 ∨ v = 2 ∨ v = 3 := by omega
  all_goals decide
section
variable {P : Program} {w : World} {K : PySem.W.Frag} {mg : Str → Option Value} {base : Heap}
theorem ok_joi {f CF CV CB CN CW fR fW : Addr} {fd : FuncData} {ks : Kinds} (F : Fun K "_law_joined_right" "_law_joined_right" sJoi f fd) (T : H5T P w K mg base ks CF CV CB CN CW fR fW) : FnG P w K mg base CX0 9 f fd ["_law_made", "_law_mate", "_law_both", "_law_word_so"] (spJoi K ks CF CB CW) := by
  refine fun_g F scJoi (fun vs H Q E h => ?_) (fun cdv A outer s H vs Q E hg hr h => ?_)
  · obtain ⟨m, o1, o2, o3, a, d, fr, gv, L1, L2, L3, rfl, _⟩ := h
    rfl
  have hr5 := hr.mono (show 5 ≤ 8 by decide)
  have hr6 := hr.mono (show 6 ≤ 8 by decide)
  have hu := hu_of hr
  refine ⟨_, pss_cons (ps_asg (pe_tup (pa_cons (pe_callI T.cal hg hr6 pass0 (pv 0) (pa_cons (pv 3) pa_nil)) (pa_cons (pe_callI T.cal hg hr6 pass0 (pv 1) (pa_cons (pv 3) pa_nil)) (pa_cons (pe_callI T.cal hg hr6 pass0 (pv 2) (pa_cons (pv 3) pa_nil)) pa_nil))))
        (pg_tup rfl (pgs_cons (pg_name (i := 4) scJoi.nd rfl (Or.inr rfl)) (pgs_cons (pg_name (i := 5) scJoi.nd rfl (Or.inr rfl)) (pgs_cons (pg_name (i := 6) scJoi.nd rfl (Or.inl rfl)) pgs_nil)))))
    (pss_cons (ps_lock (ps_for PassesOwn.never rfl (pi_keys (pv 6)) (pg_name (i := 7) scJoi.nd rfl (Or.inl rfl))
      (pss_cons (ps_set (i := 8) scJoi.nd rfl (Or.inl rfl) (pe_itO T.get hg hr5 (passNo rfl rfl) (pv 2) (pv 7)))
      (pss_cons (ps_set (i := 9) scJoi.nd rfl (Or.inl rfl) (pe_callB (cr_min rfl) (by rfl) T.min (by decide +kernel) (pa_cons (pe_lc (te := teMj) (tt := ttMj) (own := [("_law_leg", 10)]) (g := gName 10) rfl scJoi.nd (pi_tup (pv 8)) (blkOk_by (N := nJoi) (sc := defScope sJoi) (by decide +kernel))
          (fun _ _ _ _ _ => pg_name (i := 10) scJoi.nd rfl (Or.inl rfl)) (fun _ _ _ _ _ => pts_one (pt_cmp (pc_din hu (pv 10) (pv 4)))) (fun _ _ _ _ _ => pe_callB (call_min2 rfl) (by rfl) T.min (by decide +kernel) (pa_cons (pe_dget hu (pv 4) (pv 10) (fun _ _ => rfl)) (pa_cons (pe_dget hu (pv 5) (pv 10) (fun _ _ => rfl)) pa_nil)))) pa_nil)))
      (pss_cut (ps_if (pt_cmpR op_in_seq pe_str (pv 8) (by rfl)) (pss_one (ps_set (i := 9) scJoi.nd rfl (Or.inl rfl) (pe_fld (pe_fld (pv 0) rfl) rfl))) (pss_one (ps_if (pt_cmpR op_in_seq pe_str (pv 8) (by rfl)) (pss_one (ps_set (i := 9) scJoi.nd rfl (Or.inl rfl) pe_int)) pss_nil)))
      (pss_one (ps_if (pt_cmpR op_ne (pe_callB SkE.call_repr_int (by rfl) T.repr (by decide +kernel) (pa_cons (pe_dget hu (pv 6) (pv 7) (fun _ _ => rfl)) pa_nil)) (pe_callB SkE.call_repr_int (by rfl) T.repr (by decide +kernel) (pa_cons (pv 9) pa_nil)) (nomark _)) (pss_one (ps_ret pe_bl)) pss_nil)))))))
    (pss_one (ps_ret pe_bl))), ?_⟩
  obtain ⟨m, o1, o2, o3, a, d, fr, gv, L1, L2, L3, rfl, S, hF, hO1, hO2, hO3, J, hW, k⟩ := h
  obtain ⟨dx1, B1, E1, hs1, i1, _⟩ := id hO1.at_
  obtain ⟨dx2, B2, E2, hs2, i2, _⟩ := id hO2.at_
  obtain ⟨dx3, B3, E3, hs3, i3, _, r3, _⟩ := id hO3.at_
  obtain ⟨dxf, DD, ef, _⟩ := hF.at_
  refine ⟨_, rfl, o1, dx1, _, rfl, i1, _, rfl, ⟨_, i1⟩, cal_c S hF hO1 hW fun D1 g1 H1 b1 f1 e1 s1 => ?_⟩
  refine ⟨_, rfl, o2, dx2, _, rfl, s1 _ _ i2, _, rfl, ⟨_, s1 _ _ i2⟩, cal_c S (hF.same s1) (hO2.same s1) (hW.same s1) fun D2 g2 H2 b2 f2 e2 s12 => ?_⟩
  have s2 := s1.trans s12
  refine ⟨_, rfl, o3, dx3, _, rfl, s2 _ _ i3, _, rfl, ⟨_, s2 _ _ i3⟩, cal_c S (hF.same s2) (hO3.same s2) (hW.same s2) fun D3 g3 H3 b3 f3 e3 s23 => ⟨by show 3 ≤ sizeLine; decide, fun tt htt => ?_⟩⟩
  refine ⟨tt, _, rfl, SqT.of upd_same, rfl, _, _, rfl, _, _, rfl, _, _, rfl, rfl, ?_⟩
  obtain ⟨H4, e4⟩ : ∃ H4, H4 = upd H3 tt (.tup [V.ref D1, .ref D2, .ref D3]) := ⟨_, rfl⟩
  have s34 : Same H3 H4 := by rw [e4]; exact same_at htt
  rw [← e4]
  obtain ⟨ns, ens⟩ : ∃ ns, ns = names fr.ys := ⟨_, rfl⟩
  rw [← ens] at e1 e2 e3
  have hnn : ns.length ≤ 40 := by
    rw [ens]
    have q : (names fr.ys).length = fr.ys.length := List.length_map _
    have := hF.le
    omega
  refine ⟨D3, _, s34 _ _ e3, trivial, fun od => ?_⟩
  obtain ⟨HL, eL⟩ : ∃ HL, HL = upd H4 D3 (.frz od (.dK ((ns.map fun z => (z, g3 z)).map lvRow))) := ⟨_, rfl⟩
  have s2L : Same H2 HL := by rw [eL]; exact same_lock f3 (s23.trans s34)
  have hLL : HL D3 = some (.frz od (.dK ((ns.map fun z => (z, g3 z)).map lvRow))) := by rw [eL, upd_same]
  rw [← eL]
  have hkl : ((ns.map fun z => (z, g3 z)).map lvRow).length = ns.length := by rw [List.length_map, List.length_map]
  refine ⟨_, rfl, D3, od, rfl, .inl ⟨_, hLL, for_it (walk_keys (d := D3) (o := od) (kvs := (ns.map fun z => (z, g3 z)).map lvRow)) (fun i σ H' => (∃ o7 o8 o9, σ = ([some (.ref o1), some (.ref o2), some (.ref o3), some (.ref a), some (.ref D1), some (.ref D2), some (.ref D3), o7, o8, o9, none] : List (Option V))) ∧ Same H2 H' ∧ H' D3 = some (.frz od (.dK ((ns.map fun z => (z, g3 z)).map lvRow)))) ⟨⟨_, _, _, rfl⟩, s2L, hLL⟩ (fun i σ H' _ h => h.2.2) ?_ ?_⟩⟩
  · rintro i x σ Ha Hb hi ⟨⟨o7, o8, o9, rfl⟩, sa, fa⟩ ⟨rfl, kk, vv, hkv, rfl⟩
    rw [hkl] at hi
    obtain ⟨z, ez⟩ : ∃ z, z = ns[i] := ⟨_, rfl⟩
    have e5 : ((ns.map fun z => (z, g3 z)).map lvRow)[i]? = some (Sum.inr z, .int (g3 z)) := by rw [List.getElem?_map, List.getElem?_map, List.getElem?_eq_getElem hi, ← ez]; rfl
    rw [e5] at hkv
    obtain rfl : Sum.inr z = kk := congrArg Prod.fst (Option.some.inj hkv)
    have hz : z ∈ ns := by rw [ez]; exact List.getElem_mem hi
    have zm : z ∈ memB d := S.mem (by rw [← ens]; exact hz)
    have t0 := s2.trans sa
    refine ⟨_, rfl, _, rfl, get_c S (hF.same t0) (hO3.same t0) zm fun y hy zy Hc sc => ?_⟩
    have yr : y.2 ∈ L3.map (·.2) := List.mem_map.mpr ⟨y, hy, rfl⟩
    have sac := sa.trans sc
    have hyt := (t0.trans sc) _ _ (r3 y hy).1
    have hyl : (strv y.2).length = y.2.length := List.length_map _
    have y18 : y.2.length ≤ 18 := (hO3.brd.len S.ok).2 _ yr
    have d1c := sac _ _ (s12 _ _ e1)
    have d2c := sac _ _ e2
    obtain ⟨mn, emn⟩ : ∃ mn : Str → Int, mn = fun z => lvMin (g1 z) (g2 z) := ⟨_, rfl⟩
    refine ⟨_, rfl, y.1, rfl, ⟨_, SqT.of hyt⟩, fun Dm hDm => ?_⟩
    refine lc_it (walk_tup (K := K) (a := y.1) (xs := strv y.2)) (fun j H' => Same Hc H' ∧ H' Dm = some (.lst ((((y.2.take j).filter fun z => decide (z ∈ ns)).map mn).map V.int))) ⟨same_at hDm, upd_same⟩ (fun j H' _ p => SqT.of (p.1 _ _ hyt)) ?_ ?_
    · rintro j x Hd He hj ⟨sd, dd⟩ ⟨rfl, hxj⟩
      rw [hyl] at hj
      obtain ⟨q, eq⟩ : ∃ q, q = y.2[j] := ⟨_, rfl⟩
      have exj : (strv y.2)[j]? = some (.str q) := by show (y.2.map V.str)[j]? = _; rw [List.getElem?_map, List.getElem?_eq_getElem hj, eq]; rfl
      rw [exj] at hxj
      obtain rfl := Option.some.inj hxj
      have etk : (y.2.take (j + 1)).filter (fun z => decide (z ∈ ns)) = (y.2.take j).filter (fun z => decide (z ∈ ns)) ++ if q ∈ ns then [q] else [] := by
        rw [List.take_add_one, List.getElem?_eq_getElem hj, ← eq, Option.toList_some, List.filter_append]
        congr 1
        by_cases e : q ∈ ns
        · rw [if_pos e, List.filter_cons_of_pos (by simp [e])]; rfl
        · rw [if_neg e, List.filter_cons_of_neg (by simp [e])]; rfl
      obtain ⟨o, ho, eo⟩ := lv_in (z := q) (.inl (sd _ _ d1c))
      refine ⟨rfl, _, rfl, _, rfl, D1, o, rfl, ho, _, rfl, ?_⟩
      rw [eo]
      by_cases e : q ∈ ns
      · rw [decide_eq_true e]
        refine iteT ⟨_, rfl, _, rfl, D1, _, rfl, lv_get (.inl (sd _ _ d1c)) e, _, rfl, _, rfl, D2, _, rfl, lv_get (.inl (sd _ _ d2c)) e, _, _, rfl, _, dd, ?_, fun c u h => ?_, ?_⟩
        · rw [List.length_map, List.length_map]
          have : ((y.2.take j).filter fun z => decide (z ∈ ns)).length ≤ 18 := Nat.le_trans (List.length_filter_le _ _) (by rw [List.length_take]; omega)
          exact Nat.lt_of_le_of_lt this (by decide)
        · rw [upd_ne (ne_of_none h hDm)]
          exact sd _ _ h
        · rw [upd_same, etk, if_pos e, List.map_append, List.map_append, emn]
          rfl
      · rw [decide_eq_false e]
        refine iteF ⟨sd, ?_⟩
        rw [etk, if_neg e, List.append_nil]
        exact dd
    rintro Hd ⟨sd, dd⟩
    rw [hyl, List.take_length] at dd
    have sad := sac.trans sd
    refine ⟨Dm, (y.2.filter fun z => decide (z ∈ ns)).map mn, rfl, SqL.of dd, ?_, fun u hu hle => ?_⟩
    · rw [List.length_map]
      exact List.length_pos_iff.mpr fun e => by
        have : z ∈ y.2.filter fun z => decide (z ∈ ns) := List.mem_filter.mpr ⟨zy, decide_eq_true hz⟩
        rw [e] at this
        cases this
    have hv3 := b3 y.2 yr z zy
    have hyt' := sd _ _ hyt
    have u0 := s2.trans sad
    -- what is due
    refine ⟨fun σ' H' => σ' = ([some (.ref o1), some (.ref o2), some (.ref o3), some (.ref a), some (.ref D1), some (.ref D2), some (.ref D3), some (.str z), some (.ref y.1), some (.int (g3 z)), none] : List (Option V)) ∧ H' = Hd, ?_, ?_⟩
    · refine ⟨_, rfl, y.1, _, rfl, .inr (SqT.of hyt'), rfl, flat_strv _, _, rfl, ?_⟩
      rw [inV_strs]
      by_cases hp : ("power" : Str) ∈ y.2
      · rw [decide_eq_true hp]
        have ev : g3 z = fr.t := by
          rcases hv3 with ⟨_, e⟩ | ⟨n, _⟩
          · exact e
          · exact absurd hp n
        rw [ev]
        exact iteT ⟨_, rfl, o1, CB, dx1, _, _, rfl, u0 _ _ i1, T.clB, T.nF, boF_frame _ _ _, m, CF, dxf, _, _, rfl, u0 _ _ ef, T.clF, T.nT, frF_top _ _ _ _, rfl, rfl⟩
      rw [decide_eq_false hp]
      refine iteF ⟨_, rfl, y.1, _, rfl, .inr (SqT.of hyt'), rfl, flat_strv _, _, rfl, ?_⟩
      rw [inV_strs]
      by_cases hg : ("ground" : Str) ∈ y.2
      · rw [decide_eq_true hg, blv_ground hW.ok (by have := hW.t1; omega) S.ng hv3 hp hg]
        exact iteT ⟨rfl, rfl⟩
      · rw [decide_eq_false hg]
        have ed := due_eq S.ok J hO1.brd hO2.brd b1 b2 yr hv3 hp (zs := y.2.filter fun z => decide (z ∈ ns)) (fun q => ?_) (by rw [emn] at hu hle; exact ⟨hu, hle⟩)
        · rw [ed]
          exact iteF ⟨rfl, rfl⟩
        · rw [List.mem_filter]
          refine ⟨fun h => h.1, fun h => ⟨h, decide_eq_true ?_⟩⟩
          have := S.hfm.mem_iff.mpr (hO3.brd.fl.mem_iff.mp (List.mem_flatten.mpr ⟨_, yr, h⟩))
          rcases List.mem_append.mp this with h' | h'
          · rw [ens]
            exact h'
          · have r2 : ∀ g r : Bool, ∀ z ∈ railsZ g r, z = ("ground" : Str) ∨ z = ("power" : Str) := by decide +kernel
            rcases r2 _ _ _ h' with rfl | rfl
            · exact absurd h hg
            · exact absurd h hp
    rintro σ H' ⟨rfl, rfl⟩
    have fd3 := (sc.trans sd) _ _ fa
    have lg := lg_small (blv_top hW.ok hW.t1 hW.t3 hv3)
    refine ⟨_, rfl, _, rfl, D3, _, rfl, lv_get (.inr ⟨_, fd3⟩) hz, _, rfl, lg, _, rfl, _, rfl, lg, rfl, _, rfl, ?_⟩
    rw [decide_eq_true rfl]
    exact iteF ⟨⟨_, _, _, rfl⟩, sad, fd3⟩
  · rintro σ Hz ⟨⟨o7, o8, o9, rfl⟩, sz, fz⟩
    exact ⟨fz, k _ (same_lock (s2.free f3) (s2.trans sz))⟩
end
end Sj
namespace Sj
open PySem L2 Sup StK Own Shw Exg Grd KepE
open NdefX (NF NScope ncx envF startF nscope_by)
open C8 (pss_cut tCut)
/-! k15: _law_out_right, _law_words_right -/
abbrev sOur : Stmt := top 48
abbrev nOur : List Str := ["_law_made", "_law_word_so", "_law_tag", "_law_fewer", "_law_mate", "_law_due"]
theorem scOur : FnScope nOur ["_law_made", "_law_word_so"] (defScope sOur) := ⟨rfl, rfl, rfl, by decide +kernel, rfl, by decide +kernel, by decide +kernel⟩
abbrev sWor : Stmt := top 49
abbrev nWor : List Str := ["_law_made", "_law_one", "_law_two", "_law_both", "_law_first", "_law_last", "_law_tag"]
theorem scWor : FnScope nWor ["_law_made", "_law_one", "_law_two"] (defScope sWor) := ⟨rfl, rfl, rfl, by decide +kernel, rfl, by decide +kernel, by decide +kernel⟩
def spOur (K : PySem.W.Frag) (ks : Kinds) (CF CB CW : Addr) : Sp := fun vs H Q _ => ∃ (m o1 a : Addr) (d : BareD) (fd : FrD) (gv : List (Str × Int)) (L1 : List (Addr × List Str)), vs = [.ref o1, .ref a] ∧ Sv K ks CF CB m d fd ∧ FrIs ks CF H m fd ∧ BoW H CB m d o1 L1 ∧ NoBoth L1 ∧ WdIs ks CF CW H a fd gv ∧ ∀ H', Same H H' → Q (.bl true) H'
def spWor (K : PySem.W.Frag) (ks : Kinds) (CF CB CW : Addr) : Sp := fun vs H Q _ => ∃ (m o1 a b : Addr) (d : BareD) (fd : FrD) (gv hv : List (Str × Int)) (L1 : List (Addr × List Str)), vs = [.ref o1, .ref a, .ref b] ∧ Sv K ks CF CB m d fd ∧ FrIs ks CF H m fd ∧ BoW H CB m d o1 L1 ∧ WdIs ks CF CW H a fd gv ∧ WdIs ks CF CW H b fd hv ∧ ∀ H', Same H H' → Q (.bl true) H'
def ttWo : TT := tTest (tOp rNe (tDGet (tVar 3) (tVar 6)) (tCB (fun xs H Q => ∃ i j, xs = [V.int i, .int j] ∧ Q (.int (if j < i then j else i)) H) (tCons (tDGet (tVar 4) (tVar 6)) (tCons (tDGet (tVar 5) (tVar 6)) tNil))))
section
variable {P : Program} {w : World} {K : PySem.W.Frag} {mg : Str → Option Value} {base : Heap}
theorem ok_our {f CF CV CB CN CW fR fW : Addr} {fd : FuncData} {ks : Kinds} (F : Fun K "_law_out_right" "_law_out_right" sOur f fd) (T : H5T P w K mg base ks CF CV CB CN CW fR fW) (rt : RightT K CB "sub" (.type "str")) : FnG P w K mg base CX0 9 f fd ["_law_made", "_law_word_so"] (spOur K ks CF CB CW) := by
  refine fun_g F scOur (fun vs H Q E h => ?_) (fun cdv A outer s H vs Q E hg hr h => ?_)
  · obtain ⟨m, o1, a, d, fr, gv, L1, rfl, _⟩ := h
    rfl
  have hr2 := hr.mono (show 2 ≤ 8 by decide)
  have hr4 := hr.mono (show 4 ≤ 8 by decide)
  have hr5 := hr.mono (show 5 ≤ 8 by decide)
  have hr6 := hr.mono (show 6 ≤ 8 by decide)
  have hr7 := hr.mono (show 7 ≤ 8 by decide)
  refine ⟨_, pss_cons (ps_for PassesOwn.never rfl (pi_tup (pe_propS (S := fun C => C = CF) (spP := fun _ => spTup ks CF fun d => names d.ys) (pe_fld (pv 0) rfl) (fun C e => by rw [e]; exact T.nms) hr2)) (pg_name (i := 2) scOur.nd rfl (Or.inl rfl))
      (pss_cons (ps_set (i := 3) scOur.nd rfl (Or.inl rfl) (pe_binS (E := fun _ => E0) T.sub hg hr7 (pAt (passNo rfl rfl)) (pv 0) (pv 2)))
      (pss_cons (ps_if (pt_cmpR op_ne (pe_methGR (pv 3) T.clB T.rm T.rd hg hr6 pass0 (pa_cons (pv 1) (pa_cons (pv 2) pa_nil))) (pe_itO T.wg hg hr4 (passNo rfl rfl) (pv 1) (pv 2)) (nomark _)) (pss_one (ps_ret pe_bl)) pss_nil)
      (pss_one (ps_for PassesOwn.never rfl (pi_tup (pe_itO T.get hg hr5 (passNo rfl rfl) (pv 0) (pv 2))) (pg_name (i := 4) scOur.nd rfl (Or.inl rfl))
        (pss_one (ps_if (PW.pt (pw_and (pt_cmpR op_notIn_seq pe_str (pe_itO T.get hg hr5 (passNo rfl rfl) (pv 0) (pv 2)) (by rfl)) (pw_and1 (pt_cmpR op_ne (pv 4) (pv 2) (nomark _)))))
          (pss_cons (ps_set (i := 5) scOur.nd rfl (Or.inl rfl) (pe_callB (call_min2 rfl) (by rfl) T.min (by decide +kernel) (pa_cons (pe_methGR (pv 3) T.clB T.rm T.rd hg hr6 pass0 (pa_cons (pv 1) (pa_cons (pv 4) pa_nil))) (pa_cons (pe_itO T.wg hg hr4 (passNo rfl rfl) (pv 1) (pv 2)) pa_nil))))
          (pss_one (ps_if (pt_cmpR op_ne (pv 5) (pe_methGR (pv 0) T.clB T.rm T.rd hg hr6 pass0 (pa_cons (pv 1) (pa_cons (pv 4) pa_nil))) (nomark _)) (pss_one (ps_ret pe_bl)) pss_nil))) pss_nil)))))))
    (pss_one (ps_ret pe_bl)), ?_⟩
  obtain ⟨m, o1, a, d, fr, gv, L1, rfl, S, hF, hO1, gp, hW, k⟩ := h
  obtain ⟨dx1, B1, E1, hs1, i1, _, r1, _⟩ := id hO1.at_
  obtain ⟨dxf, fsf, eaf⟩ := hF.ins
  obtain ⟨fw, dxw, DW, iw, _⟩ := hW.ex
  have rowT : ∀ {L : List (Addr × List Str)}, Brd d (L.map (·.2)) → ∀ {z : Str}, z ∈ memB d → ∃ r ∈ L.map (·.2), z ∈ r := fun h _ hz => h.row hz
  refine ⟨_, rfl, o1, CB, dx1, _, _, rfl, i1, T.clB, T.nF, boF_frame _ _ _, m, CF, dxf, fsf, rfl, eaf, rfl, m, fr, rfl, hF, fun p H1 hp0 hp s1 => ⟨p, rfl, ⟨_, SqT.of hp⟩, for_it (walk_tup (K := K) (a := p) (xs := strv (names fr.ys))) (fun i σ H' => (∃ o2 o3 o4 o5, σ = ([some (.ref o1), some (.ref a), o2, o3, o4, o5] : List (Option V))) ∧ Same H1 H') ⟨⟨_, _, _, _, rfl⟩, Same.refl _⟩ (fun i σ H' _ h => SqT.of (h.2 _ _ hp)) ?_ ?_⟩⟩
  · rintro i x σ Ha Hb hi ⟨⟨o2, o3, o4, o5, rfl⟩, sa⟩ ⟨rfl, hx⟩
    obtain ⟨z, hz, rfl⟩ : ∃ z ∈ names fr.ys, x = .str z := by
      obtain ⟨z, hz, e⟩ := List.mem_map.mp (List.mem_of_getElem? hx)
      exact ⟨z, hz, e.symm⟩
    have zm := S.mem hz
    have el : eLv ks fr gv z = wlv ks fr gv z := if_pos hz
    have u0 := s1.trans sa
    refine ⟨_, rfl, _, rfl, sub_v S (hF.same u0) (hO1.same u0) gp zm rt fun of Lf Hc O gpf hOf sc => ?_⟩
    obtain ⟨dxo, Bo, Eo, hso, io, _⟩ := id hOf.at_
    have uc := u0.trans sc
    obtain ⟨rf, hrf, zrf⟩ := hOf.brd.row zm
    -- by itself
    refine ⟨_, rfl, of, dxo, _, rfl, io, rfl, _, rfl, _, rfl, ?_⟩
    try unfold tNil
    refine rds_c (CW := CW) (gv := gv) S (hF.same uc) hOf (hW.same uc) hrf zrf fun v Hd hv sd => ?_
    have ud := uc.trans sd
    refine ⟨_, rfl, _, rfl, a, dxw, _, rfl, ud _ _ iw, a, fr, gv, _, rfl, hW.same ud, .inl ⟨z, hz, rfl, rfl, _, rfl, ?_⟩⟩
    rw [out_lone O hrf zrf (fun e => ?_) hv, el, decide_eq_true rfl]
    refine iteF ?_
    · -- its mates
      refine ⟨_, rfl, _, rfl, get_c S (hF.same ud) (hO1.same ud) zm fun y hy zy He se => ?_⟩
      have ue := ud.trans se
      have yr : y.2 ∈ L1.map (·.2) := List.mem_map.mpr ⟨y, hy, rfl⟩
      have hyt := ue _ _ (r1 y hy).1
      refine ⟨y.1, rfl, ⟨_, SqT.of hyt⟩, for_it (walk_tup (K := K) (a := y.1) (xs := strv y.2)) (fun j σ H' => (∃ o4 o5, σ = ([some (.ref o1), some (.ref a), some (.str z), some (.ref of), o4, o5] : List (Option V))) ∧ Same He H') ⟨⟨_, _, rfl⟩, Same.refl _⟩ (fun j σ H' _ h => SqT.of (h.2 _ _ hyt)) ?_ ?_⟩
      · rintro j x σ Hf Hg hj ⟨⟨o4', o5', rfl⟩, sf⟩ ⟨rfl, hxj⟩
        obtain ⟨q, hq, rfl⟩ : ∃ q ∈ y.2, x = .str q := by
          obtain ⟨q, hq, e⟩ := List.mem_map.mp (List.mem_of_getElem? hxj)
          exact ⟨q, hq, e.symm⟩
        have uf := ue.trans sf
        have qm : q ∈ memB d := hO1.brd.fl.mem_iff.mp (List.mem_flatten.mpr ⟨_, yr, hq⟩)
        refine ⟨_, rfl, _, rfl, get_c S (hF.same uf) (hO1.same uf) zm fun y2 hy2 zy2 Hh sh => ?_⟩
        have ey : y2.2 = y.2 := rows_disj (hO1.brd.nd S.ok) (List.mem_map.mpr ⟨y2, hy2, rfl⟩) yr zy2 zy
        have uh := uf.trans sh
        refine ⟨y2.1, _, rfl, .inr (SqT.of (uh _ _ (r1 y2 hy2).1)), rfl, flat_strv _, _, rfl, ?_⟩
        rw [inV_strs, ey]
        by_cases hpw : ("power" : Str) ∈ y.2
        · rw [decide_eq_true hpw]
          exact iteF (iteF ⟨⟨_, _, rfl⟩, sf.trans sh⟩)
        rw [decide_eq_false hpw]
        refine iteT ⟨_, rfl, _, rfl, rfl, _, rfl, ?_⟩
        by_cases eq : q = z
        · rw [show (!decide (V.str q = V.str z)) = false by rw [eq, decide_eq_true rfl]; rfl]
          exact iteF ⟨⟨_, _, rfl⟩, sf.trans sh⟩
        rw [show (!decide (V.str q = V.str z)) = true by rw [decide_eq_false fun e => eq (V.str.inj e)]; rfl]
        have sch : Same Hc Hh := (sd.trans (se.trans sf)).trans sh
        obtain ⟨rq, hrq, qrq⟩ := hOf.brd.row qm
        refine iteT ⟨_, rfl, of, dxo, _, rfl, sch _ _ io, rfl, _, rfl, _, rfl, ?_⟩
        try unfold tNil
        refine rds_c (CW := CW) (gv := gv) S (hF.same uh) (hOf.same sch) (hW.same uh) hrq qrq fun u Hi hu si => ?_
        have ui := uh.trans si
        refine ⟨_, rfl, _, rfl, a, dxw, _, rfl, ui _ _ iw, a, fr, gv, _, rfl, hW.same ui, .inl ⟨z, hz, rfl, _, _, rfl, ?_⟩⟩
        refine ⟨_, rfl, _, rfl, o1, dx1, _, rfl, ui _ _ i1, rfl, _, rfl, _, rfl, ?_⟩
        try unfold tNil
        refine rds_c (CW := CW) (gv := gv) S (hF.same ui) (hO1.same ui) (hW.same ui) yr hq fun v2 Hj hv2 sj => ⟨rfl, _, rfl, ?_⟩
        have eo := out_mate S.ok hO1.brd O yr hrq zy hq eq qrq hpw hu hv2
        rw [el] at eo
        rw [show (if wlv ks fr gv z < u then wlv ks fr gv z else u) = v2 from eo, decide_eq_true rfl]
        exact iteF ⟨⟨_, _, rfl⟩, ((sf.trans sh).trans si).trans sj⟩
      · rintro σ Hz ⟨⟨o4', o5', rfl⟩, sz⟩
        exact ⟨⟨_, _, _, _, rfl⟩, (((sa.trans sc).trans sd).trans se).trans sz⟩
    · exact S.np (by rw [← e]; exact hz)
  · rintro σ Hz ⟨⟨o2, o3, o4, o5, rfl⟩, sz⟩
    exact k _ (s1.trans sz)
theorem ok_wor {f CF CV CB CN CW fR fW : Addr} {fd : FuncData} {ks : Kinds} (F : Fun K "_law_words_right" "_law_words_right" sWor f fd) (T : H5T P w K mg base ks CF CV CB CN CW fR fW) (icW : IsiC K CW) : FnG P w K mg base CX0 9 f fd ["_law_made", "_law_one", "_law_two"] (spWor K ks CF CB CW) := by
  refine fun_g F scWor (fun vs H Q E h => ?_) (fun cdv A outer s H vs Q E hg hr h => ?_)
  · obtain ⟨m, o1, a, b, d, fr, gv, hv, L1, rfl, _⟩ := h
    rfl
  have hr6 := hr.mono (show 6 ≤ 8 by decide)
  have hu := hu_of hr
  refine ⟨_, pss_cons (ps_asg (pe_tup (pa_cons (pe_callI T.cal hg hr6 pass0 (pv 0) (pa_cons (pe_binS (E := fun _ => E0) T.and_ hg hr (pAt pass0) (pv 1) (pv 2)) pa_nil)) (pa_cons (pe_callI T.cal hg hr6 pass0 (pv 0) (pa_cons (pv 1) pa_nil)) (pa_cons (pe_callI T.cal hg hr6 pass0 (pv 0) (pa_cons (pv 2) pa_nil)) pa_nil))))
        (pg_tup rfl (pgs_cons (pg_name (i := 3) scWor.nd rfl (Or.inr rfl)) (pgs_cons (pg_name (i := 4) scWor.nd rfl (Or.inr rfl)) (pgs_cons (pg_name (i := 5) scWor.nd rfl (Or.inr rfl)) pgs_nil)))))
    (pss_one (ps_ret (pe_cmpR (SetS.op_eqNil hr.units) (pe_lock (pe_lc (te := tVar 6) (tt := ttWo) (own := [("_law_tag", 6)]) (g := gName 6) rfl scWor.nd (pi_keys (pv 3)) (blkOk_by (N := nWor) (sc := defScope sWor) (by decide +kernel))
        (fun _ _ _ _ _ => pg_name (i := 6) scWor.nd rfl (Or.inl rfl)) (fun _ _ _ _ _ => pts_one (pt_cmpR op_ne (pe_dget hu (pv 3) (pv 6) (fun _ _ => rfl)) (pe_callB (call_min2 rfl) (by rfl) T.min (by decide +kernel) (pa_cons (pe_dget hu (pv 4) (pv 6) (fun _ _ => rfl)) (pa_cons (pe_dget hu (pv 5) (pv 6) (fun _ _ => rfl)) pa_nil))) (nomark _))) (fun _ _ _ _ _ => pv 6))) (pe_lst pa_nil) (nomark _)))), ?_⟩
  obtain ⟨m, o1, a, b, d, fr, gv, hv, L1, rfl, S, hF, hO1, hW, hV, k⟩ := h
  obtain ⟨dx1, B1, E1, hs1, i1, _⟩ := id hO1.at_
  obtain ⟨fa, dxa, DA, ia, _⟩ := hW.ex
  obtain ⟨fb, dxb, DB, ib, _⟩ := hV.ex
  have nd : (kindZ ks true fr.ys).Nodup := (List.filter_sublist.map _).nodup hF.nd
  refine ⟨_, rfl, o1, dx1, _, rfl, i1, _, rfl, _, rfl, a, dxa, _, .ref CW, rfl, ia, .base (.ins ib icW.cl icW.ca icW.cn icW.ct icW.cm), .inr rfl, a, fr, gv, b, fr, hv, rfl, hW, hV, S.eqF, fun r Hr hr0 hWr sr => ⟨r, rfl, ⟨_, sr _ _ i1⟩, ?_⟩⟩
  try unfold tNil
  refine cal_c (CW := CW) S (hF.same sr) (hO1.same sr) hWr fun D0 g0 H1 b0 f0 e0 s01 => ?_
  have s1 := sr.trans s01
  refine ⟨_, rfl, o1, dx1, _, rfl, s1 _ _ i1, _, rfl, ⟨_, s1 _ _ i1⟩, cal_c S (hF.same s1) (hO1.same s1) (hW.same s1) fun D1 g1 H2 b1 f1 e1 s12 => ?_⟩
  have s2 := s1.trans s12
  refine ⟨_, rfl, o1, dx1, _, rfl, s2 _ _ i1, _, rfl, ⟨_, s2 _ _ i1⟩, cal_c S (hF.same s2) (hO1.same s2) (hV.same s2) fun D2 g2 H3 b2 f2 e2 s23 => ⟨by show 3 ≤ sizeLine; decide, fun tt htt => ?_⟩⟩
  refine ⟨tt, _, rfl, SqT.of upd_same, rfl, _, _, rfl, _, _, rfl, _, _, rfl, rfl, ?_⟩
  obtain ⟨H4, e4⟩ : ∃ H4, H4 = upd H3 tt (.tup [V.ref D0, .ref D1, .ref D2]) := ⟨_, rfl⟩
  have s34 : Same H3 H4 := by rw [e4]; exact same_at htt
  rw [← e4]
  have n10 : D1 ≠ D0 := fun e => by rw [e, e0] at f1; cases f1
  have n20 : D2 ≠ D0 := fun e => by rw [e, s12 _ _ e0] at f2; cases f2
  have h0 : H4 D0 = some (.dK (((names fr.ys).map fun z => (z, g0 z)).map lvRow)) := (s12.trans (s23.trans s34)) _ _ e0
  have h1 : H4 D1 = some (.dK (((names fr.ys).map fun z => (z, g1 z)).map lvRow)) := (s23.trans s34) _ _ e1
  have h2 := s34 _ _ e2
  refine ⟨D0, _, h0, trivial, fun od => ?_⟩
  obtain ⟨HL, eL⟩ : ∃ HL, HL = upd H4 D0 (.frz od (.dK (((names fr.ys).map fun z => (z, g0 z)).map lvRow))) := ⟨_, rfl⟩
  have hLL : HL D0 = some (.frz od (.dK (((names fr.ys).map fun z => (z, g0 z)).map lvRow))) := by rw [eL, upd_same]
  have h1L : HL D1 = some (.dK (((names fr.ys).map fun z => (z, g1 z)).map lvRow)) := by rw [eL, upd_ne n10]; exact h1
  have h2L : HL D2 = some (.dK (((names fr.ys).map fun z => (z, g2 z)).map lvRow)) := by rw [eL, upd_ne n20]; exact h2
  have sL : Same H HL := by rw [eL]; exact same_lock (sr.free f0) (s2.trans (s23.trans s34))
  rw [← eL]
  have hkl : (((names fr.ys).map fun z => (z, g0 z)).map lvRow).length = (names fr.ys).length := by rw [List.length_map, List.length_map]
  refine ⟨_, rfl, D0, od, rfl, .inl ⟨_, hLL, fun Dn hDn => ?_⟩⟩
  refine lc_it (walk_keys (d := D0) (o := od) (kvs := ((names fr.ys).map fun z => (z, g0 z)).map lvRow)) (fun i H' => Same HL H' ∧ H' Dn = some (.lst [])) ⟨same_at hDn, upd_same⟩ (fun i H' _ q => q.1 _ _ hLL) ?_ ?_
  · rintro i x Ha Hb hi ⟨sa, da⟩ ⟨rfl, kk, vv, hkv, rfl⟩
    rw [hkl] at hi
    obtain ⟨z, ez⟩ : ∃ z, z = (names fr.ys)[i] := ⟨_, rfl⟩
    have e5 : (((names fr.ys).map fun z => (z, g0 z)).map lvRow)[i]? = some (Sum.inr z, .int (g0 z)) := by rw [List.getElem?_map, List.getElem?_map, List.getElem?_eq_getElem hi, ← ez]; rfl
    rw [e5] at hkv
    obtain rfl : Sum.inr z = kk := congrArg Prod.fst (Option.some.inj hkv)
    have hz : z ∈ names fr.ys := by rw [ez]; exact List.getElem_mem hi
    obtain ⟨rw', hrw, zrw⟩ := hO1.brd.row (S.mem hz)
    refine ⟨rfl, _, rfl, _, rfl, D0, _, rfl, lv_get (.inr ⟨_, sa _ _ hLL⟩) hz, _, rfl, _, rfl, D1, _, rfl, lv_get (.inl (sa _ _ h1L)) hz, _, rfl, _, rfl, D2, _, rfl, lv_get (.inl (sa _ _ h2L)) hz, _, _, rfl, rfl, _, rfl, ?_⟩
    have ew := words_min nd (b1 _ hrw z zrw) (b2 _ hrw z zrw) (b0 _ hrw z zrw)
    rw [show (if g2 z < g1 z then g2 z else g1 z) = g0 z from ew.symm, decide_eq_true rfl]
    exact iteF ⟨sa, da⟩
  · rintro H5 ⟨s5, d5⟩
    have nn : Dn ≠ D0 := fun e => by rw [e, hLL] at hDn; cases hDn
    refine ⟨s5 _ _ hLL, by show 0 ≤ sizeLine; decide, fun l5 hl5 => ?_⟩
    refine ⟨Dn, l5, [], rfl, rfl, same_at hl5 _ _ (by rw [upd_ne nn]; exact d5), upd_same, k _ ?_⟩
    exact (same_lock (sr.free f0) (sL.trans s5)).trans (same_at hl5)
end
end Sj
/-! The law's def, proved for the one place where the row calls it (so that what is shown around is known: nothing). -/
namespace Sup
open PySem PySem.Spec PyProof.Rows L2
abbrev Sp1 := V → Hp → VK → Prop
/-- called there with one value, the def keeps its promise -/
def AtCall (P : Program) (w : World) (K : PySem.W.Frag) (mg : Str → Option Value) (base : Heap) (f : Addr) (sp : Sp1) : Prop :=
  ∀ (s : Shared) (H : Hp) (u : Value) (v : V) (Q : VK), Env0 P w K mg base callerA [] s H → RelV v u → sp v H Q → codeAny (model P w) callerA (.call (.ref f) ⟨[u], []⟩) (CR CX0 [] P w H s Q E0) s
section
variable {P : Program} {w : World} {K : PySem.W.Frag} {mg mb : Str → Option Value} {base : Heap}
theorem at_call {nm q x : Str} {st : Stmt} {f : Addr} {fd : FuncData} {N : List Str} {k : Nat} {sp : Sp1} (F : Fun K nm q st f fd) (S : FnScope N [x] (defScope st)) (room : Room (k + 1) callerA) (hb : ∀ (s : Shared) (u : Value), BindsTo s fd ⟨[u], []⟩ [(x, u)])
    (body : ∀ (cdv : Value) (s : Shared) (H : Hp) (v : V) (Q : VK), Room k (callerA.deeper (envOfC q (defScope st) s.heap.objs.size f cdv)) → sp v H Q →
      ∃ t, PSs (cxOf CX0 P w K mg base N q (defScope st) f cdv callerA [] s H E0).nox (defBody st) t ∧ t { nx := fun _ H' => Q .non H', rt := Q } (start N [v]) H) : AtCall P w K mg base f sp := by
  obtain ⟨oc, od, kV, doc, pm, an, cdv, ct, osl, rfl, lk, hcd⟩ := F.ex
  intro s H u v Q env0 ru hsp
  have stand : ∀ b o, base.get? b = some o → s.heap.get? b = some o := fun b o z => (env0.bs b o z).1
  have inK := env0.mod.kin.keeps stand
  have kinds : ∀ y ∈ [x].zip [u], (defScope st).names.lookup y.1 = some .local ∨ ((defScope st).names.lookup y.1 = some .cell ∧ ((cellsFrom (s.heap.objs.size + 1) (defScope st).names []).lookup y.1).isSome = true) := by
    intro y hy
    have ey : y = (x, u) := by simpa using hy
    subst ey
    exact (S.par x (by simp)).imp id fun c => ⟨c, PySem.W.cellsFrom_some _ _ _ (.inl c)⟩
  apply codeAny_call_function room.depth (inK _ _ lk) rfl S.co S.gen rfl (PySem.W.codeRec_of inK hcd)
  apply hb s u
  apply wpAny_newFunctionEnv_cells S.kind kinds
  intro env he s1 inC
  subst he
  constructor
  · exact (env0.mod.nolimit.keeps stand).keeps inC.toInCall.keep
  · obtain ⟨t, ht, hq⟩ := body cdv s H v Q (room.deeper _) hsp
    have J := inv_start (CX := CX0) (E := E0) (P := P) (w := w) (us := [u]) (vs := [v]) S room.hd env0 rfl (.cons ru .nil) inC
    apply codeAny_func
    apply wpAny_mono (ht.nox.run [] s1 (start N [v]) H _ J hq) _ (fun _ _ z => z)
    intro fl s' hs
    have done : ∀ {σ' : L2.St} {H' : Hp} {y : V} {z : Value}, Inv (cxOf CX0 P w K mg base N q (defScope st) f cdv callerA [] s H E0) [] σ' H' s' → L2.RelV y z → Q y H' → CE [] P w H s Q z s' := by
      intro σ' H' y z I ry qy
      exact ⟨y, H', I.os, I.bare, I.base, I.hok, ry, qy⟩
    match fl, hs with
    | .ret _, ⟨_, _, _, I, ry, qy⟩ => exact done I ry qy
    | .next, ⟨_, _, I, qy⟩ => exact done (y := V.non) (z := Value.none) I rfl qy
    | .brk, ⟨_, _, _, z⟩ => exact z.elim
    | .cont, ⟨_, _, _, z⟩ => exact z.elim
/-- behind the top, from the script alone -/
theorem law_runs {f a : Addr} {sp : Sp1} {s1 : Shared} {vs : List Value} {ns : List Int} (inK : K.In s1.heap) (gl : s1.heap.Ns mainGlobals mg) (bl : s1.heap.Ns builtinsNs mb) (bb : ∀ x : Str, x ≠ "__name__" → mb x = bootBuiltins x) (lim : s1.heap.NoLimit)
    (nogen : s1.gens = #[]) (ha : s1.heap.get? a = some { cls := .type "list", data := .seq vs.toArray }) (hi : IntsAre vs ns) (hl : ns.length ≤ sizeLine)
    (go : ∀ base : Heap, K.In base → base.Ns mainGlobals mg → AtCall P w K mg base f sp) (want : ∀ H : Hp, SqL K H a (ns.map V.int) → sp (.ref a) H fun v _ => v = .bl true) :
    codeAny (model P w) callerA (.call (.ref f) ⟨[.ref a], []⟩) (fun r s' => r = .ok (.ret (.bool true)) ∧ OldK s1.heap s'.heap ∧ s'.os = s1.os ∧ AllBare s'.gens) s1 := by
  have rel := vals_ints hi
  have szV : vs.length ≤ sizeLine := hi.length ▸ hl
  -- H tracks at most the script, as a thing that is known
  have main : ∀ H : Hp, (∀ b u, H b = some u → b = a ∧ K.lookup a = none ∧ ∃ o xs, u = .frz o (.lst xs)) → SqL K H a (ns.map V.int) → HOk P w H s1.heap → codeAny (model P w) callerA (.call (.ref f) ⟨[.ref a], []⟩)
      (fun r s' => r = .ok (.ret (.bool true)) ∧ OldK s1.heap s'.heap ∧ s'.os = s1.os ∧ AllBare s'.gens) s1 := by
    intro H only hS hok
    have keepB : ∀ {b : Addr} {o : Obj}, s1.heap.get? b = some o → (∀ xs n, o.data ≠ .seq xs n) → (hidT s1.heap H).get? b = some o := by
      intro b o e no
      apply hidT_get e
      cases z : H b with
      | none => rfl
      | some u =>
        obtain ⟨eb, _⟩ := only b u z
        rw [eb, ha] at e
        exact absurd rfl (by cases e; exact no _ _)
    have keepK : K.In (hidT s1.heap H) := by
      intro b o e
      apply hidT_get (inK b o e)
      cases z : H b with
      | none => rfl
      | some u =>
        obtain ⟨eb, nk, _⟩ := only b u z
        rw [eb, nk] at e
        cases e
    have keepN : ∀ {b : Addr} {m : Str → Option Value}, s1.heap.Ns b m → (hidT s1.heap H).Ns b m := by
      rintro b m ⟨o, es, ep, e, d, r⟩
      have nl : ∀ xs n, o.data ≠ .seq xs n := fun xs n z => by
        rw [d] at z
        cases z
      exact ⟨o, es, ep, keepB e nl, d, r⟩
    have mod : Mod K mg (hidT s1.heap H) := by
      refine ⟨keepK, keepN gl, ⟨mb, keepN bl, bb⟩, ?_⟩
      obtain ⟨mc, n1, n2⟩ := lim
      exact ⟨mc, keepN n1, n2⟩
    have env : Env0 P w K mg (hidT s1.heap H) callerA [] s1 H := by
      refine ⟨rfl, mod, fun b o e => of_hidT e, Nat.le_of_eq (hidT_size _ _), trivial, ?_, hok, .of_eq nogen⟩
      intro b hb
      cases hb
    apply codeAny_mono (go _ keepK (keepN gl) s1 H (.ref a) (.ref a) _ env rfl (want H hS))
    intro r s' h
    match r, h with
    | .ok (.ret u), ⟨v, H', os, bare, un, hok', ru, q⟩ =>
      have ev : v = .bl true := q
      subst ev
      obtain rfl : u = Value.bool true := ru
      refine ⟨rfl, OldK.of_keep ?_, os, bare⟩
      intro b o e
      cases z : H b with
      | none => exact un.keep b o e z (fun k => by cases k) (fun k => by cases k)
      | some u =>
        obtain ⟨_, _, ob, xs, eu⟩ := only b u z
        subst eu
        have here := (hok b _ z).1
        have there := (hok' b _ (un.frzs b ob _ z)).1
        rw [e] at here
        cases here
        exact there
  cases known : K.lookup a with
  | some o =>
    have eo := inK a o known
    rw [ha] at eo
    cases eo
    apply main (fun _ => none) (fun b u z => by cases z)
    · exact .inr ⟨_, vs.toArray, _, known, rfl, rfl, rfl, by simpa using szV, by simpa using rel⟩
    · intro b u z
      cases z
  | none =>
    apply main (fun b => if b = a then some (.frz { cls := .type "list", data := .seq vs.toArray } (.lst (ns.map V.int))) else none)
    · intro b u z
      by_cases hb : b = a
      · rw [if_pos hb] at z
        cases z
        exact ⟨hb, known, _, _, rfl⟩
      · rw [if_neg hb] at z
        cases z
    · exact .inl (.inr ⟨{ cls := .type "list", data := .seq vs.toArray }, if_pos rfl⟩)
    · intro b u z
      dsimp only at z
      by_cases hb : b = a
      · rw [if_pos hb] at z
        cases z
        subst hb
        exact ⟨ha, by rw [List.length_map]; exact hl, vs, _, rel, ha⟩
      · rw [if_neg hb] at z
        cases z
/-- the goal that k_head leaves, from AtCall -/
theorem walk_at {l : PySem.W.OpenLaw} {n : Nat} {q : Program} {loose : List Str} {XP : (Str → Option Value) → Heap → Prop} {YP : World → Heap → Prop} {d : DefRec} {K : Params → PySem.W.Frag} {sp : PySem.W.Frag → Sp1}
    (hn : l.most = some n) (hz : n ≤ sizeLine) (hdf : d.params.defaults = []) (hY : ∀ (w : World) (h : Heap), YP w h → (K w.params).In h)
    (go : ∀ (w : World) (mg : Str → Option Value) (f : Addr) (h : Heap), (K w.params).In h → h.Ns mainGlobals mg → mg d.name = some (.ref f) →
      ∀ base : Heap, (K w.params).In base → base.Ns mainGlobals mg → AtCall l.prog w (K w.params) mg base f (sp (K w.params)))
    (want : ∀ (K : PySem.W.Frag) (H : Hp) (a : Addr) (ns : List Int), ns.length ≤ n → SqL K H a (ns.map V.int) → sp K (.ref a) H fun v _ => v = .bl true) :
    PySem.W.WalkO q loose XP YP l.row.toRowW d [] (fun f vs => PySem.call f vs) := by
  apply Att.attach_call hn hdf
  intro w _ s1 mg mb f _ _ _ _ a vs ns G Y _ _ _ hmg hobj hints hlen hg
  have inK := hY w _ Y
  exact law_runs inK G.T.g G.T.b G.T.builtins G.T.nolimit hg hobj hints (Nat.le_trans hlen hz) (go w mg f _ inK G.T.g hmg) fun H hS => want _ H a ns hlen hS
end
end Sup
namespace Sj
open PySem L2 Sup StK Own Shw Exg Grd KepE LamX
open NdefX (NF NScope ncx envF startF nscope_by)
open C8 (pss_cut tCut)
/-! k15: the law -/
abbrev sLaw15 : Stmt := top 50
abbrev nL15 : List Str := ["_law_script", "_law_pen_here", "_law_turn", "_law_bare_here", "_law_frame_so", "_law_made", "_law_mate", "_law_both", "_law_rest", "_law_time", "_law_one", "_law_two", "_law_first", "_law_last", "_law_tag"]
theorem scL15 : FnScope nL15 ["_law_script"] (defScope sLaw15) := ⟨rfl, rfl, rfl, by decide +kernel, rfl, by decide +kernel, by decide +kernel⟩
theorem BoW.keepP {H H' : Hp} {CB m o p l : Addr} {cs : List Int} {n : Nat} {d : BareD} {L : List (Addr × List Str)} (h : BoW H CB m d o L) (hP : Pen H p l cs n) (b : But H H' p) : BoW H' CB m d o L := ⟨h.at_.keepP hP b, h.brd⟩
structure L15T (P : Program) (w : World) (K : PySem.W.Frag) (mg : Str → Option Value) (base : Heap) (ks : Kinds) (CF CV CB CN CW fR fW gR : Addr) : Prop where
  pen : FnIs P w K mg base "_law_pen" 1 ["_law_script"] (spPen K)
  pick : FnIs P w K mg base "_law_pick" 2 ["_law_pen_here", "_law_some"] spPick
  bare : FnIs P w K mg base "_law_bare" 3 ["_law_pen_here", "_law_most"] spBare
  frm : FnIs P w K mg base "_law_frame" 7 ["_law_bare_here"] (spFrm ks CF)
  mms : FnIs P w K mg base "_law_members" 2 ["_law_bare_here"] spMms
  par : FnIs P w K mg base "_law_parted" 3 ["_law_pen_here", "_law_bare_here"] spPar
  brd : FnIs P w K mg base "_law_board" 8 ["_law_pen_here", "_law_made", "_law_blocks_so"] (spBrd ks CF CB)
  lvs : FnIs P w K mg base "_law_levels" 3 ["_law_pen_here", "_law_bare_here"] spLvs
  wrd : FnIs P w K mg base "_law_word" 9 ["_law_made", "_law_levels_so"] (spWrd ks CF CW)
  h5 : H5T P w K mg base ks CF CV CB CN CW fR fW
  joi : ∃ f fd, mg "_law_joined_right" = some (.ref f) ∧ PySem.W.keepIn K (.ref f) = true ∧ Binds K fd ["_law_made", "_law_mate", "_law_both", "_law_word_so"] [] ∧ FnG P w K mg base CX0 9 f fd ["_law_made", "_law_mate", "_law_both", "_law_word_so"] (spJoi K ks CF CB CW)
  our : ∃ f fd, mg "_law_out_right" = some (.ref f) ∧ PySem.W.keepIn K (.ref f) = true ∧ Binds K fd ["_law_made", "_law_word_so"] [] ∧ FnG P w K mg base CX0 9 f fd ["_law_made", "_law_word_so"] (spOur K ks CF CB CW)
  wor : ∃ f fd, mg "_law_words_right" = some (.ref f) ∧ PySem.W.keepIn K (.ref f) = true ∧ Binds K fd ["_law_made", "_law_one", "_law_two"] [] ∧ FnG P w K mg base CX0 9 f fd ["_law_made", "_law_one", "_law_two"] (spWor K ks CF CB CW)
  mW : mg "Word" = some (.ref CW)
  wk : ∃ mc pR, ClX.CRead K CW mc ∧ ClX.CMet K CW mc "rest" pR gR
  re0 : FnK P w K mg base CX0 8 gR [] (fun vs zs H Q E => vs.length = 2 ∧ spWRest ks CF CW vs H Q E)
  rtS : RightT K CB "sub" (.type "str")
  icB : IsiC K CB
  nfB : PySem.W.notFirst K CB (.ref CB) = true
  ne : ks.drv ≠ ks.lis
  range : mg "range" = none
abbrev stL15 (sc p : Addr) (o2 o3 o4 o5 o6 o7 o8 o9 o10 o11 o12 o13 o14 : Option V) : List (Option V) := [some (.ref sc), some (.ref p), o2, o3, o4, o5, o6, o7, o8, o9, o10, o11, o12, o13, o14]
def spLaw15 (K : PySem.W.Frag) : Sp1 := fun v H Q => ∃ (a : Addr) (ns : List Int), v = .ref a ∧ SqL K H a (ns.map V.int) ∧ ns.length ≤ 63 ∧ ∀ H', Q (.bl true) H'
def ttFi : TT := tTest (tOp (rI0 fun i j => .bl (decide (j < i))) (tDGet (tVar 13) (tVar 14)) (tDGet (tVar 12) (tVar 14)))
theorem ot_le {d : BareD} {z : Str} {R T : List (List Str)} (O : Ot d z R T) (hR : Brd d R) (hz : z ∈ memB d) : Le T R := O.b.trans fun r hr => by
  rcases List.mem_append.mp hr with hr | hr
  · obtain ⟨_, b, hb, e⟩ := outR_mem hr
    exact ⟨b, hb, fun y hy => by rw [e] at hy; exact (offZ_mem.mp hy).1⟩
  · rw [List.mem_singleton.mp hr]
    obtain ⟨b, hb, q⟩ := hR.row hz
    exact ⟨b, hb, fun y hy => by rw [List.mem_singleton.mp hy]; exact q⟩
theorem nob_of {L Bl : List (Addr × List Str)} (h : Le (L.map (·.2)) (Bl.map (·.2))) (nb : NoBoth Bl) : NoBoth L := fun x hx q => by
  obtain ⟨s, hs, sub⟩ := h x.2 (List.mem_map.mpr ⟨x, hx, rfl⟩)
  obtain ⟨y, hy, rfl⟩ := List.mem_map.mp hs
  exact nb y hy ⟨sub _ q.1, sub _ q.2⟩
section
variable {P : Program} {w : World} {K : PySem.W.Frag} {mg : Str → Option Value} {base : Heap}
theorem at_law {f CF CV CB CN CW fR fW gR : Addr} {fd : FuncData} {ks : Kinds} (F : Fun K "law" "law" sLaw15 f fd) (hb : ∀ (s : Shared) (u : Value), BindsTo s fd ⟨[u], []⟩ [("_law_script", u)]) (T : L15T P w K mg base ks CF CV CB CN CW fR fW gR) : AtCall P w K mg base f (spLaw15 K) := by
  refine at_call (k := 10) F scL15 ⟨rfl, by decide, by decide⟩ hb fun cdv s H v Q hr h => ?_
  obtain ⟨sc, ns, rfl, hS, hlen, k⟩ := h
  obtain ⟨fP, fdP, mP, kP, bP, GP⟩ := T.pen
  obtain ⟨fC, fdC, mC, kC, bC, GC⟩ := T.pick
  obtain ⟨fA, fdA, mA, kA, bA, GA⟩ := T.bare
  obtain ⟨fF, fdF, mF, kF, bF, GF⟩ := T.frm
  obtain ⟨fM, fdM, mM, kM, bM, GM⟩ := T.mms
  obtain ⟨fQ, fdQ, mQ, kQ, bQ, GQ⟩ := T.par
  obtain ⟨fD, fdD, mD, kD, bD, GD⟩ := T.brd
  obtain ⟨fL, fdL, mL, kL, bL', GL⟩ := T.lvs
  obtain ⟨fO, fdO, mO, kO, bO, GO⟩ := T.wrd
  obtain ⟨fX, fdX, mX, kX, bX, GX⟩ := T.joi
  obtain ⟨fY, fdY, mY, kY, bY, GY⟩ := T.our
  obtain ⟨fZ, fdZ, mZ, kZ, bZ, GZ⟩ := T.wor
  obtain ⟨mcW, pR, crW, cR⟩ := T.wk
  have A := T.h5
  have hgu : (callerA.deeper (PyProof.Rows.envOfC "law" (defScope sLaw15) s.heap.objs.size f cdv)).guards = some [] := rfl
  have hr1 := hr.mono (show 1 ≤ 10 by decide)
  have hr2 := hr.mono (show 2 ≤ 10 by decide)
  have hr3 := hr.mono (show 3 ≤ 10 by decide)
  have hr5 := hr.mono (show 5 ≤ 10 by decide)
  have hr6 := hr.mono (show 6 ≤ 10 by decide)
  have hr7 := hr.mono (show 7 ≤ 10 by decide)
  have hr8 := hr.mono (show 8 ≤ 10 by decide)
  have hr9 := hr.mono (show 9 ≤ 10 by decide)
  have hu := hu_of hr
  refine ⟨_, pss_cons (ps_set (i := 1) scL15.nd rfl (Or.inl rfl) (pe_call GP hr1 rfl mP kP bP .nil pass0 (pa_cons (pv 0) pa_nil)))
    (pss_cut (ps_for PassesOwn.never rfl (pi_range1 rfl T.range (pa_cons pe_int pa_nil)) (pg_name (i := 2) scL15.nd rfl (Or.inl rfl))
      (pss_cons (ps_set (i := 3) scL15.nd rfl (Or.inl rfl) (pe_call GA hr3 rfl mA kA bA .nil pass0 (pa_cons (pv 1) (pa_cons pe_int pa_nil))))
      (pss_cons (ps_set (i := 4) scL15.nd rfl (Or.inl rfl) (pe_call GF hr7 rfl mF kF bF .nil pass0 (pa_cons (pv 3) pa_nil)))
      (pss_cons (ps_set (i := 5) scL15.nd rfl (Or.inl rfl) (pe_call GD hr8 rfl mD kD bD .nil pass0 (pa_cons (pv 1) (pa_cons (pv 4) (pa_cons (pe_call GQ hr3 rfl mQ kQ bQ .nil pass0 (pa_cons (pv 1) (pa_cons (pv 3) pa_nil))) pa_nil)))))
      (pss_cut (ps_set (i := 6) scL15.nd rfl (Or.inl rfl) (pe_ifExp (pt_cmpR (op_neNil hr.units) (pe_call GM hr2 rfl mM kM bM .nil pass0 (pa_cons (pv 3) pa_nil)) (pe_lst pa_nil) (nomark _))
          (pe_binS (E := fun _ => E0) A.sub hgu hr7 (pAt (passNo rfl rfl)) (pv 5) (pe_call GC hr2 rfl mC kC bC .nil pass0 (pa_cons (pv 1) (pa_cons (pe_call GM hr2 rfl mM kM bM .nil pass0 (pa_cons (pv 3) pa_nil)) pa_nil)))) (pv 5)))
      (pss_cut (ps_if (pt_cmpR op_notIn_seq pe_str (pe_dget hu (pv 3) pe_str (fun _ _ => rfl)) (by rfl)) (pss_one (ps_set (i := 6) scL15.nd rfl (Or.inl rfl) (pe_call GD hr8 rfl mD kD bD .nil pass0 (pa_cons (pv 1) (pa_cons (pv 4) (pa_cons (pe_call GQ hr3 rfl mQ kQ bQ .nil pass0 (pa_cons (pv 1) (pa_cons (pv 3) pa_nil))) pa_nil)))))) pss_nil)
      (pss_cons (ps_par (i := 7) (j := 8) (by rfl) scL15.nd rfl rfl (by decide) rfl rfl (pa_cons (pe_binS (E := fun _ => E0) A.or_ hgu hr7 (pAt (passNo rfl rfl)) (pv 5) (pv 6)) (pa_cons (pe_cmethK (pe_glob rfl T.mW (v := .ref CW) rfl) crW cR T.re0 hr8 pass0 (pa_cons (pv 4) pa_nil) pk_nil) pa_nil)) (by rfl))
      (pss_cut (ps_for PassesOwn.never rfl (pi_range1 rfl T.range (pa_cons pe_int pa_nil)) (pg_name (i := 9) scL15.nd rfl (Or.inl rfl))
        (pss_cons (ps_set (i := 10) scL15.nd rfl (Or.inl rfl) (pe_call GO hr9 rfl mO kO bO .nil pass0 (pa_cons (pv 4) (pa_cons (pe_call GL hr3 rfl mL kL bL' .nil pass0 (pa_cons (pv 1) (pa_cons (pv 3) pa_nil))) pa_nil))))
        (pss_cons (ps_set (i := 11) scL15.nd rfl (Or.inl rfl) (pe_call GO hr9 rfl mO kO bO .nil pass0 (pa_cons (pv 4) (pa_cons (pe_call GL hr3 rfl mL kL bL' .nil pass0 (pa_cons (pv 1) (pa_cons (pv 3) pa_nil))) pa_nil))))
        (pss_cons (ps_if (PW.pt (pw_or (pt_not (pt_val (pe_callG GX hgu hr9 rfl mX kX bX pass0 (pa_cons (pv 5) (pa_cons (pv 6) (pa_cons (pv 7) (pa_cons (pv 10) pa_nil))))))) (pw_or1 (pt_not (pt_val (pe_callG GZ hgu hr9 rfl mZ kZ bZ pass0 (pa_cons (pv 5) (pa_cons (pv 10) (pa_cons (pv 11) pa_nil))))))))) (pss_one (ps_ret pe_bl)) pss_nil)
        (pss_cons (ps_if (pt_not (pt_val (pe_callG GY hgu hr9 rfl mY kY bY pass0 (pa_cons (pv 5) (pa_cons (pv 10) pa_nil))))) (pss_one (ps_ret pe_bl)) pss_nil)
        (pss_one (ps_if (pt_cmpR op_notIn_seq pe_str (pe_dget hu (pv 3) pe_str (fun _ _ => rfl)) (by rfl))
          (pss_cons (ps_asg (pe_tup (pa_cons (pe_callI A.cal hgu hr6 pass0 (pv 5) (pa_cons (pv 10) pa_nil)) (pa_cons (pe_callI A.cal hgu hr6 pass0 (pv 7) (pa_cons (pv 10) pa_nil)) pa_nil))) (pg_tup rfl (pgs_cons (pg_name (i := 12) scL15.nd rfl (Or.inr rfl)) (pgs_cons (pg_name (i := 13) scL15.nd rfl (Or.inr rfl)) pgs_nil))))
          (pss_one (ps_if (PW.pt (pw_or (pt_cmpR (op_neNil hr.units) (pe_lock (pe_lc (te := tVar 14) (tt := ttFi) (own := [("_law_tag", 14)]) (g := gName 14) rfl scL15.nd (pi_keys (pv 12)) (blkOk_by (N := nL15) (sc := defScope sLaw15) (by decide +kernel))
              (fun _ _ _ _ _ => pg_name (i := 14) scL15.nd rfl (Or.inl rfl)) (fun _ _ _ _ _ => pts_one (pt_cmpR op_gt (pe_dget hu (pv 13) (pv 14) (fun _ _ => rfl)) (pe_dget hu (pv 12) (pv 14) (fun _ _ => rfl)) (nomark _))) (fun _ _ _ _ _ => pv 14))) (pe_lst pa_nil) (nomark _))
            (pw_or1 (pt_not (pt_val (pe_methGR (pv 5) A.clB A.wm A.wi hgu hr7 (passNo rfl rfl) (pa_cons (pv 7) pa_nil))))))) (pss_one (ps_ret pe_bl)) pss_nil))) pss_nil)))))))
      (pss_one (ps_for PassesOwn.never rfl (pi_tup (pe_propS (S := fun C => C = CF) (spP := fun _ => spTup ks CF fun d => names d.ys) (pv 4) (fun C e => by rw [e]; exact A.nms) hr2)) (pg_name (i := 14) scL15.nd rfl (Or.inl rfl))
        (pss_one (ps_if (pt_cmpR op_ne (pe_methGR (pv 5) A.clB A.rm A.rd hgu hr6 pass0 (pa_cons (pv 8) (pa_cons (pv 14) pa_nil))) (pe_ifExp (pt_cmpR op_in_seq pe_str (pe_itO A.get hgu hr5 (passNo rfl rfl) (pv 5) (pv 14)) (by rfl)) pe_int (pe_dget hu (pv 3) pe_str (fun _ _ => rfl))) (nomark _)) (pss_one (ps_ret pe_bl)) pss_nil))))))))))))
    (pss_one (ps_ret pe_bl))), ?_⟩
  refine ⟨_, rfl, sc, ns, rfl, hS, hlen, fun p l cs H1 hP s1 => ?_⟩
  refine ⟨fun σ' H' => ∃ o2 o3 o4 o5 o6 o7 o8 o9 o10 o11 o12 o13 o14, σ' = stL15 sc p o2 o3 o4 o5 o6 o7 o8 o9 o10 o11 o12 o13 o14, ?_, ?_⟩
  · refine ⟨4, rfl, by decide, by decide, for_range (n := 4) (fun i σ H' => (∃ o2 o3 o4 o5 o6 o7 o8 o9 o10 o11 o12 o13 o14, σ = stL15 sc p o2 o3 o4 o5 o6 o7 o8 o9 o10 o11 o12 o13 o14) ∧ Pen H' p l cs (1500 * i)) ⟨⟨_, _, _, _, _, _, _, _, _, _, _, _, _, rfl⟩, hP⟩ ?_ (fun σ H' h => h.1)⟩
    rintro i σ H2 hi ⟨⟨o2, o3, o4, o5, o6, o7, o8, o9, o10, o11, o12, o13, o14, rfl⟩, P2⟩
    -- bare, frame
    refine ⟨_, rfl, p, l, cs, 1500 * i, 8, rfl, P2, by decide, by omega, fun b d H3 ok hl8 hb2 hB3 P3 b23 => ?_⟩
    refine ⟨_, rfl, b, d, p, rfl, hB3, ok, fun m ys H4 hF4 hk hm3 s34 => ?_⟩
    obtain ⟨fr, efr⟩ : ∃ fr : FrD, fr = ⟨ys, d.t, d.g, d.r⟩ := ⟨_, rfl⟩
    have told := told_of ok T.ne hF4.so hk
    have hfm : (membZ fr).Perm (memB d) := by rw [efr]; exact kinds_mem hk (.refl _) rfl rfl
    have nmp : (names fr.ys).Perm (d.ds ++ d.ls) := by rw [efr]; exact told.pm
    have npo : ∀ z ∈ names fr.ys, z ∈ poolS := fun z hz => ok.po z (nmp.mem_iff.mp hz)
    have S : Sv K ks CF CB m d fr := ⟨ok, hfm, eqFr_self rfl rfl rfl (by rw [efr]; exact eqLegs_of hk hk), T.icB, T.nfB, fun h => absurd (npo _ h) (by decide +kernel), fun h => absurd (npo _ h) (by decide +kernel)⟩
    have pwr : ("power" : Str) ∉ railsZ d.g d.r → ("power" : Str) ∉ memB d := fun h q => by
      rcases List.mem_append.mp q with q | q
      · exact absurd (ok.po _ q) (by decide +kernel)
      · exact h q
    have lvk : ∀ {gv : List (Str × Int)}, LvB d gv → LvOk ks fr gv := fun {gv} hv => ⟨hv.1, fun q hq => ⟨by rw [efr]; show q.1 ∈ kindZ ks true ys; rw [told.dr]; exact (hv.2 q hq).1, by rw [efr]; exact (hv.2 q hq).2⟩⟩
    have ft : fr.t = d.t := by rw [efr]
    have t1 : 1 ≤ fr.t := by rw [ft]; exact ok.t1
    have t3 : fr.t ≤ 3 := by rw [ft]; exact ok.t3
    rw [← efr] at hF4
    have P4 := P3.same s34
    have hB4 := hB3.same s34
    have fnd := memB_nd ok
    have f18 := memB_18 ok
    -- board
    refine ⟨_, rfl, _, rfl, _, rfl, _, rfl, p, l, cs, _, b, d, rfl, P4, hB4, ok, by omega, fun q1 Bl H5 hL5 hm1 hnb1 hq10 hf1 P5 b45 => ?_⟩
    refine ⟨p, l, cs, _, m, q1, fr, Bl, rfl, P5, hF4.keepP P4 b45, hL5, hm1.trans hfm.symm, hfm.nodup_iff.mpr fnd, hnb1, by omega, by rw [hfm.length_eq]; exact f18, fun o1 L1 H6 hR1 hA1 ho1 P6 b56 => ?_⟩
    have b46 := b45.trans b56
    obtain ⟨br1, _, le1⟩ := brd_of hR1 hm1 fun x hx => (hL5.each x hx).2.1
    have gp1 : NoBoth L1 := nob_of le1 hnb1
    have hO1 : BoW H6 CB m d o1 L1 := ⟨hA1, br1⟩
    have hB6 := hB4.but P4 b46
    have hF6 := hF4.keepP P4 b46
    clear hA1 hB3 hB4 hF4 hL5
    -- a mate
    refine ⟨fun σ' H' => (∃ om Lm, σ' = stL15 sc p (some (.int (0 + (i : Int)))) (some (.ref b)) (some (.ref m)) (some (.ref o1)) (some (.ref om)) o7 o8 o9 o10 o11 o12 o13 o14 ∧ BoW H' CB m d om Lm ∧ (("power" : Str) ∈ memB d → Le (Lm.map (·.2)) (L1.map (·.2)))) ∧ Pen H' p l cs (1500 * i + 490) ∧ But H6 H' p, ?_, ?_⟩
    · refine ⟨_, rfl, b, d, p, rfl, hB6, ok, fun zs zq H7 hzs hso hzq0 hzq s67 => ⟨by show 0 ≤ sizeLine; decide, fun l5 hl5 => ?_⟩⟩
      have s78 := same_at (o := .lst []) hl5
      have s68 := s67.trans s78
      refine ⟨zq, l5, strv zs, rfl, rfl, s78 _ _ hzq, upd_same, !zs.isEmpty, ?_, ?_⟩
      · show V.bl (!(strv zs).isEmpty) = _
        rw [show (strv zs).isEmpty = zs.isEmpty from List.isEmpty_map]
      by_cases e0 : zs.isEmpty = true
      · rw [e0]
        exact iteF ⟨_, rfl, ⟨_, _, rfl, hO1.same s68, fun _ => Le.refl _⟩, (P6.same s68).mono (by omega), But.of s68⟩
      rw [Bool.eq_false_iff.mpr e0]
      obtain ⟨H8, e8⟩ : ∃ H8, H8 = upd H7 l5 (.lst []) := ⟨_, rfl⟩
      rw [← e8] at s78 s68 ⊢
      refine iteT ⟨_, rfl, _, rfl, _, rfl, b, d, p, rfl, hB6.same s68, ok, fun zs2 zq2 H9 hzs2 hso2 hzq20 hzq2 s89 => ?_⟩
      have s69 := s68.trans s89
      have z0 : zs2 ≠ [] := fun e => by
        have h1 := hzs.length_eq
        have h2 := hzs2.length_eq
        rw [e] at h2
        have : zs = [] := List.length_eq_zero_iff.mp (by rw [h1, ← h2]; rfl)
        rw [this] at e0
        exact e0 rfl
      have hl2 : (strv zs2).length = zs2.length := List.length_map _
      have l18 : zs2.length ≤ 18 := by rw [hzs2.length_eq]; exact f18
      refine ⟨p, l, zq2, cs, _, strv zs2, rfl, P6.same s69, hzq2, nep (P6.same s68) hzq20, by rw [hl2]; exact List.length_pos_iff.mpr z0, by omega, by omega, fun j x H10 hx P10 b910 => ?_⟩
      obtain ⟨z, hz, rfl⟩ : ∃ z ∈ zs2, x = .str z := by
        obtain ⟨z, hz, e⟩ := List.mem_map.mp (List.mem_of_getElem? hx)
        exact ⟨z, hz, e.symm⟩
      have zm : z ∈ memB d := hzs2.mem_iff.mp hz
      have b610 := (But.of s69).trans b910
      refine sub_v S (hF6.keepP P6 b610) (hO1.keepP P6 b610) gp1 zm T.rtS fun om Lm H11 O gpm hOm s1011 => ⟨⟨om, Lm, rfl, hOm, fun _ => ot_le O br1 zm⟩, (P10.same s1011).mono (by omega), b610.trans (But.of s1011)⟩
    rintro σ Ha ⟨⟨om0, Lm0, rfl, hOm0, hle0⟩, Pa, b6a⟩
    have rl : ∀ {H' : Hp}, BareAt H' b d p → ∃ r, DGet H' b (.str "rails") (some (.ref r)) ∧ H' r = some (.lst (strv (railsZ d.g d.r))) := fun h => by
      obtain ⟨dl, ll, r, hb, _, _, hr, _⟩ := h.ex
      exact ⟨r, DGet.k (k := Sum.inr "rails") hb, hr⟩
    have hBa := hB6.but P6 b6a
    -- another one where there is no power
    refine ⟨fun σ' H' => (∃ om Lm, σ' = stL15 sc p (some (.int (0 + (i : Int)))) (some (.ref b)) (some (.ref m)) (some (.ref o1)) (some (.ref om)) o7 o8 o9 o10 o11 o12 o13 o14 ∧ BoW H' CB m d om Lm ∧ (("power" : Str) ∈ memB d → Le (Lm.map (·.2)) (L1.map (·.2)))) ∧ Pen H' p l cs (1500 * i + 930) ∧ But H6 H' p, ?_, ?_⟩
    · obtain ⟨r, hrg, hrr⟩ := rl hBa
      refine ⟨_, rfl, b, _, rfl, hrg, r, _, rfl, .inl (SqL.of hrr), rfl, flat_strv _, _, rfl, ?_⟩
      rw [inV_strs]
      by_cases hpw : ("power" : Str) ∈ railsZ d.g d.r
      · rw [decide_eq_true hpw]
        exact iteF ⟨⟨_, _, rfl, hOm0, hle0⟩, Pa.mono (by omega), b6a⟩
      rw [decide_eq_false hpw]
      refine iteT ⟨_, rfl, _, rfl, _, rfl, _, rfl, p, l, cs, _, b, d, rfl, Pa, hBa, ok, by omega, fun q2 Bm Hb hLb hm2 hnb2 hq20 hf2 Pb bab => ?_⟩
      have b6b := b6a.trans bab
      refine ⟨p, l, cs, _, m, q2, fr, Bm, rfl, Pb, hF6.keepP P6 b6b, hLb, hm2.trans hfm.symm, hfm.nodup_iff.mpr fnd, hnb2, by omega, by rw [hfm.length_eq]; exact f18, fun o2' L2 Hc hR2 hA2 ho2 Pc bbc => ?_⟩
      obtain ⟨br2, _, _⟩ := brd_of hR2 hm2 fun x hx => (hLb.each x hx).2.1
      exact ⟨⟨_, _, rfl, ⟨hA2, br2⟩, fun q => absurd q (pwr hpw)⟩, Pc.mono (by omega), b6b.trans bbc⟩
    rintro σ Hd ⟨⟨om, Lm, rfl, hOm, hle⟩, Pd, b6d⟩
    have hFd := hF6.keepP P6 b6d
    have hOd := hO1.keepP P6 b6d
    have hBd := hB6.but P6 b6d
    have hJ : ∀ r ∈ joinA L1 Lm, ¬ (("ground" : Str) ∈ r ∧ ("power" : Str) ∈ r) := fun r hr q => by
      by_cases hp : ("power" : Str) ∈ memB d
      · obtain ⟨t, ht, sub⟩ := joinA_le ok hOd.brd hOm.brd hOd.brd.fl (Le.refl _) (hle hp) r hr
        obtain ⟨y, hy, rfl⟩ := List.mem_map.mp ht
        exact gp1 y hy ⟨sub _ q.1, sub _ q.2⟩
      · exact (join_fit hOd.brd hOm.brd hp r hr).2 q
    -- joined
    refine ⟨_, rfl, _, rfl, or_v S hFd hOd hOm gp1 hJ fun ob Lb He J hObe sde => ?_⟩
    refine ⟨rfl, _, rfl, rfl, rfl, m, fr, rfl, hFd.same sde, t1, t3, fun wr Hf hw0 hWr sef => ⟨_, _, rfl, ?_⟩⟩
    have sdf := sde.trans sef
    have Pf := Pd.same sdf
    have hFf := hFd.same sdf
    have hOf := hOd.same sdf
    have hOmf := hOm.same sdf
    have hObf := hObe.same sef
    have hBf := hBd.same sdf
    clear hOd hOm hObe hFd hBd hO1 hOm0 hB6 hF6 hBa
    obtain ⟨dxf, fsf, eaf⟩ := hFf.ins
    obtain ⟨dx1, B1, E1, hs1, i1, _, r1, _⟩ := id hOf.at_
    obtain ⟨dxb, Bb, Eb, hsb, ib, _⟩ := id hObf.at_
    -- three pairs of words
    refine ⟨fun σ' H' => (∃ o9 o10 o11 o12 o13 o14, σ' = stL15 sc p (some (.int (0 + (i : Int)))) (some (.ref b)) (some (.ref m)) (some (.ref o1)) (some (.ref om)) (some (.ref ob)) (some (.ref wr)) o9 o10 o11 o12 o13 o14) ∧ Pen H' p l cs (1500 * i + 1300) ∧ But Hf H' p, ?_, ?_⟩
    · refine ⟨3, rfl, by decide, by decide, for_range (n := 3) (fun j σ H' => (∃ o9 o10 o11 o12 o13 o14, σ = stL15 sc p (some (.int (0 + (i : Int)))) (some (.ref b)) (some (.ref m)) (some (.ref o1)) (some (.ref om)) (some (.ref ob)) (some (.ref wr)) o9 o10 o11 o12 o13 o14) ∧ Pen H' p l cs (1500 * i + 930 + 120 * j) ∧ But Hf H' p) ⟨⟨_, _, _, _, _, _, rfl⟩, Pf, But.of (Same.refl _)⟩ ?_ (fun σ H' h => ⟨h.1, h.2.1.mono (by omega), h.2.2⟩)⟩
      rintro j σ Ha hj ⟨⟨u9, u10, u11, u12, u13, u14, rfl⟩, Pa, ba⟩
      -- one
      refine ⟨_, rfl, _, rfl, _, rfl, p, l, cs, _, b, d, rfl, Pa, hBf.but Pf ba, ok, by omega, fun D gv Hb hv _ hL hD0 Pb bab => ⟨m, D, fr, gv, rfl, hFf.keepP Pf (ba.trans bab), hL, lvk hv, t1, t3, fun wa Hc hwa hWa sbc => ?_⟩⟩
      have Pc := Pb.same sbc
      have bc := (ba.trans bab).trans (But.of sbc)
      -- two
      refine ⟨_, rfl, _, rfl, _, rfl, p, l, cs, _, b, d, rfl, Pc, hBf.but Pf bc, ok, by omega, fun D' hv' Hg hvv _ hL' hD0' Pg bcg => ⟨m, D', fr, hv', rfl, hFf.keepP Pf (bc.trans bcg), hL', lvk hvv, t1, t3, fun wb Hh hwb hWb sgh => ?_⟩⟩
      have bh := (bc.trans bcg).trans (But.of sgh)
      have Ph := (Pg.same sgh).mono (show _ ≤ 1500 * i + 930 + 120 * (j + 1) by omega)
      have hWa' : WdIs ks CF CW Hh wa fr gv := (hWa.but Pc bcg).same sgh
      have hFh := hFf.keepP Pf bh
      have hOh := hOf.keepP Pf bh
      have hOmh := hOmf.keepP Pf bh
      have hObh := hObf.keepP Pf bh
      have hBh := hBf.but Pf bh
      obtain ⟨dx1, B1, E1, hs1, i1, _⟩ := id hOh.at_
      obtain ⟨dxb, Bb, Eb, hsb, ib, _⟩ := id hObh.at_
      refine ⟨_, rfl, _, rfl, _, rfl, _, rfl, m, o1, om, ob, wa, d, fr, gv, L1, Lm, Lb, rfl, S, hFh, hOh, hOmh, hObh, J, hWa', fun Hi t1' => ⟨_, rfl, iteF ?_⟩⟩
      refine ⟨_, rfl, _, rfl, _, rfl, m, o1, wa, wb, d, fr, gv, hv', L1, rfl, S, hFh.same t1', hOh.same t1', hWa'.same t1', hWb.same t1', fun Hj t12 => ⟨_, rfl, iteF ?_⟩⟩
      have t2 := t1'.trans t12
      refine ⟨_, rfl, _, rfl, m, o1, wa, d, fr, gv, L1, rfl, S, hFh.same t2, hOh.same t2, gp1, hWa'.same t2, fun Hk t23 => ⟨_, rfl, iteF ?_⟩⟩
      have t3' := t2.trans t23
      obtain ⟨r, hrg, hrr⟩ := rl (hBh.same t3')
      refine ⟨_, rfl, b, _, rfl, hrg, r, _, rfl, .inl (SqL.of hrr), rfl, flat_strv _, _, rfl, ?_⟩
      rw [inV_strs]
      by_cases hpw : ("power" : Str) ∈ railsZ d.g d.r
      · rw [decide_eq_true hpw]
        exact iteF ⟨⟨_, _, _, _, _, _, rfl⟩, Ph.same t3', bh.trans (But.of t3')⟩
      rw [decide_eq_false hpw]
      have np := pwr hpw
      -- within: never lower
      refine iteT ⟨_, rfl, o1, dx1, _, rfl, t3' _ _ i1, _, rfl, ⟨_, t3' _ _ i1⟩, cal_c S (hFh.same t3') (hOh.same t3') (hWa'.same t3') fun D1 g1 Hl b1 f1 e1 t34 => ?_⟩
      have t4 := t3'.trans t34
      refine ⟨_, rfl, ob, dxb, _, rfl, t4 _ _ ib, _, rfl, ⟨_, t4 _ _ ib⟩, cal_c S (hFh.same t4) (hObh.same t4) (hWa'.same t4) fun D2 g2 Hm b2 f2 e2 t45 => ⟨by show 2 ≤ sizeLine; decide, fun tt htt => ?_⟩⟩
      refine ⟨tt, _, rfl, SqT.of upd_same, rfl, _, _, rfl, _, _, rfl, rfl, ?_⟩
      obtain ⟨Hn, en⟩ : ∃ Hn, Hn = upd Hm tt (.tup [V.ref D1, .ref D2]) := ⟨_, rfl⟩
      have t56 : Same Hm Hn := by rw [en]; exact same_at htt
      rw [← en]
      have n21 : D2 ≠ D1 := fun e => by rw [e, e1] at f2; cases f2
      have h1 : Hn D1 = some (.dK (((names fr.ys).map fun z => (z, g1 z)).map lvRow)) := (t45.trans t56) _ _ e1
      have h2 := t56 _ _ e2
      refine ⟨D1, _, h1, trivial, fun od => ?_⟩
      obtain ⟨HL, eL⟩ : ∃ HL, HL = upd Hn D1 (.frz od (.dK (((names fr.ys).map fun z => (z, g1 z)).map lvRow))) := ⟨_, rfl⟩
      have hLL : HL D1 = some (.frz od (.dK (((names fr.ys).map fun z => (z, g1 z)).map lvRow))) := by rw [eL, upd_same]
      have h2L : HL D2 = some (.dK (((names fr.ys).map fun z => (z, g2 z)).map lvRow)) := by rw [eL, upd_ne n21]; exact h2
      have sL : Same Hk HL := by rw [eL]; exact same_lock f1 ((t34.trans t45).trans t56)
      rw [← eL]
      have hkl : (((names fr.ys).map fun z => (z, g1 z)).map lvRow).length = (names fr.ys).length := by rw [List.length_map, List.length_map]
      refine ⟨_, rfl, D1, od, rfl, .inl ⟨_, hLL, fun Dn hDn => ?_⟩⟩
      refine lc_it (walk_keys (d := D1) (o := od) (kvs := ((names fr.ys).map fun z => (z, g1 z)).map lvRow)) (fun i H' => Same HL H' ∧ H' Dn = some (.lst [])) ⟨same_at hDn, upd_same⟩ (fun i H' _ q => q.1 _ _ hLL) ?_ ?_
      · rintro n x Ho Hp hn ⟨sa, da⟩ ⟨rfl, kk, vv, hkv, rfl⟩
        rw [hkl] at hn
        obtain ⟨z, ez⟩ : ∃ z, z = (names fr.ys)[n] := ⟨_, rfl⟩
        have e5 : (((names fr.ys).map fun z => (z, g1 z)).map lvRow)[n]? = some (Sum.inr z, .int (g1 z)) := by rw [List.getElem?_map, List.getElem?_map, List.getElem?_eq_getElem hn, ← ez]; rfl
        rw [e5] at hkv
        obtain rfl : Sum.inr z = kk := congrArg Prod.fst (Option.some.inj hkv)
        have hz : z ∈ names fr.ys := by rw [ez]; exact List.getElem_mem hn
        obtain ⟨x1, hx1, zx1⟩ := hOh.brd.row (S.mem hz)
        obtain ⟨x2, hx2, zx2⟩ := hObh.brd.row (S.mem hz)
        refine ⟨rfl, _, rfl, _, rfl, D2, _, rfl, lv_get (.inl (sa _ _ h2L)) hz, _, rfl, _, rfl, D1, _, rfl, lv_get (.inr ⟨_, sa _ _ hLL⟩) hz, _, _, rfl, rfl, ⟨_, rfl, ?_⟩⟩
        have lo := mono_le ok hObh.brd J.l hx1 hx2 zx1 zx2 (fun q => np (hObh.brd.fl.mem_iff.mp (List.mem_flatten.mpr ⟨_, hx2, q⟩))) (b1 _ hx1 z zx1) (b2 _ hx2 z zx2)
        rw [decide_eq_false (show ¬ g1 z < g2 z by omega)]
        exact iteF ⟨sa, da⟩
      rintro H5 ⟨s5, d5⟩
      have nn : Dn ≠ D1 := fun e => by rw [e, hLL] at hDn; cases hDn
      refine ⟨s5 _ _ hLL, by show 0 ≤ sizeLine; decide, fun l5 hl5 => ?_⟩
      have sU : Same Hk (upd H5 D1 (.dK (((names fr.ys).map fun z => (z, g1 z)).map lvRow))) := same_lock f1 (sL.trans s5)
      have s6 := sU.trans (same_at (o := .lst []) hl5)
      refine ⟨Dn, l5, [], rfl, rfl, same_at hl5 _ _ (by rw [upd_ne nn]; exact d5), upd_same, _, rfl, iteF ?_⟩
      have t6 := t3'.trans s6
      refine ⟨_, rfl, o1, dx1, _, rfl, t6 _ _ i1, rfl, _, rfl, ?_⟩
      try unfold tNil
      refine wi_v (CV := CV) S (hFh.same t6) (hOh.same t6) (hObh.same t6) fun Hw t7 => ⟨_, rfl, ?_⟩
      rw [within_le.mpr J.l]
      exact iteF ⟨⟨_, _, _, _, _, _, rfl⟩, (Ph.same t6).same t7, (bh.trans (But.of t6)).trans (But.of t7)⟩
    rintro σ Hg ⟨⟨u9, u10, u11, u12, u13, u14, rfl⟩, Pg, bg⟩
    have hFg := hFf.keepP Pf bg
    have hOg := hOf.keepP Pf bg
    have hWg : WdIs ks CF CW Hg wr fr [] := hWr.but Pf bg
    have hBg := hBf.but Pf bg
    clear i1 r1 ib eaf
    obtain ⟨dxf, fsf, eaf⟩ := hFg.ins
    obtain ⟨dx1, B1, E1, hs1, i1, _, r1, _⟩ := id hOg.at_
    -- rest
    refine ⟨_, rfl, m, CF, dxf, fsf, rfl, eaf, rfl, m, fr, rfl, hFg, fun q Hq hq0 hq sq => ⟨q, rfl, ⟨_, SqT.of hq⟩, for_it (walk_tup (K := K) (a := q) (xs := strv (names fr.ys))) (fun n σ H' => (∃ o14, σ = stL15 sc p (some (.int (0 + (i : Int)))) (some (.ref b)) (some (.ref m)) (some (.ref o1)) (some (.ref om)) (some (.ref ob)) (some (.ref wr)) u9 u10 u11 u12 u13 o14) ∧ Same Hq H') ⟨⟨_, rfl⟩, Same.refl _⟩ (fun n σ H' _ h => SqT.of (h.2 _ _ hq)) ?_ ?_⟩⟩
    · rintro n x σ Ho Ha hn ⟨⟨o14', rfl⟩, sa⟩ ⟨rfl, hx⟩
      obtain ⟨z, hz, rfl⟩ : ∃ z ∈ names fr.ys, x = .str z := by
        obtain ⟨z, hz, e⟩ := List.mem_map.mp (List.mem_of_getElem? hx)
        exact ⟨z, hz, e.symm⟩
      have zm := S.mem hz
      obtain ⟨r, hr', zr⟩ := hOg.brd.row zm
      have v0 := sq.trans sa
      refine ⟨_, rfl, o1, dx1, _, rfl, v0 _ _ i1, rfl, _, rfl, _, rfl, ?_⟩
      try unfold tNil
      refine rds_c (CW := CW) (gv := []) S (hFg.same v0) (hOg.same v0) (hWg.same v0) hr' zr fun v Hb hv sb => ?_
      have v1 := v0.trans sb
      refine ⟨_, rfl, _, rfl, get_c S (hFg.same v1) (hOg.same v1) zm fun y hy zy Hc sc' => ?_⟩
      have ey : y.2 = r := rows_disj (hOg.brd.nd ok) (List.mem_map.mpr ⟨y, hy, rfl⟩) hr' zy zr
      have v2 := v1.trans sc'
      refine ⟨y.1, _, rfl, .inr (SqT.of (v2 _ _ (r1 y hy).1)), rfl, flat_strv _, _, rfl, ?_⟩
      rw [inV_strs, ey]
      have ev := rest_eq (by omega) S.ng hv (by
        obtain ⟨y', hy', rfl⟩ := List.mem_map.mp hr'
        exact gp1 y' hy')
      by_cases hg : ("ground" : Str) ∈ r
      · rw [if_pos hg] at ev
        rw [decide_eq_true hg]
        refine iteT ⟨rfl, _, rfl, ?_⟩
        rw [ev, decide_eq_true rfl]
        exact iteF ⟨⟨_, rfl⟩, (sa.trans sb).trans sc'⟩
      · rw [if_neg hg, ft] at ev
        rw [decide_eq_false hg]
        obtain ⟨dl, ll, rr, hbb, _⟩ := (hBg.same v2).ex
        refine iteF ⟨_, rfl, b, _, rfl, DGet.k (k := Sum.inr "top") hbb, rfl, _, rfl, ?_⟩
        rw [ev, decide_eq_true rfl]
        exact iteF ⟨⟨_, rfl⟩, (sa.trans sb).trans sc'⟩
    · rintro σ Hz ⟨⟨o14', rfl⟩, sz⟩
      exact ⟨⟨_, _, _, _, _, _, _, _, _, _, _, _, _, rfl⟩, (Pg.same (sq.trans sz)).mono (by omega)⟩
  · rintro σ' H2 ⟨o2, o3, o4, o5, o6, o7, o8, o9, o10, o11, o12, o13, o14, rfl⟩
    exact k _
end
end Sj
namespace Sj
open PySem L2 Sup StK Own Shw Exg Grd KepE LamX
open NdefX (NF NScope ncx envF startF nscope_by)
/-! k15: InvalidBoard -/
abbrev sIvB : Stmt := inClass (top 5) 0
section
variable {P : Program} {w : World} {K : PySem.W.Frag} {mg : Str → Option Value} {base : Heap}
theorem ok_ivb {f c cc C : Addr} {fd : FuncData} (F : FunS P K "__init__" "InvalidBoard.__init__" sIvB f fd c cc C) (T : ExT P K mg C "reason") : FnOk P w K mg base CX0 1 f fd ["self", "reason"] (spInv K C) := by
  refine fn_super F scInv (fun vs H Q E h => ?_) (fun A outer s H vs Q E hr h s1 I => ?_)
  · obtain ⟨a, z, rfl, _⟩ := h
    rfl
  · obtain ⟨a, z, rfl, hz, ha, k⟩ := h
    refine super_exc (me := "self") (x := a) (C := C) (atS_of F rfl rfl rfl rfl ⟨_, rfl, rfl⟩) T.sup T.oex rfl T.hm T.hB T.hs
      (pa_cons (pe_joined (.cons pe_str (.cons (pe_fmtR (pv 1)) .nil))) pa_nil) (pss_one (ps_ost (pv 0) (pv 1))) I rfl ha ?_ rfl rfl rfl rfl rfl
    refine ⟨_, rfl, by decide +kernel, _, rfl, .inl ⟨z, rfl, Nat.le_trans hz (by decide), _, rfl, ?_, by show 1 ≤ 1000; decide, ha, ?_⟩⟩
    · have e1 : ((Str.empty ++ ("invalid board: " : Str)) ++ reprText z).length ≤ 15 + (reprText z).length := by
        rw [strLen]
        exact Nat.add_le_add_right (by decide +kernel) _
      exact Nat.le_trans e1 (Nat.le_trans (Nat.add_le_add_left hz 15) (by decide))
    · exact ⟨_, rfl, _, rfl, a, C, rfl, T.oex, T.no, .inl ⟨ha, fun dx hd hne => k dx hd hne⟩⟩
end
end Sj
namespace Sj
open PySem L2 Sup StK Own Shw Exg Grd KepE LamX
open NdefX (NF NScope ncx envF startF nscope_by)
abbrev sNl : Stmt := inClass (top 7) 0
theorem in_of {st : Stmt} (h : (defScope st).kind = .function) : ∀ env : Env, env.scope = defScope st → interactive env = false := fun env e => by
  unfold interactive
  rw [e, h]
  rfl
theorem mkNL {P : Program} {w : World} {K : PySem.W.Frag} {mg : Str → Option Value} {base : Heap} {f c cc C : Addr} {fd : FuncData} (F : FunS P K "__init__" "NoLeg.__init__" sNl f fd c cc C) (T : ErrT P K mg "LookupError" "LookupError.__new__" "LookupError.__init__" tlL C) (hno : PySem.W.findIn K (.ref C) "name" = some none) : FnG P w K mg base CX0 1 f fd ["self", "name"] (spOne K C "name") :=
  ok_one bL F T (nscope_by (by decide +kernel)) rfl (by decide +kernel) rfl rfl rfl rfl (by decide) (by decide) ⟨_, rfl, rfl⟩ hno rfl (in_of rfl) fun _ => rfl
theorem all_mk15 {P : Program} {w : World} {K : PySem.W.Frag} {h : Heap} {mg : Str → Option Value} {fa : Addr} (X : K.In h) (G : h.Ns mainGlobals mg) (hfa : mg "law" = some (.ref fa))
    {CI : Addr}
    {CL : Addr}
    {CD : Addr}
    {CS : Addr}
    {CF : Addr}
    {CN : Addr}
    {CB : Addr}
    {CV : Addr}
    {CW : Addr}
    {tL tN : Tok} {aR : Addr} {dR : Option Addr} {itsR : Array Value} {nR : Nat} {slR : Array (Option Value)}
    {mcB mcW : Value}
    {fN : Addr} {odN anN : Option Addr} {slN : Array (Option Value)} {ocN kVN dcN pmN cdN ctN : Value}
    {fIi : Addr} {odIi anIi : Option Addr} {slIi : Array (Option Value)} {ocIi kVIi dcIi pmIi cdIi ctIi : Value}
    {fBt : Addr} {odBt anBt : Option Addr} {slBt : Array (Option Value)} {ocBt kVBt dcBt pmBt cdBt ctBt : Value}
    {fWr : Addr} {odWr anWr : Option Addr} {slWr : Array (Option Value)} {ocWr kVWr dcWr pmWr cdWr ctWr : Value}
    {fLI : Addr} {odLI anLI : Option Addr} {slLI : Array (Option Value)} {ocLI kVLI dcLI pmLI cdLI ctLI : Value}
    {fPn : Addr} {odPn anPn : Option Addr} {slPn : Array (Option Value)} {ocPn kVPn dcPn pmPn cdPn ctPn : Value}
    {fDr : Addr} {odDr anDr : Option Addr} {slDr : Array (Option Value)} {ocDr kVDr dcDr pmDr cdDr ctDr : Value}
    {fPk : Addr} {odPk anPk : Option Addr} {slPk : Array (Option Value)} {ocPk kVPk dcPk pmPk cdPk ctPk : Value}
    {fTg : Addr} {odTg anTg : Option Addr} {slTg : Array (Option Value)} {ocTg kVTg dcTg pmTg cdTg ctTg : Value}
    {fBa : Addr} {odBa anBa : Option Addr} {slBa : Array (Option Value)} {ocBa kVBa dcBa pmBa cdBa ctBa : Value}
    {fFm : Addr} {odFm anFm : Option Addr} {slFm : Array (Option Value)} {ocFm kVFm dcFm pmFm cdFm ctFm : Value}
    {fLg : Addr} {odLg anLg : Option Addr} {slLg : Array (Option Value)} {ocLg kVLg dcLg pmLg cdLg ctLg : Value}
    {fMm : Addr} {odMm anMm : Option Addr} {slMm : Array (Option Value)} {ocMm kVMm dcMm pmMm cdMm ctMm : Value}
    {fIm : Addr} {odIm anIm : Option Addr} {slIm : Array (Option Value)} {ocIm kVIm dcIm pmIm cdIm ctIm : Value}
    {fWb : Addr} {odWb anWb : Option Addr} {slWb : Array (Option Value)} {ocWb kVWb dcWb pmWb cdWb ctWb : Value}
    {fPa : Addr} {odPa anPa : Option Addr} {slPa : Array (Option Value)} {ocPa kVPa dcPa pmPa cdPa ctPa : Value}
    {fBd : Addr} {odBd anBd : Option Addr} {slBd : Array (Option Value)} {ocBd kVBd dcBd pmBd cdBd ctBd : Value}
    {fId : Addr} {odId anId : Option Addr} {slId : Array (Option Value)} {ocId kVId dcId pmId cdId ctId : Value}
    {fDl : Addr} {odDl anDl : Option Addr} {slDl : Array (Option Value)} {ocDl kVDl dcDl pmDl cdDl ctDl : Value}
    {fLv : Addr} {odLv anLv : Option Addr} {slLv : Array (Option Value)} {ocLv kVLv dcLv pmLv cdLv ctLv : Value}
    {fIw : Addr} {odIw anIw : Option Addr} {slIw : Array (Option Value)} {ocIw kVIw dcIw pmIw cdIw ctIw : Value}
    {fWq : Addr} {odWq anWq : Option Addr} {slWq : Array (Option Value)} {ocWq kVWq dcWq pmWq cdWq ctWq : Value}
    {fBv : Addr} {odBv anBv : Option Addr} {slBv : Array (Option Value)} {ocBv kVBv dcBv pmBv cdBv ctBv : Value}
    {fJr : Addr} {odJr anJr : Option Addr} {slJr : Array (Option Value)} {ocJr kVJr dcJr pmJr cdJr ctJr : Value}
    {fOu : Addr} {odOu anOu : Option Addr} {slOu : Array (Option Value)} {ocOu kVOu dcOu pmOu cdOu ctOu : Value}
    {fWw : Addr} {odWw anWw : Option Addr} {slWw : Array (Option Value)} {ocWw kVWw dcWw pmWw cdWw ctWw : Value}
    {fLw : Addr} {odLw anLw : Option Addr} {slLw : Array (Option Value)} {ocLw kVLw dcLw pmLw cdLw ctLw : Value}
    {fIb : Addr} {odIb anIb : Option Addr} {slIb : Array (Option Value)} {ocIb kVIb dcIb pmIb cdIb ctIb : Value}
    {fJo : Addr} {odJo anJo : Option Addr} {slJo : Array (Option Value)} {ocJo kVJo dcJo pmJo cdJo ctJo : Value}
    {fgL : Addr} {odgL angL : Option Addr} {slgL : Array (Option Value)} {ocgL kVgL dcgL pmgL cdgL ctgL : Value}
    {pgL : Addr} {rsgL : List Value}
    {fgN : Addr} {odgN angN : Option Addr} {slgN : Array (Option Value)} {ocgN kVgN dcgN pmgN cdgN ctgN : Value}
    {pgN : Addr} {rsgN : List Value}
    {fgD : Addr} {odgD angD : Option Addr} {slgD : Array (Option Value)} {ocgD kVgD dcgD pmgD cdgD ctgD : Value}
    {pgD : Addr} {rsgD : List Value}
    {fgR : Addr} {odgR angR : Option Addr} {slgR : Array (Option Value)} {ocgR kVgR dcgR pmgR cdgR ctgR : Value}
    {pgR : Addr} {rsgR : List Value}
    {fgM : Addr} {odgM angM : Option Addr} {slgM : Array (Option Value)} {ocgM kVgM dcgM pmgM cdgM ctgM : Value}
    {pgM : Addr} {rsgM : List Value}
    {fmC : Addr} {odmC anmC : Option Addr} {slmC : Array (Option Value)} {ocmC kVmC dcmC pmmC cdmC ctmC : Value}
    {fmG : Addr} {odmG anmG : Option Addr} {slmG : Array (Option Value)} {ocmG kVmG dcmG pmmG cdmG ctmG : Value}
    {fmE : Addr} {odmE anmE : Option Addr} {slmE : Array (Option Value)} {ocmE kVmE dcmE pmmE cdmE ctmE : Value}
    {fDvD : Addr} {odDvD anDvD : Option Addr} {slDvD : Array (Option Value)} {ocDvD kVDvD dcDvD pmDvD cdDvD ctDvD : Value}
    {pDvD : Addr} {rsDvD : List Value}
    {fDvS : Addr} {odDvS anDvS : Option Addr} {slDvS : Array (Option Value)} {ocDvS kVDvS dcDvS pmDvS cdDvS ctDvS : Value}
    {pDvS : Addr} {rsDvS : List Value}
    {fEqD : Addr} {odEqD anEqD : Option Addr} {slEqD : Array (Option Value)} {ocEqD kVEqD dcEqD pmEqD cdEqD ctEqD : Value}
    {fEqS : Addr} {odEqS anEqS : Option Addr} {slEqS : Array (Option Value)} {ocEqS kVEqS dcEqS pmEqS cdEqS ctEqS : Value}
    {fbG : Addr} {odbG anbG : Option Addr} {slbG : Array (Option Value)} {ocbG kVbG dcbG pmbG cdbG ctbG : Value}
    {fbM : Addr} {odbM anbM : Option Addr} {slbM : Array (Option Value)} {ocbM kVbM dcbM pmbM cdbM ctbM : Value}
    {fbU : Addr} {odbU anbU : Option Addr} {slbU : Array (Option Value)} {ocbU kVbU dcbU pmbU cdbU ctbU : Value}
    {fbW : Addr} {odbW anbW : Option Addr} {slbW : Array (Option Value)} {ocbW kVbW dcbW pmbW cdbW ctbW : Value}
    {fbC : Addr} {odbC anbC : Option Addr} {slbC : Array (Option Value)} {ocbC kVbC dcbC pmbC cdbC ctbC : Value}
    {fbD : Addr} {odbD anbD : Option Addr} {slbD : Array (Option Value)} {ocbD kVbD dcbD pmbD cdbD ctbD : Value}
    {fbI : Addr} {odbI anbI : Option Addr} {slbI : Array (Option Value)} {ocbI kVbI dcbI pmbI cdbI ctbI : Value}
    {fbJ : Addr} {odbJ anbJ : Option Addr} {slbJ : Array (Option Value)} {ocbJ kVbJ dcbJ pmbJ cdbJ ctbJ : Value}
    {fbO : Addr} {odbO anbO : Option Addr} {slbO : Array (Option Value)} {ocbO kVbO dcbO pmbO cdbO ctbO : Value}
    {pbO : Addr} {rsbO : List Value}
    {fwI : Addr} {odwI anwI : Option Addr} {slwI : Array (Option Value)} {ocwI kVwI dcwI pmwI cdwI ctwI : Value}
    {fwG : Addr} {odwG anwG : Option Addr} {slwG : Array (Option Value)} {ocwG kVwG dcwG pmwG cdwG ctwG : Value}
    {fwA : Addr} {odwA anwA : Option Addr} {slwA : Array (Option Value)} {ocwA kVwA dcwA pmwA cdwA ctwA : Value}
    {fwO : Addr} {odwO anwO : Option Addr} {slwO : Array (Option Value)} {ocwO kVwO dcwO pmwO cdwO ctwO : Value}
    {pwO : Addr} {rswO : List Value}
    {fwT : Addr} {odwT anwT : Option Addr} {slwT : Array (Option Value)} {ocwT kVwT dcwT pmwT cdwT ctwT : Value}
    {pwT : Addr} {rswT : List Value}
    {fFI DFI : Addr} {odFI anFI : Option Addr} {slFI : Array (Option Value)} {ocFI dcFI pmFI cdFI ctFI x1FI x2FI x3FI : Value}
    {fO DO : Addr} {odO anO : Option Addr} {slO : Array (Option Value)} {ocO dcO pmO cdO ctO x1O x2O x3O : Value}
    {pO : Addr} {rsO : List Value} {mcF uM : Value}
    {fIE xIE yIE : Addr} {odIE anIE : Option Addr} {slIE : Array (Option Value)} {ocIE kVIE dcIE pmIE ctIE : Value}
    {u1IE u2IE : Value} {v1IE v2IE : Option Addr} {vsIE : Array Value} {w1IE w2IE : Array (Option Value)} {flIE : Str} {tfIE : Tok}
    {fIV xIV yIV : Addr} {odIV anIV : Option Addr} {slIV : Array (Option Value)} {ocIV kVIV dcIV pmIV ctIV : Value}
    {u1IV u2IV : Value} {v1IV v2IV : Option Addr} {vsIV : Array Value} {w1IV w2IV : Array (Option Value)} {flIV : Str} {tfIV : Tok}
    {fDI xDI yDI : Addr} {odDI anDI : Option Addr} {slDI : Array (Option Value)} {ocDI kVDI dcDI pmDI ctDI : Value}
    {u1DI u2DI : Value} {v1DI v2DI : Option Addr} {vsDI : Array Value} {w1DI w2DI : Array (Option Value)} {flDI : Str} {tfDI : Tok}
    {fSI xSI ySI : Addr} {odSI anSI : Option Addr} {slSI : Array (Option Value)} {ocSI kVSI dcSI pmSI ctSI : Value}
    {u1SI u2SI : Value} {v1SI v2SI : Option Addr} {vsSI : Array Value} {w1SI w2SI : Array (Option Value)} {flSI : Str} {tfSI : Tok}
    {fNL xNL yNL : Addr} {odNL anNL : Option Addr} {slNL : Array (Option Value)} {ocNL kVNL dcNL pmNL ctNL : Value}
    {u1NL u2NL : Value} {v1NL v2NL : Option Addr} {vsNL : Array Value} {w1NL w2NL : Array (Option Value)} {flNL : Str} {tfNL : Tok}
    {cdCI : ClassData}
    {cdCD : ClassData}
    {cdCS : ClassData}
    {cdCL : ClassData}
    {cdCN : ClassData}
    {cdCV : ClassData}
    {nm q : Str} {Ns : Addr} {bs bm sub : List Value} {sn : List Str} {ab : Bool} {col : Option Bool} {dd : Option Addr} {k0 k1 k2 k3 k5 : Option Value}
    {nm2 q2 : Str} {Ns2 : Addr} {bs2 bm2 sub2 : List Value} {sn2 : List Str} {ab2 : Bool} {col2 : Option Bool} {dd2 : Option Addr} {k02 k12 k22 k32 k52 : Option Value}
    {fo_str ro_str : Option Value}
    (gCI : PySem.W.nsIn K mainGlobals "InvalidFrame" = some (some (.ref CI)))
    (gCL : PySem.W.nsIn K mainGlobals "Leg" = some (some (.ref CL)))
    (gCD : PySem.W.nsIn K mainGlobals "Driver" = some (some (.ref CD)))
    (gCS : PySem.W.nsIn K mainGlobals "Listener" = some (some (.ref CS)))
    (gCF : PySem.W.nsIn K mainGlobals "Frame" = some (some (.ref CF)))
    (gCN : PySem.W.nsIn K mainGlobals "NoLeg" = some (some (.ref CN)))
    (gCB : PySem.W.nsIn K mainGlobals "Board" = some (some (.ref CB)))
    (gCV : PySem.W.nsIn K mainGlobals "InvalidBoard" = some (some (.ref CV)))
    (gCW : PySem.W.nsIn K mainGlobals "Word" = some (some (.ref CW)))
    (gLet : PySem.W.nsIn K mainGlobals "LETTERS" = some (some (.str lettersS tL)))
    (gLon : PySem.W.nsIn K mainGlobals "LONGEST" = some (some (.int 8 tN)))
    (gRes : PySem.W.nsIn K mainGlobals "RESERVED" = some (some (.ref aR)))
    (lRes : K.lookup aR = some ⟨.type "tuple", dR, .seq itsR nR, slR⟩)
    (sRes : itsR.size ≤ sizeLine)
    (vRes : Vals reservedV itsR.toList)
    (z_dict : PySem.W.nsIn K mainGlobals "dict" = some none)
    (z_any : PySem.W.nsIn K mainGlobals "any" = some none)
    (z_set : PySem.W.nsIn K mainGlobals "set" = some none)
    (z_min : PySem.W.nsIn K mainGlobals "min" = some none)
    (z_isinstance : PySem.W.nsIn K mainGlobals "isinstance" = some none)
    (z_str : PySem.W.nsIn K mainGlobals "str" = some none)
    (z_len : PySem.W.nsIn K mainGlobals "len" = some none)
    (z_all : PySem.W.nsIn K mainGlobals "all" = some none)
    (z_bool : PySem.W.nsIn K mainGlobals "bool" = some none)
    (z_int : PySem.W.nsIn K mainGlobals "int" = some none)
    (z_abs : PySem.W.nsIn K mainGlobals "abs" = some none)
    (z_range : PySem.W.nsIn K mainGlobals "range" = some none)
    (z_list : PySem.W.nsIn K mainGlobals "list" = some none)
    (z_tuple : PySem.W.nsIn K mainGlobals "tuple" = some none)
    (z_sorted : PySem.W.nsIn K mainGlobals "sorted" = some none)
    (z_super : PySem.W.nsIn K mainGlobals "super" = some none)
    (z_repr : PySem.W.nsIn K mainGlobals "repr" = some none)
    (tyW : PySem.W.typeIn K (.ref CW) = some mcW)
    (rdW : PySem.W.readsIn K CW mcW = true)
    (gaW : PySem.W.specialIn K (.ref CW) "__getattribute__" = some (some (.builtin "type.__getattribute__")))
    (tyB : PySem.W.typeIn K (.ref CB) = some mcB)
    (rdB : PySem.W.readsIn K CB mcB = true)
    (gaB : PySem.W.specialIn K (.ref CB) "__getattribute__" = some (some (.builtin "type.__getattribute__")))
    (aN : PySem.W.nsIn K mainGlobals "is_name" = some (some (.ref fN)))
    (lN : K.lookup fN = some ⟨ocN, odN, .func (PySem.W.fnOf "is_name" "is_name" (defArgs sIsName) (defBody sIsName) (defScope sIsName) .none kVN dcN pmN anN cdN ctN), slN⟩)
    (cN : PySem.W.codeIn K cdN "is_name" = true)
    (kN : PySem.W.keepIn K (.ref fN) = true)
    (aIi : PySem.W.nsIn K mainGlobals "is_integer" = some (some (.ref fIi)))
    (lIi : K.lookup fIi = some ⟨ocIi, odIi, .func (PySem.W.fnOf "is_integer" "is_integer" (defArgs sIsInt) (defBody sIsInt) (defScope sIsInt) .none kVIi dcIi pmIi anIi cdIi ctIi), slIi⟩)
    (cIi : PySem.W.codeIn K cdIi "is_integer" = true)
    (kIi : PySem.W.keepIn K (.ref fIi) = true)
    (aBt : PySem.W.nsIn K mainGlobals "is_between" = some (some (.ref fBt)))
    (lBt : K.lookup fBt = some ⟨ocBt, odBt, .func (PySem.W.fnOf "is_between" "is_between" (defArgs sBetw) (defBody sBetw) (defScope sBetw) .none kVBt dcBt pmBt anBt cdBt ctBt), slBt⟩)
    (cBt : PySem.W.codeIn K cdBt "is_between" = true)
    (kBt : PySem.W.keepIn K (.ref fBt) = true)
    (aWr : PySem.W.nsIn K mainGlobals "wrong_frame" = some (some (.ref fWr)))
    (lWr : K.lookup fWr = some ⟨ocWr, odWr, .func (PySem.W.fnOf "wrong_frame" "wrong_frame" (defArgs sWrong) (defBody sWrong) (defScope sWrong) .none kVWr dcWr pmWr anWr cdWr ctWr), slWr⟩)
    (cWr : PySem.W.codeIn K cdWr "wrong_frame" = true)
    (kWr : PySem.W.keepIn K (.ref fWr) = true)
    (aLI : PySem.W.findIn K (.ref CL) "__init__" = some (some (.ref fLI)))
    (iLI : PySem.W.isFn K (.ref fLI) = true)
    (lLI : K.lookup fLI = some ⟨ocLI, odLI, .func (PySem.W.fnOf "__init__" "Leg.__init__" (defArgs sLegI) (defBody sLegI) (defScope sLegI) .none kVLI dcLI pmLI anLI cdLI ctLI), slLI⟩)
    (cLI : PySem.W.codeIn K cdLI "Leg.__init__" = true)
    (kLI : PySem.W.keepIn K (.ref fLI) = true)
    (aPn : PySem.W.nsIn K mainGlobals "_law_pen" = some (some (.ref fPn)))
    (lPn : K.lookup fPn = some ⟨ocPn, odPn, .func (PySem.W.fnOf "_law_pen" "_law_pen" (defArgs sPen) (defBody sPen) (defScope sPen) .none kVPn dcPn pmPn anPn cdPn ctPn), slPn⟩)
    (cPn : PySem.W.codeIn K cdPn "_law_pen" = true)
    (kPn : PySem.W.keepIn K (.ref fPn) = true)
    (aDr : PySem.W.nsIn K mainGlobals "_law_draw" = some (some (.ref fDr)))
    (lDr : K.lookup fDr = some ⟨ocDr, odDr, .func (PySem.W.fnOf "_law_draw" "_law_draw" (defArgs sDraw) (defBody sDraw) (defScope sDraw) .none kVDr dcDr pmDr anDr cdDr ctDr), slDr⟩)
    (cDr : PySem.W.codeIn K cdDr "_law_draw" = true)
    (kDr : PySem.W.keepIn K (.ref fDr) = true)
    (aPk : PySem.W.nsIn K mainGlobals "_law_pick" = some (some (.ref fPk)))
    (lPk : K.lookup fPk = some ⟨ocPk, odPk, .func (PySem.W.fnOf "_law_pick" "_law_pick" (defArgs sPick) (defBody sPick) (defScope sPick) .none kVPk dcPk pmPk anPk cdPk ctPk), slPk⟩)
    (cPk : PySem.W.codeIn K cdPk "_law_pick" = true)
    (kPk : PySem.W.keepIn K (.ref fPk) = true)
    (aTg : PySem.W.nsIn K mainGlobals "_law_tags" = some (some (.ref fTg)))
    (lTg : K.lookup fTg = some ⟨ocTg, odTg, .func (PySem.W.fnOf "_law_tags" "_law_tags" (defArgs sTags) (defBody sTags) (defScope sTags) .none kVTg dcTg pmTg anTg cdTg ctTg), slTg⟩)
    (cTg : PySem.W.codeIn K cdTg "_law_tags" = true)
    (kTg : PySem.W.keepIn K (.ref fTg) = true)
    (aBa : PySem.W.nsIn K mainGlobals "_law_bare" = some (some (.ref fBa)))
    (lBa : K.lookup fBa = some ⟨ocBa, odBa, .func (PySem.W.fnOf "_law_bare" "_law_bare" (defArgs sBare) (defBody sBare) (defScope sBare) .none kVBa dcBa pmBa anBa cdBa ctBa), slBa⟩)
    (cBa : PySem.W.codeIn K cdBa "_law_bare" = true)
    (kBa : PySem.W.keepIn K (.ref fBa) = true)
    (aFm : PySem.W.nsIn K mainGlobals "_law_frame" = some (some (.ref fFm)))
    (lFm : K.lookup fFm = some ⟨ocFm, odFm, .func (PySem.W.fnOf "_law_frame" "_law_frame" (defArgs sFrm) (defBody sFrm) (defScope sFrm) .none kVFm dcFm pmFm anFm cdFm ctFm), slFm⟩)
    (cFm : PySem.W.codeIn K cdFm "_law_frame" = true)
    (kFm : PySem.W.keepIn K (.ref fFm) = true)
    (aLg : PySem.W.nsIn K mainGlobals "_law_legs" = some (some (.ref fLg)))
    (lLg : K.lookup fLg = some ⟨ocLg, odLg, .func (PySem.W.fnOf "_law_legs" "_law_legs" (defArgs sLgs) (defBody sLgs) (defScope sLgs) .none kVLg dcLg pmLg anLg cdLg ctLg), slLg⟩)
    (cLg : PySem.W.codeIn K cdLg "_law_legs" = true)
    (kLg : PySem.W.keepIn K (.ref fLg) = true)
    (aMm : PySem.W.nsIn K mainGlobals "_law_members" = some (some (.ref fMm)))
    (lMm : K.lookup fMm = some ⟨ocMm, odMm, .func (PySem.W.fnOf "_law_members" "_law_members" (defArgs sMms) (defBody sMms) (defScope sMms) .none kVMm dcMm pmMm anMm cdMm ctMm), slMm⟩)
    (cMm : PySem.W.codeIn K cdMm "_law_members" = true)
    (kMm : PySem.W.keepIn K (.ref fMm) = true)
    (aIm : PySem.W.nsIn K mainGlobals "is_member" = some (some (.ref fIm)))
    (lIm : K.lookup fIm = some ⟨ocIm, odIm, .func (PySem.W.fnOf "is_member" "is_member" (defArgs sIsM) (defBody sIsM) (defScope sIsM) .none kVIm dcIm pmIm anIm cdIm ctIm), slIm⟩)
    (cIm : PySem.W.codeIn K cdIm "is_member" = true)
    (kIm : PySem.W.keepIn K (.ref fIm) = true)
    (aWb : PySem.W.nsIn K mainGlobals "wrong_blocks" = some (some (.ref fWb)))
    (lWb : K.lookup fWb = some ⟨ocWb, odWb, .func (PySem.W.fnOf "wrong_blocks" "wrong_blocks" (defArgs sWb) (defBody sWb) (defScope sWb) .none kVWb dcWb pmWb anWb cdWb ctWb), slWb⟩)
    (cWb : PySem.W.codeIn K cdWb "wrong_blocks" = true)
    (kWb : PySem.W.keepIn K (.ref fWb) = true)
    (aPa : PySem.W.nsIn K mainGlobals "_law_parted" = some (some (.ref fPa)))
    (lPa : K.lookup fPa = some ⟨ocPa, odPa, .func (PySem.W.fnOf "_law_parted" "_law_parted" (defArgs sPar) (defBody sPar) (defScope sPar) .none kVPa dcPa pmPa anPa cdPa ctPa), slPa⟩)
    (cPa : PySem.W.codeIn K cdPa "_law_parted" = true)
    (kPa : PySem.W.keepIn K (.ref fPa) = true)
    (aBd : PySem.W.nsIn K mainGlobals "_law_board" = some (some (.ref fBd)))
    (lBd : K.lookup fBd = some ⟨ocBd, odBd, .func (PySem.W.fnOf "_law_board" "_law_board" (defArgs sBrd) (defBody sBrd) (defScope sBrd) .none kVBd dcBd pmBd anBd cdBd ctBd), slBd⟩)
    (cBd : PySem.W.codeIn K cdBd "_law_board" = true)
    (kBd : PySem.W.keepIn K (.ref fBd) = true)
    (aId : PySem.W.nsIn K mainGlobals "is_driver" = some (some (.ref fId)))
    (lId : K.lookup fId = some ⟨ocId, odId, .func (PySem.W.fnOf "is_driver" "is_driver" (defArgs sIsD) (defBody sIsD) (defScope sIsD) .none kVId dcId pmId anId cdId ctId), slId⟩)
    (cId : PySem.W.codeIn K cdId "is_driver" = true)
    (kId : PySem.W.keepIn K (.ref fId) = true)
    (aDl : PySem.W.nsIn K mainGlobals "driver_levels" = some (some (.ref fDl)))
    (lDl : K.lookup fDl = some ⟨ocDl, odDl, .func (PySem.W.fnOf "driver_levels" "driver_levels" (defArgs sDL) (defBody sDL) (defScope sDL) .none kVDl dcDl pmDl anDl cdDl ctDl), slDl⟩)
    (cDl : PySem.W.codeIn K cdDl "driver_levels" = true)
    (kDl : PySem.W.keepIn K (.ref fDl) = true)
    (aLv : PySem.W.nsIn K mainGlobals "_law_levels" = some (some (.ref fLv)))
    (lLv : K.lookup fLv = some ⟨ocLv, odLv, .func (PySem.W.fnOf "_law_levels" "_law_levels" (defArgs sLvs) (defBody sLvs) (defScope sLvs) .none kVLv dcLv pmLv anLv cdLv ctLv), slLv⟩)
    (cLv : PySem.W.codeIn K cdLv "_law_levels" = true)
    (kLv : PySem.W.keepIn K (.ref fLv) = true)
    (aIw : PySem.W.nsIn K mainGlobals "is_word_of" = some (some (.ref fIw)))
    (lIw : K.lookup fIw = some ⟨ocIw, odIw, .func (PySem.W.fnOf "is_word_of" "is_word_of" (defArgs sIsW) (defBody sIsW) (defScope sIsW) .none kVIw dcIw pmIw anIw cdIw ctIw), slIw⟩)
    (cIw : PySem.W.codeIn K cdIw "is_word_of" = true)
    (kIw : PySem.W.keepIn K (.ref fIw) = true)
    (aWq : PySem.W.nsIn K mainGlobals "_law_word" = some (some (.ref fWq)))
    (lWq : K.lookup fWq = some ⟨ocWq, odWq, .func (PySem.W.fnOf "_law_word" "_law_word" (defArgs sWrd) (defBody sWrd) (defScope sWrd) .none kVWq dcWq pmWq anWq cdWq ctWq), slWq⟩)
    (cWq : PySem.W.codeIn K cdWq "_law_word" = true)
    (kWq : PySem.W.keepIn K (.ref fWq) = true)
    (aBv : PySem.W.nsIn K mainGlobals "block_level" = some (some (.ref fBv)))
    (lBv : K.lookup fBv = some ⟨ocBv, odBv, .func (PySem.W.fnOf "block_level" "block_level" (defArgs sBlv) (defBody sBlv) (defScope sBlv) .none kVBv dcBv pmBv anBv cdBv ctBv), slBv⟩)
    (cBv : PySem.W.codeIn K cdBv "block_level" = true)
    (kBv : PySem.W.keepIn K (.ref fBv) = true)
    (aJr : PySem.W.nsIn K mainGlobals "_law_joined_right" = some (some (.ref fJr)))
    (lJr : K.lookup fJr = some ⟨ocJr, odJr, .func (PySem.W.fnOf "_law_joined_right" "_law_joined_right" (defArgs sJoi) (defBody sJoi) (defScope sJoi) .none kVJr dcJr pmJr anJr cdJr ctJr), slJr⟩)
    (cJr : PySem.W.codeIn K cdJr "_law_joined_right" = true)
    (kJr : PySem.W.keepIn K (.ref fJr) = true)
    (aOu : PySem.W.nsIn K mainGlobals "_law_out_right" = some (some (.ref fOu)))
    (lOu : K.lookup fOu = some ⟨ocOu, odOu, .func (PySem.W.fnOf "_law_out_right" "_law_out_right" (defArgs sOur) (defBody sOur) (defScope sOur) .none kVOu dcOu pmOu anOu cdOu ctOu), slOu⟩)
    (cOu : PySem.W.codeIn K cdOu "_law_out_right" = true)
    (kOu : PySem.W.keepIn K (.ref fOu) = true)
    (aWw : PySem.W.nsIn K mainGlobals "_law_words_right" = some (some (.ref fWw)))
    (lWw : K.lookup fWw = some ⟨ocWw, odWw, .func (PySem.W.fnOf "_law_words_right" "_law_words_right" (defArgs sWor) (defBody sWor) (defScope sWor) .none kVWw dcWw pmWw anWw cdWw ctWw), slWw⟩)
    (cWw : PySem.W.codeIn K cdWw "_law_words_right" = true)
    (kWw : PySem.W.keepIn K (.ref fWw) = true)
    (aLw : PySem.W.nsIn K mainGlobals "law" = some (some (.ref fLw)))
    (lLw : K.lookup fLw = some ⟨ocLw, odLw, .func (PySem.W.fnOf "law" "law" (defArgs sLaw15) (defBody sLaw15) (defScope sLaw15) .none kVLw dcLw pmLw anLw cdLw ctLw), slLw⟩)
    (cLw : PySem.W.codeIn K cdLw "law" = true)
    (kLw : PySem.W.keepIn K (.ref fLw) = true)
    (aIb : PySem.W.nsIn K mainGlobals "is_board_of" = some (some (.ref fIb)))
    (lIb : K.lookup fIb = some ⟨ocIb, odIb, .func (PySem.W.fnOf "is_board_of" "is_board_of" (defArgs sIbo) (defBody sIbo) (defScope sIbo) .none kVIb dcIb pmIb anIb cdIb ctIb), slIb⟩)
    (cIb : PySem.W.codeIn K cdIb "is_board_of" = true)
    (kIb : PySem.W.keepIn K (.ref fIb) = true)
    (aJo : PySem.W.nsIn K mainGlobals "joined_blocks" = some (some (.ref fJo)))
    (lJo : K.lookup fJo = some ⟨ocJo, odJo, .func (PySem.W.fnOf "joined_blocks" "joined_blocks" (defArgs sJo) (defBody sJo) (defScope sJo) .none kVJo dcJo pmJo anJo cdJo ctJo), slJo⟩)
    (cJo : PySem.W.codeIn K cdJo "joined_blocks" = true)
    (kJo : PySem.W.keepIn K (.ref fJo) = true)
    (agL : PySem.W.findIn K (.ref CF) "legs" = some (some (.ref pgL)))
    (bgL : PySem.W.specialIn K (.ref pgL) "__get__" = some (some (.builtin "property.__get__")))
    (dgL : PySem.W.takesIn K (.ref pgL) = some true)
    (egL : PySem.W.recIn K pgL "property" = some (.ref fgL :: rsgL))
    (lgL : K.lookup fgL = some ⟨ocgL, odgL, .func (PySem.W.fnOf "legs" "Frame.legs" (defArgs (sFr 3)) (defBody (sFr 3)) (defScope (sFr 3)) .none kVgL dcgL pmgL angL cdgL ctgL), slgL⟩)
    (cgL : PySem.W.codeIn K cdgL "Frame.legs" = true)
    (kgL : PySem.W.keepIn K (.ref fgL) = true)
    (agN : PySem.W.findIn K (.ref CF) "names" = some (some (.ref pgN)))
    (bgN : PySem.W.specialIn K (.ref pgN) "__get__" = some (some (.builtin "property.__get__")))
    (dgN : PySem.W.takesIn K (.ref pgN) = some true)
    (egN : PySem.W.recIn K pgN "property" = some (.ref fgN :: rsgN))
    (lgN : K.lookup fgN = some ⟨ocgN, odgN, .func (PySem.W.fnOf "names" "Frame.names" (defArgs (sFr 4)) (defBody (sFr 4)) (defScope (sFr 4)) .none kVgN dcgN pmgN angN cdgN ctgN), slgN⟩)
    (cgN : PySem.W.codeIn K cdgN "Frame.names" = true)
    (kgN : PySem.W.keepIn K (.ref fgN) = true)
    (agD : PySem.W.findIn K (.ref CF) "drivers" = some (some (.ref pgD)))
    (bgD : PySem.W.specialIn K (.ref pgD) "__get__" = some (some (.builtin "property.__get__")))
    (dgD : PySem.W.takesIn K (.ref pgD) = some true)
    (egD : PySem.W.recIn K pgD "property" = some (.ref fgD :: rsgD))
    (lgD : K.lookup fgD = some ⟨ocgD, odgD, .func (PySem.W.fnOf "drivers" "Frame.drivers" (defArgs (sFr 5)) (defBody (sFr 5)) (defScope (sFr 5)) .none kVgD dcgD pmgD angD cdgD ctgD), slgD⟩)
    (cgD : PySem.W.codeIn K cdgD "Frame.drivers" = true)
    (kgD : PySem.W.keepIn K (.ref fgD) = true)
    (agR : PySem.W.findIn K (.ref CF) "rails" = some (some (.ref pgR)))
    (bgR : PySem.W.specialIn K (.ref pgR) "__get__" = some (some (.builtin "property.__get__")))
    (dgR : PySem.W.takesIn K (.ref pgR) = some true)
    (egR : PySem.W.recIn K pgR "property" = some (.ref fgR :: rsgR))
    (lgR : K.lookup fgR = some ⟨ocgR, odgR, .func (PySem.W.fnOf "rails" "Frame.rails" (defArgs (sFr 7)) (defBody (sFr 7)) (defScope (sFr 7)) .none kVgR dcgR pmgR angR cdgR ctgR), slgR⟩)
    (cgR : PySem.W.codeIn K cdgR "Frame.rails" = true)
    (kgR : PySem.W.keepIn K (.ref fgR) = true)
    (agM : PySem.W.findIn K (.ref CF) "members" = some (some (.ref pgM)))
    (bgM : PySem.W.specialIn K (.ref pgM) "__get__" = some (some (.builtin "property.__get__")))
    (dgM : PySem.W.takesIn K (.ref pgM) = some true)
    (egM : PySem.W.recIn K pgM "property" = some (.ref fgM :: rsgM))
    (lgM : K.lookup fgM = some ⟨ocgM, odgM, .func (PySem.W.fnOf "members" "Frame.members" (defArgs (sFr 8)) (defBody (sFr 8)) (defScope (sFr 8)) .none kVgM dcgM pmgM angM cdgM ctgM), slgM⟩)
    (cgM : PySem.W.codeIn K cdgM "Frame.members" = true)
    (kgM : PySem.W.keepIn K (.ref fgM) = true)
    (amC : PySem.W.findIn K (.ref CF) "__contains__" = some (some (.ref fmC)))
    (imC : PySem.W.isFn K (.ref fmC) = true)
    (jmC : PySem.W.fnIn K fmC = true)
    (lmC : K.lookup fmC = some ⟨ocmC, odmC, .func (PySem.W.fnOf "__contains__" "Frame.__contains__" (defArgs (sFr 9)) (defBody (sFr 9)) (defScope (sFr 9)) .none kVmC dcmC pmmC anmC cdmC ctmC), slmC⟩)
    (cmC : PySem.W.codeIn K cdmC "Frame.__contains__" = true)
    (kmC : PySem.W.keepIn K (.ref fmC) = true)
    (amG : PySem.W.findIn K (.ref CF) "__getitem__" = some (some (.ref fmG)))
    (imG : PySem.W.isFn K (.ref fmG) = true)
    (jmG : PySem.W.fnIn K fmG = true)
    (lmG : K.lookup fmG = some ⟨ocmG, odmG, .func (PySem.W.fnOf "__getitem__" "Frame.__getitem__" (defArgs (sFr 10)) (defBody (sFr 10)) (defScope (sFr 10)) .none kVmG dcmG pmmG anmG cdmG ctmG), slmG⟩)
    (cmG : PySem.W.codeIn K cdmG "Frame.__getitem__" = true)
    (kmG : PySem.W.keepIn K (.ref fmG) = true)
    (amE : PySem.W.findIn K (.ref CF) "__eq__" = some (some (.ref fmE)))
    (imE : PySem.W.isFn K (.ref fmE) = true)
    (lmE : K.lookup fmE = some ⟨ocmE, odmE, .func (PySem.W.fnOf "__eq__" "Frame.__eq__" (defArgs (sFr 13)) (defBody (sFr 13)) (defScope (sFr 13)) .none kVmE dcmE pmmE anmE cdmE ctmE), slmE⟩)
    (cmE : PySem.W.codeIn K cdmE "Frame.__eq__" = true)
    (kmE : PySem.W.keepIn K (.ref fmE) = true)
    (aDvD : PySem.W.findIn K (.ref CD) "drives" = some (some (.ref pDvD)))
    (bDvD : PySem.W.specialIn K (.ref pDvD) "__get__" = some (some (.builtin "property.__get__")))
    (dDvD : PySem.W.takesIn K (.ref pDvD) = some true)
    (eDvD : PySem.W.recIn K pDvD "property" = some (.ref fDvD :: rsDvD))
    (lDvD : K.lookup fDvD = some ⟨ocDvD, odDvD, .func (PySem.W.fnOf "drives" "Driver.drives" (defArgs (sDrv 2)) (defBody (sDrv 2)) (defScope (sDrv 2)) .none kVDvD dcDvD pmDvD anDvD cdDvD ctDvD), slDvD⟩)
    (cDvD : PySem.W.codeIn K cdDvD "Driver.drives" = true)
    (kDvD : PySem.W.keepIn K (.ref fDvD) = true)
    (aDvS : PySem.W.findIn K (.ref CS) "drives" = some (some (.ref pDvS)))
    (bDvS : PySem.W.specialIn K (.ref pDvS) "__get__" = some (some (.builtin "property.__get__")))
    (dDvS : PySem.W.takesIn K (.ref pDvS) = some true)
    (eDvS : PySem.W.recIn K pDvS "property" = some (.ref fDvS :: rsDvS))
    (lDvS : K.lookup fDvS = some ⟨ocDvS, odDvS, .func (PySem.W.fnOf "drives" "Listener.drives" (defArgs (sLis 2)) (defBody (sLis 2)) (defScope (sLis 2)) .none kVDvS dcDvS pmDvS anDvS cdDvS ctDvS), slDvS⟩)
    (cDvS : PySem.W.codeIn K cdDvS "Listener.drives" = true)
    (kDvS : PySem.W.keepIn K (.ref fDvS) = true)
    (aEqD : PySem.W.findIn K (.ref CD) "__eq__" = some (some (.ref fEqD)))
    (iEqD : PySem.W.isFn K (.ref fEqD) = true)
    (lEqD : K.lookup fEqD = some ⟨ocEqD, odEqD, .func (PySem.W.fnOf "__eq__" "Driver.__eq__" (defArgs (sDrv 3)) (defBody (sDrv 3)) (defScope (sDrv 3)) .none kVEqD dcEqD pmEqD anEqD cdEqD ctEqD), slEqD⟩)
    (cEqD : PySem.W.codeIn K cdEqD "Driver.__eq__" = true)
    (kEqD : PySem.W.keepIn K (.ref fEqD) = true)
    (aEqS : PySem.W.findIn K (.ref CS) "__eq__" = some (some (.ref fEqS)))
    (iEqS : PySem.W.isFn K (.ref fEqS) = true)
    (lEqS : K.lookup fEqS = some ⟨ocEqS, odEqS, .func (PySem.W.fnOf "__eq__" "Listener.__eq__" (defArgs (sLis 3)) (defBody (sLis 3)) (defScope (sLis 3)) .none kVEqS dcEqS pmEqS anEqS cdEqS ctEqS), slEqS⟩)
    (cEqS : PySem.W.codeIn K cdEqS "Listener.__eq__" = true)
    (kEqS : PySem.W.keepIn K (.ref fEqS) = true)
    (abG : PySem.W.findIn K (.ref CB) "__getitem__" = some (some (.ref fbG)))
    (ibG : PySem.W.isFn K (.ref fbG) = true)
    (jbG : PySem.W.fnIn K fbG = true)
    (lbG : K.lookup fbG = some ⟨ocbG, odbG, .func (PySem.W.fnOf "__getitem__" "Board.__getitem__" (defArgs sBoG) (defBody sBoG) (defScope sBoG) .none kVbG dcbG pmbG anbG cdbG ctbG), slbG⟩)
    (cbG : PySem.W.codeIn K cdbG "Board.__getitem__" = true)
    (kbG : PySem.W.keepIn K (.ref fbG) = true)
    (abM : PySem.W.findIn K (.ref CB) "__sub__" = some (some (.ref fbM)))
    (ibM : PySem.W.isFn K (.ref fbM) = true)
    (lbM : K.lookup fbM = some ⟨ocbM, odbM, .func (PySem.W.fnOf "__sub__" "Board.__sub__" (defArgs sBoM) (defBody sBoM) (defScope sBoM) .none kVbM dcbM pmbM anbM cdbM ctbM), slbM⟩)
    (cbM : PySem.W.codeIn K cdbM "Board.__sub__" = true)
    (kbM : PySem.W.keepIn K (.ref fbM) = true)
    (abU : PySem.W.findIn K (.ref CB) "__or__" = some (some (.ref fbU)))
    (ibU : PySem.W.isFn K (.ref fbU) = true)
    (lbU : K.lookup fbU = some ⟨ocbU, odbU, .func (PySem.W.fnOf "__or__" "Board.__or__" (defArgs sBoR) (defBody sBoR) (defScope sBoR) .none kVbU dcbU pmbU anbU cdbU ctbU), slbU⟩)
    (cbU : PySem.W.codeIn K cdbU "Board.__or__" = true)
    (kbU : PySem.W.keepIn K (.ref fbU) = true)
    (abW : PySem.W.findIn K (.ref CB) "within" = some (some (.ref fbW)))
    (ibW : PySem.W.isFn K (.ref fbW) = true)
    (lbW : K.lookup fbW = some ⟨ocbW, odbW, .func (PySem.W.fnOf "within" "Board.within" (defArgs sBoW) (defBody sBoW) (defScope sBoW) .none kVbW dcbW pmbW anbW cdbW ctbW), slbW⟩)
    (cbW : PySem.W.codeIn K cdbW "Board.within" = true)
    (kbW : PySem.W.keepIn K (.ref fbW) = true)
    (abC : PySem.W.findIn K (.ref CB) "__call__" = some (some (.ref fbC)))
    (ibC : PySem.W.isFn K (.ref fbC) = true)
    (jbC : PySem.W.fnIn K fbC = true)
    (lbC : K.lookup fbC = some ⟨ocbC, odbC, .func (PySem.W.fnOf "__call__" "Board.__call__" (defArgs sCal) (defBody sCal) (defScope sCal) .none kVbC dcbC pmbC anbC cdbC ctbC), slbC⟩)
    (cbC : PySem.W.codeIn K cdbC "Board.__call__" = true)
    (kbC : PySem.W.keepIn K (.ref fbC) = true)
    (abD : PySem.W.findIn K (.ref CB) "reads" = some (some (.ref fbD)))
    (ibD : PySem.W.isFn K (.ref fbD) = true)
    (lbD : K.lookup fbD = some ⟨ocbD, odbD, .func (PySem.W.fnOf "reads" "Board.reads" (defArgs sRds) (defBody sRds) (defScope sRds) .none kVbD dcbD pmbD anbD cdbD ctbD), slbD⟩)
    (cbD : PySem.W.codeIn K cdbD "Board.reads" = true)
    (kbD : PySem.W.keepIn K (.ref fbD) = true)
    (abI : PySem.W.findIn K (.ref CB) "__init__" = some (some (.ref fbI)))
    (ibI : PySem.W.isFn K (.ref fbI) = true)
    (lbI : K.lookup fbI = some ⟨ocbI, odbI, .func (PySem.W.fnOf "__init__" "Board.__init__" (defArgs sBoI) (defBody sBoI) (defScope sBoI) .none kVbI dcbI pmbI anbI cdbI ctbI), slbI⟩)
    (cbI : PySem.W.codeIn K cdbI "Board.__init__" = true)
    (kbI : PySem.W.keepIn K (.ref fbI) = true)
    (abJ : PySem.W.findIn K (.ref CB) "joins" = some (some (.ref fbJ)))
    (ibJ : PySem.W.isFn K (.ref fbJ) = true)
    (jbJ : PySem.W.fnIn K fbJ = true)
    (lbJ : K.lookup fbJ = some ⟨ocbJ, odbJ, .func (PySem.W.fnOf "joins" "Board.joins" (defArgs sBoJ) (defBody sBoJ) (defScope sBoJ) .none kVbJ dcbJ pmbJ anbJ cdbJ ctbJ), slbJ⟩)
    (cbJ : PySem.W.codeIn K cdbJ "Board.joins" = true)
    (kbJ : PySem.W.keepIn K (.ref fbJ) = true)
    (abO : PySem.W.findCls K (.ref CB) mcB "of" = some (.get (.builtin "classmethod.__get__") (.ref pbO) .none (.ref CB)))
    (rbO : PySem.W.recIn K pbO "classmethod" = some (.ref fbO :: rsbO))
    (jbO : PySem.W.fnIn K fbO = true)
    (lbO : K.lookup fbO = some ⟨ocbO, odbO, .func (PySem.W.fnOf "of" "Board.of" (defArgs sBoO) (defBody sBoO) (defScope sBoO) .none kVbO dcbO pmbO anbO cdbO ctbO), slbO⟩)
    (cbO : PySem.W.codeIn K cdbO "Board.of" = true)
    (kbO : PySem.W.keepIn K (.ref fbO) = true)
    (awI : PySem.W.findIn K (.ref CW) "__init__" = some (some (.ref fwI)))
    (iwI : PySem.W.isFn K (.ref fwI) = true)
    (lwI : K.lookup fwI = some ⟨ocwI, odwI, .func (PySem.W.fnOf "__init__" "Word.__init__" (defArgs (sWd 0)) (defBody (sWd 0)) (defScope (sWd 0)) .none kVwI dcwI pmwI anwI cdwI ctwI), slwI⟩)
    (cwI : PySem.W.codeIn K cdwI "Word.__init__" = true)
    (kwI : PySem.W.keepIn K (.ref fwI) = true)
    (awG : PySem.W.findIn K (.ref CW) "__getitem__" = some (some (.ref fwG)))
    (iwG : PySem.W.isFn K (.ref fwG) = true)
    (jwG : PySem.W.fnIn K fwG = true)
    (lwG : K.lookup fwG = some ⟨ocwG, odwG, .func (PySem.W.fnOf "__getitem__" "Word.__getitem__" (defArgs (sWd 5)) (defBody (sWd 5)) (defScope (sWd 5)) .none kVwG dcwG pmwG anwG cdwG ctwG), slwG⟩)
    (cwG : PySem.W.codeIn K cdwG "Word.__getitem__" = true)
    (kwG : PySem.W.keepIn K (.ref fwG) = true)
    (awA : PySem.W.findIn K (.ref CW) "__and__" = some (some (.ref fwA)))
    (iwA : PySem.W.isFn K (.ref fwA) = true)
    (lwA : K.lookup fwA = some ⟨ocwA, odwA, .func (PySem.W.fnOf "__and__" "Word.__and__" (defArgs (sWd 9)) (defBody (sWd 9)) (defScope (sWd 9)) .none kVwA dcwA pmwA anwA cdwA ctwA), slwA⟩)
    (cwA : PySem.W.codeIn K cdwA "Word.__and__" = true)
    (kwA : PySem.W.keepIn K (.ref fwA) = true)
    (awO : PySem.W.findCls K (.ref CW) mcW "of" = some (.get (.builtin "classmethod.__get__") (.ref pwO) .none (.ref CW)))
    (rwO : PySem.W.recIn K pwO "classmethod" = some (.ref fwO :: rswO))
    (jwO : PySem.W.fnIn K fwO = true)
    (lwO : K.lookup fwO = some ⟨ocwO, odwO, .func (PySem.W.fnOf "of" "Word.of" (defArgs (sWd 1)) (defBody (sWd 1)) (defScope (sWd 1)) .none kVwO dcwO pmwO anwO cdwO ctwO), slwO⟩)
    (cwO : PySem.W.codeIn K cdwO "Word.of" = true)
    (kwO : PySem.W.keepIn K (.ref fwO) = true)
    (awT : PySem.W.findCls K (.ref CW) mcW "rest" = some (.get (.builtin "classmethod.__get__") (.ref pwT) .none (.ref CW)))
    (rwT : PySem.W.recIn K pwT "classmethod" = some (.ref fwT :: rswT))
    (jwT : PySem.W.fnIn K fwT = true)
    (lwT : K.lookup fwT = some ⟨ocwT, odwT, .func (PySem.W.fnOf "rest" "Word.rest" (defArgs (sWd 2)) (defBody (sWd 2)) (defScope (sWd 2)) .none kVwT dcwT pmwT anwT cdwT ctwT), slwT⟩)
    (cwT : PySem.W.codeIn K cdwT "Word.rest" = true)
    (kwT : PySem.W.keepIn K (.ref fwT) = true)
    (aFI : PySem.W.findIn K (.ref CF) "__init__" = some (some (.ref fFI)))
    (iFI : PySem.W.isFn K (.ref fFI) = true)
    (lFI : K.lookup fFI = some ⟨ocFI, odFI, .func (PySem.W.fnOf "__init__" "Frame.__init__" (defArgs sFrI) (defBody sFrI) (defScope sFrI) .none (.ref DFI) dcFI pmFI anFI cdFI ctFI), slFI⟩)
    (cFI : PySem.W.codeIn K cdFI "Frame.__init__" = true)
    (kFI : PySem.W.keepIn K (.ref fFI) = true)
    (n1FI : PySem.W.nsIn K DFI "top" = some (some x1FI))
    (r1FI : RelV (.int 1) x1FI)
    (n2FI : PySem.W.nsIn K DFI "ground" = some (some x2FI))
    (r2FI : RelV (.bl false) x2FI)
    (n3FI : PySem.W.nsIn K DFI "power" = some (some x3FI))
    (r3FI : RelV (.bl false) x3FI)
    (tyF : PySem.W.typeIn K (.ref CF) = some mcF)
    (rdF : PySem.W.readsIn K CF mcF = true)
    (gaF : PySem.W.specialIn K (.ref CF) "__getattribute__" = some (some (.builtin "type.__getattribute__")))
    (moF : PySem.W.findCls K (.ref CF) mcF "MOST" = some (.val uM))
    (rmF : RelV (.int 40) uM)
    (aO : PySem.W.findCls K (.ref CF) mcF "of" = some (.get (.builtin "classmethod.__get__") (.ref pO) .none (.ref CF)))
    (rO : PySem.W.recIn K pO "classmethod" = some (.ref fO :: rsO))
    (fO_ : PySem.W.fnIn K fO = true)
    (lO : K.lookup fO = some ⟨ocO, odO, .func (PySem.W.fnOf "of" "Frame.of" (defArgs sOf) (defBody sOf) (defScope sOf) .none (.ref DO) dcO pmO anO cdO ctO), slO⟩)
    (cO : PySem.W.codeIn K cdO "Frame.of" = true)
    (kO : PySem.W.keepIn K (.ref fO) = true)
    (n1O : PySem.W.nsIn K DO "top" = some (some x1O))
    (r1O : RelV (.int 1) x1O)
    (n2O : PySem.W.nsIn K DO "ground" = some (some x2O))
    (r2O : RelV (.bl false) x2O)
    (n3O : PySem.W.nsIn K DO "power" = some (some x3O))
    (r3O : RelV (.bl false) x3O)
    (aIE : PySem.W.findIn K (.ref CI) "__init__" = some (some (.ref fIE)))
    (iIE : PySem.W.isFn K (.ref fIE) = true)
    (tIE : PySem.W.typeIn K (.ref fIE) = some (.type "function"))
    (lIE : K.lookup fIE = some ⟨ocIE, odIE, .func (PySem.W.fnX "__init__" "InvalidFrame.__init__" (defArgs sInv) (defBody sInv) (defScope sInv) [("__class__", yIE)] .none kVIE dcIE pmIE anIE (.ref xIE) ctIE), slIE⟩)
    (cIE : PySem.W.codeIn K (.ref xIE) "InvalidFrame.__init__" = true)
    (mIE : K.lookup xIE = some ⟨u1IE, v1IE, .fields vsIE, w1IE⟩)
    (nIE : vsIE[2]? = some (.str flIE tfIE))
    (pIE : ((P.main.file : Str) == flIE) = true)
    (qIE : K.lookup yIE = some ⟨u2IE, v2IE, .cell (some (.ref CI)), w2IE⟩)
    (kIE : PySem.W.keepIn K (.ref fIE) = true)
    (aIV : PySem.W.findIn K (.ref CV) "__init__" = some (some (.ref fIV)))
    (iIV : PySem.W.isFn K (.ref fIV) = true)
    (tIV : PySem.W.typeIn K (.ref fIV) = some (.type "function"))
    (lIV : K.lookup fIV = some ⟨ocIV, odIV, .func (PySem.W.fnX "__init__" "InvalidBoard.__init__" (defArgs sIvB) (defBody sIvB) (defScope sIvB) [("__class__", yIV)] .none kVIV dcIV pmIV anIV (.ref xIV) ctIV), slIV⟩)
    (cIV : PySem.W.codeIn K (.ref xIV) "InvalidBoard.__init__" = true)
    (mIV : K.lookup xIV = some ⟨u1IV, v1IV, .fields vsIV, w1IV⟩)
    (nIV : vsIV[2]? = some (.str flIV tfIV))
    (pIV : ((P.main.file : Str) == flIV) = true)
    (qIV : K.lookup yIV = some ⟨u2IV, v2IV, .cell (some (.ref CV)), w2IV⟩)
    (kIV : PySem.W.keepIn K (.ref fIV) = true)
    (aDI : PySem.W.findIn K (.ref CD) "__init__" = some (some (.ref fDI)))
    (iDI : PySem.W.isFn K (.ref fDI) = true)
    (tDI : PySem.W.typeIn K (.ref fDI) = some (.type "function"))
    (lDI : K.lookup fDI = some ⟨ocDI, odDI, .func (PySem.W.fnX "__init__" "Driver.__init__" (defArgs sDrvI) (defBody sDrvI) (defScope sDrvI) [("__class__", yDI)] .none kVDI dcDI pmDI anDI (.ref xDI) ctDI), slDI⟩)
    (cDI : PySem.W.codeIn K (.ref xDI) "Driver.__init__" = true)
    (mDI : K.lookup xDI = some ⟨u1DI, v1DI, .fields vsDI, w1DI⟩)
    (nDI : vsDI[2]? = some (.str flDI tfDI))
    (pDI : ((P.main.file : Str) == flDI) = true)
    (qDI : K.lookup yDI = some ⟨u2DI, v2DI, .cell (some (.ref CD)), w2DI⟩)
    (kDI : PySem.W.keepIn K (.ref fDI) = true)
    (aSI : PySem.W.findIn K (.ref CS) "__init__" = some (some (.ref fSI)))
    (iSI : PySem.W.isFn K (.ref fSI) = true)
    (tSI : PySem.W.typeIn K (.ref fSI) = some (.type "function"))
    (lSI : K.lookup fSI = some ⟨ocSI, odSI, .func (PySem.W.fnX "__init__" "Listener.__init__" (defArgs sLisI) (defBody sLisI) (defScope sLisI) [("__class__", ySI)] .none kVSI dcSI pmSI anSI (.ref xSI) ctSI), slSI⟩)
    (cSI : PySem.W.codeIn K (.ref xSI) "Listener.__init__" = true)
    (mSI : K.lookup xSI = some ⟨u1SI, v1SI, .fields vsSI, w1SI⟩)
    (nSI : vsSI[2]? = some (.str flSI tfSI))
    (pSI : ((P.main.file : Str) == flSI) = true)
    (qSI : K.lookup ySI = some ⟨u2SI, v2SI, .cell (some (.ref CS)), w2SI⟩)
    (kSI : PySem.W.keepIn K (.ref fSI) = true)
    (aNL : PySem.W.findIn K (.ref CN) "__init__" = some (some (.ref fNL)))
    (iNL : PySem.W.isFn K (.ref fNL) = true)
    (tNL : PySem.W.typeIn K (.ref fNL) = some (.type "function"))
    (lNL : K.lookup fNL = some ⟨ocNL, odNL, .func (PySem.W.fnX "__init__" "NoLeg.__init__" (defArgs sNl) (defBody sNl) (defScope sNl) [("__class__", yNL)] .none kVNL dcNL pmNL anNL (.ref xNL) ctNL), slNL⟩)
    (cNL : PySem.W.codeIn K (.ref xNL) "NoLeg.__init__" = true)
    (mNL : K.lookup xNL = some ⟨u1NL, v1NL, .fields vsNL, w1NL⟩)
    (nNL : vsNL[2]? = some (.str flNL tfNL))
    (pNL : ((P.main.file : Str) == flNL) = true)
    (qNL : K.lookup yNL = some ⟨u2NL, v2NL, .cell (some (.ref CN)), w2NL⟩)
    (kNL : PySem.W.keepIn K (.ref fNL) = true)
    (top_ : (P.main.scope.names.lookup ("super" : Str)).isSome = false)
    (third : PySem.W.nsIn K cStatics "thirdparty.any" = some none)
    (clsCI : PySem.W.clsIn K CI = some cdCI)
    (mrCI : PySem.W.mroIn K CI (.ref CI) = some true)
    (clsCD : PySem.W.clsIn K CD = some cdCD)
    (mrCD : PySem.W.mroIn K CD (.ref CD) = some true)
    (clsCS : PySem.W.clsIn K CS = some cdCS)
    (mrCS : PySem.W.mroIn K CS (.ref CS) = some true)
    (clsCL : PySem.W.clsIn K CL = some cdCL)
    (mrCL : PySem.W.mroIn K CL (.ref CL) = some true)
    (clsCN : PySem.W.clsIn K CN = some cdCN)
    (mrCN : PySem.W.mroIn K CN (.ref CN) = some true)
    (clsCV : PySem.W.clsIn K CV = some cdCV)
    (mrCV : PySem.W.mroIn K CV (.ref CV) = some true)
    (exL : K.lookup CI = some (excClassObj nm q CI Ns bs bm true sn sub ab col dd k0 k1 k2 k3 k5 "ValueError.__new__"))
    (exR : PySem.HandSPX.refsVE bm = true)
    (exS : PySem.W.findIn K (.ref CI) "__setattr__" = some (some (.builtin "object.__setattr__")))
    (exB : PySem.W.subIn K (.ref CI) (.type "BaseException") = some true)
    (exV : PySem.W.subIn K (.ref CI) (.type "ValueError") = some true)
    (exT : PySem.W.typeIn K (.ref CI) = some (.type "type"))
    (exK : PySem.W.keepIn K (.ref CI) = true)
    (exN : PySem.W.findIn K (.ref CI) "reason" = some none)
    (exU : PySem.W.ks_superIn K CI CI "__init__" = some (some (.builtin "ValueError.__init__")))
    (vxL : K.lookup CV = some (excClassObj nm2 q2 CV Ns2 bs2 bm2 true sn2 sub2 ab2 col2 dd2 k02 k12 k22 k32 k52 "ValueError.__new__"))
    (vxR : PySem.HandSPX.refsVE bm2 = true)
    (vxS : PySem.W.findIn K (.ref CV) "__setattr__" = some (some (.builtin "object.__setattr__")))
    (vxB : PySem.W.subIn K (.ref CV) (.type "BaseException") = some true)
    (vxV : PySem.W.subIn K (.ref CV) (.type "ValueError") = some true)
    (vxT : PySem.W.typeIn K (.ref CV) = some (.type "type"))
    (vxK : PySem.W.keepIn K (.ref CV) = true)
    (vxN : PySem.W.findIn K (.ref CV) "reason" = some none)
    (vxU : PySem.W.ks_superIn K CV CV "__init__" = some (some (.builtin "ValueError.__init__")))
    (iniN : PySem.W.excInitIn K CN tlL "LookupError.__new__" = true)
    (ovN : PySem.W.excOver K CN tlL = true)
    (saN : PySem.W.findIn K (.ref CN) "__setattr__" = some (some (.builtin "object.__setattr__")))
    (exCN : PySem.W.subIn K (.ref CN) (.type "BaseException") = some true)
    (tyN : PySem.W.typeIn K (.ref CN) = some (.type "type"))
    (kN_ : PySem.W.keepIn K (.ref CN) = true)
    (hdN : PySem.W.hasDictIn K CN = true)
    (sBN : PySem.W.subIn K (.ref CN) (.type "LookupError") = some true)
    (hmN : PySem.W.ks_superIn K CN CN "__init__" = some (some (.builtin "LookupError.__init__")))
    (noN : PySem.W.findIn K (.ref CN) "name" = some none)
    (exmN : PySem.W.exmOne K (.ref CN) (.ref CN) = some true)
    (gaN : PySem.W.findIn K (.ref CN) "__getattribute__" = some (some (.builtin "BaseException.__getattribute__")))
    (ggN : PySem.W.findIn K (.ref CN) "__getattr__" = some none)
    (caN : PySem.W.findIn K (.ref CN) "__class__" = some (some (.builtin "object.__class__")))
    (obN : PySem.W.mroIn K CN (.type "object") = some true)
    (fnLI : PySem.W.fnIn K fLI = true)
    (tyLI : PySem.W.typeIn K (.ref fLI) = some (.type "function"))
    (suCD : PySem.W.ks_superIn K CD CD "__init__" = some (some (.ref fLI)))
    (suCS : PySem.W.ks_superIn K CS CS "__init__" = some (some (.ref fLI)))
    (pgCD : PySem.W.plainGet K CD Str.empty = true)
    (hdCD : PySem.W.hasDictIn K CD = true)
    (poCD : PySem.W.plainOver K CD = true)
    (saCD : PySem.W.findIn K (.ref CD) "__setattr__" = some (some (.builtin "object.__setattr__")))
    (mkCD : PySem.W.makesIn K CD = true)
    (kcCD : PySem.W.keepIn K (.ref CD) = true)
    (caCD : PySem.W.findIn K (.ref CD) "__class__" = some (some (.builtin "object.__class__")))
    (obCD : PySem.W.mroIn K CD (.type "object") = some true)
    (neCD : PySem.W.findIn K (.ref CD) "__ne__" = some (some (.builtin "object.__ne__")))
    (nnCD : PySem.W.findIn K (.ref CD) "name" = some none)
    (pgCS : PySem.W.plainGet K CS Str.empty = true)
    (hdCS : PySem.W.hasDictIn K CS = true)
    (poCS : PySem.W.plainOver K CS = true)
    (saCS : PySem.W.findIn K (.ref CS) "__setattr__" = some (some (.builtin "object.__setattr__")))
    (mkCS : PySem.W.makesIn K CS = true)
    (kcCS : PySem.W.keepIn K (.ref CS) = true)
    (caCS : PySem.W.findIn K (.ref CS) "__class__" = some (some (.builtin "object.__class__")))
    (obCS : PySem.W.mroIn K CS (.type "object") = some true)
    (neCS : PySem.W.findIn K (.ref CS) "__ne__" = some (some (.builtin "object.__ne__")))
    (nnCS : PySem.W.findIn K (.ref CS) "name" = some none)
    (pgCF : PySem.W.plainGet K CF Str.empty = true)
    (hdCF : PySem.W.hasDictIn K CF = true)
    (poCF : PySem.W.plainOver K CF = true)
    (saCF : PySem.W.findIn K (.ref CF) "__setattr__" = some (some (.builtin "object.__setattr__")))
    (mkCF : PySem.W.makesIn K CF = true)
    (kcCF : PySem.W.keepIn K (.ref CF) = true)
    (caCF : PySem.W.findIn K (.ref CF) "__class__" = some (some (.builtin "object.__class__")))
    (obCF : PySem.W.mroIn K CF (.type "object") = some true)
    (neCF : PySem.W.findIn K (.ref CF) "__ne__" = some (some (.builtin "object.__ne__")))
    (pgCB : PySem.W.plainGet K CB Str.empty = true)
    (hdCB : PySem.W.hasDictIn K CB = true)
    (poCB : PySem.W.plainOver K CB = true)
    (saCB : PySem.W.findIn K (.ref CB) "__setattr__" = some (some (.builtin "object.__setattr__")))
    (mkCB : PySem.W.makesIn K CB = true)
    (kcCB : PySem.W.keepIn K (.ref CB) = true)
    (caCB : PySem.W.findIn K (.ref CB) "__class__" = some (some (.builtin "object.__class__")))
    (obCB : PySem.W.mroIn K CB (.type "object") = some true)
    (neCB : PySem.W.findIn K (.ref CB) "__ne__" = some (some (.builtin "object.__ne__")))
    (pgCW : PySem.W.plainGet K CW Str.empty = true)
    (hdCW : PySem.W.hasDictIn K CW = true)
    (poCW : PySem.W.plainOver K CW = true)
    (saCW : PySem.W.findIn K (.ref CW) "__setattr__" = some (some (.builtin "object.__setattr__")))
    (mkCW : PySem.W.makesIn K CW = true)
    (kcCW : PySem.W.keepIn K (.ref CW) = true)
    (caCW : PySem.W.findIn K (.ref CW) "__class__" = some (some (.builtin "object.__class__")))
    (obCW : PySem.W.mroIn K CW (.type "object") = some true)
    (neCW : PySem.W.findIn K (.ref CW) "__ne__" = some (some (.builtin "object.__ne__")))
    (nbframe : PySem.W.findIn K (.ref CB) "frame" = some none)
    (nb_blocks : PySem.W.findIn K (.ref CB) "_blocks" = some none)
    (nb_homes : PySem.W.findIn K (.ref CB) "_homes" = some none)
    (nwframe : PySem.W.findIn K (.ref CW) "frame" = some none)
    (nw_levels : PySem.W.findIn K (.ref CW) "_levels" = some none)
    (nf_legs : PySem.W.findIn K (.ref CF) "_legs" = some none)
    (nftop : PySem.W.findIn K (.ref CF) "top" = some none)
    (nfground : PySem.W.findIn K (.ref CF) "ground" = some none)
    (nfpower : PySem.W.findIn K (.ref CF) "power" = some none)
    (cn : PySem.W.specialIn K (.builtin "object.__class__") "__get__" = some (some (.builtin "getset_descriptor.__get__")))
    (ct : PySem.W.takesIn K (.builtin "object.__class__") = some true)
    (kdd : PySem.W.kitAny K (.ref CD) [.ref CD, .ref CS] = some true)
    (kii : PySem.W.kitAny K (.ref CS) [.ref CD, .ref CS] = some true)
    (klt : PySem.W.kitAny K (.type "list") [.type "list", .type "tuple"] = some true)
    (ktt : PySem.W.kitAny K (.type "tuple") [.type "list", .type "tuple"] = some true)
    (kkCDCD : PySem.W.kitOne K (.ref CD) (.ref CD) = some true)
    (kkCSCS : PySem.W.kitOne K (.ref CS) (.ref CS) = some true)
    (kkCFCF : PySem.W.kitOne K (.ref CF) (.ref CF) = some true)
    (kkCBCB : PySem.W.kitOne K (.ref CB) (.ref CB) = some true)
    (kkCWCW : PySem.W.kitOne K (.ref CW) (.ref CW) = some true)
    (kkCDCS : PySem.W.kitOne K (.ref CD) (.ref CS) = some false)
    (kkCSCD : PySem.W.kitOne K (.ref CS) (.ref CD) = some false)
    (nfCDCD : PySem.W.notFirst K CD (.ref CD) = true)
    (nfCDCS : PySem.W.notFirst K CD (.ref CS) = true)
    (nfCSCD : PySem.W.notFirst K CS (.ref CD) = true)
    (nfCSCS : PySem.W.notFirst K CS (.ref CS) = true)
    (nfCFCF : PySem.W.notFirst K CF (.ref CF) = true)
    (nfCBCB : PySem.W.notFirst K CB (.ref CB) = true)
    (nfCWCW : PySem.W.notFirst K CW (.ref CW) = true)
    (neDS : CD ≠ CS)
    (sfB : PySem.W.selfFirst K CB = true)
    (sfW : PySem.W.selfFirst K CW = true)
    (wf1 : CW ≠ CF)
    (wf2 : CW ≠ CD)
    (wf3 : CW ≠ CS)
    (rSB : PySem.W.findIn K (.ref CB) "__rsub__" = some none)
    (su_str : PySem.W.subIn K (.type "str") (.ref CB) = some false)
    (f_sub_str : PySem.W.findIn K (.type "str") "__sub__" = some fo_str)
    (r_sub_str : PySem.W.findIn K (.type "str") "__rsub__" = some ro_str)
    (gfJ : PySem.W.specialIn K (.ref fbJ) "__get__" = some (some (.builtin "function.__get__")))
    (tkJ : PySem.W.takesIn K (.ref fbJ) = some false) :
    ∀ base : Heap, K.In base → base.Ns mainGlobals mg → AtCall P w K mg base fa (spLaw15 K) := by
  intro base _ _
  have e := hfa.symm.trans (PySem.W.mg_of X G aLw)
  cases e
  have mCI := PySem.W.mg_of X G gCI
  have mCL := PySem.W.mg_of X G gCL
  have mCD := PySem.W.mg_of X G gCD
  have mCS := PySem.W.mg_of X G gCS
  have mCF := PySem.W.mg_of X G gCF
  have mCN := PySem.W.mg_of X G gCN
  have mCB := PySem.W.mg_of X G gCB
  have mCV := PySem.W.mg_of X G gCV
  have mCW := PySem.W.mg_of X G gCW
  have y_dict := PySem.W.mg_none_of X G z_dict
  have y_any := PySem.W.mg_none_of X G z_any
  have y_set := PySem.W.mg_none_of X G z_set
  have y_min := PySem.W.mg_none_of X G z_min
  have y_isinstance := PySem.W.mg_none_of X G z_isinstance
  have y_str := PySem.W.mg_none_of X G z_str
  have y_len := PySem.W.mg_none_of X G z_len
  have y_all := PySem.W.mg_none_of X G z_all
  have y_bool := PySem.W.mg_none_of X G z_bool
  have y_int := PySem.W.mg_none_of X G z_int
  have y_abs := PySem.W.mg_none_of X G z_abs
  have y_range := PySem.W.mg_none_of X G z_range
  have y_list := PySem.W.mg_none_of X G z_list
  have y_tuple := PySem.W.mg_none_of X G z_tuple
  have y_sorted := PySem.W.mg_none_of X G z_sorted
  have y_super := PySem.W.mg_none_of X G z_super
  have y_repr := PySem.W.mg_none_of X G z_repr
  have FN := fun_mk (x := "is_name") (qual := "is_name") (st := sIsName) lN cN kN
  have mN := PySem.W.mg_of X G aN
  have bN_ := FN.binds (ps := ["value"]) fun _ _ _ _ _ _ us hl => match us, hl with | [_], _ => rfl
  have FIi := fun_mk (x := "is_integer") (qual := "is_integer") (st := sIsInt) lIi cIi kIi
  have mIi := PySem.W.mg_of X G aIi
  have bIi_ := FIi.binds (ps := ["value"]) fun _ _ _ _ _ _ us hl => match us, hl with | [_], _ => rfl
  have FBt := fun_mk (x := "is_between") (qual := "is_between") (st := sBetw) lBt cBt kBt
  have mBt := PySem.W.mg_of X G aBt
  have bBt_ := FBt.binds (ps := ["value", "least", "most"]) fun _ _ _ _ _ _ us hl => match us, hl with | [_, _, _], _ => rfl
  have FWr := fun_mk (x := "wrong_frame") (qual := "wrong_frame") (st := sWrong) lWr cWr kWr
  have mWr := PySem.W.mg_of X G aWr
  have bWr_ := FWr.binds (ps := ["legs", "top", "ground", "power"]) fun _ _ _ _ _ _ us hl => match us, hl with | [_, _, _, _], _ => rfl
  have FLI := fun_mk (x := "__init__") (qual := "Leg.__init__") (st := sLegI) lLI cLI kLI
  have bLI_ := FLI.binds (ps := ["self", "name"]) fun _ _ _ _ _ _ us hl => match us, hl with | [_, _], _ => rfl
  have FPn := fun_mk (x := "_law_pen") (qual := "_law_pen") (st := sPen) lPn cPn kPn
  have mPn := PySem.W.mg_of X G aPn
  have bPn_ := FPn.binds (ps := ["_law_script"]) fun _ _ _ _ _ _ us hl => match us, hl with | [_], _ => rfl
  have FDr := fun_mk (x := "_law_draw") (qual := "_law_draw") (st := sDraw) lDr cDr kDr
  have mDr := PySem.W.mg_of X G aDr
  have bDr_ := FDr.binds (ps := ["_law_pen_here", "_law_many"]) fun _ _ _ _ _ _ us hl => match us, hl with | [_, _], _ => rfl
  have FPk := fun_mk (x := "_law_pick") (qual := "_law_pick") (st := sPick) lPk cPk kPk
  have mPk := PySem.W.mg_of X G aPk
  have bPk_ := FPk.binds (ps := ["_law_pen_here", "_law_some"]) fun _ _ _ _ _ _ us hl => match us, hl with | [_, _], _ => rfl
  have FTg := fun_mk (x := "_law_tags") (qual := "_law_tags") (st := sTags) lTg cTg kTg
  have mTg := PySem.W.mg_of X G aTg
  have bTg_ := FTg.binds (ps := ["_law_pen_here", "_law_many"]) fun _ _ _ _ _ _ us hl => match us, hl with | [_, _], _ => rfl
  have FBa := fun_mk (x := "_law_bare") (qual := "_law_bare") (st := sBare) lBa cBa kBa
  have mBa := PySem.W.mg_of X G aBa
  have bBa_ := FBa.binds (ps := ["_law_pen_here", "_law_most"]) fun _ _ _ _ _ _ us hl => match us, hl with | [_, _], _ => rfl
  have FFm := fun_mk (x := "_law_frame") (qual := "_law_frame") (st := sFrm) lFm cFm kFm
  have mFm := PySem.W.mg_of X G aFm
  have bFm_ := FFm.binds (ps := ["_law_bare_here"]) fun _ _ _ _ _ _ us hl => match us, hl with | [_], _ => rfl
  have FLg := fun_mk (x := "_law_legs") (qual := "_law_legs") (st := sLgs) lLg cLg kLg
  have mLg := PySem.W.mg_of X G aLg
  have bLg_ := FLg.binds (ps := ["_law_bare_here"]) fun _ _ _ _ _ _ us hl => match us, hl with | [_], _ => rfl
  have FMm := fun_mk (x := "_law_members") (qual := "_law_members") (st := sMms) lMm cMm kMm
  have mMm := PySem.W.mg_of X G aMm
  have bMm_ := FMm.binds (ps := ["_law_bare_here"]) fun _ _ _ _ _ _ us hl => match us, hl with | [_], _ => rfl
  have FIm := fun_mk (x := "is_member") (qual := "is_member") (st := sIsM) lIm cIm kIm
  have mIm := PySem.W.mg_of X G aIm
  have bIm_ := FIm.binds (ps := ["frame", "value"]) fun _ _ _ _ _ _ us hl => match us, hl with | [_, _], _ => rfl
  have FWb := fun_mk (x := "wrong_blocks") (qual := "wrong_blocks") (st := sWb) lWb cWb kWb
  have mWb := PySem.W.mg_of X G aWb
  have bWb_ := FWb.binds (ps := ["frame", "blocks"]) fun _ _ _ _ _ _ us hl => match us, hl with | [_, _], _ => rfl
  have FPa := fun_mk (x := "_law_parted") (qual := "_law_parted") (st := sPar) lPa cPa kPa
  have mPa := PySem.W.mg_of X G aPa
  have bPa_ := FPa.binds (ps := ["_law_pen_here", "_law_bare_here"]) fun _ _ _ _ _ _ us hl => match us, hl with | [_, _], _ => rfl
  have FBd := fun_mk (x := "_law_board") (qual := "_law_board") (st := sBrd) lBd cBd kBd
  have mBd := PySem.W.mg_of X G aBd
  have bBd_ := FBd.binds (ps := ["_law_pen_here", "_law_made", "_law_blocks_so"]) fun _ _ _ _ _ _ us hl => match us, hl with | [_, _, _], _ => rfl
  have FId := fun_mk (x := "is_driver") (qual := "is_driver") (st := sIsD) lId cId kId
  have mId := PySem.W.mg_of X G aId
  have bId_ := FId.binds (ps := ["frame", "value"]) fun _ _ _ _ _ _ us hl => match us, hl with | [_, _], _ => rfl
  have FDl := fun_mk (x := "driver_levels") (qual := "driver_levels") (st := sDL) lDl cDl kDl
  have mDl := PySem.W.mg_of X G aDl
  have bDl_ := FDl.binds (ps := ["frame", "levels"]) fun _ _ _ _ _ _ us hl => match us, hl with | [_, _], _ => rfl
  have FLv := fun_mk (x := "_law_levels") (qual := "_law_levels") (st := sLvs) lLv cLv kLv
  have mLv := PySem.W.mg_of X G aLv
  have bLv_ := FLv.binds (ps := ["_law_pen_here", "_law_bare_here"]) fun _ _ _ _ _ _ us hl => match us, hl with | [_, _], _ => rfl
  have FIw := fun_mk (x := "is_word_of") (qual := "is_word_of") (st := sIsW) lIw cIw kIw
  have mIw := PySem.W.mg_of X G aIw
  have bIw_ := FIw.binds (ps := ["frame", "value"]) fun _ _ _ _ _ _ us hl => match us, hl with | [_, _], _ => rfl
  have FWq := fun_mk (x := "_law_word") (qual := "_law_word") (st := sWrd) lWq cWq kWq
  have mWq := PySem.W.mg_of X G aWq
  have bWq_ := FWq.binds (ps := ["_law_made", "_law_levels_so"]) fun _ _ _ _ _ _ us hl => match us, hl with | [_, _], _ => rfl
  have FBv := fun_mk (x := "block_level") (qual := "block_level") (st := sBlv) lBv cBv kBv
  have mBv := PySem.W.mg_of X G aBv
  have bBv_ := FBv.binds (ps := ["block", "word"]) fun _ _ _ _ _ _ us hl => match us, hl with | [_, _], _ => rfl
  have FJr := fun_mk (x := "_law_joined_right") (qual := "_law_joined_right") (st := sJoi) lJr cJr kJr
  have mJr := PySem.W.mg_of X G aJr
  have bJr_ := FJr.binds (ps := ["_law_made", "_law_mate", "_law_both", "_law_word_so"]) fun _ _ _ _ _ _ us hl => match us, hl with | [_, _, _, _], _ => rfl
  have FOu := fun_mk (x := "_law_out_right") (qual := "_law_out_right") (st := sOur) lOu cOu kOu
  have mOu := PySem.W.mg_of X G aOu
  have bOu_ := FOu.binds (ps := ["_law_made", "_law_word_so"]) fun _ _ _ _ _ _ us hl => match us, hl with | [_, _], _ => rfl
  have FWw := fun_mk (x := "_law_words_right") (qual := "_law_words_right") (st := sWor) lWw cWw kWw
  have mWw := PySem.W.mg_of X G aWw
  have bWw_ := FWw.binds (ps := ["_law_made", "_law_one", "_law_two"]) fun _ _ _ _ _ _ us hl => match us, hl with | [_, _, _], _ => rfl
  have FLw := fun_mk (x := "law") (qual := "law") (st := sLaw15) lLw cLw kLw
  have mLw := PySem.W.mg_of X G aLw
  have FIb := fun_mk (x := "is_board_of") (qual := "is_board_of") (st := sIbo) lIb cIb kIb
  have mIb := PySem.W.mg_of X G aIb
  have bIb_ := FIb.binds (ps := ["frame", "value"]) fun _ _ _ _ _ _ us hl => match us, hl with | [_, _], _ => rfl
  have FJo := fun_mk (x := "joined_blocks") (qual := "joined_blocks") (st := sJo) lJo cJo kJo
  have mJo := PySem.W.mg_of X G aJo
  have bJo_ := FJo.binds (ps := ["blocks", "more"]) fun _ _ _ _ _ _ us hl => match us, hl with | [_, _], _ => rfl
  have FgL := fun_mk (x := "legs") (qual := "Frame.legs") (st := (sFr 3)) lgL cgL kgL
  have bgL_ := FgL.binds (ps := ["self"]) fun _ _ _ _ _ _ us hl => match us, hl with | [_], _ => rfl
  have FgN := fun_mk (x := "names") (qual := "Frame.names") (st := (sFr 4)) lgN cgN kgN
  have bgN_ := FgN.binds (ps := ["self"]) fun _ _ _ _ _ _ us hl => match us, hl with | [_], _ => rfl
  have FgD := fun_mk (x := "drivers") (qual := "Frame.drivers") (st := (sFr 5)) lgD cgD kgD
  have bgD_ := FgD.binds (ps := ["self"]) fun _ _ _ _ _ _ us hl => match us, hl with | [_], _ => rfl
  have FgR := fun_mk (x := "rails") (qual := "Frame.rails") (st := (sFr 7)) lgR cgR kgR
  have bgR_ := FgR.binds (ps := ["self"]) fun _ _ _ _ _ _ us hl => match us, hl with | [_], _ => rfl
  have FgM := fun_mk (x := "members") (qual := "Frame.members") (st := (sFr 8)) lgM cgM kgM
  have bgM_ := FgM.binds (ps := ["self"]) fun _ _ _ _ _ _ us hl => match us, hl with | [_], _ => rfl
  have FmC := fun_mk (x := "__contains__") (qual := "Frame.__contains__") (st := (sFr 9)) lmC cmC kmC
  have bmC_ := FmC.binds (ps := ["self", "x"]) fun _ _ _ _ _ _ us hl => match us, hl with | [_, _], _ => rfl
  have FmG := fun_mk (x := "__getitem__") (qual := "Frame.__getitem__") (st := (sFr 10)) lmG cmG kmG
  have bmG_ := FmG.binds (ps := ["self", "at"]) fun _ _ _ _ _ _ us hl => match us, hl with | [_, _], _ => rfl
  have FmE := fun_mk (x := "__eq__") (qual := "Frame.__eq__") (st := (sFr 13)) lmE cmE kmE
  have bmE_ := FmE.binds (ps := ["self", "other"]) fun _ _ _ _ _ _ us hl => match us, hl with | [_, _], _ => rfl
  have FDvD := fun_mk (x := "drives") (qual := "Driver.drives") (st := (sDrv 2)) lDvD cDvD kDvD
  have bDvD_ := FDvD.binds (ps := ["self"]) fun _ _ _ _ _ _ us hl => match us, hl with | [_], _ => rfl
  have FDvS := fun_mk (x := "drives") (qual := "Listener.drives") (st := (sLis 2)) lDvS cDvS kDvS
  have bDvS_ := FDvS.binds (ps := ["self"]) fun _ _ _ _ _ _ us hl => match us, hl with | [_], _ => rfl
  have FEqD := fun_mk (x := "__eq__") (qual := "Driver.__eq__") (st := (sDrv 3)) lEqD cEqD kEqD
  have bEqD_ := FEqD.binds (ps := ["self", "other"]) fun _ _ _ _ _ _ us hl => match us, hl with | [_, _], _ => rfl
  have FEqS := fun_mk (x := "__eq__") (qual := "Listener.__eq__") (st := (sLis 3)) lEqS cEqS kEqS
  have bEqS_ := FEqS.binds (ps := ["self", "other"]) fun _ _ _ _ _ _ us hl => match us, hl with | [_, _], _ => rfl
  have FbG := fun_mk (x := "__getitem__") (qual := "Board.__getitem__") (st := sBoG) lbG cbG kbG
  have bbG_ := FbG.binds (ps := ["self", "at"]) fun _ _ _ _ _ _ us hl => match us, hl with | [_, _], _ => rfl
  have FbM := fun_mk (x := "__sub__") (qual := "Board.__sub__") (st := sBoM) lbM cbM kbM
  have bbM_ := FbM.binds (ps := ["self", "other"]) fun _ _ _ _ _ _ us hl => match us, hl with | [_, _], _ => rfl
  have FbU := fun_mk (x := "__or__") (qual := "Board.__or__") (st := sBoR) lbU cbU kbU
  have bbU_ := FbU.binds (ps := ["self", "other"]) fun _ _ _ _ _ _ us hl => match us, hl with | [_, _], _ => rfl
  have FbW := fun_mk (x := "within") (qual := "Board.within") (st := sBoW) lbW cbW kbW
  have bbW_ := FbW.binds (ps := ["self", "other"]) fun _ _ _ _ _ _ us hl => match us, hl with | [_, _], _ => rfl
  have FbC := fun_mk (x := "__call__") (qual := "Board.__call__") (st := sCal) lbC cbC kbC
  have bbC_ := FbC.binds (ps := ["self", "word"]) fun _ _ _ _ _ _ us hl => match us, hl with | [_, _], _ => rfl
  have FbD := fun_mk (x := "reads") (qual := "Board.reads") (st := sRds) lbD cbD kbD
  have bbD_ := FbD.binds (ps := ["self", "word", "name"]) fun _ _ _ _ _ _ us hl => match us, hl with | [_, _, _], _ => rfl
  have FbI : FunD K "__init__" "Board.__init__" (defArgs sBoI) (defBody sBoI) (defScope sBoI) [] [] fbI _ := ⟨⟨ocbI, odbI, _, _, dcbI, pmbI, anbI, cdbI, ctbI, slbI, rfl, lbI, cbI, .inl ⟨rfl, rfl⟩, .inl rfl⟩, kbI⟩
  have FbJ : FunD K "joins" "Board.joins" (defArgs sBoJ) (defBody sBoJ) (defScope sBoJ) [] [] fbJ _ := ⟨⟨ocbJ, odbJ, _, _, dcbJ, pmbJ, anbJ, cdbJ, ctbJ, slbJ, rfl, lbJ, cbJ, .inl ⟨rfl, rfl⟩, .inl rfl⟩, kbJ⟩
  have FbO : FunD K "of" "Board.of" (defArgs sBoO) (defBody sBoO) (defScope sBoO) [] [] fbO _ := ⟨⟨ocbO, odbO, _, _, dcbO, pmbO, anbO, cdbO, ctbO, slbO, rfl, lbO, cbO, .inl ⟨rfl, rfl⟩, .inl rfl⟩, kbO⟩
  have FwI := fun_mk (x := "__init__") (qual := "Word.__init__") (st := (sWd 0)) lwI cwI kwI
  have FwG := fun_mk (x := "__getitem__") (qual := "Word.__getitem__") (st := (sWd 5)) lwG cwG kwG
  have bwG_ := FwG.binds (ps := ["self", "at"]) fun _ _ _ _ _ _ us hl => match us, hl with | [_, _], _ => rfl
  have FwA := fun_mk (x := "__and__") (qual := "Word.__and__") (st := (sWd 9)) lwA cwA kwA
  have bwA_ := FwA.binds (ps := ["self", "other"]) fun _ _ _ _ _ _ us hl => match us, hl with | [_, _], _ => rfl
  have FwO := fun_mk (x := "of") (qual := "Word.of") (st := (sWd 1)) lwO cwO kwO
  have FwT := fun_mk (x := "rest") (qual := "Word.rest") (st := (sWd 2)) lwT cwT kwT
  have FIE : FunS P K "__init__" "InvalidFrame.__init__" sInv fIE _ xIE yIE CI := ⟨⟨ocIE, odIE, kVIE, dcIE, pmIE, anIE, ctIE, slIE, rfl, lIE⟩, cIE, ⟨u1IE, v1IE, vsIE, w1IE, flIE, tfIE, mIE, nIE, pIE⟩, ⟨u2IE, v2IE, w2IE, qIE⟩, kIE⟩
  have bIE_ : Binds K (PySem.W.fnX "__init__" "InvalidFrame.__init__" (defArgs sInv) (defBody sInv) (defScope sInv) [("__class__", yIE)] .none kVIE dcIE pmIE anIE (.ref xIE) ctIE) ["self", "reason"] [] := .all fun us hl => match us, hl with | [_, _], _ => rfl
  have FIV : FunS P K "__init__" "InvalidBoard.__init__" sIvB fIV _ xIV yIV CV := ⟨⟨ocIV, odIV, kVIV, dcIV, pmIV, anIV, ctIV, slIV, rfl, lIV⟩, cIV, ⟨u1IV, v1IV, vsIV, w1IV, flIV, tfIV, mIV, nIV, pIV⟩, ⟨u2IV, v2IV, w2IV, qIV⟩, kIV⟩
  have bIV_ : Binds K (PySem.W.fnX "__init__" "InvalidBoard.__init__" (defArgs sIvB) (defBody sIvB) (defScope sIvB) [("__class__", yIV)] .none kVIV dcIV pmIV anIV (.ref xIV) ctIV) ["self", "reason"] [] := .all fun us hl => match us, hl with | [_, _], _ => rfl
  have FDI : FunS P K "__init__" "Driver.__init__" sDrvI fDI _ xDI yDI CD := ⟨⟨ocDI, odDI, kVDI, dcDI, pmDI, anDI, ctDI, slDI, rfl, lDI⟩, cDI, ⟨u1DI, v1DI, vsDI, w1DI, flDI, tfDI, mDI, nDI, pDI⟩, ⟨u2DI, v2DI, w2DI, qDI⟩, kDI⟩
  have bDI_ : Binds K (PySem.W.fnX "__init__" "Driver.__init__" (defArgs sDrvI) (defBody sDrvI) (defScope sDrvI) [("__class__", yDI)] .none kVDI dcDI pmDI anDI (.ref xDI) ctDI) ["self", "name"] [] := .all fun us hl => match us, hl with | [_, _], _ => rfl
  have FSI : FunS P K "__init__" "Listener.__init__" sLisI fSI _ xSI ySI CS := ⟨⟨ocSI, odSI, kVSI, dcSI, pmSI, anSI, ctSI, slSI, rfl, lSI⟩, cSI, ⟨u1SI, v1SI, vsSI, w1SI, flSI, tfSI, mSI, nSI, pSI⟩, ⟨u2SI, v2SI, w2SI, qSI⟩, kSI⟩
  have bSI_ : Binds K (PySem.W.fnX "__init__" "Listener.__init__" (defArgs sLisI) (defBody sLisI) (defScope sLisI) [("__class__", ySI)] .none kVSI dcSI pmSI anSI (.ref xSI) ctSI) ["self", "name"] [] := .all fun us hl => match us, hl with | [_, _], _ => rfl
  have FNL : FunS P K "__init__" "NoLeg.__init__" sNl fNL _ xNL yNL CN := ⟨⟨ocNL, odNL, kVNL, dcNL, pmNL, anNL, ctNL, slNL, rfl, lNL⟩, cNL, ⟨u1NL, v1NL, vsNL, w1NL, flNL, tfNL, mNL, nNL, pNL⟩, ⟨u2NL, v2NL, w2NL, qNL⟩, kNL⟩
  have bNL_ : Binds K (PySem.W.fnX "__init__" "NoLeg.__init__" (defArgs sNl) (defBody sNl) (defScope sNl) [("__class__", yNL)] .none kVNL dcNL pmNL anNL (.ref xNL) ctNL) ["self", "name"] [] := .all fun us hl => match us, hl with | [_, _], _ => rfl
  have FFI : FunD K "__init__" "Frame.__init__" (defArgs sFrI) (defBody sFrI) (defScope sFrI) [] kwsF fFI _ := ⟨⟨ocFI, odFI, _, _, dcFI, pmFI, anFI, cdFI, ctFI, slFI, rfl, lFI, cFI, .inl ⟨rfl, rfl⟩, .inr ⟨DFI, rfl, fun p hp => by
      rcases List.mem_cons.mp hp with rfl | hp
      · exact ⟨_, n1FI, r1FI⟩
      rcases List.mem_cons.mp hp with rfl | hp
      · exact ⟨_, n2FI, r2FI⟩
      obtain rfl := List.mem_singleton.mp hp
      exact ⟨_, n3FI, r3FI⟩⟩⟩, kFI⟩
  have FO : FunD K "of" "Frame.of" (defArgs sOf) (defBody sOf) (defScope sOf) [] kwsF fO _ := ⟨⟨ocO, odO, _, _, dcO, pmO, anO, cdO, ctO, slO, rfl, lO, cO, .inl ⟨rfl, rfl⟩, .inr ⟨DO, rfl, fun p hp => by
      rcases List.mem_cons.mp hp with rfl | hp
      · exact ⟨_, n1O, r1O⟩
      rcases List.mem_cons.mp hp with rfl | hp
      · exact ⟨_, n2O, r2O⟩
      obtain rfl := List.mem_singleton.mp hp
      exact ⟨_, n3O, r3O⟩⟩⟩, kO⟩
  have NT : NmT K mg := ⟨y_isinstance, y_str, y_len, y_all, ⟨tL, PySem.W.mg_of X G gLet⟩, ⟨tN, PySem.W.mg_of X G gLon⟩, ⟨aR, PySem.W.mg_of X G gRes, fun H => .inr ⟨_, itsR, nR, lRes, rfl, rfl, sRes, vRes⟩⟩⟩
  have suCI_ : SupT P K mg CI := ⟨top_, y_super, ⟨cdCI, clsCI⟩, third⟩
  have suCD_ : SupT P K mg CD := ⟨top_, y_super, ⟨cdCD, clsCD⟩, third⟩
  have suCS_ : SupT P K mg CS := ⟨top_, y_super, ⟨cdCS, clsCS⟩, third⟩
  have suCN_ : SupT P K mg CN := ⟨top_, y_super, ⟨cdCN, clsCN⟩, third⟩
  have suCV_ : SupT P K mg CV := ⟨top_, y_super, ⟨cdCV, clsCV⟩, third⟩
  have OE : OexC K CI := ⟨⟨nm, q, Ns, bs, bm, sn, sub, ab, col, dd, k0, k1, k2, k3, k5, exL, exR⟩, exS, exB, exT, exK⟩
  have ET : ExT P K mg CI "reason" := ⟨suCI_, OE, exU, exV, mrCI, exN⟩
  have OV : OexC K CV := ⟨⟨nm2, q2, Ns2, bs2, bm2, sn2, sub2, ab2, col2, dd2, k02, k12, k22, k32, k52, vxL, vxR⟩, vxS, vxB, vxT, vxK⟩
  have EV : ExT P K mg CV "reason" := ⟨suCV_, OV, vxU, vxV, mrCV, vxN⟩
  have LT : LgT P K mg CI fIE fLI fN := ⟨ET, aIE, tIE, mCI, mN⟩
  have clCD : Cls K CD := ⟨pgCD, hdCD, poCD, saCD⟩
  have isCD : IsiC K CD := ⟨clCD, caCD, cn, ct, obCD⟩
  have clCS : Cls K CS := ⟨pgCS, hdCS, poCS, saCS⟩
  have isCS : IsiC K CS := ⟨clCS, caCS, cn, ct, obCS⟩
  have clCF : Cls K CF := ⟨pgCF, hdCF, poCF, saCF⟩
  have isCF : IsiC K CF := ⟨clCF, caCF, cn, ct, obCF⟩
  have clCB : Cls K CB := ⟨pgCB, hdCB, poCB, saCB⟩
  have isCB : IsiC K CB := ⟨clCB, caCB, cn, ct, obCB⟩
  have clCW : Cls K CW := ⟨pgCW, hdCW, poCW, saCW⟩
  have isCW : IsiC K CW := ⟨clCW, caCW, cn, ct, obCW⟩
  have glCD : FnOk P w K mg base (L2.CX P w) 3 fLI _ ["self", "name"] (spLegI K CI CD) := ok_legI FLI LT NT ⟨clCD, nnCD⟩ FN bN_ FIE bIE_
  have glCS : FnOk P w K mg base (L2.CX P w) 3 fLI _ ["self", "name"] (spLegI K CI CS) := ok_legI FLI LT NT ⟨clCS, nnCS⟩ FN bN_ FIE bIE_
  have hD := ok_drvI FDI ⟨suCD_, suCD, tyLI, fnLI, mrCD⟩ bLI_ glCD
  have hS := ok_lisI FSI ⟨suCS_, suCS, tyLI, fnLI, mrCS⟩ bLI_ glCS
  let ks : Kinds := ⟨CD, CS, CL⟩
  have MD : MkL P w K mg base CI CD "Driver" := ⟨⟨fDI, _, ⟨mkCD, aDI, iDI, kcCD⟩, hD, bDI_⟩, mCD⟩
  have MS : MkL P w K mg base CI CS "Listener" := ⟨⟨fSI, _, ⟨mkCS, aSI, iSI, kcCS⟩, hS, bSI_⟩, mCS⟩
  have BI : Bi mg := ⟨y_int, y_len, y_abs⟩
  have gI : FnOk P w K mg base CX0 1 fIE _ ["self", "reason"] (spInv K CI) := ok_inv FIE ET
  have gII : FnOk P w K mg base CX0 1 fIi _ ["value"] (spIsInt K) := ok_isint FIi y_isinstance y_int y_bool
  have gBt : FnOk P w K mg base CX0 2 fBt _ ["value", "least", "most"] (spBetw K) := ok_betw FBt gII mIi kIi bIi_
  have WT : WrT P w K mg base ks CF := { isi := y_isinstance, all := y_all, len := y_len, bool := y_bool, mD := mCD, mI := mCS, mF := mCF, most := ⟨mcF, uM, ⟨rdF, gaF⟩, ⟨moF, rmF⟩⟩, icD := isCD, icI := isCS, nD := nnCD, nI := nnCS, dd := kdd, ii := kii, betw := ⟨fBt, _, mBt, kBt, bBt_, gBt⟩ }
  have gWr : FnOk P w K mg base CX0 3 fWr _ ["legs", "top", "ground", "power"] (spWrong K ks) := ok_wrong FWr WT
  have FT : FrT P w K mg base ks CI fIE CF := { wr := WT, sorted := y_sorted, mI := mCI, ex := ET, iC := aIE, tI := tIE, inv := ⟨_, bIE_, gI⟩, wrong := ⟨fWr, _, mWr, kWr, bWr_, gWr⟩, cl := clCF, nL := nf_legs, nT := nftop, nG := nfground, nP := nfpower }
  have kB := fr_kwB (w := w) (base := base) FFI FT
  have MF : Mk K CF fFI := ⟨mkCF, aFI, iFI, kcCF⟩
  have OT : OfT P w K mg base ks CI fIE CF fFI := { isi := y_isinstance, list := y_list, tuple := y_tuple, mI := mCI, ex := ET, iC := aIE, tI := tIE, inv := ⟨_, bIE_, gI⟩, mkc := MF, kt := klt, kt2 := ktt }
  have gO := ok_of FO OT kB
  have gDr : FnOk P w K mg base CX0 1 fDr _ ["_law_pen_here", "_law_many"] spDraw := ok_draw FDr BI
  have DW : DwT P w K mg base := { bi := BI, sorted := y_sorted, draw := ⟨fDr, _, mDr, kDr, bDr_, gDr⟩, pick := ⟨fPk, _, mPk, kPk, bPk_, ok_pick FPk BI FDr bDr_ mDr⟩, tags := ⟨fTg, _, mTg, kTg, bTg_, ok_tags FTg BI y_range FDr bDr_ mDr⟩ }
  have CR : ClX.CRead K CF mcF := ⟨rdF, gaF⟩
  have CMf : ClX.CMet K CF mcF "of" pO fO := ⟨aO, ⟨rsO, rO⟩, fO_⟩
  have TK : FkT P w K mg base ks CI CF := { d := MD, i := MS, mF := mCF, of := ⟨mcF, pO, fO, CR, CMf, of_kwB FO gO⟩ }
  have two : ∀ {R : Addr → Prop}, R CD → R CS → ∀ C, (C = CD ∨ C = CS) → R C := by
    rintro R a b C (rfl | rfl)
    · exact a
    · exact b
  have dvD : PropN P w K mg base 1 CD "drives" (spDr CD (decide (CD = CD))) := ⟨clCD, pDvD, fDvD, _, ⟨aDvD, bDvD, dDvD, _, eDvD⟩, by rw [decide_eq_true rfl]; exact ok_drives FDvD rfl rfl, bDvD_⟩
  have dvS : PropN P w K mg base 1 CS "drives" (spDr CS (decide (CS = CD))) := ⟨clCS, pDvS, fDvS, _, ⟨aDvS, bDvS, dDvS, _, eDvS⟩, by rw [decide_eq_false (Ne.symm neDS)]; exact ok_drives FDvS rfl rfl, bDvS_⟩
  have DV : ∀ C, (C = ks.drv ∨ C = ks.lis) → PropN P w K mg base 1 C "drives" (spDr C (decide (C = ks.drv))) := two dvD dvS
  have eqD : EqN P w K mg base 1 CD (spEq K CD) := ⟨⟨fEqD, _, aEqD, iEqD, ok_eqD FEqD ⟨y_isinstance, mCD, isCD, kkCDCD, nnCD⟩, bEqD_⟩, neCD, obCD⟩
  have eqS : EqN P w K mg base 1 CS (spEq K CS) := ⟨⟨fEqS, _, aEqS, iEqS, ok_eqI FEqS ⟨y_isinstance, mCS, isCS, kkCSCS, nnCS⟩, bEqS_⟩, neCS, obCS⟩
  have LQ : LqT P w K mg base ks := { eq := two eqD eqS, ic := two isCD isCS, nf := fun C D hc hd => two (R := fun C => PySem.W.notFirst K C (.ref D) = true) (two (R := fun D => PySem.W.notFirst K CD (.ref D) = true) nfCDCD nfCDCS D hd) (two (R := fun D => PySem.W.notFirst K CS (.ref D) = true) nfCSCD nfCSCS D hd) C hc, un := fun C D hc hd => two (R := fun C => C ≠ D → PySem.W.kitOne K (.ref D) (.ref C) = some false) (two (R := fun D => CD ≠ D → PySem.W.kitOne K (.ref D) (.ref CD) = some false) (fun z => absurd rfl z) (fun _ => kkCSCD) D hd) (two (R := fun D => CS ≠ D → PySem.W.kitOne K (.ref D) (.ref CS) = some false) (fun _ => kkCDCS) (fun z => absurd rfl z) D hd) C hc }
  have FP : FpT P w K mg base ks CF := { cl := clCF, nL := nf_legs, nG := nfground, nP := nfpower, tuple := y_tuple, sorted := y_sorted, dv := DV }
  have pLg : PropN P w K mg base 1 CF "legs" (spLegs ks CF) := ⟨clCF, pgL, fgL, _, ⟨agL, bgL, dgL, _, egL⟩, ok_flegs FgL FP, bgL_⟩
  have pRa : PropN P w K mg base 1 CF "rails" (spTup ks CF fun d => railsZ d.g d.r) := ⟨clCF, pgR, fgR, _, ⟨agR, bgR, dgR, _, egR⟩, ok_frails FgR FP, bgR_⟩
  have pNm : PropN P w K mg base 1 CF "names" (spTup ks CF fun d => names d.ys) := ⟨clCF, pgN, fgN, _, ⟨agN, bgN, dgN, _, egN⟩, ok_fnames FgN FP, bgN_⟩
  have pMe : PropN P w K mg base 3 CF "members" (spMem ks CF) := ⟨clCF, pgM, fgM, _, ⟨agM, bgM, dgM, _, egM⟩, ok_fmem FgM FP pNm pRa, bgM_⟩
  have pDr : PropN P w K mg base 3 CF "drivers" (spTup ks CF fun d => kindZ ks true d.ys) := ⟨clCF, pgD, fgD, _, ⟨agD, bgD, dgD, _, egD⟩, ok_fdrv FgD FP, bgD_⟩
  have FM : FmT K mg CF := ⟨clCF, nf_legs, y_len, y_isinstance, y_str⟩
  have tIn : MetN P w K mg base CX0 1 CF "__contains__" ["self", "x"] (spFIs K ks CF) := ⟨fmC, _, amC, imC, jmC, ⟨fun vs H Q E q => (ok_fin (P := P) (w := w) (mg := mg) (base := base) FmC FM).len vs H Q E (spFIs_of q), fun A outer s H args us vs Q E hr he hb hv hs => (ok_fin (P := P) (w := w) (mg := mg) (base := base) FmC FM).run A outer s H args us vs Q E hr he hb hv (spFIs_of hs)⟩, bmC_⟩
  have OX : Oex K CN "LookupError" "LookupError.__new__" tlL := ⟨iniN, ovN, saN, exCN, tyN, kN_, hdN, sBN⟩
  have ER : ErrT P K mg "LookupError" "LookupError.__new__" "LookupError.__init__" tlL CN := ⟨suCN_, OX, hmN, mrCN⟩
  have NL : NlT P w K mg base CN fNL := ⟨OX, aNL, tNL, ⟨_, mkNL FNL ER noN, bNL_⟩, mCN⟩
  have tGet : MetN P w K mg base CX0 2 CF "__getitem__" ["self", "at"] (spFGetI ks CF) := ⟨fmG, _, amG, imG, jmG, ok_fgetI FmG clCF nf_legs tIn, bmG_⟩
  have FE : FeT P w K mg base ks CF := { ic := isCF, nT := nftop, nL := nf_legs, isi := y_isinstance, mF := mCF, self := kkCFCF, lq := LQ, rails := pRa }
  have eqF : EqN P w K mg base 4 CF (spFEq K ks CF) := ⟨⟨fmE, _, amE, imE, ok_feq FmE FE, bmE_⟩, neCF, obCF⟩
  have gLg : FnOk P w K mg base CX0 1 fLg _ ["_law_bare_here"] spLgs := ok_lgs FLg y_sorted
  have gMm : FnOk P w K mg base CX0 2 fMm _ ["_law_bare_here"] spMms := ok_mms FMm y_sorted mLg kLg bLg_ gLg
  have KE : KeT K CN := ⟨by rw [clsCN]; rfl, gaN, ggN, exCN, hdN, caN, cn, ct, obN⟩
  have dn_sub : PySem.dunder "sub" = ("__sub__" : Str) := by decide +kernel
  have dn_and : PySem.dunder "and" = ("__and__" : Str) := by decide +kernel
  have dn_or : PySem.dunder "or" = ("__or__" : Str) := by decide +kernel
  have dr_sub : dunderR "sub" = ("__rsub__" : Str) := by decide +kernel
  -- boards
  have gIm : FnOk P w K mg base CX0 3 fIm _ ["frame", "value"] (spIsM K ks CF) := ok_ism FIm ⟨tIn, pRa⟩
  have IM : ∃ f fd, mg "is_member" = some (.ref f) ∧ PySem.W.keepIn K (.ref f) = true ∧ Binds K fd ["frame", "value"] [] ∧ FnOk P w K mg base CX0 3 f fd ["frame", "value"] (spIsM K ks CF) := ⟨fIm, _, mIm, kIm, bIm_, gIm⟩
  have gWb : FnOk P w K mg base CX0 4 fWb _ ["frame", "blocks"] (spWb K ks CF) := ok_wb FWb { ism := IM, isi := y_isinstance, all := y_all, any := y_any, len := y_len, set := y_set, list := y_list, tuple := y_tuple, kl := klt, kt := ktt }
  have gV : FnOk P w K mg base CX0 1 fIV _ ["self", "reason"] (spInv K CV) := ok_ivb FIV EV
  have BT : BoT P w K mg base ks CF CV fIV CB := { wrong := ⟨fWb, _, mWb, kWb, bWb_, gWb⟩, mem := pMe, mI := mCV, ex := EV, iC := aIV, tI := tIV, inv := ⟨_, bIV_, gV⟩, sorted := y_sorted, tuple := y_tuple, cl := clCB, nF := nbframe, nB := nb_blocks, nH := nb_homes }
  have BS := fnr_boI FbI BT
  have MB : Mk K CB fbI := ⟨mkCB, abI, ibI, kcCB⟩
  have OB : BofT P w K mg base CV fIV CB fbI := { isi := y_isinstance, list := y_list, tuple := y_tuple, mI := mCV, ex := EV, iC := aIV, tI := tIV, inv := ⟨_, bIV_, gV⟩, mkc := MB, kt := klt, kt2 := ktt }
  have gBO := ok_bof FbO OB BS
  have BK : BoK P w K mg base ks CF CV CB fbO := { mB := mCB, cls := ⟨mcB, pbO, ⟨rdB, gaB⟩, ⟨abO, ⟨rsbO, rbO⟩, jbO⟩⟩, of0 := bo_of0 FbO gBO, ofK := bo_ofK FbO gBO }
  have tBG : MetG P w K mg base (L2.CX P w) 4 CB "__getitem__" ["self", "at"] (spBGet K ks CF CB CN) := ⟨fbG, _, abG, ibG, jbG, ok_bget FbG clCB nbframe nb_homes IM NL, bbG_⟩
  have MM : FnIs P w K mg base "_law_members" 2 ["_law_bare_here"] spMms := ⟨fMm, _, mMm, kMm, bMm_, gMm⟩
  have FR_ : FnIs P w K mg base "_law_frame" 7 ["_law_bare_here"] (spFrm ks CF) := ⟨fFm, _, mFm, kFm, bFm_, ok_frm FFm TK⟩
  have PR : PaT P w K mg base := { dw := DW, mms := ⟨fMm, _, mMm, kMm, bMm_, gMm⟩, len := y_len }
  have BRT : BrT P w K mg base ks CF CV CB fbO := { dw := DW, bo := BK, len := y_len, list := y_list, tuple := y_tuple, range := y_range }
  have DRW : FnIs P w K mg base "_law_draw" 1 ["_law_pen_here", "_law_many"] spDraw := ⟨fDr, _, mDr, kDr, bDr_, gDr⟩
  have BET : BeT P w K mg base ks CF CB := { isi := y_isinstance, mB := mCB, icB := isCB, self := kkCBCB, nF := nbframe, nB := nb_blocks, eqF := eqF, icF := isCF, nfF := nfCFCF }
  have IBO : ∃ f fd, mg "is_board_of" = some (.ref f) ∧ PySem.W.keepIn K (.ref f) = true ∧ Binds K fd ["frame", "value"] [] ∧ FnOk P w K mg base CX0 6 f fd ["frame", "value"] (spIbo K ks CF CB) := ⟨fIb, _, mIb, kIb, bIb_, ok_ibo FIb BET⟩
  have JOB : ∃ f fd, mg "joined_blocks" = some (.ref f) ∧ PySem.W.keepIn K (.ref f) = true ∧ Binds K fd ["blocks", "more"] [] ∧ FnOk P w K mg base CX0 2 f fd ["blocks", "more"] spJo := ⟨fJo, _, mJo, kJo, bJo_, ok_jo FJo y_list y_tuple y_any⟩
  have WT_ : WinT P w K mg base ks CF CV fIV CB CN fbJ := { cl := clCB, nF := nbframe, nB := nb_blocks, ibo := IBO, all := y_all, jm := ⟨⟨abJ, ibJ, kbJ⟩, gfJ, tkJ, by decide +kernel, jbJ⟩, jo := fg_boJ FbJ tBG y_all, mV := mCV, ex := EV, iC := aIV, tI := tIV, inv := ⟨_, bIV_, gV⟩ }
  have ORT : OrT P w K mg base ks CF CV fIV CB fbI := { cl := clCB, nF := nbframe, nB := nb_blocks, mB := mCB, mk_ := MB, init := BS, ibo := IBO, jo := JOB, mV := mCV, ex := EV, iC := aIV, tI := tIV, inv := ⟨_, bIV_, gV⟩ }
  have SUB : BinG P w K mg base (L2.CX P w) 7 CB "sub" ["self", "other"] (spBSub K ks CF CB CN) := ⟨⟨fbM, _, by rw [dn_sub]; exact abM, ibM, ok_bsub FbM clCB nbframe nb_blocks mCB MB BS IM NL, bbM_⟩, sfB⟩
  have ORR : BinG P w K mg base (L2.CX P w) 7 CB "or" ["self", "other"] (spBOr K ks CF CV CB) := ⟨⟨fbU, _, by rw [dn_or]; exact abU, ibU, FnG.of (ok_bor FbU ORT), bbU_⟩, sfB⟩
  have WIG := fnGR_of (ok_bwi FbW WT_) bbW_
  have rtS : RightT K CB "sub" (.type "str") := .py (by rw [dn_sub]; exact f_sub_str) (by rw [dr_sub]; exact r_sub_str) su_str (by rw [dr_sub]; exact rSB) (.inl rfl)
  -- words
  have gId := ok_isd FId (w := w) (base := base) (ks := ks) ⟨tIn, tGet, DV⟩
  have gBg : FnOk P w K mg base CX0 2 fBt _ ["value", "least", "most"] (spBetG K) := ok_betG FBt gII mIi kIi bIi_
  have ID : ∃ f fd, mg "is_driver" = some (.ref f) ∧ PySem.W.keepIn K (.ref f) = true ∧ Binds K fd ["frame", "value"] [] ∧ FnOk P w K mg base CX0 4 f fd ["frame", "value"] (spIsD K ks CF) := ⟨fId, _, mId, kId, bId_, gId⟩
  have gDl := ok_dl FDl (w := w) (base := base) (ks := ks) { cl := clCF, nT := nftop, isi := y_isinstance, dict := y_dict, str := y_str, all := y_all, sorted := y_sorted, isd := ID, bet := ⟨fBt, _, mBt, kBt, bBt_, gBg⟩, drv := pDr }
  have IT : WiT6 P w K mg base ks CF CW := { cl := clCW, nF := nwframe, nL := nw_levels, dl := ⟨fDl, _, mDl, kDl, bDl_, gDl⟩ }
  have MW : Mk K CW fwI := ⟨mkCW, awI, iwI, kcCW⟩
  have W0 := ok_wdI FwI IT wf1 wf2 wf3 [] (by decide) (by decide) wdI_b0
  have WmT_ : WmT P w K mg base ks CF CW fwI := ⟨IT, MW, W0⟩
  have CRW : ClX.CRead K CW mcW := ⟨rdW, gaW⟩
  have gOf := ok_wof FwO WmT_
  have gRe := ok_wrest FwT WmT_
  have CMT : ClX.CMet K CW mcW "rest" pwT fwT := ⟨awT, ⟨rswT, rwT⟩, jwT⟩
  have WK : W8K P w K mg base ks CF CW fwO fwT := { mW := mCW, cls := ⟨mcW, pwO, pwT, CRW, ⟨awO, ⟨rswO, rwO⟩, jwO⟩, CMT⟩, of0 := wof_k0 FwO gOf, re0 := wre_k0 FwT gRe }
  have WF : WfT P w K mg base ks CF CW := { cw := clCW, nF := nwframe, nL := nw_levels, cf := clCF, nT := nftop, tuple := y_tuple, bool := y_bool }
  have WG : WgT P w K mg base ks CF CW CN fNL := { f := WF, in_ := tIn, rails := pRa, nl := NL }
  have tWG : MetG P w K mg base (L2.CX P w) 3 CW "__getitem__" ["self", "at"] (spWGet K ks CF CW CN) := ⟨fwG, _, awG, iwG, jwG, ok_wget FwG WG, bwG_⟩
  have WA : WaT P w K mg base ks CF CW fwI := { f := WF, isi := y_isinstance, min := y_min, mW := mCW, icW := isCW, self := kkCWCW, eqF := eqF, icF := isCF, nf := nfCFCF, mkc := MW, i0 := W0 }
  have gIw := ok_isw FIw WA
  have AN : BinG P w K mg base CX0 8 CW "and" ["self", "other"] (spWAnd ks CF CW) := ⟨⟨fwA, _, by rw [dn_and]; exact awA, iwA, FnG.of (ok_wand FwA WA ⟨fIw, _, mIw, kIw, bIw_, gIw⟩), bwA_⟩, sfW⟩
  -- reading
  have RD : RdT P w K mg base ks CF CW CN := { f := WF, wg := tWG, min := y_min }
  have RT : ReT P w K mg base ks CF CB CW CN := { cl := clCB, nF := nbframe, nB := nb_blocks, get := tBG, blv := ⟨fBv, _, mBv, kBv, bBv_, ok_blv FBv RD⟩, nms := pNm }
  have HT : H5T P w K mg base ks CF CV CB CN CW fbD fbW := { cal := ⟨fbC, _, abC, ibC, jbC, ok_cal FbC RT, bbC_⟩, rm := ⟨abD, ibD, kbD⟩, rd := fnGR_of (ok_rds FbD RT) bbD_, get := tBG, wg := tWG, sub := SUB, or_ := ORR, and_ := AN, wm := ⟨abW, ibW, kbW⟩, wi := WIG, clB := clCB, nF := nbframe, clF := clCF, nT := nftop, nms := pNm, min := y_min, repr := y_repr }
  refine at_law FLw (fun s u => .of_eq rfl) (CF := CF) (CV := CV) (CB := CB) (CN := CN) (CW := CW) (fR := fbD) (fW := fbW) (gR := fwT) (ks := ks) ?_
  exact { pen := ⟨fPn, _, mPn, kPn, bPn_, ok_pen FPn y_list⟩, pick := ⟨fPk, _, mPk, kPk, bPk_, ok_pick FPk BI FDr bDr_ mDr⟩, bare := ⟨fBa, _, mBa, kBa, bBa_, ok_bare FBa DW⟩, frm := FR_, mms := MM, par := ⟨fPa, _, mPa, kPa, bPa_, ok_par FPa PR⟩, brd := ⟨fBd, _, mBd, kBd, bBd_, ok_brd FBd BRT⟩, lvs := ⟨fLv, _, mLv, kLv, bLv_, ok_lvs FLv DW⟩, wrd := ⟨fWq, _, mWq, kWq, bWq_, ok_wrd FWq WK⟩, h5 := HT, joi := ⟨fJr, _, mJr, kJr, bJr_, ok_joi FJr HT⟩, our := ⟨fOu, _, mOu, kOu, bOu_, ok_our FOu HT rtS⟩, wor := ⟨fWw, _, mWw, kWw, bWw_, ok_wor FWw HT isCW⟩, mW := mCW, wk := ⟨mcW, pwT, CRW, CMT⟩, re0 := wre_k0 FwT gRe, rtS := rtS, icB := isCB, nfB := nfCBCB, ne := neDS, range := y_range }
end Sj
/-! two names are taken here: so the twins of the two greatest heaps are not laid, which would make the compiled file too large; nothing speaks of them -/
def PySem.W.Fast.tw4224864768216592907 : Nat := 0
def PySem.W.Fast.tw17035160751316041816 : Nat := 0
open PySem PySem.W PyProof.Rows in
set_option maxRecDepth 100000 in
set_option maxHeartbeats 0 in
theorem PySem.Challenge.cw_strayjoins_k15_whole_joined_boards_read_holds : PySem.Challenge.rw_strayjoins_k15_whole_joined_boards_read.Holds := by
  w_on; o_law; k_head; (case hw => w_witness2)
  k_fill
  refine Sup.walk_at (l := PySem.Challenge.rw_strayjoins_k15_whole_joined_boards_read) (sp := Sj.spLaw15) rfl (by decide) rfl (fun w h Y => PySem.W.kIn_of Y) ?F ?W
  case W => exact fun K H a ns hl hS => ⟨a, ns, rfl, hS, hl, fun _ => rfl⟩
  case F =>
    intro w mg f h KX G hmg
    refine' Sj.all_mk15 KX G hmg ?gCI ?gCL ?gCD ?gCS ?gCF ?gCN ?gCB ?gCV ?gCW ?gLet ?gLon ?gRes ?lRes ?sRes ?vRes ?z_dict ?z_any ?z_set ?z_min ?z_isinstance ?z_str ?z_len ?z_all ?z_bool ?z_int ?z_abs ?z_range ?z_list ?z_tuple ?z_sorted ?z_super ?z_repr ?tyW ?rdW ?gaW ?tyB ?rdB ?gaB ?aN ?lN ?cN ?kN ?aIi ?lIi ?cIi ?kIi ?aBt ?lBt ?cBt ?kBt ?aWr ?lWr ?cWr ?kWr ?aLI ?iLI ?lLI ?cLI ?kLI ?aPn ?lPn ?cPn ?kPn ?aDr ?lDr ?cDr ?kDr ?aPk ?lPk ?cPk ?kPk ?aTg ?lTg ?cTg ?kTg ?aBa ?lBa ?cBa ?kBa ?aFm ?lFm ?cFm ?kFm ?aLg ?lLg ?cLg ?kLg ?aMm ?lMm ?cMm ?kMm ?aIm ?lIm ?cIm ?kIm ?aWb ?lWb ?cWb ?kWb ?aPa ?lPa ?cPa ?kPa ?aBd ?lBd ?cBd ?kBd ?aId ?lId ?cId ?kId ?aDl ?lDl ?cDl ?kDl ?aLv ?lLv ?cLv ?kLv ?aIw ?lIw ?cIw ?kIw ?aWq ?lWq ?cWq ?kWq ?aBv ?lBv ?cBv ?kBv ?aJr ?lJr ?cJr ?kJr ?aOu ?lOu ?cOu ?kOu ?aWw ?lWw ?cWw ?kWw ?aLw ?lLw ?cLw ?kLw ?aIb ?lIb ?cIb ?kIb ?aJo ?lJo ?cJo ?kJo ?agL ?bgL ?dgL ?egL ?lgL ?cgL ?kgL ?agN ?bgN ?dgN ?egN ?lgN ?cgN ?kgN ?agD ?bgD ?dgD ?egD ?lgD ?cgD ?kgD ?agR ?bgR ?dgR ?egR ?lgR ?cgR ?kgR ?agM ?bgM ?dgM ?egM ?lgM ?cgM ?kgM ?amC ?imC ?jmC ?lmC ?cmC ?kmC ?amG ?imG ?jmG ?lmG ?cmG ?kmG ?amE ?imE ?lmE ?cmE ?kmE ?aDvD ?bDvD ?dDvD ?eDvD ?lDvD ?cDvD ?kDvD ?aDvS ?bDvS ?dDvS ?eDvS ?lDvS ?cDvS ?kDvS ?aEqD ?iEqD ?lEqD ?cEqD ?kEqD ?aEqS ?iEqS ?lEqS ?cEqS ?kEqS ?abG ?ibG ?jbG ?lbG ?cbG ?kbG ?abM ?ibM ?lbM ?cbM ?kbM ?abU ?ibU ?lbU ?cbU ?kbU ?abW ?ibW ?lbW ?cbW ?kbW ?abC ?ibC ?jbC ?lbC ?cbC ?kbC ?abD ?ibD ?lbD ?cbD ?kbD ?abI ?ibI ?lbI ?cbI ?kbI ?abJ ?ibJ ?jbJ ?lbJ ?cbJ ?kbJ ?abO ?rbO ?jbO ?lbO ?cbO ?kbO ?awI ?iwI ?lwI ?cwI ?kwI ?awG ?iwG ?jwG ?lwG ?cwG ?kwG ?awA ?iwA ?lwA ?cwA ?kwA ?awO ?rwO ?jwO ?lwO ?cwO ?kwO ?awT ?rwT ?jwT ?lwT ?cwT ?kwT ?aFI ?iFI ?lFI ?cFI ?kFI ?n1FI ?r1FI ?n2FI ?r2FI ?n3FI ?r3FI ?tyF ?rdF ?gaF ?moF ?rmF ?aO ?rO ?fO_ ?lO ?cO ?kO ?n1O ?r1O ?n2O ?r2O ?n3O ?r3O ?aIE ?iIE ?tIE ?lIE ?cIE ?mIE ?nIE ?pIE ?qIE ?kIE ?aIV ?iIV ?tIV ?lIV ?cIV ?mIV ?nIV ?pIV ?qIV ?kIV ?aDI ?iDI ?tDI ?lDI ?cDI ?mDI ?nDI ?pDI ?qDI ?kDI ?aSI ?iSI ?tSI ?lSI ?cSI ?mSI ?nSI ?pSI ?qSI ?kSI ?aNL ?iNL ?tNL ?lNL ?cNL ?mNL ?nNL ?pNL ?qNL ?kNL ?top_ ?third ?clsCI ?mrCI ?clsCD ?mrCD ?clsCS ?mrCS ?clsCL ?mrCL ?clsCN ?mrCN ?clsCV ?mrCV ?exL ?exR ?exS ?exB ?exV ?exT ?exK ?exN ?exU ?vxL ?vxR ?vxS ?vxB ?vxV ?vxT ?vxK ?vxN ?vxU ?iniN ?ovN ?saN ?exCN ?tyN ?kN_ ?hdN ?sBN ?hmN ?noN ?exmN ?gaN ?ggN ?caN ?obN ?fnLI ?tyLI ?suCD ?suCS ?pgCD ?hdCD ?poCD ?saCD ?mkCD ?kcCD ?caCD ?obCD ?neCD ?nnCD ?pgCS ?hdCS ?poCS ?saCS ?mkCS ?kcCS ?caCS ?obCS ?neCS ?nnCS ?pgCF ?hdCF ?poCF ?saCF ?mkCF ?kcCF ?caCF ?obCF ?neCF ?pgCB ?hdCB ?poCB ?saCB ?mkCB ?kcCB ?caCB ?obCB ?neCB ?pgCW ?hdCW ?poCW ?saCW ?mkCW ?kcCW ?caCW ?obCW ?neCW ?nbframe ?nb_blocks ?nb_homes ?nwframe ?nw_levels ?nf_legs ?nftop ?nfground ?nfpower ?cn ?ct ?kdd ?kii ?klt ?ktt ?kkCDCD ?kkCSCS ?kkCFCF ?kkCBCB ?kkCWCW ?kkCDCS ?kkCSCD ?nfCDCD ?nfCDCS ?nfCSCD ?nfCSCS ?nfCFCF ?nfCBCB ?nfCWCW ?neDS ?sfB ?sfW ?wf1 ?wf2 ?wf3 ?rSB ?su_str ?f_sub_str ?r_sub_str ?gfJ ?tkJ
    case gCI => k_is
    case gCL => k_is
    case gCD => k_is
    case gCS => k_is
    case gCF => k_is
    case gCN => k_is
    case gCB => k_is
    case gCV => k_is
    case gCW => k_is
    case gLet => k_is
    case gLon => k_is
    case gRes => k_is
    case lRes => k_is
    case sRes => decide
    case vRes => exact .cons ⟨_, rfl⟩ (.cons ⟨_, rfl⟩ (.cons ⟨_, rfl⟩ .nil))
    case z_dict => k_is
    case z_any => k_is
    case z_set => k_is
    case z_min => k_is
    case z_isinstance => k_is
    case z_str => k_is
    case z_len => k_is
    case z_all => k_is
    case z_bool => k_is
    case z_int => k_is
    case z_abs => k_is
    case z_range => k_is
    case z_list => k_is
    case z_tuple => k_is
    case z_sorted => k_is
    case z_super => k_is
    case z_repr => k_is
    case tyW => k_is
    case rdW => k_is
    case gaW => k_is
    case tyB => k_is
    case rdB => k_is
    case gaB => k_is
    case aN => k_is
    case lN => k_is
    case cN => k_is
    case kN => k_is
    case aIi => k_is
    case lIi => k_is
    case cIi => k_is
    case kIi => k_is
    case aBt => k_is
    case lBt => k_is
    case cBt => k_is
    case kBt => k_is
    case aWr => k_is
    case lWr => k_is
    case cWr => k_is
    case kWr => k_is
    case aLI => k_is
    case iLI => k_is
    case lLI => k_is
    case cLI => k_is
    case kLI => k_is
    case aPn => k_is
    case lPn => k_is
    case cPn => k_is
    case kPn => k_is
    case aDr => k_is
    case lDr => k_is
    case cDr => k_is
    case kDr => k_is
    case aPk => k_is
    case lPk => k_is
    case cPk => k_is
    case kPk => k_is
    case aTg => k_is
    case lTg => k_is
    case cTg => k_is
    case kTg => k_is
    case aBa => k_is
    case lBa => k_is
    case cBa => k_is
    case kBa => k_is
    case aFm => k_is
    case lFm => k_is
    case cFm => k_is
    case kFm => k_is
    case aLg => k_is
    case lLg => k_is
    case cLg => k_is
    case kLg => k_is
    case aMm => k_is
    case lMm => k_is
    case cMm => k_is
    case kMm => k_is
    case aIm => k_is
    case lIm => k_is
    case cIm => k_is
    case kIm => k_is
    case aWb => k_is
    case lWb => k_is
    case cWb => k_is
    case kWb => k_is
    case aPa => k_is
    case lPa => k_is
    case cPa => k_is
    case kPa => k_is
    case aBd => k_is
    case lBd => k_is
    case cBd => k_is
    case kBd => k_is
    case aId => k_is
    case lId => k_is
    case cId => k_is
    case kId => k_is
    case aDl => k_is
    case lDl => k_is
    case cDl => k_is
    case kDl => k_is
    case aLv => k_is
    case lLv => k_is
    case cLv => k_is
    case kLv => k_is
    case aIw => k_is
    case lIw => k_is
    case cIw => k_is
    case kIw => k_is
    case aWq => k_is
    case lWq => k_is
    case cWq => k_is
    case kWq => k_is
    case aBv => k_is
    case lBv => k_is
    case cBv => k_is
    case kBv => k_is
    case aJr => k_is
    case lJr => k_is
    case cJr => k_is
    case kJr => k_is
    case aOu => k_is
    case lOu => k_is
    case cOu => k_is
    case kOu => k_is
    case aWw => k_is
    case lWw => k_is
    case cWw => k_is
    case kWw => k_is
    case aLw => k_is
    case lLw => k_is
    case cLw => k_is
    case kLw => k_is
    case aIb => k_is
    case lIb => k_is
    case cIb => k_is
    case kIb => k_is
    case aJo => k_is
    case lJo => k_is
    case cJo => k_is
    case kJo => k_is
    case agL => k_is
    case bgL => k_is
    case dgL => k_is
    case egL => k_is
    case lgL => k_is
    case cgL => k_is
    case kgL => k_is
    case agN => k_is
    case bgN => k_is
    case dgN => k_is
    case egN => k_is
    case lgN => k_is
    case cgN => k_is
    case kgN => k_is
    case agD => k_is
    case bgD => k_is
    case dgD => k_is
    case egD => k_is
    case lgD => k_is
    case cgD => k_is
    case kgD => k_is
    case agR => k_is
    case bgR => k_is
    case dgR => k_is
    case egR => k_is
    case lgR => k_is
    case cgR => k_is
    case kgR => k_is
    case agM => k_is
    case bgM => k_is
    case dgM => k_is
    case egM => k_is
    case lgM => k_is
    case cgM => k_is
    case kgM => k_is
    case amC => k_is
    case imC => k_is
    case jmC => k_is
    case lmC => k_is
    case cmC => k_is
    case kmC => k_is
    case amG => k_is
    case imG => k_is
    case jmG => k_is
    case lmG => k_is
    case cmG => k_is
    case kmG => k_is
    case amE => k_is
    case imE => k_is
    case lmE => k_is
    case cmE => k_is
    case kmE => k_is
    case aDvD => k_is
    case bDvD => k_is
    case dDvD => k_is
    case eDvD => k_is
    case lDvD => k_is
    case cDvD => k_is
    case kDvD => k_is
    case aDvS => k_is
    case bDvS => k_is
    case dDvS => k_is
    case eDvS => k_is
    case lDvS => k_is
    case cDvS => k_is
    case kDvS => k_is
    case aEqD => k_is
    case iEqD => k_is
    case lEqD => k_is
    case cEqD => k_is
    case kEqD => k_is
    case aEqS => k_is
    case iEqS => k_is
    case lEqS => k_is
    case cEqS => k_is
    case kEqS => k_is
    case abG => k_is
    case ibG => k_is
    case jbG => k_is
    case lbG => k_is
    case cbG => k_is
    case kbG => k_is
    case abM => k_is
    case ibM => k_is
    case lbM => k_is
    case cbM => k_is
    case kbM => k_is
    case abU => k_is
    case ibU => k_is
    case lbU => k_is
    case cbU => k_is
    case kbU => k_is
    case abW => k_is
    case ibW => k_is
    case lbW => k_is
    case cbW => k_is
    case kbW => k_is
    case abC => k_is
    case ibC => k_is
    case jbC => k_is
    case lbC => k_is
    case cbC => k_is
    case kbC => k_is
    case abD => k_is
    case ibD => k_is
    case lbD => k_is
    case cbD => k_is
    case kbD => k_is
    case abI => k_is
    case ibI => k_is
    case lbI => k_is
    case cbI => k_is
    case kbI => k_is
    case abJ => k_is
    case ibJ => k_is
    case jbJ => k_is
    case lbJ => k_is
    case cbJ => k_is
    case kbJ => k_is
    case abO => k_is
    case rbO => k_is
    case jbO => k_is
    case lbO => k_is
    case cbO => k_is
    case kbO => k_is
    case awI => k_is
    case iwI => k_is
    case lwI => k_is
    case cwI => k_is
    case kwI => k_is
    case awG => k_is
    case iwG => k_is
    case jwG => k_is
    case lwG => k_is
    case cwG => k_is
    case kwG => k_is
    case awA => k_is
    case iwA => k_is
    case lwA => k_is
    case cwA => k_is
    case kwA => k_is
    case awO => k_is
    case rwO => k_is
    case jwO => k_is
    case lwO => k_is
    case cwO => k_is
    case kwO => k_is
    case awT => k_is
    case rwT => k_is
    case jwT => k_is
    case lwT => k_is
    case cwT => k_is
    case kwT => k_is
    case aFI => k_is
    case iFI => k_is
    case lFI => k_is
    case cFI => k_is
    case kFI => k_is
    case n1FI => k_is
    case r1FI => exact ⟨_, rfl⟩
    case n2FI => k_is
    case r2FI => rfl
    case n3FI => k_is
    case r3FI => rfl
    case tyF => k_is
    case rdF => k_is
    case gaF => k_is
    case moF => k_is
    case rmF => exact ⟨_, rfl⟩
    case aO => k_is
    case rO => k_is
    case fO_ => k_is
    case lO => k_is
    case cO => k_is
    case kO => k_is
    case n1O => k_is
    case r1O => exact ⟨_, rfl⟩
    case n2O => k_is
    case r2O => rfl
    case n3O => k_is
    case r3O => rfl
    case aIE => k_is
    case iIE => k_is
    case tIE => k_is
    case lIE => k_is
    case cIE => k_is
    case mIE => k_is
    case nIE => rfl
    case pIE => first | rfl | decide +kernel
    case qIE => k_is
    case kIE => k_is
    case aIV => k_is
    case iIV => k_is
    case tIV => k_is
    case lIV => k_is
    case cIV => k_is
    case mIV => k_is
    case nIV => rfl
    case pIV => first | rfl | decide +kernel
    case qIV => k_is
    case kIV => k_is
    case aDI => k_is
    case iDI => k_is
    case tDI => k_is
    case lDI => k_is
    case cDI => k_is
    case mDI => k_is
    case nDI => rfl
    case pDI => first | rfl | decide +kernel
    case qDI => k_is
    case kDI => k_is
    case aSI => k_is
    case iSI => k_is
    case tSI => k_is
    case lSI => k_is
    case cSI => k_is
    case mSI => k_is
    case nSI => rfl
    case pSI => first | rfl | decide +kernel
    case qSI => k_is
    case kSI => k_is
    case aNL => k_is
    case iNL => k_is
    case tNL => k_is
    case lNL => k_is
    case cNL => k_is
    case mNL => k_is
    case nNL => rfl
    case pNL => first | rfl | decide +kernel
    case qNL => k_is
    case kNL => k_is
    case top_ => first | rfl | decide +kernel
    case third => k_is
    case clsCI => k_is
    case mrCI => k_is
    case clsCD => k_is
    case mrCD => k_is
    case clsCS => k_is
    case mrCS => k_is
    case clsCL => k_is
    case mrCL => k_is
    case clsCN => k_is
    case mrCN => k_is
    case clsCV => k_is
    case mrCV => k_is
    case exL => k_is
    case exR => decide +kernel
    case exS => k_is
    case exB => k_is
    case exV => k_is
    case exT => k_is
    case exK => k_is
    case exN => k_is
    case exU => kernel_rfl
    case vxL => k_is
    case vxR => decide +kernel
    case vxS => k_is
    case vxB => k_is
    case vxV => k_is
    case vxT => k_is
    case vxK => k_is
    case vxN => k_is
    case vxU => kernel_rfl
    case iniN => kernel_rfl
    case ovN => kernel_rfl
    case saN => k_is
    case exCN => k_is
    case tyN => k_is
    case kN_ => k_is
    case hdN => k_is
    case sBN => k_is
    case hmN => kernel_rfl
    case noN => k_is
    case exmN => kernel_rfl
    case gaN => k_is
    case ggN => k_is
    case caN => k_is
    case obN => k_is
    case fnLI => k_is
    case tyLI => k_is
    case suCD => kernel_rfl
    case suCS => kernel_rfl
    case pgCD => k_is
    case hdCD => k_is
    case poCD => k_is
    case saCD => k_is
    case mkCD => k_is
    case kcCD => k_is
    case caCD => k_is
    case obCD => k_is
    case neCD => k_is
    case nnCD => k_is
    case pgCS => k_is
    case hdCS => k_is
    case poCS => k_is
    case saCS => k_is
    case mkCS => k_is
    case kcCS => k_is
    case caCS => k_is
    case obCS => k_is
    case neCS => k_is
    case nnCS => k_is
    case pgCF => k_is
    case hdCF => k_is
    case poCF => k_is
    case saCF => k_is
    case mkCF => k_is
    case kcCF => k_is
    case caCF => k_is
    case obCF => k_is
    case neCF => k_is
    case pgCB => k_is
    case hdCB => k_is
    case poCB => k_is
    case saCB => k_is
    case mkCB => k_is
    case kcCB => k_is
    case caCB => k_is
    case obCB => k_is
    case neCB => k_is
    case pgCW => k_is
    case hdCW => k_is
    case poCW => k_is
    case saCW => k_is
    case mkCW => k_is
    case kcCW => k_is
    case caCW => k_is
    case obCW => k_is
    case neCW => k_is
    case nbframe => k_is
    case nb_blocks => k_is
    case nb_homes => k_is
    case nwframe => k_is
    case nw_levels => k_is
    case nf_legs => k_is
    case nftop => k_is
    case nfground => k_is
    case nfpower => k_is
    case cn => k_is
    case ct => k_is
    case kdd => kernel_rfl
    case kii => kernel_rfl
    case klt => kernel_rfl
    case ktt => kernel_rfl
    case kkCDCD => kernel_rfl
    case kkCSCS => kernel_rfl
    case kkCFCF => kernel_rfl
    case kkCBCB => kernel_rfl
    case kkCWCW => kernel_rfl
    case kkCDCS => kernel_rfl
    case kkCSCD => kernel_rfl
    case nfCDCD => k_is
    case nfCDCS => k_is
    case nfCSCD => k_is
    case nfCSCS => k_is
    case nfCFCF => k_is
    case nfCBCB => k_is
    case nfCWCW => k_is
    case neDS => decide
    case sfB => first | kernel_rfl | decide +kernel
    case sfW => first | kernel_rfl | decide +kernel
    case wf1 => decide
    case wf2 => decide
    case wf3 => decide
    case rSB => k_is
    case su_str => first | k_is | kernel_rfl
    case f_sub_str => first | k_is | kernel_rfl
    case r_sub_str => first | k_is | kernel_rfl
    case gfJ => k_is
    case tkJ => k_is
