import PyProof.Rows.All
import Wide.All
import OpenK.AllK
import Wide.FinOn
import KE.KSuper
import HandS.ForMost
import HandS.Codes
import HandS.Nested
import KE.KExcSuper
import HandS.Exc
import HandS.ExcInit
import HandS.FStr
import HandS.WordsExc
import HandS.ExcOwn
import HandS.TryOnly
import HandS.IsInst
import HandS.MakeKw
import HandS.MakeKwOnly
import HandS.Property
import HandS.ClsMeth
import HandS.RaiseMore
import HandS.Walk
import PyProof.ReprRoads
import KE.KCallOwn
import HandS.SetBool
import HandS.SetKeys
import HandS.DictComp
import HandS.Star
import HandS.MethStar
import HandS.CallLocal
import HandS.WordsList
import HandS.More
import HandS.WordsDict
import HandS.Conv
import HandS.Iter
import HandS.DictEq
import HandS.OwnEq
import HandS.Lambda
import KE.KDictSum
import PyProof.TupleOfSeq
import HandS.TupAny
import KE.KExcInit
import HandS.ExcField
import HandS.ExcIs
import HandS.ExcValue
import KE.KExcIs
import PyProof.Rows.SortStr
import HandS.BoundList
import PyProof.ReprBulk
import KE.KOpsOwn
import KE.KParD
import HandS.Words
import HandS.Style
import KE.KFmtOwn
import KE.KTupTruth
import HandS.Flow
import HandS.Deep
import HandS.ListItems
import HandS.Strs
import HandS.SetFor
import HandS.Zip
import KE.GoesMore
import PySem.Challenge.RW_strayjoins_k65_chains_made
set_option Elab.async false
set_option linter.all false
set_option maxRecDepth 100000
set_option maxHeartbeats 8000000
namespace Sup
open PySem PySem.Spec PyProof.Rows L2
open NdefX (NF NScope ncx envF startF CellsAt inv_startN)
/-! ### a def of a class body that says super(): it closes over the class -/
structure FunS (P : Program) (K : PySem.W.Frag) (x qual : Str) (st : Stmt) (f : Addr) (fd : FuncData) (c cc D : Addr) : Prop where
  ex : ∃ (oc : Value) (od : Option Addr) (kV doc pm : Value) (an : Option Addr) (ct : Value) (osl : Array (Option Value)),
    fd = PySem.W.fnX x qual (defArgs st) (defBody st) (defScope st) [("__class__", cc)] .none kV doc pm an (.ref c) ct ∧ K.lookup f = some ⟨oc, od, .func fd, osl⟩
  cd : PySem.W.codeIn K (.ref c) qual = true
  file : ∃ (ccl : Value) (cdd : Option Addr) (vs : Array Value) (ccs : Array (Option Value)) (fl : Str) (tf : Tok), K.lookup c = some ⟨ccl, cdd, .fields vs, ccs⟩ ∧ vs[2]? = some (.str fl tf) ∧ ((P.main.file : Str) == fl) = true
  cell : ∃ (cl : Value) (cld : Option Addr) (csl : Array (Option Value)), K.lookup cc = some ⟨cl, cld, .cell (some (.ref D)), csl⟩
  kp : PySem.W.keepIn K (.ref f) = true
def nf (x qual : Str) (st : Stmt) (c cc : Addr) : NF := ⟨x, qual, defArgs st, defBody st, defScope st, [("__class__", cc)], c⟩
section
variable {P : Program} {w : World} {K : PySem.W.Frag} {mg : Str → Option Value} {base : Heap} {CX : CXT} {x qual : Str} {st : Stmt} {f c cc D : Addr} {fd : FuncData} {N ps : List Str} {k : Nat} {sp : Sp}
theorem fn_super (F : FunS P K x qual st f fd c cc D) (S : NScope N ps ["__class__"] (defScope st)) (len : ∀ vs H Q E, sp vs H Q E → vs.length = ps.length)
    (hbody : ∀ (A : Around) (outer : List Env) (s : Shared) (H : Hp) (vs : List V) (Q : VK) (E : XK), Room k (A.deeper (envF (nf x qual st c cc) f s.heap.objs.size)) → sp vs H Q E → ∀ s1,
      Inv (ncx CX P w K mg base N (nf x qual st c cc) f A outer s H E) [] (startF N vs [some (.ref D)]) H s1 →
      PySem.wpAt (model P w) (A.deeper (envF (nf x qual st c cc) f s.heap.objs.size)) (.func (defBody st) (envF (nf x qual st c cc) f s.heap.objs.size)) (execs (defBody st) (envF (nf x qual st c cc) f s.heap.objs.size))
        (SP (ncx CX P w K mg base N (nf x qual st c cc) f A outer s H E) [] { nx := fun _ H' => Q .non H', rt := Q }) (ncx CX P w K mg base N (nf x qual st c cc) f A outer s H E).xe s1) :
    FnOk P w K mg base CX (k + 1) f fd ps sp := by
  obtain ⟨oc, od, kV, doc, pm, an, ct, osl, rfl, lk⟩ := F.ex
  obtain ⟨cl, cld, csl, lc⟩ := F.cell
  refine ⟨len, fun A outer s H args us vs Q E hr e0 hb r hsp => ?_⟩
  have hl := len _ _ _ _ hsp
  have KX : K.In s.heap := e0.mod.kin.keeps fun b o e => (e0.bs b o e).1
  have lim : s.heap.NoLimit := e0.mod.nolimit.keeps fun b o e => (e0.bs b o e).1
  have hcc : s.heap.get? cc = some ⟨cl, cld, .cell (some (.ref D)), csl⟩ := KX _ _ lc
  have C : CellsAt (nf x qual st c cc).cl ["__class__"] [some (V.ref D)] s.heap H := by
    refine ⟨rfl, fun y b e => ?_, fun a b q h1 h2 => ?_, fun i y hy => ?_⟩
    · have e : (if y == "__class__" then some cc else none) = some b := by
        have q : List.lookup y [(("__class__" : Str), cc)] = some b := e
        rw [List.lookup_cons] at q
        cases z : y == ("__class__" : Str) with
        | true => rw [z] at q; rw [if_pos rfl]; exact q
        | false => rw [z] at q; cases q
      split at e
      · cases e
        exact ⟨(e0.bs _ _ (e0.mod.kin _ _ lc)).2, _, _, hcc, rfl⟩
      · cases e
    · have key : ∀ {y : Str} {b : Addr}, List.lookup y [(("__class__" : Str), cc)] = some b → y = "__class__" := fun {y b} q => by
        rw [List.lookup_cons] at q
        cases z : y == ("__class__" : Str) with
        | true => exact eq_of_beq z
        | false => rw [z] at q; cases q
      exact (key h1).trans (key h2).symm
    · match i, hy with
      | 0, hy =>
        have e : (("__class__" : Str)) = y := Option.some.inj hy
        subst e
        refine ⟨cc, by show List.lookup _ [(("__class__" : Str), cc)] = some cc; rw [List.lookup_cons, beq_self_eq_true], fun v hv => ?_⟩
        have e : V.ref D = v := Option.some.inj (Option.some.inj hv)
        subst e
        exact ⟨_, rfl, _, hcc, rfl⟩
  refine ks_codeAny_call_defAt (fd := PySem.W.fnX x qual (defArgs st) (defBody st) (defScope st) [("__class__", cc)] .none kV doc pm an (.ref c) ct) (body := defBody st) (binds := ps.zip us) hr.depth (KX _ _ lk) rfl lim (PySem.W.codeRec_of KX F.cd) rfl hb
    S.nocell (fun ⟨n, _⟩ hy => S.par n (List.of_mem_zip hy).1) (fun h₁ hns kp => ?_) S.co S.gen S.kind
  have I : Inv (ncx CX P w K mg base N (nf x qual st c cc) f A outer s H E) [] (startF N vs [some (.ref D)]) H { s with heap := h₁, toks := s.toks + (ps.zip us).length } := inv_startN S hr.hd e0 hl r C hns kp
  refine ks_wpAt_mono (hbody A outer s H vs Q E (hr.deeper _) hsp _ I) (fun fl s' hs => ?_) fun e s' hs => hs
  have fin : ∀ {σ' : L2.St} {H' : Hp} {v : V} {u : Value}, Inv (ncx CX P w K mg base N (nf x qual st c cc) f A outer s H E) [] σ' H' s' → L2.RelV v u → Q v H' → CE outer P w H s Q u s' :=
    fun {σ' H' v u} J rv q => ⟨v, H', J.os, J.bare, J.base, J.hok, rv, q⟩
  cases fl with
  | ret u =>
    obtain ⟨v, σ', H', J, rv, q⟩ := hs
    exact fin J rv q
  | next =>
    obtain ⟨σ', H', J, q⟩ := hs
    exact fin (v := V.non) (u := Value.none) J rfl q
  | brk =>
    obtain ⟨_, _, _, q⟩ := hs
    exact False.elim q
  | cont =>
    obtain ⟨_, _, _, q⟩ := hs
    exact False.elim q
end
/-! ### super().m(e, ..) as the first statement, m a def of a class above -/
/-- facts of the running def, by the context -/
structure AtS (X : Cx) (body : List Stmt) (f c cc D : Addr) (me : Str) : Prop where
  hk : X.env.scope.kind = .function
  hks : X.env.kindOf "super" = some .globalImplicit
  hkc : X.env.kindOf "__class__" = some .free
  hfu : X.env.func = some f
  hco : X.env.code = .ref c
  cl : X.env.cells.lookup ("__class__" : Str) = some cc
  hkl : X.env.kindOf me = some .local
  fn : ∃ (oc : Value) (od : Option Addr) (fd : FuncData) (osl : Array (Option Value)) (ar : Arg), X.K.lookup f = some ⟨oc, od, .func fd, osl⟩ ∧ (fd.params.posonlyargs ++ fd.params.args).head? = some ar ∧ ar.arg = me
  file : ∃ (ccl : Value) (cdd : Option Addr) (vs : Array Value) (ccs : Array (Option Value)) (fl : Str) (tf : Tok), X.K.lookup c = some ⟨ccl, cdd, .fields vs, ccs⟩ ∧ vs[2]? = some (.str fl tf) ∧ ((X.prog.main.file : Str) == fl) = true
  cell : ∃ (l : Value) (ld : Option Addr) (csl : Array (Option Value)), X.K.lookup cc = some ⟨l, ld, .cell (some (.ref D)), csl⟩
/-- facts of the text -/
structure SupT (prog : Program) (K : PySem.W.Frag) (mg : Str → Option Value) (D : Addr) : Prop where
  top : (prog.main.scope.names.lookup ("super" : Str)).isSome = false
  mg : mg "super" = none
  cls : ∃ cdD, PySem.W.clsIn K D = some cdD
  third : PySem.W.nsIn K cStatics "thirdparty.any" = some none
section
variable {X : Cx} {body : List Stmt} {f c cc D : Addr} {me : Str} {pins : List (Addr × Obj)} {s : Shared} {σ : L2.St} {H : Hp}
/-- super() itself: a new object, kept aside -/
theorem super_base {attr : Str} {whole : Sem Value} {p0 p1 : Pos} {x C : Addr} {ox : Obj} {Q : Value → Shared → Prop} (a : AtS X body f c cc D me) (t : SupT X.prog X.K X.mg D) (I : Inv X pins σ H s)
    (hN : X.N[0]? = some me) (hx : σ[0]? = some (some (.ref x))) (ho : s.heap.get? x = some ox) (hc : ox.cls = .ref C) (hnc : ∀ c, ox.data ≠ .cls c)
    (hsub : PySem.W.mroIn X.K C (.ref D) = some true) (hat : (attr == ("__class__" : Str)) = false)
    (h : ∀ so h', so = s.heap.objs.size → h'.get? so = some (PySem.W.ks_superObj D x C) → (∀ b o, s.heap.get? b = some o → h'.get? b = some o) → Inv X pins σ H { s with heap := h' } → Q (.ref so) { s with heap := h' }) :
    PySem.wpAt (model X.prog X.w) X.A (.func body X.env) (attributeBase (.Call (.Name "super" p0) [] [] p1) attr X.env whole) Q X.xe s := by
  obtain ⟨oc, od, fd, osl, ar, lf, hp, hself⟩ := a.fn
  obtain ⟨ccl, cdd, vs, ccs, fl, tf, lc, hvs, hfile⟩ := a.file
  obtain ⟨l, ld, csl, lcc⟩ := a.cell
  obtain ⟨cdD, hD⟩ := t.cls
  have KX := I.kIn
  obtain ⟨oD, hD1, hD2⟩ : ∃ oD, s.heap.get? D = some oD ∧ oD.data = .cls cdD := by
    unfold PySem.W.clsIn at hD
    split at hD
    · rename_i c d cd' sl ho
      cases hD
      exact ⟨_, KX _ _ ho, rfl⟩
    · cases hD
  obtain ⟨m, hns, hl⟩ := I.loc
  obtain ⟨u, ru, lk⟩ := hl 0 me _ hN hx (.inl a.hkl)
  obtain rfl : u = Value.ref x := ru
  have hm : m me = some (Value.ref x) := by
    rcases lk with ⟨_, e⟩ | ⟨e, _⟩
    · exact e
    · rw [a.hkl] at e
      rcases e with e | e <;> cases e
  refine ks_wpAt_super_base a.hks a.hkc hat a.hfu (KX _ _ lf) rfl hp a.hco (KX _ _ lc) rfl hvs hfile t.top ?_
  obtain ⟨mb, b1, b2⟩ := I.mod.blt
  refine PySem.W.ks_loadName_global a.hk a.hks (Calls.loadGlobal_builtin (by rw [I.ok.glob]; exact I.mod.glob.keeps I.bk) t.mg (by rw [I.ok.blt]; exact b1.keeps I.bk) ((b2 _ (by decide)).trans (by decide +kernel : bootBuiltins "super" = some (.type "super"))) ⟨rfl, ?_⟩)
  refine wpAny_loadName_free a.hk a.hkc a.cl ⟨_, KX _ _ lcc, rfl⟩ ?_
  rw [hself]
  refine wpAny_loadName_local a.hk a.hkl hns hm ?_
  refine ks_wpAny_isType_cls hD1 hD2 ⟨rfl, ?_⟩
  obtain ⟨hh, g, d, tk, os⟩ := s
  exact ks_wpAny_call_super hD1 hD2 ho hc hnc (PySem.W.looks_mroIn KX hsub) fun h' e k => h _ _ rfl e k (I.kept (t' := tk) k)
/-- super().m: the def of the class above, bound; kept aside -/
theorem super_meth {name : Str} {pl : Sem Bool} {x C so f2 : Addr} {ox : Obj} {Q : Value × List Value → Shared → Prop} (I : Inv X pins σ H s) (hso : s.heap.get? so = some (PySem.W.ks_superObj D x C))
    (ho : s.heap.get? x = some ox) (hnc : ∀ c, ox.data ≠ .cls c) (third : PySem.W.nsIn X.K cStatics "thirdparty.any" = some none)
    (hm : PySem.W.ks_superIn X.K C D name = some (some (.ref f2))) (ht : PySem.W.typeIn X.K (.ref f2) = some (.type "function")) (hn : (name == ("__class__" : Str)) = false)
    (h : ∀ q s', q = s.heap.objs.size → s'.heap.get? q = some (PySem.W.methodObj (.ref f2) (.ref x)) → (∀ b o, s.heap.get? b = some o → s'.heap.get? b = some o) → Inv X pins σ H s' → Q (.ref q, []) s') :
    wpAny (model X.prog X.w) X.A (getMethod (.ref so) name pl) Q X.xe s := by
  have KX := I.kIn
  obtain ⟨hh, g, d, tk, os⟩ := s
  cases hc : PySem.W.clsIn X.K C with
  | none => unfold PySem.W.ks_superIn at hm; rw [hc] at hm; cases hm
  | some cd =>
    unfold PySem.W.ks_superIn at hm
    rw [hc] at hm
    have hxC : x ≠ C := by
      rintro rfl
      unfold PySem.W.clsIn at hc
      split at hc
      · rename_i c d cd' sl hoc
        have e := KX _ _ hoc
        rw [ho] at e
        cases e
        exact hnc _ rfl
      · cases hc
    obtain ⟨of, hof, hofc⟩ : ∃ of, hh.get? f2 = some of ∧ of.cls = .type "function" := by
      have ht' : (X.K.lookup f2).map (·.cls) = some (.type "function") := ht
      cases z : X.K.lookup f2 with
      | none => rw [z] at ht'; cases ht'
      | some of => rw [z] at ht'; exact ⟨of, KX _ _ z, Option.some.inj ht'⟩
    refine ks_wpAny_getMethod_super hso (PySem.W.looks_opaque KX third) (l₀ := cd.mro) ?_ rfl KX hm hof hofc hxC hn ?_
    · exact fun A Q E s k q => wpAny_bind ((PySem.W.looks_clsIn KX hc) A _ E s k (wpAny_pure q))
    · have kp : ∀ b o, hh.get? b = some o → (hh.push (PySem.W.methodObj (.ref f2) (.ref x))).get? b = some o := fun b o e => Heap.get?_push_of_some _ e
      exact h _ _ rfl (Heap.get?_push_at rfl rfl) kp (I.kept (t' := tk + 1) kp)
/-- an instance that is tracked: what super() asks of it -/
theorem ins_obj {a C dx : Addr} {fs : List (Str × V)} (I : Inv X pins σ H s) (e : H a = some (.ins C dx fs)) : ∃ ox : Obj, s.heap.get? a = some ox ∧ ox.cls = .ref C ∧ ∀ c, ox.data ≠ .cls c := by
  obtain ⟨d, z, ne, ob, _⟩ := (show ObjOk X.prog X.w H s.heap a (.ins C dx fs) from I.hok a _ e)
  exact ⟨_, ob, rfl, fun c h => by cases h⟩
/-- super().m(e, ..), then the rest -/
theorem super_own {CX : CXT} {k : Nat} {f2 x C : Addr} {fd2 : FuncData} {ps2 : List Str} {sp2 : Sp} {dvs : List V} {ds : List Value} {E : XK} {attr : Str} {e : Expr} {es : List Expr} {t : TA} {rest : List Stmt} {u : TS} {D' : Ends} {p0 p1 p2 p3 p4 : Pos}
    (a : AtS X body f c cc D me) (T : SupT X.prog X.K X.mg D) (F : FnOk X.prog X.w X.K X.mg X.base CX k f2 fd2 ps2 sp2) (hr : Room k X.A) (hb : Binds X.K fd2 ps2 ds) (hd : Vals dvs ds) (hx : Passes CX X E)
    (hN : X.N[0]? = some me) (hm : PySem.W.ks_superIn X.K C D attr = some (some (.ref f2))) (ht : PySem.W.typeIn X.K (.ref f2) = some (.type "function")) (hfn : PySem.W.fnIn X.K f2 = true)
    (hsub : PySem.W.mroIn X.K C (.ref D) = some true) (hat : (attr == ("__class__" : Str)) = false) (ha : PA X (e :: es) t) (hrest : PSs X rest u)
    (I : Inv X pins σ H s) (hσ : σ[0]? = some (some (.ref x))) (hins : ∃ ox : Obj, s.heap.get? x = some ox ∧ ox.cls = .ref C ∧ ∀ c, ox.data ≠ .cls c)
    (hq : t σ H fun vs H1 => sp2 (.ref x :: (vs ++ dvs)) H1 (fun _ H2 => u D' σ H2) E)
    (hi : interactive X.env = false) (hs : swapsWith (.Call (.Attribute (.Call (.Name "super" p0) [] [] p1) attr p2) (e :: es) [] p3) none p4.line X.env = pure false)
    (he : eval (.Call (.Attribute (.Call (.Name "super" p0) [] [] p1) attr p2) (e :: es) [] p3) X.env = (do
      let ov ← attributeBase (.Call (.Name "super" p0) [] [] p1) attr X.env (eval (.Call (.Name "super" p0) [] [] p1) X.env)
      standAt p2.atName
      let (f, first) ← holding [ov] (getMethod ov attr (pure false))
      callWith p3 f first (backTo p3 (starEach (e :: es) X.env)) []))
    (hst : starEach (e :: es) X.env = (false, eval e X.env) :: starEach es X.env) (hpl : (backTo p3 (starEach es X.env)).any (·.1) = false) :
    PySem.wpAt (model X.prog X.w) X.A (.func body X.env) (execs (.Expr (.Call (.Attribute (.Call (.Name "super" p0) [] [] p1) attr p2) (e :: es) [] p3) p4 :: rest) X.env) (SP X pins D') X.xe s := by
  obtain ⟨ox, ho, hc, hnc⟩ := hins
  refine ks_wpAt_execs_cons (ks_wpAt_Expr_any (ks_wpAt_MethodCall (pl := pure false) (super_base a T I hN hσ ho hc hnc hsub hat fun so h' eso hso kp I1 => ?_) he) hi hs)
  refine super_meth (x := x) (C := C) (D := D) I1 hso (kp _ _ ho) hnc T.third hm ht hat fun q s2 eq hq2 kp2 I2 => ?_
  have hqn : H q = none := by rw [eq]; exact I1.hok.fresh (Nat.le_refl _)
  have hq0 : X.s_0.heap.objs.size ≤ q := by rw [eq]; exact I1.sz
  have hqL : q ≠ X.env.locals := by rw [eq]; exact (Nat.ne_of_lt I1.lt).symm
  have hqf : q ∉ X.fs := by rw [eq]; exact I1.nofs (Nat.le_refl _)
  have J : Inv X (pins ++ [(q, PySem.W.methodObj (.ref f2) (.ref x))]) σ H s2 := I2.pins_of fun p hp => by
    rcases List.mem_append.mp hp with hp | hp
    · exact I2.pin p (List.mem_append_right _ hp)
    · obtain rfl := List.mem_singleton.mp hp
      exact ⟨hq2, hqn, hqL, hqf, fun v hv => by cases hv⟩
  refine PySem.W.callWith_M (h₀ := X.base) (L := X.env.locals) (news := [(q, PySem.W.methodObj (.ref f2) (.ref x))]) I.ok.mod.kin ?_ (List.mem_singleton.mpr rfl) hfn ?_ hst hpl
  · intro p hp
    obtain rfl := List.mem_singleton.mp hp
    exact ⟨hq2, hqL, Heap.get?_none_of_le (Nat.le_trans I.ok.bsz hq0)⟩
  refine thn (ha.run p3 _ s2 σ H _ J hq) fun us s3 ⟨vs, H3, I3, r, q3⟩ => ?_
  have hq3 : s3.heap.get? q = some (PySem.W.methodObj (.ref f2) (.ref x)) := (I3.pin _ (List.mem_append_right _ (List.mem_append_right _ (List.mem_singleton.mpr rfl)))).1
  refine ⟨⟨hq3, I3.kIn⟩, ?_⟩
  refine wpAny_call (PySem.W.method_call hq3 ?_)
  have r2 : Vals (V.ref x :: (vs ++ dvs)) (Value.ref x :: (us ++ ds)) := .cons rfl (r.append hd)
  have hl : (Value.ref x :: (us ++ ds)).length = ps2.length := by rw [← r2.length]; exact F.len _ _ _ _ q3
  have I4 : Inv X pins σ H3 s3 := I3.pins_of fun p hp => I3.pin p (List.mem_append_right _ (List.mem_append_left _ hp))
  refine codeAny_mono (F.run X.A X.stack s3 H3 ⟨.ref x :: us, []⟩ (.ref x :: (us ++ ds)) (.ref x :: (vs ++ dvs)) _ E hr I3.env0 (hb s3 (.ref x :: us) I3.kIn hl) r2 q3) fun r s' hq' => ?_
  cases r with
  | error e => exact hx pins σ H3 s3 e s' I4 hq'
  | ok fl =>
    cases fl with
    | ret v =>
      obtain ⟨v', H', I5, _, q5⟩ := I4.after hq'
      exact wpAt_of_wpAny (hrest.run pins s' σ H' D' I5 q5)
    | next => exact False.elim hq'
    | brk => exact False.elim hq'
    | cont => exact False.elim hq'
end
end Sup
namespace Sup
open PySem PySem.Spec PyProof.Rows L2
open NdefX (NF NScope ncx envF startF CellsAt inv_startN)
section
variable {X : Cx} {body : List Stmt} {f c cc D : Addr} {me : Str} {pins : List (Addr × Obj)} {s : Shared} {σ : L2.St} {H : Hp}
/-- an exception that is being made: what super() asks of it -/
theorem exo_obj {a C : Addr} {d : Option Addr} (I : Inv X pins σ H s) (e : H a = some (exo a C d)) : ∃ ox : Obj, s.heap.get? a = some ox ∧ ox.cls = .ref C ∧ ∀ c, ox.data ≠ .cls c := by
  obtain ⟨t1, ho⟩ := exo_at I.hok e
  exact ⟨_, ho, rfl, fun c h => by cases h⟩
/-- super().__init__, ValueError's, bound; kept aside -/
theorem super_methX {pl : Sem Bool} {x C so : Addr} {Q : Value × List Value → Shared → Prop} (I : Inv X pins σ H s) (hso : s.heap.get? so = some (PySem.W.ks_superObj D x C))
    (hx : H x = some (exo x C none)) (third : PySem.W.nsIn X.K cStatics "thirdparty.any" = some none)
    (hm : PySem.W.ks_superIn X.K C D "__init__" = some (some (.builtin "ValueError.__init__"))) (hB : PySem.W.subIn X.K (.ref C) (.type "ValueError") = some true)
    (h : ∀ q s', q = s.heap.objs.size → s'.heap.get? q = some (PySem.W.kxs_mw "ValueError.__init__" x) → Inv X pins σ H s' → Q (.ref q, []) s') :
    wpAny (model X.prog X.w) X.A (getMethod (.ref so) "__init__" pl) Q X.xe s := by
  have KX := I.kIn
  obtain ⟨t1, ho⟩ := exo_at I.hok hx
  have hI : PySem.W.Looks (model X.prog X.w) s.heap (isInstance (.ref x) (.type "ValueError")) true :=
    (PySem.W.InstAt.type (ox := { cls := .ref C, dict := none, data := .fields #[.ref t1, .none, .none, .none, .bool false, .none] }) (od := none) ⟨ho, rfl, rfl, trivial⟩).andThen (PySem.W.looks_subIn KX hB)
  obtain ⟨hh, g, d, tk, os⟩ := s
  cases hc : PySem.W.clsIn X.K C with
  | none => unfold PySem.W.ks_superIn at hm; rw [hc] at hm; cases hm
  | some cd =>
    unfold PySem.W.ks_superIn at hm
    rw [hc] at hm
    have hxC : x ≠ C := by
      rintro rfl
      unfold PySem.W.clsIn at hc
      split at hc
      · rename_i c d cd' sl hoc
        have e := KX _ _ hoc
        rw [ho] at e
        cases e
      · cases hc
    refine PySem.W.kxs_getMethod PySem.W.kxs_ValueError hso (PySem.W.looks_opaque KX third) (l₀ := cd.mro) ?_ rfl KX hm hI hxC (by decide) ?_
    · exact fun A Q E s k q => wpAny_bind ((PySem.W.looks_clsIn KX hc) A _ E s k (wpAny_pure q))
    · have kp : ∀ b o, hh.get? b = some o → (hh.push (PySem.W.kxs_mw "ValueError.__init__" x)).get? b = some o := fun b o e => Heap.get?_push_of_some _ e
      exact h _ _ rfl (Heap.get?_push_at rfl rfl) (I.kept (t' := tk + 1) kp)
/-- it is called: nothing of it is told -/
theorem call_mw {u a C : Addr} {us : List Value} {Q : Value → Shared → Prop} (T : OexC X.K C) (I : Inv X pins σ H s) (hu : s.heap.get? u = some (PySem.W.kxs_mw "ValueError.__init__" a)) (e : H a = some (exo a C none)) (hl : us.length ≤ sizeLine)
    (h : ∀ s', Inv X pins σ H s' → Q .none s') : wpAny (model X.prog X.w) X.A (call (.ref u) us) Q X.xe s := by
  obtain ⟨nm, q, N, bs, bm, sn, sub, ab, col, dd, k0, k1, k2, k3, k5, hC, hbm⟩ := T.cls
  obtain ⟨t1, ho⟩ := exo_at I.hok e
  have hCs := I.kIn _ _ hC
  obtain ⟨hh, g, d, tk, os⟩ := s
  refine wpAny_call (codeAny_of_tree ?_)
  show wpAny _ X.A.in1 (callAny (.ref u) ⟨us, []⟩) _ _ _
  simp only [callAny]
  refine wpAny_bind (wpAny_load hu ?_)
  simp only [PySem.W.kxs_mw, show (Value.type "method-wrapper" == Value.type "method" || Value.type "method-wrapper" == Value.type "builtin_function_or_method" || Value.type "method-wrapper" == Value.type "method-wrapper") = true by decide, if_true]
  refine PySem.W.KFB.if_so (by decide) ?_
  refine wpAny_bind (PySem.W.check_bound_init F.excBase_ValueError.toExcCallFacts hCs ho rfl ?_)
  refine wpAny_bind (wpAny_pure (wpAny_pure ?_))
  refine ⟨plainId_quiet F.excBase_ValueError.init.plain _, codeAny_builtin F.excBase_ValueError.initEntry ?_⟩
  refine PySem.W.exc_init_tree (cls := .ref C) (t0 := t1) (dv := none) (c2 := .none) (c3 := .none) (b4 := .bool false) ho hl fun h' k e' t' => ?_
  have J := I.write (t' := tk) (x := a) (e := a) (o := exo a C none) (by rw [e]; exact True.intro) (.inl rfl) k ⟨_, e'⟩ (exo_ok e')
  have eu : upd H a (exo a C none) = H := by
    funext b
    by_cases hb : b = a
    · rw [hb, upd_same, e]
    · rw [upd_ne hb]
  rw [eu] at J
  exact h _ J
end
end Sup
namespace Sup
open PySem PySem.Spec PyProof.Rows L2
open NdefX (NF NScope ncx envF startF CellsAt inv_startN)
section
variable {X : Cx} {body : List Stmt} {f c cc D : Addr} {me : Str} {pins : List (Addr × Obj)} {s : Shared} {σ : L2.St} {H : Hp}
/-- super().__init__(e, ..) of an exception, then the rest -/
theorem super_exc {x C : Addr} {e : Expr} {es : List Expr} {t : TA} {rest : List Stmt} {u : TS} {D' : Ends} {p0 p1 p2 p3 p4 : Pos}
    (a : AtS X body f c cc D me) (T : SupT X.prog X.K X.mg D) (TC : OexC X.K C)
    (hN : X.N[0]? = some me) (hm : PySem.W.ks_superIn X.K C D "__init__" = some (some (.builtin "ValueError.__init__"))) (hB : PySem.W.subIn X.K (.ref C) (.type "ValueError") = some true)
    (hsub : PySem.W.mroIn X.K C (.ref D) = some true) (ha : PA X (e :: es) t) (hrest : PSs X rest u)
    (I : Inv X pins σ H s) (hσ : σ[0]? = some (some (.ref x))) (hx : H x = some (exo x C none))
    (hq : t σ H fun vs H1 => vs.length ≤ 1000 ∧ H1 x = some (exo x C none) ∧ u D' σ H1)
    (hi : interactive X.env = false) (hs : swapsWith (.Call (.Attribute (.Call (.Name "super" p0) [] [] p1) "__init__" p2) (e :: es) [] p3) none p4.line X.env = pure false)
    (he : eval (.Call (.Attribute (.Call (.Name "super" p0) [] [] p1) "__init__" p2) (e :: es) [] p3) X.env = (do
      let ov ← attributeBase (.Call (.Name "super" p0) [] [] p1) "__init__" X.env (eval (.Call (.Name "super" p0) [] [] p1) X.env)
      standAt p2.atName
      let (f, first) ← holding [ov] (getMethod ov "__init__" (pure false))
      callWith p3 f first (backTo p3 (starEach (e :: es) X.env)) []))
    (hst : starEach (e :: es) X.env = (false, eval e X.env) :: starEach es X.env) (hpl : (backTo p3 (starEach es X.env)).any (·.1) = false) :
    PySem.wpAt (model X.prog X.w) X.A (.func body X.env) (execs (.Expr (.Call (.Attribute (.Call (.Name "super" p0) [] [] p1) "__init__" p2) (e :: es) [] p3) p4 :: rest) X.env) (SP X pins D') X.xe s := by
  obtain ⟨ox, ho, hc, hnc⟩ := exo_obj I hx
  refine ks_wpAt_execs_cons (ks_wpAt_Expr_any (ks_wpAt_MethodCall (pl := pure false) (super_base a T I hN hσ ho hc hnc hsub (by decide) fun so h' eso hso kp I1 => ?_) he) hi hs)
  refine super_methX (x := x) (C := C) (D := D) I1 hso hx T.third hm hB fun q s2 eq hq2 I2 => ?_
  have hqn : H q = none := by rw [eq]; exact I1.hok.fresh (Nat.le_refl _)
  have hq0 : X.s_0.heap.objs.size ≤ q := by rw [eq]; exact I1.sz
  have hqL : q ≠ X.env.locals := by rw [eq]; exact (Nat.ne_of_lt I1.lt).symm
  have hqf : q ∉ X.fs := by rw [eq]; exact I1.nofs (Nat.le_refl _)
  have J : Inv X (pins ++ [(q, PySem.W.kxs_mw "ValueError.__init__" x)]) σ H s2 := I2.pins_of fun p hp => by
    rcases List.mem_append.mp hp with hp | hp
    · exact I2.pin p (List.mem_append_right _ hp)
    · obtain rfl := List.mem_singleton.mp hp
      exact ⟨hq2, hqn, hqL, hqf, fun v hv => by cases hv⟩
  refine PySem.W.kxs_callWith1 (h₀ := X.base) (L := X.env.locals) (news := [(q, PySem.W.kxs_mw "ValueError.__init__" x)]) (i := "ValueError.__init__") (x := x) ?_ (List.mem_singleton.mpr rfl) ?_ hst hpl
  · intro p hp
    obtain rfl := List.mem_singleton.mp hp
    exact ⟨hq2, hqL, Heap.get?_none_of_le (Nat.le_trans I.ok.bsz hq0)⟩
  refine thn (ha.run p3 _ s2 σ H _ J hq) fun us s3 ⟨vs, H3, I3, r, hl, hx3, q3⟩ => ?_
  have hq3 : s3.heap.get? q = some (PySem.W.kxs_mw "ValueError.__init__" x) := (I3.pin _ (List.mem_append_right _ (List.mem_append_right _ (List.mem_singleton.mpr rfl)))).1
  have I4 : Inv X pins σ H3 s3 := I3.pins_of fun p hp => I3.pin p (List.mem_append_right _ (List.mem_append_left _ hp))
  refine ⟨hq3, ?_⟩
  exact call_mw TC I4 hq3 hx3 (by rw [← r.length]; exact Nat.le_trans hl (by decide)) fun s' I5 => wpAt_of_wpAny (hrest.run pins s' σ H3 D' I5 q3)
end
theorem atS_of {P : Program} {w : World} {K : PySem.W.Frag} {mg : Str → Option Value} {base : Heap} {CX : CXT} {x qual : Str} {st : Stmt} {f c cc D : Addr} {fd : FuncData} {N : List Str} {A : Around} {outer : List Env} {s : Shared} {H : Hp} {E : XK} {me : Str} {body : List Stmt}
    (F : FunS P K x qual st f fd c cc D) (hk : (defScope st).kind = .function) (hs : (defScope st).names.lookup ("super" : Str) = some .globalImplicit) (hc : (defScope st).names.lookup ("__class__" : Str) = some .free)
    (hm : (defScope st).names.lookup me = some .local) (ha : ∃ ar, ((defArgs st).posonlyargs ++ (defArgs st).args).head? = some ar ∧ ar.arg = me) : AtS (ncx CX P w K mg base N (nf x qual st c cc) f A outer s H E) body f c cc D me := by
  obtain ⟨oc, od, kV, doc, pm, an, ct, osl, rfl, lk⟩ := F.ex
  obtain ⟨ar, h1, h2⟩ := ha
  refine ⟨hk, hs, hc, rfl, rfl, ?_, hm, ⟨oc, od, _, osl, ar, lk, h1, h2⟩, F.file, F.cell⟩
  show List.lookup _ [(("__class__" : Str), cc)] = some cc
  rw [List.lookup_cons, beq_self_eq_true]
end Sup
namespace Sj
open PySem L2
open C8 (pss_cut tCut)
def top (i : Nat) : Stmt := PySem.Challenge.pw_strayjoins_k65_chains_made.main.body.getD i (.Pass ⟨0, 0, 0, 0⟩)
abbrev sPen : Stmt := top 31
abbrev sDraw : Stmt := top 32
/-! ### the pen: its cells, the next place, what is left of a great one -/
def penO (l : Addr) (i g : Int) : HO := .lst [.ref l, .int i, .int g]
def Pen (H : Hp) (p l : Addr) (cs : List Int) (n : Nat) : Prop :=
  ∃ i g : Int, H p = some (penO l i g) ∧ H l = some (.lst (cs.map V.int)) ∧ cs.length ≤ 63 ∧ 0 ≤ i ∧ i ≤ n
/-- all that stood but at p stands as it was -/
def But (H H' : Hp) (p : Addr) : Prop := ∀ b o, b ≠ p → H b = some o → H' b = some o
theorem But.upd (H : Hp) (p : Addr) (o : HO) : But H (upd H p o) p := fun b _ h e => by rw [upd_ne h]; exact e
theorem But.trans {H H1 H2 : Hp} {p : Addr} (a : But H H1 p) (b : But H1 H2 p) : But H H2 p := fun c o h e => b c o h (a c o h e)
theorem But.put {H H1 : Hp} {p : Addr} (a : But H H1 p) (o : HO) : But H (L2.upd H1 p o) p := a.trans (.upd _ _ _)
theorem But.new {H H1 : Hp} {p q : Addr} (a : But H H1 p) (hq : H1 q = none) (o : HO) : But H (L2.upd H1 q o) p := fun b _ h e => by
  have e1 := a b _ h e
  rw [upd_ne (ne_of_none e1 hq)]
  exact e1
def spDraw : Sp := fun vs H Q _ => ∃ (p l : Addr) (cs : List Int) (n : Nat) (m : Int), vs = [.ref p, .int m] ∧ Pen H p l cs n ∧ 0 < m ∧ m < 1073741824 ∧ n < 1000000 ∧
  ∀ (d i g : Int) (H' : Hp), 0 ≤ d → d < m → 0 ≤ i → i ≤ n + 1 → H' p = some (penO l i g) → But H H' p → Q (.int d) H'
structure Bi (mg : Str → Option Value) : Prop where
  int : mg "int" = none
  len : mg "len" = none
  abs : mg "abs" = none
theorem dp_ints {K : PySem.W.Frag} {H : Hp} : ∀ cs : List Int, DpAll K H (cs.map V.int) (cs.map PyData.int)
  | [] => .nil
  | c :: cs => .cons (.int c) (dp_ints cs)
theorem shaped_ints (cs : List Int) : SeqAt.shaped (.list (cs.map PyData.int)) = true := by
  unfold SeqAt.shaped
  rw [Bool.and_eq_true]
  refine ⟨?_, decide_eq_true ?_⟩
  · show PyData.canLayAll0 (cs.map PyData.int) = true
    induction cs with
    | nil => rfl
    | cons c cs ih => exact Bool.and_eq_true_iff.mpr ⟨rfl, ih⟩
  · have e : PyData.depthAll (cs.map PyData.int) ≤ 1 := by
      induction cs with
      | nil => exact Nat.zero_le _
      | cons c cs ih => exact Nat.max_le.mpr ⟨(show (0 : Nat) ≤ 1 by decide), ih⟩
    show PyData.depthAll (cs.map PyData.int) + 1 ≤ 64
    omega
theorem small1 {b c i m : Int} {n : Nat} {x : Int} (i0 : 0 ≤ i) (i1 : i ≤ n) (n1 : n < 1000000) (hm : 0 < m ∧ m < 4294967296 := by decide) (hb : 0 ≤ b ∧ b < 100000 := by decide) (hc : 0 ≤ c ∧ c < 100000 := by decide) :
    (x % m + b * i + c).natAbs < 2 ^ 64 := by
  have h1 := Int.emod_nonneg x (show m ≠ 0 by omega)
  have h2 := Int.emod_lt_of_pos x hm.1
  have h3 : 0 ≤ b * i := Int.mul_nonneg hb.1 i0
  have h4 : b * i ≤ 100000 * 1000000 := Int.mul_le_mul (by omega) (by omega) i0 (by decide)
  have h5 : (2 : Nat) ^ 64 = 18446744073709551616 := by decide
  omega
theorem small3 {b i : Int} (i0 : 0 ≤ i) (hb : 0 ≤ b ∧ b < 100000 := by decide) : -(2 ^ 64) < b * i := by
  have h3 : 0 ≤ b * i := Int.mul_nonneg hb.1 i0
  have h5 : (2 : Int) ^ 64 = 18446744073709551616 := by decide
  omega
theorem small4 {b i : Int} {n : Nat} (i1 : i ≤ n) (n1 : n < 1000000) (hb : 0 ≤ b ∧ b < 100000 := by decide) : b * i < 2 ^ 64 := by
  have h4 : b * i ≤ b * 1000000 := Int.mul_le_mul_of_nonneg_left (by omega) hb.1
  have h5 : (2 : Int) ^ 64 = 18446744073709551616 := by decide
  omega
theorem small2 {a b c e i y : Int} {n : Nat} (i0 : 0 ≤ i) (i1 : i ≤ n) (n1 : n < 1000000) (y0 : 0 ≤ y) (y1 : y < 2147483648) (ha : 0 ≤ a ∧ a < 10 := by decide) (hb : 0 ≤ b ∧ b < 100000 := by decide)
    (hc : 0 ≤ c ∧ c < 100000 := by decide) (he : 0 ≤ e ∧ e < 100000 := by decide) : (y * (a * i + b) + c * i * i + e).natAbs < 2 ^ 64 := by
  have h3 : 0 ≤ a * i := Int.mul_nonneg ha.1 i0
  have h4 : a * i ≤ 10 * 1000000 := Int.mul_le_mul (by omega) (by omega) i0 (by decide)
  have h6 : 0 ≤ y * (a * i + b) := Int.mul_nonneg y0 (by omega)
  have h7 : y * (a * i + b) ≤ 2147483648 * 20000000 := Int.mul_le_mul (by omega) (by omega) (by omega) (by decide)
  have h8 : 0 ≤ c * i := Int.mul_nonneg hc.1 i0
  have h9 : c * i ≤ 100000 * 1000000 := Int.mul_le_mul (by omega) (by omega) i0 (by decide)
  have h10 : 0 ≤ c * i * i := Int.mul_nonneg h8 i0
  have h11 : c * i * i ≤ (100000 * 1000000) * 1000000 := Int.mul_le_mul h9 (by omega) i0 (by decide)
  have h5 : (2 : Nat) ^ 64 = 18446744073709551616 := by decide
  omega
theorem cut_ints (ns : List Int) (a b : Option Int) : ∃ cs : List Int, cutV (ns.map V.int) a b = cs.map V.int ∧ cs.length ≤ ns.length := by
  unfold cutV
  rw [← List.map_drop, ← List.map_take]
  exact ⟨_, rfl, by rw [List.length_take, List.length_drop]; omega⟩
theorem cell_at {cs : List Int} {i : Int} (h0 : 0 ≤ i) (hn : cs ≠ []) : ∃ v : Int, atI (cs.map V.int) (i % ((cs.map V.int).length : Nat)) = some (.int v) := by
  have hl : 0 < cs.length := List.length_pos_iff.mpr hn
  have e : (cs.map V.int).length = cs.length := List.length_map _
  have hb := Int.emod_lt_of_pos i (show (0 : Int) < (cs.length : Int) by omega)
  have hp := Int.emod_nonneg i (show (cs.length : Int) ≠ 0 by omega)
  obtain ⟨j, hj⟩ : ∃ j : Nat, i % (cs.length : Int) = (j : Int) := ⟨(i % (cs.length : Int)).toNat, by omega⟩
  have hjl : j < cs.length := by omega
  refine ⟨cs[j], ?_⟩
  rw [e, hj]
  exact atI_nat (by simp [hjl])
section
variable {P : Program} {w : World} {K : PySem.W.Frag} {mg : Str → Option Value} {base : Heap}
theorem scDraw : FnScope ["_law_pen_here", "_law_many", "_law_digit", "_law_at", "_law_cell", "_law_great", "_law_mixed"] ["_law_pen_here", "_law_many"] (defScope sDraw) :=
  ⟨rfl, rfl, rfl, by decide +kernel, rfl, by decide +kernel, by decide +kernel⟩
theorem ok_draw {f : Addr} {fd : FuncData} (F : Fun K "_law_draw" "_law_draw" sDraw f fd) (B : Bi mg) : FnOk P w K mg base CX0 1 f fd ["_law_pen_here", "_law_many"] spDraw := by
  refine F.ok scDraw (fun vs H Q E h => ?_) (fun cdv A outer s H vs Q E hr h => ?_)
  · obtain ⟨p, l, cs, n, m, rfl, _⟩ := h
    rfl
  · obtain ⟨p, l, cs, n, m, rfl, ⟨i, g, hp, hl, hz, i0, i1⟩, m0, m1, n1, k⟩ := h
    have npl : p ≠ l := fun q => by
      subst q
      rw [hp] at hl
      have e := List.map_eq_cons_iff.mp (HO.lst.inj (Option.some.inj hl)).symm
      obtain ⟨_, _, _, h1, _⟩ := e
      cases h1
    refine ⟨_, pss_cut
        (ps_if (pt_cmpR op_gt (pe_ix ix_list (pv 0) pe_int (fun _ _ => rfl)) pe_int (nomark _))
          (pss_cons (ps_set (i := 2) scDraw.nd rfl (Or.inl rfl) (pe_op op_mod (pe_callTy call_int1 (by rfl) B.int (by decide +kernel) (pa_cons (pe_ix ix_list (pv 0) pe_int (fun _ _ => rfl)) pa_nil)) (pv 1)))
          (pss_cons (ps_asg (pe_op op_fdiv (pe_callTy call_int1 (by rfl) B.int (by decide +kernel) (pa_cons (pe_ix ix_list (pv 0) pe_int (fun _ _ => rfl)) pa_nil)) (pv 1)) (pg_sub (pv 0) pe_int set_list))
          (pss_one (ps_ret (pv 2)))))
          pss_nil)
      (pss_cons (ps_set (i := 3) scDraw.nd rfl (Or.inl rfl) (pe_ix ix_list (pv 0) pe_int (fun _ _ => rfl)))
      (pss_cons (ps_asg (pe_op op_add (pv 3) pe_int) (pg_sub (pv 0) pe_int set_list))
      (pss_cons (ps_set (i := 4) scDraw.nd rfl (Or.inl rfl) (pe_op op_add (pe_op op_mul pe_int (pv 3)) pe_int))
      (pss_cut (ps_if (pt_cmpR (op_neD hr.units) (pe_ix ix_list (pv 0) pe_int (fun _ _ => rfl)) (pe_lst pa_nil) (nomark _))
          (pss_one (ps_set (i := 4) scDraw.nd rfl (Or.inl rfl) (pe_ix ix_list (pe_ix ix_list (pv 0) pe_int (fun _ _ => rfl))
            (pe_op op_mod (pe_callTy call_int1 (by rfl) B.int (by decide +kernel) (pa_cons (pv 3) pa_nil)) (pe_callB call_len_seq (by rfl) B.len PySem.boot_len (pa_cons (pe_ix ix_list (pv 0) pe_int (fun _ _ => rfl)) pa_nil))) (fun _ _ => rfl))))
          pss_nil)
      (pss_cut (ps_if (PW.pt (pw_and (pt_cmpR op_lt (pv 3) (pe_callB call_len_seq (by rfl) B.len PySem.boot_len (pa_cons (pe_ix ix_list (pv 0) pe_int (fun _ _ => rfl)) pa_nil)) (nomark _))
            (pw_and1 (pt_cmpR op_ge (pe_callB call_abs (by rfl) B.abs (by decide +kernel) (pa_cons (pv 4) pa_nil)) (pe_op op_pow pe_int pe_int) (nomark _)))))
          (pss_cons (ps_set (i := 5) scDraw.nd rfl (Or.inl rfl) (pe_op op_add (pe_op op_mul pe_int (pe_callB call_abs (by rfl) B.abs (by decide +kernel) (pa_cons (pv 4) pa_nil)))
              (pe_callTy call_int1 (by rfl) B.int (by decide +kernel) (pa_cons (pe_cmpR op_lt (pv 4) pe_int (nomark _)) pa_nil))))
          (pss_cons (ps_asg (pe_op op_fdiv (pv 5) (pv 1)) (pg_sub (pv 0) pe_int set_list))
          (pss_one (ps_ret (pe_op op_mod (pe_callTy call_int1 (by rfl) B.int (by decide +kernel) (pa_cons (pv 5) pa_nil)) (pv 1))))))
          pss_nil)
      (pss_cut (ps_set (i := 6) scDraw.nd rfl (Or.inl rfl) (pe_op op_mod (pe_callTy call_int1 (by rfl) B.int (by decide +kernel) (pa_cons (pe_op op_pow
          (pe_op op_add (pe_op op_add (pe_op op_mod (pe_callTy call_int1 (by rfl) B.int (by decide +kernel) (pa_cons (pv 4) pa_nil)) pe_int) (pe_op op_mul pe_int (pv 3))) pe_int) pe_int) pa_nil)) pe_int))
      (pss_cut (ps_set (i := 6) scDraw.nd rfl (Or.inl rfl) (pe_op op_mod (pe_callTy call_int1 (by rfl) B.int (by decide +kernel) (pa_cons (pe_op op_pow
          (pe_op op_add (pe_op op_add (pe_op op_mul (pv 6) (pe_op op_add (pe_op op_mul pe_int (pv 3)) pe_int)) (pe_op op_mul (pe_op op_mul pe_int (pv 3)) (pv 3))) pe_int) pe_int) pa_nil)) pe_int))
      (pss_one (ps_ret (pe_op op_mod (pe_callTy call_int1 (by rfl) B.int (by decide +kernel) (pa_cons (pe_op op_fdiv (pv 6) pe_int) pa_nil)) (pv 1))))))))))), ?_⟩
    refine ⟨fun σ' H' => σ' = start ["_law_pen_here", "_law_many", "_law_digit", "_law_at", "_law_cell", "_law_great", "_law_mixed"] [.ref p, .int m] ∧ H' = H,
      ⟨_, rfl, p, _, _, .int g, rfl, rfl, SqL.of hp, rfl, _, _, rfl, rfl, _, rfl, ite2 (fun _ => ?_) (fun _ => ⟨rfl, rfl⟩)⟩, ?_⟩
    · refine ⟨_, rfl, p, _, _, .int g, rfl, rfl, SqL.of hp, rfl, .inl ⟨_, rfl, _, rfl, _, _, rfl, rfl, m0, ?_⟩⟩
      refine ⟨_, rfl, p, _, _, .int g, rfl, rfl, SqL.of hp, rfl, .inl ⟨_, rfl, _, rfl, _, _, rfl, rfl, ⟨m0, m1⟩, ?_⟩⟩
      refine ⟨_, rfl, p, _, _, 2, rfl, rfl, hp, rfl, ?_⟩
      refine ⟨_, rfl, ?_⟩
      exact k _ _ _ _ (Int.emod_nonneg _ (by omega)) (Int.emod_lt_of_pos _ m0) i0 (by omega) upd_same (.upd _ _ _)
    · rintro σ' H' ⟨rfl, rfl⟩
      refine ⟨_, rfl, p, _, _, .int i, rfl, rfl, SqL.of hp, rfl, ?_⟩
      refine ⟨_, rfl, _, _, rfl, rfl, _, rfl, p, _, _, 1, rfl, rfl, hp, rfl, ?_⟩
      have b1 : But H' (upd H' p (penO l (i + 1) g)) p := .upd _ _ _
      have hp1 : upd H' p (penO l (i + 1) g) p = some (penO l (i + 1) g) := upd_same
      have hl1 : upd H' p (penO l (i + 1) g) l = some (.lst (cs.map V.int)) := b1 _ _ npl.symm hl
      refine ⟨_, rfl, _, _, rfl, rfl, .inl ⟨by decide, by decide⟩, _, _, rfl, rfl, ?_⟩
      refine ⟨fun σ2 H2 => ∃ c : Int, σ2 = [some (.ref p), some (.int m), none, some (.int i), some (.int c), none, none] ∧ H2 p = some (penO l (i + 1) g) ∧ H2 l = some (.lst (cs.map V.int)) ∧ But H' H2 p, ?_, ?_⟩
      · refine ⟨_, rfl, p, _, _, .ref l, rfl, rfl, SqL.of hp1, rfl, Nat.zero_le _, fun q hq => ?_⟩
        have npq : p ≠ q := ne_of_none hp1 hq
        have nlq : l ≠ q := ne_of_none hl1 hq
        have hp2 : upd (upd H' p (penO l (i + 1) g)) q (.lst []) p = some (penO l (i + 1) g) := by rw [upd_ne npq]; exact hp1
        have hl2 : upd (upd H' p (penO l (i + 1) g)) q (.lst []) l = some (.lst (cs.map V.int)) := by rw [upd_ne nlq]; exact hl1
        have b2 := b1.new hq (.lst [])
        refine ⟨.list (cs.map PyData.int), .list [], .lst (SqL.of hl2) (dp_ints cs), .lst (SqL.of upd_same) .nil, shaped_ints cs, rfl, _, rfl, ?_⟩
        cases cs with
        | nil => exact ⟨_, rfl, hp2, hl2, b2⟩
        | cons c cs =>
          refine iteT ?_
          obtain ⟨v, hv⟩ := cell_at (cs := c :: cs) i0 (by simp)
          refine ⟨_, rfl, p, _, _, .ref l, rfl, rfl, SqL.of hp2, rfl, _, rfl, .inl ⟨_, rfl, _, rfl, p, _, _, .ref l, rfl, rfl, SqL.of hp2, rfl, l, _, rfl, .inl (SqL.of hl2), _, _, rfl, rfl, ?_, ?_⟩⟩
          · show (0 : Int) < (((c :: cs).map V.int).length : Nat)
            simp
          · exact ⟨l, _, _, .int v, rfl, rfl, SqL.of hl2, hv, v, rfl, hp2, hl2, b2⟩
      · rintro σ2 H2 ⟨c, rfl, hp2, hl2, b2⟩
        have len63 : (cs.map V.int).length = cs.length := List.length_map _
        refine ⟨fun σ3 H3 => σ3 = [some (.ref p), some (.int m), none, some (.int i), some (.int c), none, none] ∧ H3 = H2, ?_, ?_⟩
        · refine ⟨_, rfl, _, rfl, p, _, _, .ref l, rfl, rfl, SqL.of hp2, rfl, l, _, rfl, .inl (SqL.of hl2), _, _, rfl, rfl, _, rfl, ite2 (fun _ => ?_) (fun _ => ⟨rfl, rfl⟩)⟩
          refine ⟨_, rfl, _, rfl, _, _, rfl, rfl, ⟨by decide, by decide, by decide⟩, _, _, rfl, rfl, _, rfl, ite2 (fun _ => ?_) (fun _ => ⟨rfl, rfl⟩)⟩
          refine ⟨_, rfl, _, rfl, _, _, rfl, rfl, .inl ⟨by decide, by decide⟩, _, rfl, _, _, rfl, rfl, .inr ⟨_, rfl, _, _, rfl, rfl, ?_⟩⟩
          refine ⟨_, rfl, _, rfl, _, _, rfl, rfl, ⟨m0, m1⟩, _, rfl, p, _, _, 2, rfl, rfl, hp2, rfl, ?_⟩
          refine ⟨_, rfl, .inl ⟨_, rfl, _, rfl, _, _, rfl, rfl, m0, ?_⟩⟩
          exact k _ _ _ _ (Int.emod_nonneg _ (by omega)) (Int.emod_lt_of_pos _ m0) (by omega) (by omega) upd_same (b2.put _)
        · rintro σ3 H3 ⟨rfl, rfl⟩
          refine ⟨fun σ4 H4 => ∃ y : Int, 0 ≤ y ∧ y < 2147483648 ∧ σ4 = [some (.ref p), some (.int m), none, some (.int i), some (.int c), none, some (.int y)] ∧ H4 = H3, ?_, ?_⟩
          · refine ⟨_, rfl, .inl ⟨_, rfl, _, _, rfl, rfl, (by show (0 : Int) < 2147483563; decide), _, rfl, _, _, rfl, rfl, .inl ⟨by decide, by decide⟩, _, _, rfl, rfl, _, _, rfl, rfl, _, _, rfl, rfl,
              ⟨by decide, by decide, ?_⟩, .inl ⟨_, rfl, _, _, rfl, rfl, (by show (0 : Int) < 2147483587; decide), _, Int.emod_nonneg _ (by decide), Int.lt_trans (Int.emod_lt_of_pos _ (by decide)) (by decide), rfl, rfl⟩⟩⟩
            exact small1 i0 i1 n1
          · rintro σ4 H4 ⟨y, y0, y1, rfl, rfl⟩
            refine ⟨fun σ5 H5 => ∃ y : Int, 0 ≤ y ∧ y < 2147483648 ∧ σ5 = [some (.ref p), some (.int m), none, some (.int i), some (.int c), none, some (.int y)] ∧ H5 = H4, ?_, ?_⟩
            · refine ⟨_, rfl, _, rfl, _, _, rfl, rfl, .inl ⟨by decide, by decide⟩, _, _, rfl, rfl, _, _, rfl, rfl, .inl ⟨?_, ?_⟩, _, rfl, _, _, rfl, rfl, .inl ⟨by decide, by decide⟩, _, rfl, _, _, rfl, rfl, .inl ⟨?_, ?_⟩,
                _, _, rfl, rfl, _, _, rfl, rfl, _, _, rfl, rfl, ⟨by decide, by decide, ?_⟩, .inl ⟨_, rfl, _, _, rfl, rfl, (by show (0 : Int) < 2147483629; decide), _, Int.emod_nonneg _ (by decide), Int.lt_trans (Int.emod_lt_of_pos _ (by decide)) (by decide), rfl, rfl⟩⟩
              · exact Int.lt_of_lt_of_le (by decide) y0
              · exact Int.lt_trans y1 (by decide)
              · exact small3 i0
              · exact small4 i1 n1
              · exact small2 i0 i1 n1 y0 y1
            · rintro σ5 H5 ⟨y, y0, y1, rfl, rfl⟩
              refine ⟨_, rfl, _, _, rfl, rfl, ⟨by decide, by decide⟩, .inl ⟨_, rfl, _, rfl, _, _, rfl, rfl, m0, ?_⟩⟩
              exact k _ _ _ _ (Int.emod_nonneg _ (by omega)) (Int.emod_lt_of_pos _ m0) (by omega) (by omega) hp2 b2
theorem Pen.next {H H' : Hp} {p l : Addr} {cs : List Int} {n : Nat} {i g : Int} (h : Pen H p l cs n) (i0 : 0 ≤ i) (i1 : i ≤ n + 1) (hp : H' p = some (penO l i g)) (b : But H H' p) : Pen H' p l cs (n + 1) := by
  obtain ⟨i', g', h1, h2, h3, h4, h5⟩ := h
  refine ⟨i, g, hp, b _ _ ?_ h2, h3, i0, by omega⟩
  intro e
  subst e
  rw [h1] at h2
  have e := List.map_eq_cons_iff.mp (HO.lst.inj (Option.some.inj h2)).symm
  obtain ⟨_, _, _, q, _⟩ := e
  cases q
theorem scPen : FnScope ["_law_script"] ["_law_script"] (defScope sPen) := ⟨rfl, rfl, rfl, by decide +kernel, rfl, by decide +kernel, by decide +kernel⟩
def spPen (K : PySem.W.Frag) : Sp := fun vs H Q _ => ∃ (a : Addr) (ns : List Int), vs = [.ref a] ∧ SqL K H a (ns.map V.int) ∧ ns.length ≤ 63 ∧ ∀ (p l : Addr) (cs : List Int) (H' : Hp), Pen H' p l cs 0 → Same H H' → Q (.ref p) H'
theorem ok_pen {f : Addr} {fd : FuncData} (F : Fun K "_law_pen" "_law_pen" sPen f fd) (mL : mg "list" = none) : FnOk P w K mg base CX0 1 f fd ["_law_script"] (spPen K) := by
  refine F.ok scPen (fun vs H Q E h => ?_) (fun cdv A outer s H vs Q E hr h => ?_)
  · obtain ⟨a, ns, rfl, _⟩ := h
    rfl
  · obtain ⟨a, ns, rfl, hS, hz, k⟩ := h
    refine ⟨_, pss_one (ps_ret (pe_lst (pa_cons (pe_callTy call_list_of (by rfl) mL (by decide +kernel) (pa_cons (pe_slice sl_list (pv 0) po_none (po_some pe_int)) pa_nil)) (pa_cons pe_int (pa_cons pe_int pa_nil))))), ?_⟩
    refine ⟨_, rfl, _, rfl, a, _, rfl, hS, fun q hq => ?_⟩
    refine ⟨q, _, rfl, .inl (SqL.of upd_same), fun l hl => ⟨(by show 3 ≤ sizeLine; decide), fun p hp => ?_⟩⟩
    have nql : q ≠ l := ne_of_none upd_same hl
    have nlp : l ≠ p := ne_of_none upd_same hp
    have hHl : H l = none := by rw [upd_ne nql.symm] at hl; exact hl
    have hHp : H p = none := by
      have h1 : p ≠ l := nlp.symm
      rw [upd_ne h1] at hp
      have h2 : p ≠ q := fun e => by rw [e, upd_same] at hp; cases hp
      rw [upd_ne h2] at hp
      exact hp
    refine k p l _ _ ⟨0, 0, upd_same, Eq.trans (upd_ne nlp) (Eq.trans upd_same (congrArg (fun z => some (HO.lst z)) (cut_ints ns none (some 63)).choose_spec.1)), Nat.le_trans (cut_ints ns none (some 63)).choose_spec.2 hz, Int.le_refl _, Int.le_refl _⟩ fun b o e => ?_
    rw [upd_ne (ne_of_none e hHp), upd_ne (ne_of_none e hHl), upd_ne (ne_of_none e hq)]
    exact e
end
end Sj
namespace Sj
open PySem L2 Sup
open NdefX (NF NScope ncx envF startF nscope_by)
abbrev sInv : Stmt := inClass (top 3) 0
abbrev sIsName : Stmt := top 14
abbrev sLegI : Stmt := inClass (top 16) 1
abbrev sDrvI : Stmt := inClass (top 17) 1
abbrev sLisI : Stmt := inClass (top 18) 1
theorem strLen (a b : Str) : (a ++ b).length = a.length + b.length := by
  exact strLen_append a b
section
variable {P : Program} {w : World} {K : PySem.W.Frag} {mg : Str → Option Value} {base : Heap}
theorem scInv : NScope ["self", "reason", "__class__"] ["self", "reason"] ["__class__"] (defScope sInv) := nscope_by (by decide +kernel)
/-- InvalidFrame(reason), reason a text -/
def spInv (K : PySem.W.Frag) (C : Addr) : Sp := fun vs H Q _ => ∃ (a : Addr) (z : Str), vs = [.ref a, .str z] ∧ (reprText z).length ≤ 1000 ∧ H a = some (exo a C none) ∧
  ∀ (dx : Addr), H dx = none → dx ≠ a → Q .non (upd (upd H dx (exd dx [("reason", .str z)])) a (exo a C (some dx)))
structure ExT (P : Program) (K : PySem.W.Frag) (mg : Str → Option Value) (C : Addr) (fld : Str) : Prop where
  sup : SupT P K mg C
  oex : OexC K C
  hm : PySem.W.ks_superIn K C C "__init__" = some (some (.builtin "ValueError.__init__"))
  hB : PySem.W.subIn K (.ref C) (.type "ValueError") = some true
  hs : PySem.W.mroIn K C (.ref C) = some true
  no : PySem.W.findIn K (.ref C) fld = some none
theorem ok_inv {f c cc C : Addr} {fd : FuncData} (F : FunS P K "__init__" "InvalidFrame.__init__" sInv f fd c cc C) (T : ExT P K mg C "reason") : FnOk P w K mg base CX0 1 f fd ["self", "reason"] (spInv K C) := by
  refine fn_super F scInv (fun vs H Q E h => ?_) (fun A outer s H vs Q E hr h s1 I => ?_)
  · obtain ⟨a, z, rfl, _⟩ := h
    rfl
  · obtain ⟨a, z, rfl, hz, ha, k⟩ := h
    refine super_exc (me := "self") (x := a) (C := C) (atS_of F rfl rfl rfl rfl ⟨_, rfl, rfl⟩) T.sup T.oex rfl T.hm T.hB T.hs
      (pa_cons (pe_joined (.cons pe_str (.cons (pe_fmtR (pv 1)) .nil))) pa_nil) (pss_one (ps_ost (pv 0) (pv 1))) I rfl ha ?_ rfl rfl rfl rfl rfl
    refine ⟨_, rfl, by decide +kernel, _, rfl, .inl ⟨z, rfl, Nat.le_trans hz (by decide), _, rfl, ?_, by show 1 ≤ 1000; decide, ha, ?_⟩⟩
    · have e1 : ((Str.empty ++ ("invalid frame: " : Str)) ++ reprText z).length ≤ 15 + (reprText z).length := by
        rw [strLen]
        exact Nat.add_le_add_right (by decide +kernel) _
      exact Nat.le_trans e1 (Nat.le_trans (Nat.add_le_add_left hz 15) (by decide))
    · exact ⟨_, rfl, _, rfl, a, C, rfl, T.oex, T.no, .inl ⟨ha, fun dx hd hne => k dx hd hne⟩⟩
end
end Sj
namespace Sj
open PySem L2 Sup
open NdefX (NF NScope ncx envF startF nscope_by)
open C8 (pss_cut tCut)
def lettersS : Str := "abcdefghijklmnopqrstuvwxyz"
def reservedV : List V := [.str "ground", .str "power", .str "nothing"]
/-- whether a text is a name -/
def isName (z : Str) : Bool := decide ((1 : Int) ≤ z.length) && decide ((z.length : Int) ≤ 8) && !inV (.str z) reservedV && z.cps.toList.all fun c => decide (c ∈ lettersS.cps.toList)
structure NmT (K : PySem.W.Frag) (mg : Str → Option Value) : Prop where
  isi : mg "isinstance" = none
  str : mg "str" = none
  len : mg "len" = none
  all : mg "all" = none
  letters : ∃ t, mg "LETTERS" = some (.str lettersS t)
  longest : ∃ t, mg "LONGEST" = some (.int 8 t)
  reserved : ∃ a, mg "RESERVED" = some (.ref a) ∧ ∀ H, SqT K H a reservedV
def spIsName (K : PySem.W.Frag) : Sp := fun vs H Q _ => ∃ x : V, vs = [x] ∧
  ((∃ z : Str, x = .str z ∧ z.length ≤ 1000 ∧ ∀ H', Same H H' → Q (.bl (isName z)) H') ∨
   ∃ t : String, TyX K H x (.type t) ∧ kitB t "str" = some false ∧ Q (.bl false) H)
section
variable {P : Program} {w : World} {K : PySem.W.Frag} {mg : Str → Option Value} {base : Heap}
theorem scIsName : FnScope ["value", "sign"] ["value"] (defScope sIsName) := ⟨rfl, rfl, rfl, by decide +kernel, rfl, by decide +kernel, by decide +kernel⟩
theorem ok_isname {f : Addr} {fd : FuncData} (F : Fun K "is_name" "is_name" sIsName f fd) (T : NmT K mg) : FnOk P w K mg base CX0 1 f fd ["value"] (spIsName K) := by
  obtain ⟨tL, gL⟩ := T.letters
  obtain ⟨tN, gN⟩ := T.longest
  obtain ⟨aR, gR, hR⟩ := T.reserved
  refine F.ok scIsName (fun vs H Q E h => ?_) (fun cdv A outer s H vs Q E hr h => ?_)
  · obtain ⟨x, rfl, _⟩ := h
    rfl
  · obtain ⟨x, rfl, h⟩ := h
    refine ⟨_, pss_cons
      (ps_if (PW.pt (pw_or (pt_not (pt_val (pe_callB call_isi (by rfl) T.isi (by decide +kernel) (pa_cons (pv 0) (pa_cons (pe_bltn (by rfl) T.str (by decide +kernel) (v := .ty "str") rfl) pa_nil)))))
          (pw_or1 (pt_not (pt_chain op_le op_le pe_int (pe_callB call_len_str (by rfl) T.len PySem.boot_len (pa_cons (pv 0) pa_nil)) (pe_glob rfl gN (v := .int 8) ⟨_, rfl⟩))))))
        (pss_one (ps_ret pe_bl)) pss_nil)
      (pss_one (ps_ret (pe_and (pe_cmpR op_notIn_seq (pv 0) (pe_glob rfl gR (v := .ref aR) rfl) (by rfl))
        (pe_one (pe_callB (cr_all rfl) (by rfl) T.all (by decide +kernel) (pa_cons
          (pe_lc (own := [("sign", 1)]) (g := gName 1) (tt := tYes) rfl scIsName.nd (pi_str (pv 0)) (blkOk_by (N := ["value", "sign"]) (sc := defScope sIsName) (by decide +kernel))
            (fun _ _ _ _ _ => pg_name (i := 1) scIsName.nd rfl (Or.inl rfl)) (fun _ _ _ _ _ => pts_nil) (fun _ _ _ _ _ => pe_cmpR op_in_sign (pv 1) (pe_glob rfl gL (v := .str lettersS) ⟨_, rfl⟩) (by rfl))) pa_nil)))))), ?_⟩
    rcases h with ⟨z, rfl, hz, k⟩ | ⟨t, ht, hk, k⟩
    · have hzl : z.length ≤ sizeLine := small1000 hz |> Nat.le_of_lt
      refine ⟨_, rfl, _, _, .type "str", .type "str", true, rfl, .ty _, .base (.str _), kit_ty (by decide +kernel), _, rfl, iteF ?_⟩
      refine ⟨_, rfl, _, rfl, hzl, _, _, rfl, rfl, _, rfl, ?_⟩
      have e0 : isName z = (decide ((1 : Int) ≤ z.length) && decide ((z.length : Int) ≤ 8) && !inV (.str z) reservedV && z.cps.toList.all fun c => decide (c ∈ lettersS.cps.toList)) := rfl
      by_cases h1 : (1 : Int) ≤ z.length
      · rw [decide_eq_true h1]
        refine iteT ⟨_, _, rfl, rfl, _, rfl, ?_⟩
        by_cases h2 : (z.length : Int) ≤ 8
        · rw [decide_eq_true h2]
          refine iteF ⟨_, rfl, aR, _, rfl, .inr (hR _), rfl, rfl, _, rfl, ?_⟩
          rw [decide_eq_true h1, decide_eq_true h2] at e0
          cases h3 : inV (.str z) reservedV with
          | true =>
            rw [h3] at e0
            refine iteF ?_
            rw [show isName z = false from e0] at k
            exact k _ (Same.refl _)
          | false =>
            rw [h3] at e0
            refine iteT ?_
            refine ⟨_, rfl, z, rfl, fun D hD => lc_it walk_str (fun i H' => Same H H' ∧ H' D = some (.lst (((z.cps.toList.take i).map fun c => decide (c ∈ lettersS.cps.toList)).map V.bl))) ⟨?_, ?_⟩ (fun _ _ _ _ => True.intro) ?_ ?_⟩
            · exact fun b o e => by rw [upd_ne (ne_of_none e hD)]; exact e
            · rw [upd_same]; rfl
            · rintro i x H1 H2 hi ⟨s1, d1⟩ ⟨rfl, c, hc, rfl⟩
              refine ⟨rfl, ?_⟩
              unfold tYes
              dsimp only
              rw [if_pos rfl]
              refine ⟨_, rfl, c, lettersS, rfl, rfl, _, d1, ?_, ?_, ?_⟩
              · rw [List.length_map, List.length_map, List.length_take]
                exact Nat.lt_of_le_of_lt (Nat.min_le_right _ _) (Nat.lt_of_le_of_lt (show z.cps.toList.length ≤ 1000 from hz) (by decide))
              · exact fun b o e => by rw [upd_ne (ne_of_none e hD)]; exact s1 _ _ e
              · rw [upd_same]
                have hc' : z.cps.toList[i]? = some c := by rw [Array.getElem?_toList]; exact hc
                rw [List.take_add_one, hc', List.map_append, List.map_append]
                rfl
            · rintro H1 ⟨s1, d1⟩
              refine ⟨D, (z.cps.toList.take z.cps.size).map (fun c => decide (c ∈ lettersS.cps.toList)), rfl, SqL.of d1, ?_⟩
              have e2 : (z.cps.toList.take z.cps.size) = z.cps.toList := List.take_of_length_le (by rw [Array.length_toList]; exact Nat.le_refl _)
              have e1 : List.all ((z.cps.toList.take z.cps.size).map (fun c => decide (c ∈ lettersS.cps.toList))) id = z.cps.toList.all fun c => decide (c ∈ lettersS.cps.toList) := by
                rw [e2, List.all_map]; rfl
              have e3 : isName z = List.all ((z.cps.toList.take z.cps.size).map (fun c => decide (c ∈ lettersS.cps.toList))) id := by
                rw [e0, e1]; simp
              show Q (.bl (List.all _ id)) H1
              rw [← e3]
              exact k _ s1
        · rw [decide_eq_false h2]
          rw [decide_eq_false h2, Bool.and_false] at e0
          rw [show isName z = false from by rw [e0]; rfl] at k
          exact iteT (k _ (Same.refl _))
      · rw [decide_eq_false h1] at e0 ⊢
        rw [show isName z = false from e0] at k
        exact iteF ⟨_, rfl, iteT (k _ (Same.refl _))⟩
    · refine ⟨_, rfl, _, _, .type t, .type "str", false, rfl, .ty _, ht, kit_ty hk, _, rfl, iteT ?_⟩
      exact iteT k
end
end Sj
namespace Sj
open PySem L2 Sup
open NdefX (NF NScope ncx envF startF nscope_by)
open C8 (pss_cut tCut)
/-- a leg's attributes -/
def legF (z : Str) : List (Str × V) := putF "name" (.str z) []
theorem legF_name (z : Str) : (legF z).lookup ("name" : Str) = some (.str z) := by
  unfold legF
  rw [lookup_putF, if_pos rfl]
def errH (H H' : Hp) (d : Addr) (fld : Str) (v : V) : Prop := H d = none ∧ H' d = some (.xd [(fld, v)]) ∧ Same H H'
/-- X.__init__(self, name) of a leg's class: the wish of an error -/
def spLegI (K : PySem.W.Frag) (CI C : Addr) : Sp := fun vs H Q E => ∃ (p dx : Addr) (x : V), vs = [.ref p, x] ∧ H p = some (.ins C dx []) ∧
  ((∃ z : Str, x = .str z ∧ z.length ≤ 1000 ∧ (isName z = true → ∀ H', H' p = some (.ins C dx (legF z)) → But H H' p → Q .non H') ∧
      (isName z = false → ∀ d H', errH H H' d "reason" (.str "name") → E (.ref CI) (some d) H')) ∨
   ∃ t : String, TyX K H x (.type t) ∧ kitB t "str" = some false ∧ ∀ d H', errH H H' d "reason" (.str "name") → E (.ref CI) (some d) H')
structure LgT (P : Program) (K : PySem.W.Frag) (mg : Str → Option Value) (CI fI f n : Addr) : Prop where
  ex : ExT P K mg CI "reason"
  iC : PySem.W.findIn K (.ref CI) "__init__" = some (some (.ref fI))
  tI : PySem.W.typeIn K (.ref fI) = some (.type "function")
  mI : mg "InvalidFrame" = some (.ref CI)
  mN : mg "is_name" = some (.ref n)
structure LegC (K : PySem.W.Frag) (C : Addr) : Prop where
  cl : Cls K C
  nN : NoAttr K C "name"
section
variable {P : Program} {w : World} {K : PySem.W.Frag} {mg : Str → Option Value} {base : Heap}
theorem scLegI : FnScope ["self", "name"] ["self", "name"] (defScope sLegI) := ⟨rfl, rfl, rfl, by decide +kernel, rfl, by decide +kernel, by decide +kernel⟩
theorem ok_legI {f fI fN CI C c cc : Addr} {fd fdI fdN : FuncData} (F : Fun K "__init__" "Leg.__init__" sLegI f fd) (T : LgT P K mg CI fI f fN) (NT : NmT K mg) (LC : LegC K C)
    (FN : Fun K "is_name" "is_name" sIsName fN fdN) (bN : Binds K fdN ["value"] []) (FI : FunS P K "__init__" "InvalidFrame.__init__" sInv fI fdI c cc CI) (bI : Binds K fdI ["self", "reason"] []) :
    FnOk P w K mg base (L2.CX P w) 3 f fd ["self", "name"] (spLegI K CI C) := by
  have GN : FnOk P w K mg base CX0 1 fN fdN ["value"] (spIsName K) := ok_isname FN NT
  have GI : FnOk P w K mg base CX0 1 fI fdI ["self", "reason"] (spInv K CI) := ok_inv FI T.ex
  refine F.okX scLegI (fun vs H Q E h => ?_) (fun cdv A outer s H vs Q E hr h => ?_)
  · obtain ⟨p, dx, x, rfl, _⟩ := h
    rfl
  · obtain ⟨p, dx, x, rfl, hp, h⟩ := h
    have hr1 : Room 1 _ := hr.mono (by decide)
    refine ⟨_, pss_cons (ps_if (pt_not (pt_val (pe_call GN hr1 rfl T.mN FN.kp bN .nil pass0 (pa_cons (pv 1) pa_nil))))
        (pss_one (ps_raise rfl (takes_of rfl rfl rfl rfl) (pmk_oex T.ex.oex T.iC T.tI GI hr bI .nil pass0 rfl T.mI (pa_cons pe_str pa_nil)))) pss_nil)
      (pss_one (ps_fld (pv 0) (pv 1) rfl)), ?_⟩
    have fin : ∀ H1, Same H H1 → (∀ d H', errH H H' d "reason" (.str "name") → E (.ref CI) (some d) H') →
        tMkO CI (spInv K CI) [] (tCons (tC (.str "name")) tNil) (start ["self", "name"] [.ref p, x]) H1 fun cls d H' => E cls d H' := fun H1 s1 k => by
      refine ⟨by show 1 ≤ 1000; decide, fun a ha => ⟨a, "name", rfl, by decide +kernel, upd_same, fun d hd hda => ⟨rfl, d, [("reason", .str "name")], upd_same, ?_, ?_, ?_⟩⟩⟩
      · rw [upd_ne hda, upd_same]
      · rw [upd_ne hda] at hd
        exact hd
      · refine k d _ ⟨?_, upd_same, fun b o e => ?_⟩
        · rw [upd_ne hda] at hd
          exact s1.free hd
        · rw [upd_ne hda] at hd
          have e1 := s1 _ _ e
          have nbd : b ≠ d := ne_of_none e1 hd
          have nba : b ≠ a := ne_of_none e1 ha
          rw [upd_ne nbd, del_ne nba, upd_ne nba, upd_ne nbd, upd_ne nba]
          exact e1
    rcases h with ⟨z, rfl, hz, k1, k2⟩ | ⟨t, ht, hk, k2⟩
    · refine ⟨_, rfl, _, rfl, .inl ⟨z, rfl, hz, fun H1 s1 => ⟨_, rfl, ?_⟩⟩⟩
      cases hn : isName z with
      | true =>
        refine iteF ⟨_, rfl, _, rfl, p, C, dx, _, rfl, s1 _ _ hp, LC.cl, LC.nN, by show 0 < 1000; decide, ?_⟩
        exact k1 hn _ upd_same fun b o hb e => by rw [upd_ne hb]; exact s1 _ _ e
      | false => exact iteT (fin H1 s1 (k2 hn))
    · refine ⟨_, rfl, _, rfl, .inr ⟨t, ht, hk, ⟨_, rfl, ?_⟩⟩⟩
      exact iteT (fin H (Same.refl _) k2)
end
end Sj
namespace Sj
open PySem L2 Sup
open NdefX (NF NScope ncx envF startF nscope_by)
open C8 (pss_cut tCut)
structure SubT (P : Program) (K : PySem.W.Frag) (mg : Str → Option Value) (C f : Addr) : Prop where
  sup : SupT P K mg C
  hm : PySem.W.ks_superIn K C C "__init__" = some (some (.ref f))
  tf : PySem.W.typeIn K (.ref f) = some (.type "function")
  ff : PySem.W.fnIn K f = true
  hs : PySem.W.mroIn K C (.ref C) = some true
section
variable {P : Program} {w : World} {K : PySem.W.Frag} {mg : Str → Option Value} {base : Heap}
theorem scDrvI : NScope ["self", "name", "__class__"] ["self", "name"] ["__class__"] (defScope sDrvI) := nscope_by (by decide +kernel)
theorem scLisI : NScope ["self", "name", "__class__"] ["self", "name"] ["__class__"] (defScope sLisI) := nscope_by (by decide +kernel)
theorem ok_drvI {fL f CI C c cc : Addr} {fd fdL : FuncData} (F : FunS P K "__init__" "Driver.__init__" sDrvI f fd c cc C) (T : SubT P K mg C fL) (bL : Binds K fdL ["self", "name"] [])
    (GL : FnOk P w K mg base (L2.CX P w) 3 fL fdL ["self", "name"] (spLegI K CI C)) : FnOk P w K mg base (L2.CX P w) 4 f fd ["self", "name"] (spLegI K CI C) := by
  refine fn_super F scDrvI (fun vs H Q E h => ?_) (fun A outer s H vs Q E hr h s1 I => ?_)
  · obtain ⟨p, dx, x, rfl, _⟩ := h
    rfl
  · obtain ⟨p, dx, x, rfl, hp, h⟩ := h
    refine super_own (me := "self") (x := p) (C := C) (E := E) (atS_of F rfl rfl rfl rfl ⟨_, rfl, rfl⟩) T.sup GL hr bL .nil (passes_call (takes_of rfl rfl rfl rfl) fun _ _ _ _ h => h) rfl T.hm T.tf T.ff T.hs (by decide)
      (pa_cons (pv 1) pa_nil) pss_nil I rfl (ins_obj I hp) ?_ rfl rfl rfl rfl rfl
    exact ⟨_, rfl, p, dx, x, rfl, hp, h⟩
theorem ok_lisI {fL f CI C c cc : Addr} {fd fdL : FuncData} (F : FunS P K "__init__" "Listener.__init__" sLisI f fd c cc C) (T : SubT P K mg C fL) (bL : Binds K fdL ["self", "name"] [])
    (GL : FnOk P w K mg base (L2.CX P w) 3 fL fdL ["self", "name"] (spLegI K CI C)) : FnOk P w K mg base (L2.CX P w) 4 f fd ["self", "name"] (spLegI K CI C) := by
  refine fn_super F scLisI (fun vs H Q E h => ?_) (fun A outer s H vs Q E hr h s1 I => ?_)
  · obtain ⟨p, dx, x, rfl, _⟩ := h
    rfl
  · obtain ⟨p, dx, x, rfl, hp, h⟩ := h
    refine super_own (me := "self") (x := p) (C := C) (E := E) (atS_of F rfl rfl rfl rfl ⟨_, rfl, rfl⟩) T.sup GL hr bL .nil (passes_call (takes_of rfl rfl rfl rfl) fun _ _ _ _ h => h) rfl T.hm T.tf T.ff T.hs (by decide)
      (pa_cons (pv 1) pa_nil) pss_nil I rfl (ins_obj I hp) ?_ rfl rfl rfl rfl rfl
    exact ⟨_, rfl, p, dx, x, rfl, hp, h⟩
end
end Sj
namespace Sup
open PySem PySem.Spec PyProof.Rows L2
/-! ### x == y, x != y where x or y is an instance with an __eq__ of its own -/
section
variable {M : Model} {prog : Program} {w : World} {A : Around} {E : Value → Shared → Prop} {s : Shared} {K : PySem.W.Frag} {x C g : Addr} {ox : Obj} {od : Option Obj} {b : Value}
/-- the answer, as it is or turned -/
def ansOf (op : CmpOp) (k : Bool) : Bool := match op with
  | .NotEq => !k
  | _ => k
/-- g gives a truth value that R takes -/
def GivesB (prog : Program) (w : World) (A : Around) (E : Value → Shared → Prop) (g x : Addr) (b : Value) (R : Bool → Shared → Prop) (s : Shared) : Prop :=
  wpAny (model prog w) A (call (.ref g) [.ref x, b]) (fun v s' => ∃ k, v = .bool k ∧ R k s') E s
theorem objNe_own (X : K.In s.heap) (I : PySem.W.InstAt s.heap x ox C od) (hs : PySem.W.findIn K (.ref C) "__eq__" = some (some (.ref g))) (hf : PySem.W.isFn K (.ref g) = true) (hu : A.units < cLine) {Q : Fin → Shared → Prop}
    (h : GivesB prog w A E g x b (fun k s' => Q (.done (.ret (.bool (!k)))) s') s) : wpAny (model prog w) A (Builtin.«object.__ne__» ⟨[.ref x, b], []⟩) Q E s := by
  unfold Builtin.«object.__ne__»
  repeat (first
    | with_reducible refine wpAny_cRoomFor hu ?_
    | (refine wpAny_bind (m := callSpecialIfBound? (.ref x) (Str.ofString "__eq__") [b])
        (PySem.W.ifBound_K X I hs hf (wpAny_mono h (fun r s' hr => by
          obtain ⟨k, rfl, hq⟩ := hr
          repeat (first | exact hq | exact wpAny_pure hq | exact wpAny_truthy_bool hq | (refine wpAny_bind (m := truthy (.bool _)) (wpAny_truthy_bool ?_)) | wp_step)) fun _ _ e => e)))
    | wp_step)
theorem ifBound_objNe {args : List Value} {Q : Option Value → Shared → Prop} (X : K.In s.heap) (I : PySem.W.InstAt s.heap x ox C od) (hs : PySem.W.findIn K (.ref C) "__ne__" = some (some (.builtin "object.__ne__")))
    (h : wpAny M A (call (.builtin "object.__ne__") (.ref x :: args)) (fun v => Q (some v)) E s) : wpAny M A (callSpecialIfBound? (.ref x) "__ne__" args) Q E s := by
  simp only [callSpecialIfBound?, bindSpecialIfBound?]
  refine wpAny_holding (wpAny_bind (wpAny_bind (wpAny_bind (I.type.here ((PySem.W.looks_findIn X hs).here ?_)))))
  refine wpAny_bind (wpAny_askSetting (wpAny_ite ?_))
  have fin : wpAny M A (call (.builtin "object.__ne__") ([.ref x] ++ args) >>= fun v => pure (some v)) Q E s := wpAny_bind (wpAny_mono h (fun v s' h' => wpAny_pure h') fun _ _ h' => h')
  split
  · exact wpAny_bind (wpAny_of_eq (F.cmp_object.ne.bind _) (wpAny_pure (by exact fin)))
  · exact wpAny_tryCatch (wpAny_bind (wpAny_of_eq (F.cmp_object.ne.bind _) (wpAny_pure (by exact fin))))
/-- the instance's own answer -/
theorem try_own {op : CmpOp} (hop : op = .Eq ∨ op = .NotEq) (X : K.In s.heap) (I : PySem.W.InstAt s.heap x ox C od) (hs : PySem.W.findIn K (.ref C) "__eq__" = some (some (.ref g))) (hf : PySem.W.isFn K (.ref g) = true)
    (hn : PySem.W.findIn K (.ref C) "__ne__" = some (some (.builtin "object.__ne__"))) (hm : PySem.W.mroIn K C (.type "object") = some true) (hu : A.in1.units < cLine) {R : Bool → Shared → Prop}
    (h : ∀ A', A' = A ∨ A' = A.in1 → GivesB prog w A' E g x b R s) :
    wpAny (model prog w) A (tryCompare (.ref x) (cmpInfo op).2.1 b) (fun r s' => ∃ k, r = some (.bool (ansOf op k)) ∧ R k s') E s := by
  rcases hop with rfl | rfl
  · unfold tryCompare
    refine wpAny_bind (PySem.W.ifBound_K X I hs hf (wpAny_mono (h A (.inl rfl)) (fun v s' hv => ?_) fun _ _ e => e))
    obtain ⟨k, rfl, hq⟩ := hv
    exact wpAny_pure ⟨k, rfl, hq⟩
  · unfold tryCompare
    refine wpAny_bind (ifBound_objNe X I hn (wpAny_call (codeAny_call_builtin F.cmp_object.ne.plain F.cmpEntry_ne (PySem.W.check_slot F.cmpKind_ne F.cmpSplit_ne (I.type.andThen (PySem.W.looks_mroIn X hm)) (F.cmpArgs_ne _ _)
      (objNe_own X I hs hf hu (wpAny_mono (h A.in1 (.inr rfl)) (fun v s' hv => ?_) fun _ _ e => e))))))
    obtain ⟨k, rfl, hq⟩ := hv
    exact ⟨k, rfl, wpAny_pure ⟨k, rfl, hq⟩⟩
theorem rc_own_left {op : CmpOp} (hop : op = .Eq ∨ op = .NotEq) {tb : Value} {Q : Value → Shared → Prop} (hu : A.units < cLine) (X : K.In s.heap) (I : PySem.W.InstAt s.heap x ox C od) (hb : PySem.W.Looks (model prog w) s.heap (typeOf b) tb) (hn : PySem.W.notFirst K C tb = true)
    {R : Bool → Shared → Prop} (one : wpAny (model prog w) A (tryCompare (.ref x) (cmpInfo op).2.1 b) (fun r s' => ∃ k, r = some (.bool (ansOf op k)) ∧ R k s') E s) (h : ∀ k s', R k s' → Q (.bool (ansOf op k)) s') :
    wpAny (model prog w) A (richCompare op (.ref x) b) Q E s := by
  unfold richCompare
  simp only [oneThing_ref]
  refine wpAny_holding (wpAny_bind (wpAny_cRoomFor hu ?_))
  refine wpAny_bind (I.type.here (wpAny_bind (hb.here ?_)))
  split
  · rename_i q
    have e : PySem.W.subIn K tb (.ref C) = some false := by
      rcases Bool.or_eq_true_iff.mp hn with e | e
      · rw [beq_iff_eq.mp e] at q; simp at q
      · exact beq_iff_eq.mp e
    refine wpAny_bind ((PySem.W.looks_subIn X e).here ?_)
    simp only [Bool.false_eq_true, if_false]
    refine wpAny_bind (wpAny_mono one (fun r s' z => ?_) fun _ _ e => e)
    obtain ⟨k, rfl, hq⟩ := z
    exact wpAny_pure (h _ _ hq)
  · refine wpAny_bind (wpAny_pure ?_)
    simp only [Bool.false_eq_true, if_false]
    refine wpAny_bind (wpAny_mono one (fun r s' z => ?_) fun _ _ e => e)
    obtain ⟨k, rfl, hq⟩ := z
    exact wpAny_pure (h _ _ hq)
/-- the right one's class is below the left one's: it is asked first -/
theorem rc_own_right {op : CmpOp} (hop : op = .Eq ∨ op = .NotEq) {a' D : Addr} {oy : Obj} {od' : Option Obj} {Q : Value → Shared → Prop} (hu : A.units < cLine) (X : K.In s.heap) (I : PySem.W.InstAt s.heap x ox C od) (J : PySem.W.InstAt s.heap a' oy D od')
    (hne : D ≠ C) (hsub : PySem.W.subIn K (.ref D) (.ref C) = some true)
    {R : Bool → Shared → Prop} (one : wpAny (model prog w) A (tryCompare (.ref a') (cmpInfo op).2.1 (.ref x)) (fun r s' => ∃ k, r = some (.bool (ansOf op k)) ∧ R k s') E s) (h : ∀ k s', R k s' → Q (.bool (ansOf op k)) s') :
    wpAny (model prog w) A (richCompare op (.ref x) (.ref a')) Q E s := by
  have hr : (cmpInfo op).2.2 = (cmpInfo op).2.1 := by rcases hop with rfl | rfl <;> rfl
  unfold richCompare
  simp only [oneThing_ref]
  refine wpAny_holding (wpAny_bind (wpAny_cRoomFor hu ?_))
  refine wpAny_bind (I.type.here (wpAny_bind (J.type.here ?_)))
  split
  · refine wpAny_bind ((PySem.W.looks_subIn X hsub).here ?_)
    simp only [if_true]
    rw [hr]
    refine wpAny_bind (wpAny_mono one (fun r s' z => ?_) fun _ _ e => e)
    obtain ⟨k, rfl, hq⟩ := z
    exact wpAny_bind (wpAny_rule (wpAny_pure (h _ _ hq)))
  · rename_i q
    exact absurd (show (Value.ref C != Value.ref D) = true by simp [Ne.symm hne]) q
end
/-- what == asks of the class at C -/
structure EqC (X : Cx) (C : Addr) (sp : Sp) : Prop where
  ex : ∃ (g : Addr) (fd : FuncData) (k : Nat), PySem.W.findIn X.K (.ref C) "__eq__" = some (some (.ref g)) ∧ PySem.W.isFn X.K (.ref g) = true ∧ FnOk X.prog X.w X.K X.mg X.base CX0 k g fd ["self", "other"] sp ∧ Room (k + 1) X.A ∧ Binds X.K fd ["self", "other"] []
  ne : PySem.W.findIn X.K (.ref C) "__ne__" = some (some (.builtin "object.__ne__"))
  ob : PySem.W.mroIn X.K C (.type "object") = some true
def rOwnE (K : PySem.W.Frag) (op : CmpOp) (S : Addr → Prop) (spE : Addr → Sp) : R2 := fun x y H Q => ∃ a C dx fs, x = .ref a ∧ H a = some (.ins C dx fs) ∧ S C ∧
  ((∃ t, TyX K H y t ∧ PySem.W.notFirst K C t = true ∧ spE C [x, y] H (fun z H' => ∃ k, z = .bl k ∧ Q (.bl (ansOf op k)) H') E0) ∨
   ∃ b D dy gs, y = .ref b ∧ H b = some (.ins D dy gs) ∧ S D ∧ D ≠ C ∧ PySem.W.subIn K (.ref D) (.ref C) = some true ∧ spE D [y, x] H (fun z H' => ∃ k, z = .bl k ∧ Q (.bl (ansOf op k)) H') E0)
section
variable {X : Cx} {pins : List (Addr × Obj)} {σ : L2.St} {H : Hp} {s : Shared}
theorem gives_own {A : Around} {g a : Addr} {fd : FuncData} {k : Nat} {sp : Sp} {y : V} {b : Value} {Q' : Bool → Hp → Prop} {E' : Value → Shared → Prop} (F : FnOk X.prog X.w X.K X.mg X.base CX0 k g fd ["self", "other"] sp) (hr : Room k A) (hb : Binds X.K fd ["self", "other"] []) (e0 : Env0 X.prog X.w X.K X.mg X.base A X.stack s H)
    (I : Inv X pins σ H s) (ry : RelV y b) (h : sp [.ref a, y] H (fun z H' => ∃ k, z = .bl k ∧ Q' k H') E0) :
    GivesB X.prog X.w A E' g a b (fun k s' => ∃ H', Inv X pins σ H' s' ∧ Q' k H') s := by
  refine wpAny_call (codeAny_mono (F.run A X.stack s H ⟨[.ref a, b], []⟩ [.ref a, b] [.ref a, y] _ E0 hr e0 (by simpa using hb s [.ref a, b] I.kIn rfl) (.cons rfl (.cons ry .nil)) h) fun r s' hq => ?_)
  cases r with
  | error e => exact False.elim hq
  | ok fl =>
    cases fl with
    | ret u =>
      obtain ⟨v, H', I', rv, k, ev, q⟩ := I.after hq
      subst ev
      exact ⟨k, rv, H', I', q⟩
    | next => exact False.elim hq
    | brk => exact False.elim hq
    | cont => exact False.elim hq
theorem op_ownE {op : CmpOp} (hop : op = .Eq ∨ op = .NotEq) {S : Addr → Prop} {spE : Addr → Sp} (T : ∀ C, S C → EqC X C (spE C)) : OpR X (compareOp op) (rOwnE X.K op S spE) := by
  intro pins s σ H x y v u Q I rx ry h
  obtain ⟨a, C, dx, fs, rfl, ha, hS, h⟩ := h
  obtain rfl : v = Value.ref a := rx
  obtain ⟨mA, O, _⟩ := ins_get I.hok ha
  obtain ⟨od, J, _⟩ := O.look
  have hcmp : compareOp op (.ref a) u = richCompare op (.ref a) u := by rcases hop with rfl | rfl <;> rfl
  rw [hcmp]
  have KX := I.kIn
  rcases h with ⟨t, ht, hn, q⟩ | ⟨b, D, dy, gs, rfl, hb, hSD, hne, hsub, q⟩
  · obtain ⟨⟨g, fd, k, h1, h2, GF, hr, hbd⟩, h3, h4⟩ := T C hS
    obtain ⟨P, KP, hP, _⟩ := kit_of I ry ht
    refine rc_own_left hop hr.units0 KX J (KP.ty _ _ KX hP) hn (R := fun k s' => ∃ H', Inv X pins σ H' s' ∧ Q (.bl (ansOf op k)) H') (try_own hop KX J h1 h2 h3 h4 (Room.in1 hr).units0 fun A' hA => ?_) fun k s' ⟨H', I', qq⟩ => ⟨.bl (ansOf op k), H', I', rfl, qq⟩
    rcases hA with rfl | rfl
    · exact gives_own GF (hr.mono (Nat.le_succ _)) hbd I.env0 I ry q
    · exact gives_own GF (Room.in1 hr) hbd I.env0.in1 I ry q
  · obtain rfl : u = Value.ref b := ry
    obtain ⟨⟨g, fd, k, h1, h2, GF, hr, hbd⟩, h3, h4⟩ := T D hSD
    obtain ⟨mB, O', _⟩ := ins_get I.hok hb
    obtain ⟨od', J', _⟩ := O'.look
    refine rc_own_right hop hr.units0 KX J J' hne hsub (R := fun k s' => ∃ H', Inv X pins σ H' s' ∧ Q (.bl (ansOf op k)) H') (try_own hop KX J' h1 h2 h3 h4 (Room.in1 hr).units0 fun A' hA => ?_) fun k s' ⟨H', I', qq⟩ => ⟨.bl (ansOf op k), H', I', rfl, qq⟩
    rcases hA with rfl | rfl
    · exact gives_own GF (hr.mono (Nat.le_succ _)) hbd I.env0 I (y := .ref a) rfl q
    · exact gives_own GF (Room.in1 hr) hbd I.env0.in1 I (y := .ref a) rfl q
end
end Sup
namespace Sup
open PySem PySem.Spec PyProof.Rows L2
end Sup
namespace Sj
open PySem L2 Sup
open NdefX (NF NScope ncx envF startF nscope_by)
open C8 (pss_cut tCut)
abbrev sLeg (i : Nat) : Stmt := inClass (top 16) i
abbrev sDrv (i : Nat) : Stmt := inClass (top 17) i
abbrev sLis (i : Nat) : Stmt := inClass (top 18) i
/-- a leg of the class at C with the name z stands at a -/
def LegAt (H : Hp) (a C : Addr) (z : Str) : Prop := ∃ dx, H a = some (.ins C dx (legF z))
theorem LegAt.same {H H' : Hp} {a C : Addr} {z : Str} (h : LegAt H a C z) (s : Same H H') : LegAt H' a C z := h.imp fun _ e => s _ _ e
def spDr (C : Addr) (b : Bool) : Sp := fun vs H Q _ => ∃ a z, vs = [.ref a] ∧ LegAt H a C z ∧ Q (.bl b) H
/-- the facts of a class that isinstance asks -/
structure IsiC (K : PySem.W.Frag) (C : Addr) : Prop where
  cl : Cls K C
  ca : PySem.W.findIn K (.ref C) "__class__" = some (some (.builtin "object.__class__"))
  cn : PySem.W.specialIn K (.builtin "object.__class__") "__get__" = some (some (.builtin "getset_descriptor.__get__"))
  ct : PySem.W.takesIn K (.builtin "object.__class__") = some true
  cm : PySem.W.mroIn K C (.type "object") = some true
theorem LegAt.ty {K : PySem.W.Frag} {H : Hp} {a C : Addr} {z : Str} (h : LegAt H a C z) (c : IsiC K C) : TyX K H (.ref a) (.ref C) := by
  obtain ⟨dx, e⟩ := h
  exact .base (.ins e c.cl c.ca c.cn c.ct c.cm)
/-- C's __eq__: a leg of the class at C itself, or a value that is no C -/
def spEq (K : PySem.W.Frag) (C : Addr) : Sp := fun vs H Q _ => ∃ a z y, vs = [.ref a, y] ∧ LegAt H a C z ∧
  ((∃ b z', y = .ref b ∧ LegAt H b C z' ∧ Q (.bl (decide (z = z'))) H) ∨ ∃ t, TyX K H y t ∧ PySem.W.kitOne K t (.ref C) = some false ∧ Q (.bl false) H)
structure EqT (K : PySem.W.Frag) (mg : Str → Option Value) (C : Addr) (nm : Str) : Prop where
  isi : mg "isinstance" = none
  mC : mg nm = some (.ref C)
  ic : IsiC K C
  self : PySem.W.kitOne K (.ref C) (.ref C) = some true
  nN : NoAttr K C "name"
section
variable {P : Program} {w : World} {K : PySem.W.Frag} {mg : Str → Option Value} {base : Heap}
theorem scS1 {st : Stmt} (h : defScope st = defScope (sLeg 2)) : FnScope ["self"] ["self"] (defScope st) := by
  rw [h]
  exact ⟨rfl, rfl, rfl, by decide +kernel, rfl, by decide +kernel, by decide +kernel⟩
theorem ok_drives {f C : Addr} {fd : FuncData} {st : Stmt} {q : Str} {b : Bool} {p1 p2 : Pos} {i1 : Nat} (F : Fun K "drives" q st f fd) (hs : defScope st = defScope (sLeg 2)) (hb : defBody st = [.Return (some (.Constant (.bool b) i1 p1)) p2]) :
    FnOk P w K mg base CX0 1 f fd ["self"] (spDr C b) := by
  refine F.ok (scS1 hs) (fun vs H Q E h => ?_) (fun cdv A outer s H vs Q E hr h => ?_)
  · obtain ⟨a, z, rfl, _⟩ := h
    rfl
  · obtain ⟨a, z, rfl, _, k⟩ := h
    rw [hb]
    exact ⟨_, pss_one (ps_ret pe_bl), k⟩
theorem scEqD : FnScope ["self", "other"] ["self", "other"] (defScope (sDrv 3)) := ⟨rfl, rfl, rfl, by decide +kernel, rfl, by decide +kernel, by decide +kernel⟩
theorem scEqI : FnScope ["self", "other"] ["self", "other"] (defScope (sLis 3)) := ⟨rfl, rfl, rfl, by decide +kernel, rfl, by decide +kernel, by decide +kernel⟩
theorem str_eq (z z' : Str) : decide (V.str z = V.str z') = decide (z = z') := by
  by_cases h : z = z'
  · rw [decide_eq_true h, h]; exact decide_eq_true rfl
  · rw [decide_eq_false h]; exact decide_eq_false fun e => h (V.str.inj e)
theorem ok_eqD {f C : Addr} {fd : FuncData} (F : Fun K "__eq__" "Driver.__eq__" (sDrv 3) f fd) (T : EqT K mg C "Driver") : FnOk P w K mg base CX0 1 f fd ["self", "other"] (spEq K C) := by
  refine F.ok scEqD (fun vs H Q E h => ?_) (fun cdv A outer s H vs Q E hr h => ?_)
  · obtain ⟨a, z, y, rfl, _⟩ := h
    rfl
  · obtain ⟨a, z, y, rfl, ha, h⟩ := h
    refine ⟨_, pss_one (ps_ret (pe_and (pe_callB call_isi (by rfl) T.isi (by decide +kernel) (pa_cons (pv 1) (pa_cons (pe_glob rfl T.mC (v := .ref C) rfl) pa_nil)))
      (pe_one (pe_cmpR op_eq (pe_fld (pv 0) rfl) (pe_fld (pv 1) rfl) (nomark _))))), ?_⟩
    rcases h with ⟨b, z', rfl, hb, k⟩ | ⟨t, ht, hk, k⟩
    · obtain ⟨dx, ea⟩ := id ha
      obtain ⟨dy, eb⟩ := id hb
      refine ⟨_, rfl, _, _, .ref C, .ref C, true, rfl, .own _, hb.ty T.ic, T.self, _, rfl, iteT ?_⟩
      refine ⟨_, rfl, a, C, dx, _, _, rfl, ea, T.ic.cl, T.nN, legF_name _, _, rfl, b, C, dy, _, _, rfl, eb, T.ic.cl, T.nN, legF_name _, rfl, ?_⟩
      show Q (.bl (decide (V.str z = V.str z'))) H
      rw [str_eq]
      exact k
    · exact ⟨_, rfl, _, _, t, .ref C, false, rfl, .own _, ht, hk, _, rfl, iteF k⟩
theorem ok_eqI {f C : Addr} {fd : FuncData} (F : Fun K "__eq__" "Listener.__eq__" (sLis 3) f fd) (T : EqT K mg C "Listener") : FnOk P w K mg base CX0 1 f fd ["self", "other"] (spEq K C) := by
  refine F.ok scEqI (fun vs H Q E h => ?_) (fun cdv A outer s H vs Q E hr h => ?_)
  · obtain ⟨a, z, y, rfl, _⟩ := h
    rfl
  · obtain ⟨a, z, y, rfl, ha, h⟩ := h
    refine ⟨_, pss_one (ps_ret (pe_and (pe_callB call_isi (by rfl) T.isi (by decide +kernel) (pa_cons (pv 1) (pa_cons (pe_glob rfl T.mC (v := .ref C) rfl) pa_nil)))
      (pe_one (pe_cmpR op_eq (pe_fld (pv 0) rfl) (pe_fld (pv 1) rfl) (nomark _))))), ?_⟩
    rcases h with ⟨b, z', rfl, hb, k⟩ | ⟨t, ht, hk, k⟩
    · obtain ⟨dx, ea⟩ := id ha
      obtain ⟨dy, eb⟩ := id hb
      refine ⟨_, rfl, _, _, .ref C, .ref C, true, rfl, .own _, hb.ty T.ic, T.self, _, rfl, iteT ?_⟩
      refine ⟨_, rfl, a, C, dx, _, _, rfl, ea, T.ic.cl, T.nN, legF_name _, _, rfl, b, C, dy, _, _, rfl, eb, T.ic.cl, T.nN, legF_name _, rfl, ?_⟩
      show Q (.bl (decide (V.str z = V.str z'))) H
      rw [str_eq]
      exact k
    · exact ⟨_, rfl, _, _, t, .ref C, false, rfl, .own _, ht, hk, _, rfl, iteF k⟩
end
end Sj
/-! {e for x in xs if ..}, e an int or a text (SetK), and len of such a set -/
namespace SetT
open PySem PySem.Spec PyProof.Rows L2
/-- the empty set at D -/
abbrev zeroK (P : Program) (w : World) (D : Addr) : HO := SetK P w D (fun _ => false) 0
/-- y is added to the set at D, then Nx -/
def rAdd (P : Program) (w : World) (D : Addr) (y : V) (H : Hp) (Nx : Hp → Prop) : Prop := ∃ (c : Key) (S : Key → Bool) (n : Nat), y = kV c ∧ H D = some (SetK P w D S n) ∧ n + 1 < scanBound ∧ Nx (upd H D (SetK P w D (fun j => S j || decide (j = c)) (if S c = true then n else n + 1)))
/-- one turn's reading -/
def turnT (P : Program) (w : World) (D : Addr) (g : TG) (tt : TT) (te : TE) (vs : List Nat) (σ : L2.St) (Nx : Hp → Prop) (x : V) (H : Hp) : Prop :=
  g x (wipe σ vs) H fun σ2 H2 => wipe σ2 vs = wipe σ vs ∧ tt σ2 H2 fun b H3 => if b = true then te σ2 H3 fun y H4 => rAdd P w D y H4 Nx else Nx H3
/-- all turns: W i m: ahead of turn i, m falls -/
def loopT (P : Program) (w : World) (D : Addr) (J : It) (g : TG) (tt : TT) (te : TE) (vs : List Nat) (σ : L2.St) (W : Nat → Nat → Hp → Prop) (Qd : Hp → Prop) : Prop :=
  ∀ i m H, W i m H → (J.stop i H ∧ Qd H) ∨ (J.go i H ∧ ∃ Nx : Hp → Prop, (∀ H', Nx H' → ∃ m', m' < m ∧ W (i + 1) m' H') ∧ ∀ x H', J.yld i H x H' → turnT P w D g tt te vs σ Nx x H')
def tSet (P : Program) (w : World) (wi : TI) (g : TG) (tt : TT) (te : TE) (vs : List Nat) : TE := fun σ H Q => wi σ H fun J H1 => ∀ D, H1 D = none → ∃ W : Nat → Nat → Hp → Prop, (∃ m, W 0 m (upd H1 D (zeroK P w D))) ∧ loopT P w D J g tt te vs σ W (Q (.ref D))
section
variable {X : Cx}
theorem zero_new {P : Program} {w : World} {h : Heap} : (h.push { cls := .type "set", dict := none, data := .set #[] 0 (.fresh 0 0 (!w.params.followText "set-order")) }).SetOf (mixKind P w) h.objs.size (fun _ => false) 0 :=
  ⟨_, #[], 0, _, Heap.get?_push_size _ rfl, ⟨rfl, rfl, rfl⟩, rfl, (fun e he => by simp at he), (fun k => by simp), (by decide), (by rfl), rfl⟩
/-- the loop in the block's context Y -/
theorem loop_run {Y : Cx} {elt tg iter : Expr} {ifs : List Expr} {scope : Scope} {pos : Pos} {it D : Addr} {J : It} {g : TG} {tt : TT} {te : TE} {vs : List Nat} {fp : List Addr} {tn : Nat → Heap → Prop} {σ : L2.St} {W : Nat → Nat → Hp → Prop} {Qd : Hp → Prop} {R : Result → Shared → Prop}
    (hc : Y.calm = true) (T : Turn Y.prog Y.w Y.K tg J fp it tn) (hg : PG Y tg g) (ht : PTs Y ifs tt) (he : PE Y elt te) (hl : loopT Y.prog Y.w D J g tt te vs σ W Qd)
    (xe : ∀ e s', Y.xe e s' → notedBy (model Y.prog Y.w) Y.A Y.env (fun e s' => R (.error e) s') e s')
    (stat : ∀ (σ' : L2.St) (H' : Hp) (s' : Shared), Inv Y [] σ' H' s' → (∀ b ∈ fp, H' b = none) → ∀ b ∈ fp, FpOk Y [] H' b)
    (fin : ∀ i s' H', Inv Y [] (wipe σ vs) H' s' → tn i s'.heap → (∀ b ∈ fp, H' b = none) → J.stop i H' → Qd H' → ∀ s6, Inv Y [] (wipe σ vs) H' s6 → R (.ok .next) s6)
    {i m : Nat} {H : Hp} {s : Shared} (I : Inv Y [] (wipe σ vs) H s) (st : tn i s.heap) (nf : ∀ b ∈ fp, H b = none) (hw : W i m H) :
    codeAny (model Y.prog Y.w) Y.A (.compLoop (.SetComp elt [⟨tg, iter, ifs, 0⟩] scope pos) 0 (.ref it) (.ref D) Y.env) R s := by
  refine PpSet.compLoopS_any (fun n s' => ∃ i H', Inv Y [] (wipe σ vs) H' s' ∧ tn i s'.heap ∧ (∀ b ∈ fp, H' b = none) ∧ W i n H') ?_ m ⟨i, H, I, st, nf, hw⟩
  rintro n s5 ⟨i, H5, I5, st5, n5, w5⟩
  rcases hl i n H5 w5 with ⟨stop, qq⟩ | ⟨go, Nx, hNx, step⟩
  · refine thnF (T.done Y rfl rfl rfl hc i [] s5 _ H5 (fun _ _ => False) I5 (stat _ _ _ I5 n5) st5 stop) fun r s6 ⟨hr, I6⟩ => ?_
    subst hr
    exact fin i s5 H5 I5 st5 n5 stop qq s6 I6
  · refine thnF (T.item Y rfl rfl rfl hc i [] s5 _ H5 (fun _ _ => False) I5 (stat _ _ _ I5 n5) st5 go) fun r s6 ⟨u, hr, h6⟩ => ?_
    subst hr
    refine thnF h6 fun _ s7 ⟨x, H7, I7, r7, y7, st7, n7⟩ => ?_
    have I7' := I7.pinned (stat _ _ _ I7 n7) (T.obj _ _ st7)
    refine wpAny_mono (hg.run _ s7 _ H7 x u _ I7' r7 (step x H7 y7)) (fun _ s8 ⟨σ8, H8, I8, hw8, q8⟩ => ?_) xe
    -- what stands when a turn is through
    have back : ∀ {s' : Shared} {H' : Hp}, Inv Y ([] ++ pinsAt fp s7.heap) σ8 H' s' → Nx H' → ∃ m, m < n ∧ ∃ i H', Inv Y [] (wipe σ vs) H' s' ∧ tn i s'.heap ∧ (∀ b ∈ fp, H' b = none) ∧ W i m H' := fun {s' H'} I' nx => by
      obtain ⟨m', hm, w'⟩ := hNx H' nx
      have held : ∀ b ∈ fp, ∀ o, s7.heap.get? b = some o → s'.heap.get? b = some o ∧ H' b = none := fun b hb o e => by
        have z := I'.pin (b, o) (List.mem_append_right _ (List.mem_append_right _ (mem_pinsAt hb e)))
        exact ⟨z.1, z.2.1⟩
      refine ⟨m', hm, i + 1, H', ?_, T.keep _ _ _ st7 fun b hb o e => (held b hb o e).1, fun b hb => ?_, w'⟩
      · refine (I'.unpinned (pins := [])).weak (by rw [← hw8, wipe_length]) fun j v e => ?_
        rw [← hw8] at e
        exact (wipe_some e).1
      · obtain ⟨o, e, _⟩ := T.obj _ _ st7 b hb
        exact (held b hb o e).2
    refine wpAny_mono (ht.run _ s8 σ8 H8 _ I8 q8) (fun b s9 ⟨H9, I9, q9⟩ => ?_) xe
    cases b with
    | false =>
      simp only [Bool.false_eq_true, if_false] at q9 ⊢
      exact back I9 q9
    | true =>
      simp only [if_true] at q9 ⊢
      refine wpAny_mono (he.run _ s9 σ8 H9 _ I9 q9) (fun z s10 ⟨yv, H10, I10, r10, c, S, n0, ey, hD, hz, nx⟩ => ?_) xe
      refine wpAny_mono (mt_saddK _ s10 σ8 H10 (.ref D) [yv] (.ref D) [z] (fun _ H' => Nx H') I10 rfl (.cons r10 .nil) ⟨D, c, S, n0, rfl, by rw [ey], hD, hz, nx⟩) (fun _ s11 ⟨_, H11, I11, _, q11⟩ => back I11 q11) xe
/-- the block's start, the set at D laid -/
theorem start_run {elt tg iter : Expr} {ifs : List Expr} {scope : Scope} {own : List (PySem.Str × Nat)} {pos : Pos} {J : It} {g : TG} {tt : TT} {te : TE} {pins : List (Addr × Obj)} {σ : L2.St} {s3 : Shared} {H3 : Hp} {it D : Addr} {fp : List Addr} {tn : Nat → Heap → Prop} {W : Nat → Nat → Hp → Prop} {m0 : Nat} {Q : VK}
    (hc : X.calm = true) (hN : X.N.Nodup) (ok : BlkOk X.N X.env.scope scope own) (I3 : Inv X pins σ H3 s3) (f3 : ∀ b ∈ fp, FpOk X pins H3 b ∧ b < s3.heap.objs.size) (T : Turn X.prog X.w X.K tg J fp it tn) (st3 : tn 0 s3.heap)
    (hg : ∀ (s : Shared) (H : Hp) (C : Addr) (cl : List (PySem.Str × Addr)) (fp : List Addr), PG (X.blk s H scope (compEnvC scope cl C X.env) fp) tg g) (ht : ∀ (s : Shared) (H : Hp) (C : Addr) (cl : List (PySem.Str × Addr)) (fp : List Addr), PTs (X.blk s H scope (compEnvC scope cl C X.env) fp) ifs tt)
    (he : ∀ (s : Shared) (H : Hp) (C : Addr) (cl : List (PySem.Str × Addr)) (fp : List Addr), PE (X.blk s H scope (compEnvC scope cl C X.env) fp) elt te) (w0 : W 0 m0 H3) (hl : loopT X.prog X.w D J g tt te (own.map (·.2)) σ W (Q (.ref D))) :
    codeAny (model X.prog X.w) X.A (.compStart (.SetComp elt [⟨tg, iter, ifs, 0⟩] scope pos) 0 (.ref it) (.ref D) (compEnvC scope (cellsFrom (s3.heap.objs.size + 1) scope.names (cloFrom X.env.cells scope.names [])) s3.heap.objs.size X.env))
      (compPost (model X.prog X.w) X.A X.xe none (EP X pins σ Q) (.ref D) s3.heap.objs.size) { s3 with heap := pushCells (s3.heap.push { cls := .type "dict", data := .dict #[] }) scope.names } := by
  have I4 := block_start I3 ok hN f3
  have st4 := T.keep _ _ (pushCells (s3.heap.push { cls := .type "dict", data := .dict #[] }) scope.names) st3 fun b _ o e => pushCells_keeps _ _ _ _ (Heap.get?_push_of_some _ e)
  have loop := loop_run (Y := X.blk s3 H3 scope (compEnvC scope (cellsFrom (s3.heap.objs.size + 1) scope.names (cloFrom X.env.cells scope.names [])) s3.heap.objs.size X.env) fp) (elt := elt) (iter := iter) (scope := scope) (pos := pos)
    (R := compPost (model X.prog X.w) X.A X.xe none (EP X pins σ Q) (.ref D) s3.heap.objs.size) hc T (hg _ _ _ _ _) (ht _ _ _ _ _) (he _ _ _ _ _) hl (fun _ _ z => False.elim z)
    (fun σ' H' s' I' hn b hb => ⟨hn b hb, (I'.ok.exf b hb).1, I'.ok.exfs b hb, .inl hb, fun x c e => (I'.ok.exf b hb).2 x c e, fun p hp => absurd (show p ∈ ([] : List (Addr × Obj)) ++ [] from hp) (by simp)⟩)
    (fun i s' H' I' _ _ _ qd s6 I6 => ?_) I4 st4 (fun b hb => (f3 b hb).1.1) w0
  · exact PpSet.codeAny_compStart_set loop (T.self X.A 0 _ _ _ st4 loop)
  · have I7 : Inv X pins σ H' s6 := I3.call' (ch := fp) I6.os I6.base I6.hok I6.bare fun b hb => ⟨(f3 b hb).1.2.2.2.1, (f3 b hb).1.2.1, (f3 b hb).1.2.2.2.2.1, (f3 b hb).1.2.2.2.2.2⟩
    have nC : H' s3.heap.objs.size = none := I6.free
    obtain ⟨m, hn, _⟩ := I6.loc
    obtain ⟨f0, f1, f2', f4, f5, f6⟩ := I3.fpOk (H' := H') (Nat.le_refl _) nC
    exact ⟨m, hn, fun h'' sb => ⟨.ref D, H', I7.turned (t' := s6.toks) (fun b o hb e => (sb.2 b hb).trans e) f0 f1 f4 f5 f6, rfl, qd⟩⟩
/-- {e for x in xs if ..} -/
theorem pe_set {elt tg iter : Expr} {ifs : List Expr} {scope : Scope} {own : List (PySem.Str × Nat)} {pos : Pos} {wi : TI} {g : TG} {tt : TT} {te : TE} (hc : X.calm = true) (hN : X.N.Nodup) (hi : PI X tg iter wi) (ok : BlkOk X.N X.env.scope scope own)
    (hg : ∀ (s : Shared) (H : Hp) (C : Addr) (cl : List (PySem.Str × Addr)) (fp : List Addr), PG (X.blk s H scope (compEnvC scope cl C X.env) fp) tg g) (ht : ∀ (s : Shared) (H : Hp) (C : Addr) (cl : List (PySem.Str × Addr)) (fp : List Addr), PTs (X.blk s H scope (compEnvC scope cl C X.env) fp) ifs tt)
    (he : ∀ (s : Shared) (H : Hp) (C : Addr) (cl : List (PySem.Str × Addr)) (fp : List Addr), PE (X.blk s H scope (compEnvC scope cl C X.env) fp) elt te) (hs : ∀ x, foldedSetIterable iter X.env x = pure x := by intro _; rfl) :
    PE X (.SetComp elt [⟨tg, iter, ifs, 0⟩] scope pos) (tSet X.prog X.w wi g tt te (own.map (·.2))) := by
  refine ⟨fun pins s σ H Q I h => ?_⟩
  have hfree : ∀ y ∈ scope.names, y.2 = .free → ∃ c, X.env.cells.lookup y.1 = some c := fun y hy e => (ok.free y hy e).elim (fun k => I.ok.has _ (.inl k)) fun k => I.ok.has _ (.inr k)
  rw [PpSet.eval_SetComp]
  refine wpAny_comprehension_free (use := none) rfl hs (closure_ok hfree) ok.kind (fun y hy e => by rw [ok.uniq y hy, e]) (thn (hi.run pins s σ H _ I h) fun xv s1 hx => thn hx fun itv s2 h2 => ?_)
  obtain ⟨it, fp, tn, J, H2, e, I2, T, st2, f2, q⟩ := h2
  subst e
  refine PpSet.newSet_ok (newEnv_comp ?_)
  obtain ⟨W, ⟨m0, w0⟩, hl⟩ := q _ (I2.hok.fresh (Nat.le_refl s2.heap.objs.size))
  have kp : ∀ b o, s2.heap.get? b = some o → (s2.heap.push { cls := .type "set", dict := none, data := .set #[] 0 (.fresh 0 0 (!X.w.params.followText "set-order")) }).get? b = some o := fun b o e => Heap.get?_push_of_some _ e
  refine start_run (s3 := { s2 with heap := s2.heap.push { cls := .type "set", dict := none, data := .set #[] 0 (.fresh 0 0 (!X.w.params.followText "set-order")) } }) hc hN ok
    (I2.laid (t' := s2.toks) kp (Nat.le_refl _) (setK_new (P := X.prog) (w := X.w) (H := upd H2 s2.heap.objs.size (zeroK X.prog X.w s2.heap.objs.size)) zero_new)) (fun b hb => ?_) T (T.keep _ _ _ st2 fun b _ o e => kp b o e) hg ht he w0 hl
  obtain ⟨o, e, _⟩ := T.obj _ _ st2 b hb
  have lt := Heap.lt_size e
  refine ⟨⟨?_, (f2 b hb).2⟩, by rw [Heap.size_push]; exact Nat.lt_succ_of_lt lt⟩
  rw [upd_ne (Nat.ne_of_lt lt)]
  exact (f2 b hb).1
/-- len of such a set -/
theorem call_len_setK : CallR X (.builtin "len") (fun xs H Q => ∃ p S n, xs = [.ref p] ∧ H p = some (SetK X.prog X.w p S n) ∧ Q (.int n) H) := by
  intro pins s σ H xs us Q I r h
  obtain ⟨p, S, n, rfl, hp, q⟩ := h
  obtain ⟨u, rfl, rx⟩ := vals1 r
  cases rx
  obtain ⟨o, es, ep, t, ho, hex, hd, _, _, hb, hf, hn⟩ := setK_get I hp
  exact call_len_set ho hex hd hf (Int.lt_trans (Int.ofNat_lt.mpr hb) (by decide)) ⟨.int n, H, I.tok _, ⟨_, by rw [hn]⟩, q⟩
end
/-- over a walk -/
theorem set_it {J : It} {n : Nat} {G : Hp → Prop} {Y : Nat → Hp → V → Hp → Prop} (wk : Walk J n G Y) {P : Program} {w : World} {g : TG} {tt : TT} {te : TE} {vs : List Nat} {σ : L2.St} {H1 : Hp} {D : Addr} {Qd : Hp → Prop} (Pv : Nat → Hp → Prop) (h0 : Pv 0 (upd H1 D (zeroK P w D))) (hG : ∀ i H, i ≤ n → Pv i H → G H)
    (hs : ∀ i x H H', i < n → Pv i H → Y i H x H' → turnT P w D g tt te vs σ (Pv (i + 1)) x H') (hd : ∀ H, Pv n H → Qd H) :
    ∃ W : Nat → Nat → Hp → Prop, (∃ m, W 0 m (upd H1 D (zeroK P w D))) ∧ loopT P w D J g tt te vs σ W Qd := by
  refine ⟨fun i m H => m + i = n ∧ Pv i H, ⟨n, rfl, h0⟩, fun i m H ⟨e, p⟩ => ?_⟩
  have q := hG i H (by omega) p
  match m, e with
  | 0, e =>
    obtain rfl : i = n := by omega
    exact .inl ⟨wk.stops H q, hd H p⟩
  | m + 1, e => exact .inr ⟨wk.goes i H (by omega) q, Pv (i + 1), fun H' p' => ⟨m, Nat.lt_succ_self m, by omega, p'⟩, fun x H' y => hs i x H H' (by omega) p (wk.yields i H x H' (by omega) q y)⟩
/-- {k: v for ..} over a walk -/
theorem dict_it {J : It} {n : Nat} {G : Hp → Prop} {Y : Nat → Hp → V → Hp → Prop} (wk : Walk J n G Y) {g : TG} {tt : TT} {tk tv : TE} {vs : List Nat} {σ : L2.St} {H1 : Hp} {D : Addr} {Qd : Hp → Prop} (Pv : Nat → Hp → Prop) (h0 : Pv 0 (upd H1 D (.dK []))) (hG : ∀ i H, i ≤ n → Pv i H → G H)
    (hs : ∀ i x H H', i < n → Pv i H → Y i H x H' → g x (wipe σ vs) H' fun σ2 H2 => wipe σ2 vs = wipe σ vs ∧ tt σ2 H2 fun b H3 =>
      if b = true then tk σ2 H3 fun y H4 => tv σ2 H4 fun z H5 => ∃ kvs k, y = kV k ∧ H5 D = some (.dK kvs) ∧ kvs.length < sizeLine ∧ Pv (i + 1) (upd H5 D (.dK (putK kvs k z))) else Pv (i + 1) H3) (hd : ∀ H, Pv n H → Qd H) :
    ∃ W : Nat → Nat → Hp → Prop, (∃ m, W 0 m (upd H1 D (.dK []))) ∧ ∀ i m H, W i m H →
      (J.stop i H ∧ Qd H) ∨ (J.go i H ∧ ∃ Nx : Hp → Prop, (∀ H', Nx H' → ∃ m', m' < m ∧ W (i + 1) m' H') ∧ ∀ x H', J.yld i H x H' → g x (wipe σ vs) H' fun σ2 H2 => wipe σ2 vs = wipe σ vs ∧ tt σ2 H2 fun b H3 =>
        if b = true then tk σ2 H3 fun y H4 => tv σ2 H4 fun z H5 => ∃ kvs k, y = kV k ∧ H5 D = some (.dK kvs) ∧ kvs.length < sizeLine ∧ Nx (upd H5 D (.dK (putK kvs k z))) else Nx H3) := by
  refine ⟨fun i m H => m + i = n ∧ Pv i H, ⟨n, rfl, h0⟩, fun i m H ⟨e, p⟩ => ?_⟩
  have q := hG i H (by omega) p
  match m, e with
  | 0, e =>
    obtain rfl : i = n := by omega
    exact .inl ⟨wk.stops H q, hd H p⟩
  | m + 1, e => exact .inr ⟨wk.goes i H (by omega) q, Pv (i + 1), fun H' p' => ⟨m, Nat.lt_succ_self m, by omega, p'⟩, fun x H' y => hs i x H H' (by omega) p (wk.yields i H x H' (by omega) q y)⟩
/-! ### how many unlike ones -/
def nd : List Str → Nat
  | [] => 0
  | x :: xs => if x ∈ xs then nd xs else nd xs + 1
theorem nd_le : ∀ xs : List Str, nd xs ≤ xs.length
  | [] => Nat.le_refl 0
  | x :: xs => by
    have := nd_le xs
    unfold nd
    rw [List.length_cons]
    split <;> omega
theorem nd_iff : ∀ xs : List Str, nd xs < xs.length ↔ ¬ xs.Nodup
  | [] => by simp [nd]
  | x :: xs => by
    have h1 := nd_le xs
    have h2 := nd_iff xs
    unfold nd
    rw [List.length_cons, List.nodup_cons]
    by_cases hx : x ∈ xs
    · rw [if_pos hx]
      exact ⟨fun _ z => z.1 hx, fun _ => by omega⟩
    · rw [if_neg hx]
      constructor
      · intro h z
        exact h2.mp (by omega) z.2
      · intro h
        have : nd xs < xs.length := h2.mpr fun z => h ⟨hx, z⟩
        omega
end SetT
/-! defs with *args and keyword-only parameters, called with keywords; C(*y, k = v), C.m(e, k = v) -/
namespace StK
open PySem PySem.Spec PyProof.Rows L2
open StX
/-- as KwChain, but r is what is left to be done -/
def KwEnd {α : Type} (D : Addr) : List (Str × Value) → Sem α → Sem α → Prop
  | [], t, r => t = r
  | q :: l, t, r => ∃ (β γ : Type) (k1 : Option Value → Sem β) (k2 : β → Sem γ) (k3 : γ → Sem α) (a : β), t = ((nsGet D q.1 >>= k1) >>= k2) >>= k3 ∧ k1 (some q.2) = pure a ∧ KwEnd D l (k2 a >>= k3) r
theorem KwEnd.run {α : Type} {K : PySem.W.Frag} {M : Model} {A : Around} {Ex : Value → Shared → Prop} {Q : α → Shared → Prop} {s : Shared} {D : Addr} (X : K.In s.heap) : ∀ {l : List (Str × Value)} {t r : Sem α}, (∀ q ∈ l, PySem.W.nsIn K D q.1 = some (some q.2)) → KwEnd D l t r → wpAny M A r Q Ex s → wpAny M A t Q Ex s
  | [], t, r, _, e, h => by
    obtain rfl : t = r := e
    exact h
  | q :: l, t, r, hl, e, h => by
    obtain ⟨β, γ, k1, k2, k3, a, e1, e2, e3⟩ := e
    have l1 : PySem.W.Looks M s.heap (nsGet D q.1 >>= k1) a := (PySem.W.looks_nsIn X (hl q (List.mem_cons_self ..))).andThen (PySem.W.Looks.of_pure e2)
    rw [e1, bind_assoc]
    exact wpAny_bind (l1.here (KwEnd.run X (fun p hp => hl p (List.mem_cons_of_mem _ hp)) e3 h))
/-- a promise by positional values and by the values of the keywords ks -/
def FnK (P : Program) (w : World) (K : PySem.W.Frag) (mg : Str → Option Value) (base : Heap) (CX : CXT) (k : Nat) (f : Addr) (ks : List Str) (sp : List V → List V → Hp → VK → XK → Prop) : Prop :=
  ∀ (A : Around) (outer : List Env) (s : Shared) (H : Hp) (us ws : List Value) (vs zs : List V) (Q : VK) (E : XK), Room k A → Env0 P w K mg base A outer s H → Vals vs us → Vals zs ws → zs.length = ks.length → sp vs zs H Q E →
    codeAny (model P w) A (.call (.ref f) ⟨us, ks.zip ws⟩) (CR CX outer P w H s Q E) s
section
variable {CX : CXT} {P : Program} {w : World} {K : PySem.W.Frag} {mg : Str → Option Value} {base : Heap} {k : Nat} {f : Addr} {x qual : Str} {params : Arguments} {body : List Stmt} {scope : Scope} {kws : List (Str × V)} {fd : FuncData} {N ps : List Str} {sp : Sp}
theorem FnK.mono {j : Nat} {ks : List Str} {sp : List V → List V → Hp → VK → XK → Prop} (F : FnK P w K mg base CX j f ks sp) (h : j ≤ k) : FnK P w K mg base CX k f ks sp := fun A outer s H us ws vs zs Q E hr => F A outer s H us ws vs zs Q E (hr.mono h)
theorem FnK.imp {ks : List Str} {sp sp' : List V → List V → Hp → VK → XK → Prop} (F : FnK P w K mg base CX k f ks sp) (h : ∀ vs zs H Q E, sp' vs zs H Q E → sp vs zs H Q E) : FnK P w K mg base CX k f ks sp' := fun A outer s H us ws vs zs Q E hr e0 r rz hl hs => F A outer s H us ws vs zs Q E hr e0 r rz hl (h _ _ _ _ _ hs)
/-- what a def with *v is promised of: the values ahead, a new tuple of the rest -/
def spStarK (n : Nat) (gV : List V → List V → List V) (sp : Sp) : List V → List V → Hp → VK → XK → Prop := fun vs zs H Q E => ∃ ws rest, vs = ws ++ rest ∧ ws.length = n ∧ rest.length ≤ sizeLine ∧ ∀ p, H p = Option.none → sp (gV ws zs ++ [V.ref p]) (upd H p (.tup rest)) Q E
/-- def f(a, .., *v, k = d, ..): n positional values ahead, keywords ks, ms: the keyword-only parameters that lack -/
theorem fn_starK {pv : Str} (F : FunD K x qual params body scope [] kws f fd) (S : FnScope N (ps ++ [pv]) scope) (hCX : CXUp CX) (n : Nat) (ks : List Str) (ms : List (Str × V)) (g : {α : Type} → List α → List α → List α → List α) (hk : kws ≠ []) (hms : ∀ q ∈ ms, q ∈ kws)
    (hrel : ∀ {vs mz zs : List V} {us mv ws : List Value}, Vals vs us → Vals mz mv → Vals zs ws → Vals (g vs mz zs) (g us mv ws))
    (hgl : ∀ (us mv ws : List Value), us.length = n → mv.length = ms.length → ws.length = ks.length → (g us mv ws).length = ps.length)
    (hb : ∀ (D : Addr) (doc pm : Value) (an : Option Addr) (cdv ct : Value) (us rest mv ws : List Value), us.length = n → mv.length = ms.length → ws.length = ks.length →
      KwEnd D ((ms.map (·.1)).zip mv) (bindArgs (PySem.W.fnOf x qual params body scope .none (.ref D) doc pm an cdv ct) ⟨us ++ rest, ks.zip ws⟩) (newTuple rest >>= fun t => pure (ps.zip (g us mv ws) ++ [(pv, t)])))
    (hbody : ∀ (cdv : Value) (A : Around) (outer : List Env) (s : Shared) (H : Hp) (vs : List V) (Q : VK) (E : XK), Room k (A.deeper (envOfC qual scope s.heap.objs.size f cdv)) → sp vs H Q E →
      ∃ t, PSs (cxOf CX P w K mg base N qual scope f cdv A outer s H E) body t ∧ t { nx := fun _ H' => Q .non H', rt := Q } (start N vs) H) :
    FnK P w K mg base CX (k + 1) f ks (spStarK n (fun vs zs => g vs (ms.map (·.2)) zs) sp) := by
  obtain ⟨oc, od, dV, kV, doc, pm, an, cdv, ct, osl, rfl, lk, hcd, hD, hK⟩ := F.ex
  rcases hD with ⟨_, rfl⟩ | ⟨e, _⟩
  case inr => exact absurd rfl e
  rcases hK with e | ⟨D, rfl, hq⟩
  · exact absurd e hk
  obtain ⟨mv, hl, rk, hks⟩ := kwd_vals (ms := ms) fun q hm => hq q (hms q hm)
  intro A outer s H us ws vs zs Q E hr e0 r rz hzl hsp
  obtain ⟨v1, rest, ev, hl1, hz, hsp⟩ := hsp
  subst ev
  obtain ⟨u1, u2, eu, r1, r2⟩ := vals_split r
  subst eu
  have hn : H s.heap.objs.size = Option.none := e0.hok.fresh (Nat.le_refl _)
  have l1 : u1.length = n := by rw [← r1.length]; exact hl1
  have l2 : u2.length ≤ sizeLine := by rw [← r2.length]; exact hz
  have l3 : ws.length = ks.length := by rw [← rz.length]; exact hzl
  have gl := hgl u1 mv ws l1 hl l3
  have gr := hrel r1 rk rz
  refine run_bnd lk hcd S hr e0 (G := fun xs H2 => ∃ p, H p = Option.none ∧ xs = g v1 (ms.map (·.2)) zs ++ [V.ref p] ∧ H2 = upd H p (.tup rest)) (fun A' Ex Q' h => ?_) fun s2 H2 xs ⟨p, hp, ex, eH⟩ hr' => ?_
  · refine KwEnd.run (e0.mod.kin.keeps fun b o e => (e0.bs b o e).1) hks (hb D doc pm an cdv ct u1 u2 mv ws l1 hl l3) ?_
    refine wpAny_bind (wpAny_newTuple (wpAny_pure ?_) l2)
    have new : ObjOk P w (upd H s.heap.objs.size (.tup rest)) (s.heap.push ({ cls := .type "tuple", data := .seq u2.toArray } : Obj)) s.heap.objs.size (.tup rest) := ⟨hz, u2, r2, ⟨_, Heap.get?_push_size _ rfl, rfl, _, rfl⟩⟩
    have un := un_laid (fs := frs outer) (s := s) (o := ({ cls := .type "tuple", data := .seq u2.toArray } : Obj)) (u := .tup rest) hn
    have z := h _ _ (g v1 (ms.map (·.2)) zs ++ [V.ref s.heap.objs.size]) (g u1 mv ws ++ [Value.ref s.heap.objs.size]) (env0_laid e0 new) un rfl (fun e s' => hCX outer s H _ _ E e s' un (fun b o q => Heap.get?_push_of_some _ q) rfl) (gr.append (.cons rfl .nil))
      (by rw [List.length_append, List.length_append, gr.length, gl] <;> rfl) ⟨_, hn, rfl, rfl⟩
    rw [List.zip_append gl.symm] at z
    exact z
  · subst ex eH
    exact hbody cdv A outer s2 _ _ Q E hr' (hsp p hp)
end
section
variable {CX : CXT} {P : Program} {w : World} {K : PySem.W.Frag} {mg : Str → Option Value} {base : Heap} {k n : Nat} {f : Addr} {fd : FuncData} {ps ks : List Str} {sp : Sp} {g : List Value → List Value → List Value} {gV : List V → List V → List V}
/-- a promise with its binding, as a promise by keywords -/
theorem fnK_of (F : FnOk P w K mg base CX k f fd ps sp) (hb : KBn K fd ps n ks g gV) : FnK P w K mg base CX k f ks (fun vs zs H Q E => vs.length = n ∧ sp (gV vs zs) H Q E) := fun A outer s H us ws vs zs Q E hr e0 r rz hl hs =>
  F.run A outer s H ⟨us, ks.zip ws⟩ (g us ws) (gV vs zs) Q E hr e0 (hb.to s us ws (e0.mod.kin.keeps fun b o e => (e0.bs b o e).1) (r.length.symm.trans hs.1) (rz.length.symm.trans hl)) (hb.rel r rz) hs.2
end
/-! ### the call's node -/
section
variable {M : Model} {A : Around} {E : Value → Shared → Prop} {s : Shared}
theorem sk_lone {f : Value} {x : Sem Value} {pos : Pos} {keywords : List (Option Str × Sem Value)} {Q : Args → Shared → Prop} (hall : keywords.all (·.1.isSome) = true)
    (h : wpAny M A x (fun v s₁ => wpAny M A (evalAll (keywords.map (·.2))) (fun ks s₂ => PySem.W.StarOf M A E v (fun vs s₃ => Q ⟨vs, (keywords.filterMap (·.1)).zip ks⟩ s₃) s₂) E s₁) E s) :
    wpAny M A (evalArgs f true [(true, (do let v ← x; standAt pos; pure v))] keywords) Q E s := by
  unfold evalArgs
  first
    | refine wpAny_bind (wpAny_bind (wpAny_mono h (fun v s₁ h₁ => wpAny_bind (wpAny_standAt (wpAny_pure ?_))) fun _ _ x => x))
    | refine wpAny_bind (wpAny_bind (wpAny_bind (wpAny_mono h (fun v s₁ h₁ => wpAny_bind (wpAny_standAt (wpAny_pure (wpAny_pure ?_)))) fun _ _ x => x)))
  refine wpAny_holding ?_
  simp only [hall, if_true]
  refine wpAny_bind (wpAny_mono h₁ (fun ks s₂ h₂ => ?_) fun _ _ x => x)
  unfold PySem.W.StarOf at h₂
  refine wpAny_bind ?_
  refine wpAny_bind (wpAny_mono h₂ (fun b s₃ h₃ => ?_) fun _ _ x => x)
  obtain ⟨rfl, h₃⟩ := h₃
  have z := wpAny_holding (vs := (((keywords.filterMap (·.1)).zip ks).map (·.2))) (wpAny_mono h₃ (fun vs s₄ h₄ => h₄) fun _ _ x => x)
  try simp only [Bool.false_eq_true, if_false]
  first
    | exact wpAny_mono z (fun vs s₄ h₄ => wpAny_pure h₄) fun _ _ x => x
    | exact wpAny_bind (wpAny_pure (wpAny_mono z (fun vs s₄ h₄ => wpAny_pure h₄) fun _ _ x => x))
theorem sk_call {f : Value} {first : List Value} {pos : Pos} {Q : Value → Shared → Prop} {P : Heap → Prop} {args : List (Bool × Sem Value)} {kws : List (Option Str × Sem Value)} (hst : args.any (·.1) = true)
    (hk : ∀ h, P h → ∃ k, (k = Keeper.frame ∨ k = Keeper.machine ∨ k = Keeper.boundFrame) ∧ PySem.W.Looks M h (keeperOf f) k)
    (h : wpAny M A (evalArgs f true args kws) (fun a s₁ => P s₁.heap ∧ wpAny M A (call f (first ++ a.pos) a.kw) Q E s₁) E s) : wpAny M A (callWith pos f first args kws) Q E s := by
  unfold callWith
  refine wpAny_bind (wpAny_holding (wpAny_mono h (fun a s₁ h₁ => wpAny_bind (wpAny_standAt ?_)) fun _ _ x => x))
  obtain ⟨k, hk', L⟩ := hk _ h₁.1
  simp only [hst, Bool.true_or]
  refine wpAny_bind (L.here ?_)
  have tail : ∀ {t : Sem Value}, wpAny M A t Q E s₁ → wpAny M A (t >>= fun r => holding [r] point >>= fun _ => pure r) Q E s₁ :=
    fun ht => wpAny_bind (wpAny_mono ht (fun r s₂ hr => wpAny_bind (wpAny_holding (wpAny_point (wpAny_pure hr)))) fun _ _ x => x)
  have marked (mk : Value) : wpAny M A (callMarked mk f (first ++ a.pos) a.kw) Q E s₁ := by unfold callMarked; exact Calls.wpAny_keep h₁.2
  rcases hk' with rfl | rfl | rfl <;> dsimp only <;> first | exact tail (marked _) | exact tail (wpAny_operating h₁.2)
end
/-! ### making -/
/-- what the making of a C asks: behind the values t gives and the keywords' values, a new instance and its dict -/
def spMk (C : Addr) (sp : List V → List V → Hp → VK → XK → Prop) (E : XK) (vs zs : List V) (H : Hp) (Q : VK) : Prop := ∀ x dx, H x = Option.none → H dx = Option.none → dx ≠ x →
  sp (V.ref x :: vs) zs (upd (upd H dx (.own x)) x (.ins C dx [])) (fun v H2 => v = .non ∧ Q (.ref x) H2) E
section
variable {X : Cx} {CX : CXT} {k n i : Nat} {f C : Addr} {ks : List Str} {sp : List V → List V → Hp → VK → XK → Prop} {E : XK} {x m : Str} {p pos sp_ apos : Pos} {e o : Expr} {es : List Expr} {kws : List Keyword} {te ta : TE} {t tk : TA} {mc : Value} {q g : Addr}
theorem run_makeK {pins : List (Addr × Obj)} {σ : L2.St} {H : Hp} {s : Shared} {Q : VK} {us ws : List Value} {vs zs : List V} (M : Mk X.K C f) (F : FnK X.prog X.w X.K X.mg X.base CX k f ks sp) (hr : Room (k + 1) X.A) (hx : Passes CX X E) (I : Inv X pins σ H s) (r : Vals vs us) (rz : Vals zs ws) (hl : zs.length = ks.length)
    (h : spMk C sp E vs zs H Q) : wpAny (model X.prog X.w) X.A (call (.ref C) us (ks.zip ws)) (EP X pins σ Q) X.xe s := by
  have hq := h (s.heap.objs.size + 1) s.heap.objs.size (I.hok.fresh (Nat.le_succ _)) (I.hok.fresh (Nat.le_refl _)) (Nat.ne_of_lt (Nat.lt_succ_self _))
  have I2 := Inv.made (C := C) I
  have r2 : Vals (V.ref (s.heap.objs.size + 1) :: vs) (Value.ref (s.heap.objs.size + 1) :: us) := .cons rfl r
  refine wpAny_call (make_map (f := f) I.kIn M.makes M.init (beq_iff_eq.mp M.fn) (codeAny_mono (F _ X.stack _ _ (Value.ref (s.heap.objs.size + 1) :: us) ws _ zs _ E (hr.make C us (ks.zip ws)) (I2.env0.make C us (ks.zip ws)) r2 rz hl hq) fun r s' hq' => ?_))
  cases r with
  | error e => exact hx pins σ _ _ e s' I2 hq'
  | ok fl =>
    cases fl with
    | ret u =>
      obtain ⟨v, H', I3, rv, ev, q3⟩ := I2.after hq'
      subst ev
      exact ⟨rv, ⟨V.ref (s.heap.objs.size + 1), H', I3, rfl, q3⟩⟩
    | next => exact False.elim hq'
    | brk => exact False.elim hq'
    | cont => exact False.elim hq'
/-- c(*e, k = v, ..), c a name whose value is the class at C -/
def tMakeT (K : PySem.W.Frag) (C : Addr) (m : Nat) (sp : List V → List V → Hp → VK → XK → Prop) (E : XK) (tf te : TE) (tk : TA) : TE := fun σ H Q => tf σ H fun c H0 => c = .ref C ∧ te σ H0 fun y H1 => tk σ H1 fun zs H2 => zs.length = m ∧ ∃ a xs, y = V.ref a ∧ (SqT K H2 a xs ∨ SqL K H2 a xs) ∧ spMk C sp E xs zs H2 Q
theorem pe_makeT {tf : TE} (M : Mk X.K C f) (F : FnK X.prog X.w X.K X.mg X.base CX k f ks sp) (hr : Room (k + 1) X.A) (hx : Passes CX X E) (hf : PE X (.Name x p) tf) (he : PE X e te) (hkw : PK X kws tk)
    (hall : (backToKw pos (keywordEach kws X.env)).all (·.1.isSome) = true := by rfl) (hks : (backToKw pos (keywordEach kws X.env)).filterMap (·.1) = ks := by rfl)
    (hst : starEach [.Starred e sp_] X.env = [(true, eval e X.env)] := by rfl) :
    PE X (.Call (.Name x p) [.Starred e sp_] kws pos) (tMakeT X.K C ks.length sp E tf te tk) := by
  refine ⟨fun pins s σ H Q I h => ?_⟩
  refine wpAny_Call_Name_kw (thn (hf.run pins s σ H _ I h) fun u s1 ⟨c, H1, I1, rc, ec, q1⟩ => ?_)
  subst ec
  obtain rfl : u = Value.ref C := rc
  rw [hst]
  refine sk_call (P := X.K.In) rfl (PySem.W.keeps_K M.kp) (sk_lone hall (thn (he.run pins s1 σ H1 _ I1 q1) fun v s2 ⟨y, H2, I2, ry, q2⟩ => ?_))
  refine thn (hkw.run pos pins s2 σ H2 _ I2 q2) fun ws s3 ⟨zs, H3, I3, rz, l2, a, xs, ey, hxs, q3⟩ => ?_
  subst ey
  obtain rfl : v = Value.ref a := ry
  refine star_any I3 hxs fun us s4 I4 rv => ⟨I4.kIn, ?_⟩
  rw [hks]
  exact run_makeK M F hr hx I4 rv rz l2 q3
/-! ### classmethods -/
theorem run_cmK {Q : VK} {pins : List (Addr × Obj)} {σ : L2.St} {H : Hp} {s : Shared} {us ws : List Value} {vs zs : List V} (F : FnK X.prog X.w X.K X.mg X.base CX k g ks sp) (hr : Room k X.A) (hx : Passes CX X E) (I : Inv X ((q, PySem.W.methodObj (.ref g) (.ref C)) :: pins) σ H s)
    (r : Vals vs us) (rz : Vals zs ws) (hl : zs.length = ks.length) (h : sp (.ref C :: vs) zs H Q E) : wpAny (model X.prog X.w) X.A (call (.ref q) us (ks.zip ws)) (EP X pins σ Q) X.xe s := by
  have z : wpAny (model X.prog X.w) X.A (call (.ref q) us (ks.zip ws)) (EP X ((q, PySem.W.methodObj (.ref g) (.ref C)) :: pins) σ Q) X.xe s := by
    refine wpAny_call (PySem.W.method_call (ClX.pin_at I) (codeAny_mono (F X.A X.stack s H (.ref C :: us) ws (.ref C :: vs) zs Q E hr I.env0 (.cons rfl r) rz hl h) fun r s' hq => ?_))
    cases r with
    | error e => exact hx _ σ H s e s' I hq
    | ok fl =>
      cases fl with
      | ret u => exact I.after hq
      | next => exact False.elim hq
      | brk => exact False.elim hq
      | cont => exact False.elim hq
  exact thn z fun _ _ y => ClX.unpinE y
/-- C.m(e, .., k = v, ..), m a classmethod of C -/
def tCMethK (C : Addr) (m : Nat) (sp : List V → List V → Hp → VK → XK → Prop) (E : XK) (ta : TE) (t tk : TA) : TE := fun σ H Q => ta σ H fun x H1 => x = .ref C ∧ t σ H1 fun vs H2 => tk σ H2 fun zs H3 => zs.length = m ∧ sp (.ref C :: vs) zs H3 Q E
theorem pe_cmethK {pl : Sem Bool} (he : PE X o ta) (r : ClX.CRead X.K C mc) (c : ClX.CMet X.K C mc m q g) (F : FnK X.prog X.w X.K X.mg X.base CX k g ks sp) (hr : Room k X.A) (hx : Passes CX X E) (ha : PA X (e :: es) t) (hkw : PK X kws tk)
    (hall : (backToKw pos (keywordEach kws X.env)).all (·.1.isSome) = true := by rfl) (hks : (backToKw pos (keywordEach kws X.env)).filterMap (·.1) = ks := by rfl)
    (hst : starEach (e :: es) X.env = (false, eval e X.env) :: starEach es X.env := by rfl) (hpl : ((backTo pos (starEach (e :: es) X.env)).any (·.1) || (backToKw pos (keywordEach kws X.env)).any (·.1.isNone)) = false := by rfl)
    (ht : eval (.Call (.Attribute o m apos) (e :: es) kws pos) X.env = (do
      let ov ← eval o X.env
      standAt apos.atName
      let (f, first) ← holding [ov] (getMethod ov m pl)
      callWith pos f first (backTo pos (starEach (e :: es) X.env)) (backToKw pos (keywordEach kws X.env))) := by rfl) :
    PE X (.Call (.Attribute o m apos) (e :: es) kws pos) (tCMethK C ks.length sp E ta t tk) := by
  refine ⟨fun pins s σ H Q I h => ?_⟩
  refine PySem.W.methodCall_KW (pl := pl) (thn (he.run pins s σ H _ I h) fun u s1 ⟨x, H1, I1, rx, ex, q1⟩ => ?_) ht
  subst ex
  obtain rfl : u = Value.ref C := rx
  refine ClX.getmethcm_ok I1 r c fun s2 I2 => ?_
  refine PySem.W.callWith_of (P := PySem.W.MethP X.K _ g (.ref C)) hpl (PySem.W.keeps_M c.fi) ?_
  have z := ha.run pos _ s2 σ H1 _ I2 q1
  rw [hst] at z ⊢
  refine evalArgs_kw hall ?_
  refine thn z fun us s3 ⟨vs, H2, I3, rv, q2⟩ => ?_
  refine thn (hkw.run pos _ s3 σ H2 _ I3 q2) fun ws s4 ⟨zs, H3, I4, rz, l2, q3⟩ => ⟨⟨ClX.pin_at I4, I4.kIn⟩, ?_⟩
  rw [hks]
  exact run_cmK F hr hx I4 rv rz l2 q3
end
end StK
namespace Sj
open PySem L2 Sup
open NdefX (NF NScope ncx envF startF nscope_by)
open C8 (pss_cut tCut)
abbrev sIsInt : Stmt := top 12
abbrev sBetw : Stmt := top 13
abbrev sWrong : Stmt := top 21
theorem tyx_same {K : PySem.W.Frag} {H H' : Hp} {x : V} {t : Value} (h : TyX K H x t) (s : Same H H') : TyX K H' x t := by
  cases h with
  | base b =>
    refine .base ?_
    cases b with
    | non => exact .non
    | bl x => exact .bl x
    | int i => exact .int i
    | str x => exact .str x
    | flt x => exact .flt x
    | lst e => exact .lst (s _ _ e)
    | frz e => exact .frz (s _ _ e)
    | tup e => exact .tup (s _ _ e)
    | dK e => exact .dK (s _ _ e)
    | dT e => exact .dT (s _ _ e)
    | ins e c h1 h2 h3 h4 => exact .ins (s _ _ e) c h1 h2 h3 h4
  | byt b => exact .byt b
  | set e => exact .set (s _ _ e)
  | kList e c => exact .kList e c
  | kTuple e c => exact .kTuple e c
  | kDict e c => exact .kDict e c
  | fTuple e => exact .fTuple (s _ _ e)
  | fDict e => exact .fDict (s _ _ e)
/-- the three classes of legs -/
structure Kinds where
  drv : Addr
  lis : Addr
  leg : Addr
/-- isinstance(x, (Driver, Listener)) -/
def IsL (K : PySem.W.Frag) (ks : Kinds) (H : Hp) (x : V) (b : Bool) : Prop := ∃ t, TyX K H x t ∧ PySem.W.kitAny K t [.ref ks.drv, .ref ks.lis] = some b
theorem IsL.same {K : PySem.W.Frag} {ks : Kinds} {H H' : Hp} {x : V} {b : Bool} (h : IsL K ks H x b) (s : Same H H') : IsL K ks H' x b := h.imp fun _ ⟨a, e⟩ => ⟨tyx_same a s, e⟩
/-- a driver or a listener -/
structure LegR where
  a : Addr
  C : Addr
  z : Str
def LegR.ok (ks : Kinds) (H : Hp) (r : LegR) : Prop := (r.C = ks.drv ∨ r.C = ks.lis) ∧ LegAt H r.a r.C r.z
theorem LegR.ok.same {ks : Kinds} {H H' : Hp} {r : LegR} (h : r.ok ks H) (s : Same H H') : r.ok ks H' := ⟨h.1, h.2.same s⟩
def refs (rs : List LegR) : List V := rs.map fun r => .ref r.a
def names (rs : List LegR) : List Str := rs.map (·.z)
/-- an integer from 1 to 3 -/
def TopIs (K : PySem.W.Frag) (H : Hp) (T : V) (b : Bool) : Prop := (∃ i : Int, T = .int i ∧ b = (decide (1 ≤ i) && decide (i ≤ 3))) ∨ ∃ (t : String) (m c : Bool), TyX K H T (.type t) ∧ kitB t "int" = some m ∧ kitB t "bool" = some c ∧ (m && !c) = false ∧ b = false
def RailIs (K : PySem.W.Frag) (H : Hp) (G : V) (b : Bool) : Prop := ∃ t : String, TyX K H G (.type t) ∧ kitB t "bool" = some b
theorem TopIs.same {K : PySem.W.Frag} {H H' : Hp} {T : V} {b : Bool} (h : TopIs K H T b) (s : Same H H') : TopIs K H' T b := h.imp id fun ⟨t, m, c, a, r⟩ => ⟨t, m, c, tyx_same a s, r⟩
theorem RailIs.same {K : PySem.W.Frag} {H H' : Hp} {T : V} {b : Bool} (h : RailIs K H T b) (s : Same H H') : RailIs K H' T b := h.imp fun _ ⟨a, r⟩ => ⟨tyx_same a s, r⟩
def spIsInt (K : PySem.W.Frag) : Sp := fun vs H Q _ => ∃ (x : V) (t : String) (b c : Bool), vs = [x] ∧ TyX K H x (.type t) ∧ kitB t "int" = some b ∧ kitB t "bool" = some c ∧ Q (.bl (b && !c)) H
def spBetw (K : PySem.W.Frag) : Sp := fun vs H Q _ => ∃ (T : V) (b : Bool), vs = [T, .int 1, .int 3] ∧ TopIs K H T b ∧ Q (.bl b) H
section
variable {P : Program} {w : World} {K : PySem.W.Frag} {mg : Str → Option Value} {base : Heap}
theorem scIsInt : FnScope ["value"] ["value"] (defScope sIsInt) := ⟨rfl, rfl, rfl, by decide +kernel, rfl, by decide +kernel, by decide +kernel⟩
theorem scBetw : FnScope ["value", "least", "most"] ["value", "least", "most"] (defScope sBetw) := ⟨rfl, rfl, rfl, by decide +kernel, rfl, by decide +kernel, by decide +kernel⟩
theorem ok_isint {f : Addr} {fd : FuncData} (F : Fun K "is_integer" "is_integer" sIsInt f fd) (mi : mg "isinstance" = none) (mn : mg "int" = none) (mb : mg "bool" = none) : FnOk P w K mg base CX0 1 f fd ["value"] (spIsInt K) := by
  refine F.ok scIsInt (fun vs H Q E h => ?_) (fun cdv A outer s H vs Q E hr h => ?_)
  · obtain ⟨x, t, b, c, rfl, _⟩ := h
    rfl
  · obtain ⟨x, t, b, c, rfl, ht, hb, hc, k⟩ := h
    refine ⟨_, pss_one (ps_ret (pe_and (pe_callB call_isi (by rfl) mi (by decide +kernel) (pa_cons (pv 0) (pa_cons (pe_bltn (by rfl) mn (by decide +kernel) (v := .ty "int") rfl) pa_nil)))
      (pe_one (pe_not (pe_callB call_isi (by rfl) mi (by decide +kernel) (pa_cons (pv 0) (pa_cons (pe_bltn (by rfl) mb (by decide +kernel) (v := .ty "bool") rfl) pa_nil))))))), ?_⟩
    refine ⟨_, rfl, _, _, _, _, b, rfl, .ty _, ht, kit_ty hb, _, rfl, ?_⟩
    cases b with
    | false => exact iteF k
    | true => exact iteT ⟨_, rfl, _, _, _, _, c, rfl, .ty _, ht, kit_ty hc, _, rfl, k⟩
theorem ok_betw {f fI : Addr} {fd fdI : FuncData} (F : Fun K "is_between" "is_between" sBetw f fd) (FI : FnOk P w K mg base CX0 1 fI fdI ["value"] (spIsInt K)) (mI : mg "is_integer" = some (.ref fI)) (kI : PySem.W.keepIn K (.ref fI) = true) (bI : Binds K fdI ["value"] []) :
    FnOk P w K mg base CX0 2 f fd ["value", "least", "most"] (spBetw K) := by
  refine F.ok scBetw (fun vs H Q E h => ?_) (fun cdv A outer s H vs Q E hr h => ?_)
  · obtain ⟨T, b, rfl, _⟩ := h
    rfl
  · obtain ⟨T, b, rfl, ht, k⟩ := h
    refine ⟨_, pss_one (ps_ret (pe_and (pe_call FI hr rfl mI kI bI .nil pass0 (pa_cons (pv 0) pa_nil)) (pe_one (pe_chain op_le op_le (pv 1) (pv 0) (pv 2))))), ?_⟩
    rcases ht with ⟨i, rfl, rfl⟩ | ⟨t, m, c, ht, hm, hc, e, rfl⟩
    · refine ⟨_, rfl, _, _, _, _, rfl, .base (.int i), (by decide +kernel : kitB "int" "int" = some true), (by decide +kernel : kitB "int" "bool" = some false), _, rfl, ?_⟩
      refine iteT ⟨_, rfl, _, rfl, _, _, rfl, rfl, _, rfl, ?_⟩
      by_cases h1 : (1 : Int) ≤ i
      · rw [decide_eq_true h1] at k ⊢
        exact iteT ⟨_, rfl, _, _, rfl, rfl, k⟩
      · rw [decide_eq_false h1] at k ⊢
        exact iteF k
    · refine ⟨_, rfl, _, _, _, _, rfl, ht, hm, hc, _, rfl, ?_⟩
      rw [e]
      exact iteF k
end
end Sj
namespace Sj
open PySem L2 Sup
open NdefX (NF NScope ncx envF startF nscope_by)
open C8 (pss_cut tCut)
/-- the first reason, the legs being right -/
def due (zs : List Str) (tb rb : Bool) : V := if 40 < zs.length then .str "many" else if zs.Nodup then (if tb = false then .str "top" else if rb = false then .str "rails" else .non) else .str "name"
/-- wrong_frame(legs, top, ground, power) -/
def spWrong (K : PySem.W.Frag) (ks : Kinds) : Sp := fun vs H Q _ => ∃ (t : Addr) (xs : List V) (T G R : V) (tb gb pb : Bool), vs = [.ref t, T, G, R] ∧ H t = some (.tup xs) ∧ xs.length ≤ 1000 ∧ TopIs K H T tb ∧ RailIs K H G gb ∧ RailIs K H R pb ∧
  ((∃ bs : List Bool, bs.length = xs.length ∧ bs.all id = false ∧ (∀ (i : Nat) (x : V) (b : Bool), xs[i]? = some x → bs[i]? = some b → IsL K ks H x b) ∧ ∀ H', Same H H' → Q (.str "legs") H') ∨
   ∃ rs : List LegR, xs = refs rs ∧ (∀ r ∈ rs, r.ok ks H) ∧ ∀ H', Same H H' → Q (due (names rs) tb (gb && pb)) H')
/-- what the text gives -/
structure WrT (P : Program) (w : World) (K : PySem.W.Frag) (mg : Str → Option Value) (base : Heap) (ks : Kinds) (CF : Addr) : Prop where
  isi : mg "isinstance" = none
  all : mg "all" = none
  len : mg "len" = none
  bool : mg "bool" = none
  mD : mg "Driver" = some (.ref ks.drv)
  mI : mg "Listener" = some (.ref ks.lis)
  mF : mg "Frame" = some (.ref CF)
  most : ∃ mc u, ClX.CRead K CF mc ∧ ClX.CVal K CF mc "MOST" (.int 40) u
  icD : IsiC K ks.drv
  icI : IsiC K ks.lis
  nD : NoAttr K ks.drv "name"
  nI : NoAttr K ks.lis "name"
  dd : PySem.W.kitAny K (.ref ks.drv) [.ref ks.drv, .ref ks.lis] = some true
  ii : PySem.W.kitAny K (.ref ks.lis) [.ref ks.drv, .ref ks.lis] = some true
  betw : ∃ fB fdB, mg "is_between" = some (.ref fB) ∧ PySem.W.keepIn K (.ref fB) = true ∧ Binds K fdB ["value", "least", "most"] [] ∧ FnOk P w K mg base CX0 2 fB fdB ["value", "least", "most"] (spBetw K)
theorem LegR.ok.isl {P : Program} {w : World} {K : PySem.W.Frag} {mg : Str → Option Value} {base : Heap} {ks : Kinds} {CF : Addr} {H : Hp} {r : LegR} (h : r.ok ks H) (T : WrT P w K mg base ks CF) : IsL K ks H (.ref r.a) true := by
  obtain ⟨hc, hl⟩ := h
  rcases hc with e | e
  · rw [e] at hl
    exact ⟨_, hl.ty T.icD, T.dd⟩
  · rw [e] at hl
    exact ⟨_, hl.ty T.icI, T.ii⟩
/-- the reading of isinstance(leg, (Driver, Listener)) -/
def teIsL (K : PySem.W.Frag) (ks : Kinds) : TE := tCB (rIsiT K) (tCons (tVar 4) (tCons (tTup (tCons (tC (.ref ks.drv)) (tCons (tC (.ref ks.lis)) tNil))) tNil))
def teNm (K : PySem.W.Frag) : TE := tFld K (tVar 4) "name"
theorem isl_rd {K : PySem.W.Frag} {ks : Kinds} {σ : L2.St} {H : Hp} {x : V} {b : Bool} {Q : VK} (hx : σ[4]? = some (some x)) (h : IsL K ks H x b) (k : ∀ H', Same H H' → Q (.bl b) H') : teIsL K ks σ H Q := by
  obtain ⟨t, ty, e⟩ := h
  refine ⟨x, hx, by show 2 ≤ sizeLine; decide, fun p hp => ?_⟩
  have s1 : Same H (upd H p (.tup [.ref ks.drv, .ref ks.lis])) := fun b o e => by rw [upd_ne (ne_of_none e hp)]; exact e
  refine ⟨x, p, [.ref ks.drv, .ref ks.lis], t, [.ref ks.drv, .ref ks.lis], b, rfl, upd_same, .cons (.own _) (.cons (.own _) .nil), tyx_same ty s1, e, k _ s1⟩
abbrev stW (t : Addr) (T G R : V) : L2.St := L2.start ["legs", "top", "ground", "power", "leg"] [.ref t, T, G, R]
theorem isl_walk {K : PySem.W.Frag} {ks : Kinds} {t D : Addr} {T G R : V} {xs : List V} {bs : List Bool} {H : Hp} {Qd : Hp → Prop} (ht : H t = some (.tup xs)) (hD : H D = none) (hl : bs.length = xs.length) (hx : xs.length ≤ 1000)
    (hb : ∀ (i : Nat) (x : V) (b : Bool), xs[i]? = some x → bs[i]? = some b → IsL K ks H x b) (hd : ∀ H', Same H H' → H' D = some (.lst (bs.map V.bl)) → Qd H') :
    ∃ W : Nat → Nat → Hp → Prop, (∃ m, W 0 m (upd H D (.lst []))) ∧ ∀ i m H, W i m H →
      ((Itt K t).stop i H ∧ Qd H) ∨ ((Itt K t).go i H ∧ ∃ Nx : Hp → Prop, (∀ H', Nx H' → ∃ m', m' < m ∧ W (i + 1) m' H') ∧ ∀ x H', (Itt K t).yld i H x H' → gName 4 x (wipe (stW t T G R) [4]) H' fun σ2 H2 => wipe σ2 [4] = wipe (stW t T G R) [4] ∧ tYes σ2 H2 fun b H3 =>
        if b = true then teIsL K ks σ2 H3 fun y H4 => ∃ acc, H4 D = some (.lst acc) ∧ acc.length < sizeLine ∧ Nx (upd H4 D (.lst (acc ++ [y]))) else Nx H3) := by
  have sD : ∀ (o : HO), Same H (upd H D o) := fun o b u e => by rw [upd_ne (ne_of_none e hD)]; exact e
  refine lc_it (walk_tup (K := K) (a := t) (xs := xs)) (fun i H' => Same H H' ∧ H' D = some (.lst ((bs.take i).map V.bl))) ⟨sD _, by rw [upd_same]; rfl⟩ (fun i H' _ p => .inl (.inl (p.1 _ _ ht))) ?_ ?_
  · rintro i x H1 H2 hi ⟨s1, d1⟩ ⟨rfl, hx1⟩
    refine ⟨rfl, ?_⟩
    have hi' : i < bs.length := by omega
    have hb1 : bs[i]? = some bs[i] := List.getElem?_eq_getElem hi'
    unfold tYes
    dsimp only
    rw [if_pos rfl]
    refine isl_rd rfl ((hb i x _ hx1 hb1).same s1) fun H3 s3 => ⟨_, s3 _ _ d1, ?_, ?_, ?_⟩
    · rw [List.length_map, List.length_take]
      exact Nat.lt_of_le_of_lt (Nat.min_le_right _ _) (Nat.lt_of_le_of_lt (show bs.length ≤ 1000 by omega) (by decide))
    · exact fun b o e => by
        rw [upd_ne (ne_of_none e hD)]
        exact s3 _ _ (s1 _ _ e)
    · rw [upd_same, List.take_add_one, hb1, List.map_append]
      rfl
  · rintro H1 ⟨s1, d1⟩
    rw [← hl, List.take_length] at d1
    exact hd H1 s1 d1
/-- the set of the names -/
theorem names_walk {P : Program} {w : World} {K : PySem.W.Frag} {ks : Kinds} {t D : Addr} {T G R : V} {rs : List LegR} {H : Hp} {Qd : Hp → Prop} (ht : H t = some (.tup (refs rs))) (hD : H D = none) (hx : rs.length ≤ 1000) (hr : ∀ r ∈ rs, r.ok ks H)
    (cD : Cls K ks.drv) (cI : Cls K ks.lis) (nD : NoAttr K ks.drv "name") (nI : NoAttr K ks.lis "name") (hd : ∀ H' S, Same H H' → H' D = some (SetK P w D S (SetT.nd (names rs).reverse)) → Qd H') :
    ∃ W : Nat → Nat → Hp → Prop, (∃ m, W 0 m (upd H D (SetT.zeroK P w D))) ∧ SetT.loopT P w D (Itt K t) (gName 4) tYes (teNm K) [4] (stW t T G R) W Qd := by
  have sD : ∀ (o : HO), Same H (upd H D o) := fun o b u e => by rw [upd_ne (ne_of_none e hD)]; exact e
  have hlen : (refs rs).length = rs.length := by unfold refs; rw [List.length_map]
  refine SetT.set_it (walk_tup (K := K) (a := t) (xs := refs rs)) (fun i H' => Same H H' ∧ H' D = some (SetK P w D (fun j : Key => (names (rs.take i)).any fun z => decide (j = Sum.inr z)) (SetT.nd (names (rs.take i)).reverse))) ⟨sD _, ?_⟩ (fun i H' _ p => .inl (.inl (p.1 _ _ ht))) ?_ ?_
  · rw [upd_same]
    rfl
  · rintro i x H1 H2 hi ⟨s1, d1⟩ ⟨rfl, hx1⟩
    rw [hlen] at hi
    have e1 : (refs rs)[i]? = some (.ref rs[i].a) := by unfold refs; rw [List.getElem?_map, List.getElem?_eq_getElem hi]; rfl
    rw [e1] at hx1
    obtain rfl := Option.some.inj hx1
    obtain ⟨hc, dx, ea⟩ := (hr _ (List.getElem_mem hi)).same s1
    have fld : ∃ C, H2 rs[i].a = some (.ins C dx (legF rs[i].z)) ∧ Cls K C ∧ NoAttr K C "name" := by
      refine ⟨_, ea, ?_⟩
      rcases hc with e | e <;> rw [e]
      · exact ⟨cD, nD⟩
      · exact ⟨cI, nI⟩
    obtain ⟨C, ea', cl, nn⟩ := fld
    unfold SetT.turnT tYes
    refine ⟨rfl, ?_⟩
    dsimp only
    rw [if_pos rfl]
    refine ⟨_, rfl, _, C, dx, _, _, rfl, ea', cl, nn, legF_name _, ?_⟩
    have et : names (rs.take (i + 1)) = names (rs.take i) ++ [rs[i].z] := by
      unfold names
      rw [List.take_add_one, List.getElem?_eq_getElem hi, List.map_append]
      rfl
    refine ⟨Sum.inr rs[i].z, _, _, rfl, d1, ?_, ?_, ?_⟩
    · have h1 := SetT.nd_le (names (rs.take i)).reverse
      rw [List.length_reverse] at h1
      have h2 : (names (rs.take i)).length ≤ 1000 := by
        unfold names
        rw [List.length_map, List.length_take]
        omega
      exact Nat.lt_of_le_of_lt (show _ ≤ 1001 by omega) (by decide)
    · exact fun b o e => by
        rw [upd_ne (ne_of_none e hD)]
        exact s1 _ _ e
    · rw [upd_same, et]
      congr 2
      · funext j
        rw [List.any_append]
        simp
      · rw [List.reverse_append]
        show _ = if rs[i].z ∈ (names (rs.take i)).reverse then SetT.nd (names (rs.take i)).reverse else SetT.nd (names (rs.take i)).reverse + 1
        have e9 : ((names (rs.take i)).any fun z => decide ((Sum.inr rs[i].z : Key) = Sum.inr z)) = true ↔ rs[i].z ∈ (names (rs.take i)).reverse := by
          rw [List.any_eq_true, List.mem_reverse]
          constructor
          · rintro ⟨z, hz, e⟩
            have e := of_decide_eq_true e
            injection e with e
            rw [e]
            exact hz
          · exact fun h => ⟨_, h, decide_eq_true rfl⟩
        by_cases h9 : rs[i].z ∈ (names (rs.take i)).reverse
        · rw [if_pos h9, if_pos (e9.mpr h9)]
        · rw [if_neg h9, if_neg fun z => h9 (e9.mp z)]
  · rintro H1 ⟨s1, d1⟩
    rw [hlen, List.take_length] at d1
    exact hd H1 _ s1 d1
section
variable {P : Program} {w : World} {K : PySem.W.Frag} {mg : Str → Option Value} {base : Heap}
theorem scWrong : FnScope ["legs", "top", "ground", "power", "leg"] ["legs", "top", "ground", "power"] (defScope sWrong) := ⟨rfl, rfl, rfl, by decide +kernel, rfl, by decide +kernel, by decide +kernel⟩
theorem ok_wrong {f CF : Addr} {fd : FuncData} {ks : Kinds} (F : Fun K "wrong_frame" "wrong_frame" sWrong f fd) (T : WrT P w K mg base ks CF) : FnOk P w K mg base CX0 3 f fd ["legs", "top", "ground", "power"] (spWrong K ks) := by
  obtain ⟨fB, fdB, mB, kB, bB, GB⟩ := T.betw
  obtain ⟨mc, u, cr, cv⟩ := T.most
  refine F.ok scWrong (fun vs H Q E h => ?_) (fun cdv A outer s H vs Q E hr h => ?_)
  · obtain ⟨t, xs, T, G, R, tb, gb, pb, rfl, _⟩ := h
    rfl
  · obtain ⟨t, xs, TT, G, R, tb, gb, pb, rfl, ht, hlen, hT, hG, hR, h⟩ := h
    refine ⟨_, pss_cons (ps_if (pt_not (pt_val (pe_callB (cr_all rfl) (by rfl) T.all (by decide +kernel) (pa_cons
          (pe_lc (te := teIsL K ks) (own := [("leg", 4)]) (g := gName 4) (tt := tYes) rfl scWrong.nd (pi_tup (pv 0)) (blkOk_by (N := ["legs", "top", "ground", "power", "leg"]) (sc := defScope sWrong) (by decide +kernel))
            (fun _ _ _ _ _ => pg_name (i := 4) scWrong.nd rfl (Or.inl rfl)) (fun _ _ _ _ _ => pts_nil) (fun _ _ _ _ _ => pe_callB call_isiT (by rfl) T.isi (by decide +kernel) (pa_cons (pv 4) (pa_cons (pe_tup (pa_cons (pe_glob rfl T.mD (v := .ref ks.drv) rfl) (pa_cons (pe_glob rfl T.mI (v := .ref ks.lis) rfl) pa_nil))) pa_nil)))) pa_nil))))
        (pss_one (ps_ret pe_str)) pss_nil)
      (pss_cons (ps_if (pt_cmpR op_gt (pe_callB call_len_seq (by rfl) T.len PySem.boot_len (pa_cons (pv 0) pa_nil)) (ClX.pe_cval (pe_glob rfl T.mF (v := .ref CF) rfl)) (nomark _)) (pss_one (ps_ret pe_str)) pss_nil)
      (pss_cons (ps_if (pt_cmpR op_lt (pe_callB SetT.call_len_setK (by rfl) T.len PySem.boot_len (pa_cons
          (SetT.pe_set (te := teNm K) (own := [("leg", 4)]) (g := gName 4) (tt := tYes) rfl scWrong.nd (pi_tup (pv 0)) (blkOk_by (N := ["legs", "top", "ground", "power", "leg"]) (sc := defScope sWrong) (by decide +kernel))
            (fun _ _ _ _ _ => pg_name (i := 4) scWrong.nd rfl (Or.inl rfl)) (fun _ _ _ _ _ => pts_nil) (fun _ _ _ _ _ => pe_fld (pv 4) rfl)) pa_nil)) (pe_callB call_len_seq (by rfl) T.len PySem.boot_len (pa_cons (pv 0) pa_nil)) (nomark _)) (pss_one (ps_ret pe_str)) pss_nil)
      (pss_cons (ps_if (pt_not (pt_val (pe_call GB (hr.mono (by decide)) rfl mB kB bB .nil pass0 (pa_cons (pv 1) (pa_cons pe_int (pa_cons pe_int pa_nil)))))) (pss_one (ps_ret pe_str)) pss_nil)
      (pss_cons (ps_if (PW.pt (pw_or (pt_not (pt_val (pe_callB call_isi (by rfl) T.isi (by decide +kernel) (pa_cons (pv 2) (pa_cons (pe_bltn (by rfl) T.bool (by decide +kernel) (v := .ty "bool") rfl) pa_nil)))))
          (pw_or1 (pt_not (pt_val (pe_callB call_isi (by rfl) T.isi (by decide +kernel) (pa_cons (pv 3) (pa_cons (pe_bltn (by rfl) T.bool (by decide +kernel) (v := .ty "bool") rfl) pa_nil)))))))) (pss_one (ps_ret pe_str)) pss_nil)
      (pss_one (ps_ret pe_non)))))), ?_⟩
    have sz : ∀ H' : Hp, Same H H' → ((SqL K H' t xs ∨ SqT K H' t xs)) := fun H' s1 => .inr (SqT.of (s1 _ _ ht))
    refine ⟨_, rfl, t, rfl, ⟨xs, SqT.of ht⟩, fun D hD => ?_⟩
    rcases h with ⟨bs, hbl, hall, hb, k⟩ | ⟨rs, rfl, hrs, k⟩
    · refine isl_walk ht hD hbl hlen hb fun H1 s1 d1 => ⟨D, bs, rfl, SqL.of d1, _, rfl, ?_⟩
      rw [hall]
      exact iteT (k H1 s1)
    · have hlr : (refs rs).length = rs.length := by unfold refs; rw [List.length_map]
      have hnl : (names rs).length = rs.length := by unfold names; rw [List.length_map]
      refine isl_walk (bs := List.replicate rs.length true) ht hD (by rw [List.length_replicate, hlr]) hlen (fun i x b hx hb => ?_) fun H1 s1 d1 => ⟨D, _, rfl, SqL.of d1, _, rfl, ?_⟩
      · have hi : i < rs.length := by
          have := (List.getElem?_eq_some_iff.mp hx).1
          rw [hlr] at this
          exact this
        have e1 : (refs rs)[i]? = some (.ref rs[i].a) := by unfold refs; rw [List.getElem?_map, List.getElem?_eq_getElem hi]; rfl
        rw [e1] at hx
        obtain rfl := Option.some.inj hx
        have e2 := (List.getElem?_replicate (n := rs.length) (a := true) (i := i)).symm.trans hb
        rw [if_pos hi] at e2
        obtain rfl := Option.some.inj e2
        exact (hrs _ (List.getElem_mem hi)).isl T
      · have ea : (List.replicate rs.length true).all id = true := by
          rw [List.all_eq_true]
          intro b hb
          rw [List.eq_of_mem_replicate hb]
          rfl
        rw [ea]
        refine iteF ⟨_, rfl, t, _, rfl, sz _ s1, CF, mc, _, u, rfl, cr, cv, _, _, rfl, rfl, _, rfl, ?_⟩
        have hdue : ∀ b : V, due (names rs) tb (gb && pb) = b → ∀ H', Same H H' → Q b H' := fun b e H' s => by rw [← e]; exact k H' s
        clear k
        by_cases h40 : 40 < rs.length
        · rw [decide_eq_true (show (40 : Int) < (refs rs).length by rw [hlr]; omega)]
          refine iteT (hdue _ ?_ _ s1)
          unfold due
          rw [hnl, if_pos h40]
        · rw [decide_eq_false (show ¬ (40 : Int) < (refs rs).length by rw [hlr]; omega)]
          refine iteF ⟨_, rfl, t, rfl, ⟨refs rs, SqT.of (s1 _ _ ht)⟩, fun D2 hD2 => ?_⟩
          refine names_walk (s1 _ _ ht) hD2 (by omega) (fun r hr => (hrs r hr).same s1) T.icD.cl T.icI.cl T.nD T.nI fun H2 S s2 d2 => ?_
          have s02 := s1.trans s2
          refine ⟨D2, S, _, rfl, d2, _, rfl, t, _, rfl, sz _ s02, _, _, rfl, rfl, _, rfl, ?_⟩
          have hnd := SetT.nd_iff (names rs).reverse
          rw [List.length_reverse, hnl, (List.reverse_perm (names rs)).nodup_iff] at hnd
          by_cases hno : (names rs).Nodup
          · rw [decide_eq_false (show ¬ ((SetT.nd (names rs).reverse : Int)) < (refs rs).length by rw [hlr]; exact fun z => hnd.mp (by omega) hno)]
            refine iteF ⟨_, rfl, _, _, rfl, hT.same s02, _, rfl, ?_⟩
            have hd2 : due (names rs) tb (gb && pb) = if tb = false then .str "top" else if (gb && pb) = false then .str "rails" else .non := by
              unfold due
              rw [hnl, if_neg h40, if_pos hno]
            rw [hd2] at hdue
            cases tb with
            | false => exact iteT (hdue _ rfl _ s02)
            | true =>
              obtain ⟨tg, tyg, eg⟩ := hG.same s02
              obtain ⟨tp, typ, ep⟩ := hR.same s02
              refine iteF ⟨_, rfl, _, _, _, _, gb, rfl, .ty _, tyg, kit_ty eg, _, rfl, ?_⟩
              cases gb with
              | false => exact iteT (hdue _ rfl _ s02)
              | true =>
                refine iteF ⟨_, rfl, _, _, _, _, pb, rfl, .ty _, typ, kit_ty ep, _, rfl, ?_⟩
                cases pb with
                | false => exact iteT (hdue _ rfl _ s02)
                | true => exact iteF (hdue _ rfl _ s02)
          · rw [decide_eq_true (show ((SetT.nd (names rs).reverse : Int)) < (refs rs).length by rw [hlr]; have := hnd.mpr hno; omega)]
            refine iteT (hdue _ ?_ _ s02)
            unfold due
            rw [hnl, if_neg h40, if_neg hno]
end
end Sj
namespace Sj
open PySem L2 Sup
open NdefX (NF NScope ncx envF startF nscope_by)
open C8 (pss_cut tCut)
abbrev sFrI : Stmt := inClass (top 20) 1
/-- raise InvalidFrame(e), e a short text -/
theorem raise_inv {K : PySem.W.Frag} {CI : Addr} {z : Str} {σ : L2.St} {H H1 : Hp} {te : TE} {Q : XK} (hte : ∀ Q' : VK, Q' (.str z) H1 → te σ H1 Q') (hz : (reprText z).length ≤ 1000) (s1 : Same H H1)
    (k : ∀ d H', errH H H' d "reason" (.str z) → Q (.ref CI) (some d) H') : tMkO CI (spInv K CI) [] (tCons te tNil) σ H1 Q := by
  refine hte _ ⟨by show 1 ≤ 1000; decide, fun a ha => ⟨a, z, rfl, hz, upd_same, fun d hd hda => ⟨rfl, d, [("reason", .str z)], upd_same, ?_, ?_, ?_⟩⟩⟩
  · rw [upd_ne hda, upd_same]
  · rw [upd_ne hda] at hd
    exact hd
  · refine k d _ ⟨?_, upd_same, fun b o e => ?_⟩
    · rw [upd_ne hda] at hd
      exact s1.free hd
    · rw [upd_ne hda] at hd
      have e1 := s1 _ _ e
      have nbd : b ≠ d := ne_of_none e1 hd
      have nba : b ≠ a := ne_of_none e1 ha
      rw [upd_ne nbd, del_ne nba, upd_ne nba, upd_ne nbd, upd_ne nba]
      exact e1
/-- a frame's attributes -/
def frF (D : Addr) (T G R : V) : List (Str × V) := putF "power" R (putF "ground" G (putF "top" T (putF "_legs" (.ref D) [])))
def legRow (r : LegR) : Key × V := (Sum.inr r.z, .ref r.a)
/-- a frame stands at a: its legs, sorted by name -/
def FrAt (H : Hp) (a C : Addr) (ys : List LegR) (T G R : V) : Prop := ∃ dx D, H a = some (.ins C dx (frF D T G R)) ∧ H D = some (.dK (ys.map legRow)) ∧ D ≠ a
theorem FrAt.same {H H' : Hp} {a C : Addr} {ys : List LegR} {T G R : V} (h : FrAt H a C ys T G R) (s : Same H H') : FrAt H' a C ys T G R := by
  obtain ⟨dx, D, h1, h2, h3⟩ := h
  exact ⟨dx, D, s _ _ h1, s _ _ h2, h3⟩
/-- rows put in order -/
def Ordd (rs ys : List LegR) : Prop := ys.Perm rs ∧ PyProof.Rows.sortedS (names ys) = true
/-- Frame.__init__ -/
def spFrI (K : PySem.W.Frag) (ks : Kinds) (CI CF : Addr) : Sp := fun vs H Q E => ∃ (a dx t : Addr) (xs : List V) (T G R : V) (tb gb pb : Bool), vs = [.ref a, T, G, R, .ref t] ∧ H a = some (.ins CF dx []) ∧ H t = some (.tup xs) ∧ xs.length ≤ 1000 ∧ TopIs K H T tb ∧ RailIs K H G gb ∧ RailIs K H R pb ∧
  ((∃ bs : List Bool, bs.length = xs.length ∧ bs.all id = false ∧ (∀ (i : Nat) (x : V) (b : Bool), xs[i]? = some x → bs[i]? = some b → IsL K ks H x b) ∧ ∀ d H', errH H H' d "reason" (.str "legs") → E (.ref CI) (some d) H') ∨
   ∃ rs : List LegR, xs = refs rs ∧ (∀ r ∈ rs, r.ok ks H) ∧ (∀ z, due (names rs) tb (gb && pb) = .str z → ∀ d H', errH H H' d "reason" (.str z) → E (.ref CI) (some d) H') ∧
     (due (names rs) tb (gb && pb) = .non → ∀ H' ys, Ordd rs ys → FrAt H' a CF ys T G R → But H H' a → Q .non H'))
structure FrT (P : Program) (w : World) (K : PySem.W.Frag) (mg : Str → Option Value) (base : Heap) (ks : Kinds) (CI fI CF : Addr) : Prop where
  wr : WrT P w K mg base ks CF
  sorted : mg "sorted" = none
  mI : mg "InvalidFrame" = some (.ref CI)
  ex : ExT P K mg CI "reason"
  iC : PySem.W.findIn K (.ref CI) "__init__" = some (some (.ref fI))
  tI : PySem.W.typeIn K (.ref fI) = some (.type "function")
  inv : ∃ fdI, Binds K fdI ["self", "reason"] [] ∧ FnOk P w K mg base CX0 1 fI fdI ["self", "reason"] (spInv K CI)
  wrong : ∃ f fd, mg "wrong_frame" = some (.ref f) ∧ PySem.W.keepIn K (.ref f) = true ∧ Binds K fd ["legs", "top", "ground", "power"] [] ∧ FnOk P w K mg base CX0 3 f fd ["legs", "top", "ground", "power"] (spWrong K ks)
  cl : Cls K CF
  nL : NoAttr K CF "_legs"
  nT : NoAttr K CF "top"
  nG : NoAttr K CF "ground"
  nP : NoAttr K CF "power"
theorem due_str {zs : List Str} {tb rb : Bool} {z : Str} (h : due zs tb rb = .str z) : (reprText z).length ≤ 1000 := by
  unfold due at h
  have hh : z = "many" ∨ z = "top" ∨ z = "rails" ∨ z = "name" := by
    split at h
    · exact .inl (V.str.inj h).symm
    · split at h
      · split at h
        · exact .inr (.inl (V.str.inj h).symm)
        · split at h
          · exact .inr (.inr (.inl (V.str.inj h).symm))
          · cases h
      · exact .inr (.inr (.inr (V.str.inj h).symm))
  rcases hh with rfl | rfl | rfl | rfl <;> decide +kernel
theorem due_cases (zs : List Str) (tb rb : Bool) : due zs tb rb = .non ∨ ∃ z, due zs tb rb = .str z := by
  unfold due
  split
  · exact .inr ⟨_, rfl⟩
  · split
    · split
      · exact .inr ⟨_, rfl⟩
      · split
        · exact .inr ⟨_, rfl⟩
        · exact .inl rfl
    · exact .inr ⟨_, rfl⟩
theorem due_non {zs : List Str} {tb rb : Bool} (h : due zs tb rb = .non) : zs.length ≤ 40 ∧ zs.Nodup := by
  unfold due at h
  split at h
  · cases h
  · split at h
    · rename_i h1 h2
      exact ⟨by omega, h2⟩
    · cases h
theorem perm_rows : ∀ (ys : List Str) (rs : List LegR), ys.Perm (names rs) → ∃ qs : List LegR, qs.Perm rs ∧ names qs = ys
  | [], rs, h => by
    have e := h.length_eq
    unfold names at e
    rw [List.length_map] at e
    obtain rfl : rs = [] := List.length_eq_zero_iff.mp e.symm
    exact ⟨[], .refl _, rfl⟩
  | y :: ys, rs, h => by
    have hy : y ∈ names rs := h.mem_iff.mp List.mem_cons_self
    obtain ⟨r, hr, e⟩ := List.mem_map.mp hy
    obtain ⟨l1, l2, rfl⟩ := List.append_of_mem hr
    have p1 : (l1 ++ r :: l2).Perm (r :: (l1 ++ l2)) := List.perm_middle
    have h2 : (y :: ys).Perm (y :: names (l1 ++ l2)) := by
      have q := h.trans (p1.map fun r : LegR => r.z)
      rw [List.map_cons, e] at q
      exact q
    obtain ⟨qs, hq, en⟩ := perm_rows ys (l1 ++ l2) h2.cons_inv
    refine ⟨r :: qs, (List.Perm.cons r hq).trans p1.symm, ?_⟩
    show r.z :: names qs = _
    rw [en, e]
theorem valV_rows : ∀ (rs : List LegR) (r : LegR), (names rs).Nodup → r ∈ rs → valV (rs.map legRow) (Sum.inr r.z) = some (.ref r.a)
  | q :: rs, r, hn, hr => by
    unfold names at hn
    rw [List.map_cons, List.nodup_cons] at hn
    rcases List.mem_cons.mp hr with rfl | hr
    · exact valV_pos rfl
    · have ne : ¬ (legRow q).1 = Sum.inr r.z := fun z => by
        injection z with z
        exact hn.1 (List.mem_map.mpr ⟨r, hr, z.symm⟩)
      rw [List.map_cons, valV_neg ne]
      exact valV_rows rs r hn.2 hr
theorem valV_out : ∀ (rs : List LegR) (z : Str), z ∉ names rs → valV (rs.map legRow) (Sum.inr z) = none
  | [], _, _ => rfl
  | q :: rs, z, h => by
    have ne : ¬ (legRow q).1 = Sum.inr z := fun e => by
      injection e with e
      exact h (List.mem_map.mpr ⟨q, List.mem_cons_self, e⟩)
    rw [List.map_cons, valV_neg ne]
    exact valV_out rs z fun hz => h (List.mem_cons_of_mem _ hz)
end Sj
namespace Sj
open PySem L2 Sup
open NdefX (NF NScope ncx envF startF nscope_by)
open C8 (pss_cut tCut)
abbrev nFr : List Str := ["self", "top", "ground", "power", "legs", "reason", "by_name", "leg", "name"]
theorem scFrI : FnScope nFr ["self", "top", "ground", "power", "legs"] (defScope sFrI) := ⟨rfl, rfl, rfl, by decide +kernel, rfl, by decide +kernel, by decide +kernel⟩
def teNm7 (K : PySem.W.Frag) : TE := tFld K (tVar 7) "name"
def teGet : TE := tDGet (tVar 6) (tVar 8)
section
variable {P : Program} {w : World} {K : PySem.W.Frag} {mg : Str → Option Value} {base : Heap}
theorem body_frI {CI fI CF f : Addr} {ks : Kinds} (T : FrT P w K mg base ks CI fI CF) (cdv : Value) (A : Around) (outer : List Env) (s : Shared) (H : Hp) (vs : List V) (Q : VK) (E : XK)
    (hr : Room 3 (A.deeper (PyProof.Rows.envOfC "Frame.__init__" (defScope sFrI) s.heap.objs.size f cdv))) (h : spFrI K ks CI CF vs H Q E) :
    ∃ t, PSs (cxOf (L2.CX P w) P w K mg base nFr "Frame.__init__" (defScope sFrI) f cdv A outer s H E) (defBody sFrI) t ∧ t { nx := fun _ H' => Q .non H', rt := Q } (start nFr vs) H := by
  obtain ⟨fdI, bI, GI⟩ := T.inv
  obtain ⟨fW, fdW, mW, kW, bW, GW⟩ := T.wrong
  have hr1 := hr.mono (show 2 ≤ 3 by decide)
  obtain ⟨a, dx, t, xs, TT, G, R, tb, gb, pb, rfl, ha, ht, hlen, hT, hG, hR, h⟩ := h
  refine ⟨_, pss_cons (ps_set (i := 5) scFrI.nd rfl (Or.inl rfl) (pe_call GW hr rfl mW kW bW .nil pass0 (pa_cons (pv 4) (pa_cons (pv 1) (pa_cons (pv 2) (pa_cons (pv 3) pa_nil))))))
      (pss_cons (ps_if (pt_cmpR op_notN (pv 5) pe_non (nomark _)) (pss_one (ps_raise rfl (takes_of rfl rfl rfl rfl) (pmk_oex T.ex.oex T.iC T.tI GI hr1 bI .nil pass0 rfl T.mI (pa_cons (pv 5) pa_nil)))) pss_nil)
      (pss_cons (ps_set (i := 6) scFrI.nd rfl (Or.inr rfl) (pe_dc (tk := teNm7 K) (tv := tVar 7) (own := [("leg", 7)]) (g := gName 7) (tt := tYes) rfl scFrI.nd (pi_tup (pv 4)) (blkOk_by (N := nFr) (sc := defScope sFrI) (by decide +kernel))
          (fun _ _ _ _ _ => pg_name (i := 7) scFrI.nd rfl (Or.inl rfl)) (fun _ _ _ _ _ => pts_nil) (fun _ _ _ _ _ => pe_fld (pv 7) rfl) (fun _ _ _ _ _ => pv 7)))
      (pss_cons (ps_fld (pv 0) (pe_dc (tk := tVar 8) (tv := teGet) (own := [("name", 8)]) (g := gName 8) (tt := tYes) rfl scFrI.nd (pi_list (pe_callB (call_sortedD rfl) (by rfl) T.sorted (by decide +kernel) (pa_cons (pv 6) pa_nil))) (blkOk_by (N := nFr) (sc := defScope sFrI) (by decide +kernel))
          (fun _ _ _ _ _ => pg_name (i := 8) scFrI.nd rfl (Or.inl rfl)) (fun _ _ _ _ _ => pts_nil) (fun _ _ _ _ _ => pv 8) (fun _ _ _ _ _ => pe_dget (hu_of hr) (pv 6) (pv 8) (fun _ _ => rfl))) rfl)
      (pss_cons (ps_fld (pv 0) (pv 1) rfl) (pss_cons (ps_fld (pv 0) (pv 2) rfl) (pss_one (ps_fld (pv 0) (pv 3) rfl))))))), ?_⟩
  rcases h with ⟨bs, hbl, hall, hb, k⟩ | ⟨rs, rfl, hrs, k1, k2⟩
  · refine ⟨_, rfl, _, rfl, _, rfl, _, rfl, t, xs, TT, G, R, tb, gb, pb, rfl, ht, hlen, hT, hG, hR, .inl ⟨bs, hbl, hall, hb, fun H1 s1 => ?_⟩⟩
    refine ⟨_, rfl, rfl, _, rfl, iteT ?_⟩
    exact raise_inv (fun Q' q => ⟨_, rfl, q⟩) (by decide +kernel) s1 k
  · have hlr : (refs rs).length = rs.length := by unfold refs; rw [List.length_map]
    have hnl : (names rs).length = rs.length := by unfold names; rw [List.length_map]
    refine ⟨_, rfl, _, rfl, _, rfl, _, rfl, t, refs rs, TT, G, R, tb, gb, pb, rfl, ht, hlen, hT, hG, hR, .inr ⟨rs, rfl, hrs, fun H1 s1 => ?_⟩⟩
    rcases due_cases (names rs) tb (gb && pb) with e | ⟨z, e⟩
    · rw [e]
      obtain ⟨h40, hno⟩ := due_non e
      rw [hnl] at h40
      refine ⟨_, rfl, rfl, _, rfl, iteF ⟨_, rfl, t, rfl, ⟨refs rs, SqT.of (s1 _ _ ht)⟩, fun D hD => ?_⟩⟩
      have sD : ∀ (o : HO), Same H1 (upd H1 D o) := fun o b u e => by rw [upd_ne (ne_of_none e hD)]; exact e
      refine SetT.dict_it (walk_tup (K := K) (a := t) (xs := refs rs)) (fun i H' => Same H1 H' ∧ H' D = some (.dK ((rs.take i).map legRow))) ⟨sD _, by rw [upd_same]; rfl⟩ (fun i H' _ p => .inl (.inl (p.1 _ _ (s1 _ _ ht)))) ?_ ?_
      · rintro i x H2 H3 hi ⟨s2, d2⟩ ⟨rfl, hx1⟩
        rw [hlr] at hi
        have e1 : (refs rs)[i]? = some (.ref rs[i].a) := by unfold refs; rw [List.getElem?_map, List.getElem?_eq_getElem hi]; rfl
        rw [e1] at hx1
        obtain rfl := Option.some.inj hx1
        obtain ⟨hc, dy, eb⟩ := (hrs _ (List.getElem_mem hi)).same (s1.trans s2)
        have fld : ∃ C, H3 rs[i].a = some (.ins C dy (legF rs[i].z)) ∧ Cls K C ∧ NoAttr K C "name" := by
          refine ⟨_, eb, ?_⟩
          rcases hc with e | e <;> rw [e]
          · exact ⟨T.wr.icD.cl, T.wr.nD⟩
          · exact ⟨T.wr.icI.cl, T.wr.nI⟩
        obtain ⟨C, eb', cl, nn⟩ := fld
        refine ⟨rfl, ?_⟩
        unfold tYes
        dsimp only
        rw [if_pos rfl]
        have hti : (names (rs.take i)) = (names rs).take i := by unfold names; rw [List.map_take]
        have hout : rs[i].z ∉ names (rs.take i) := by
          have hi' : i < (names rs).length := by rw [hnl]; exact hi
          have ez : (names rs)[i] = rs[i].z := List.getElem_map (fun r : LegR => r.z)
          rw [hti, ← ez]
          intro hm
          obtain ⟨j, hj, ej⟩ := List.getElem_of_mem hm
          rw [List.length_take] at hj
          rw [List.getElem_take] at ej
          have := (List.getElem_inj hno).mp ej
          omega
        refine ⟨_, rfl, _, C, dy, _, _, rfl, eb', cl, nn, legF_name _, _, rfl, _, Sum.inr rs[i].z, rfl, d2, ?_, ?_, ?_⟩
        · rw [List.length_map, List.length_take]
          exact Nat.lt_of_le_of_lt (Nat.min_le_right _ _) (Nat.lt_of_le_of_lt (show rs.length ≤ 1000 by omega) (by decide))
        · exact fun b o e => by
            rw [upd_ne (ne_of_none e hD)]
            exact s2 _ _ e
        · rw [upd_same, putK_new _ (valV_out _ _ hout), List.take_add_one, List.getElem?_eq_getElem hi, List.map_append]
          rfl
      · rintro H2 ⟨s2, d2⟩
        rw [hlr, List.take_length] at d2
        have s02 := s1.trans s2
        clear k1
        refine ⟨_, rfl, D, _, names rs, rfl, .inl d2, ?_, by rw [hnl]; omega, fun ys q hp hs hq => ?_⟩
        · unfold names
          rw [List.map_map, List.map_map]
          rfl
        obtain ⟨qs, hqs, rfl⟩ := perm_rows ys rs hp
        obtain ⟨H3, eH3⟩ : ∃ H3, H3 = upd H2 q (.lst ((names qs).map V.str)) := ⟨_, rfl⟩
        have s3 : Same H2 H3 := fun b o e => by rw [eH3, upd_ne (ne_of_none e hq)]; exact e
        have hq3 : H3 q = some (.lst ((names qs).map V.str)) := by rw [eH3, upd_same]
        rw [← eH3]
        have s03 := s02.trans s3
        have hql : ((names qs).map V.str).length = qs.length := by unfold names; rw [List.length_map, List.length_map]
        have hqr : qs.length = rs.length := hqs.length_eq
        have hnq : (names qs).Nodup := (hqs.map fun r : LegR => r.z).nodup_iff.mpr hno
        refine ⟨q, rfl, ⟨_, SqL.of hq3⟩, fun D2 hD2 => ?_⟩
        have sD2 : ∀ (o : HO), Same H3 (upd H3 D2 o) := fun o b u e => by rw [upd_ne (ne_of_none e hD2)]; exact e
        refine SetT.dict_it (walk_list (K := K) (a := q) (xs := (names qs).map V.str)) (fun i H' => Same H3 H' ∧ H' D2 = some (.dK ((qs.take i).map legRow))) ⟨sD2 _, by rw [upd_same]; rfl⟩ (fun i H' _ p => SqL.of (p.1 _ _ hq3)) ?_ ?_
        · rintro i x H4 H5 hi ⟨s4, d4⟩ ⟨rfl, hx1⟩
          rw [hql] at hi
          have e1 : ((names qs).map V.str)[i]? = some (.str qs[i].z) := by unfold names; rw [List.map_map, List.getElem?_map, List.getElem?_eq_getElem hi]; rfl
          rw [e1] at hx1
          obtain rfl := Option.some.inj hx1
          refine ⟨rfl, ?_⟩
          unfold tYes
          dsimp only
          rw [if_pos rfl]
          have hti : (names (qs.take i)) = (names qs).take i := by unfold names; rw [List.map_take]
          have hout : qs[i].z ∉ names (qs.take i) := by
            have hi' : i < (names qs).length := by unfold names; rw [List.length_map]; exact hi
            have ez : (names qs)[i] = qs[i].z := List.getElem_map (fun r : LegR => r.z)
            rw [hti, ← ez]
            intro hm
            obtain ⟨j, hj, ej⟩ := List.getElem_of_mem hm
            rw [List.length_take] at hj
            rw [List.getElem_take] at ej
            have := (List.getElem_inj hnq).mp ej
            omega
          have hg : DGet H5 D (.str qs[i].z) (some (.ref qs[i].a)) := by
            rw [← valV_rows rs qs[i] hno (hqs.mem_iff.mp (List.getElem_mem hi))]
            exact DGet.k (k := Sum.inr qs[i].z) (s4 _ _ (s3 _ _ d2))
          refine ⟨_, rfl, _, rfl, _, rfl, D, _, rfl, hg, _, Sum.inr qs[i].z, rfl, d4, ?_, ?_, ?_⟩
          · rw [List.length_map, List.length_take]
            exact Nat.lt_of_le_of_lt (Nat.min_le_right _ _) (Nat.lt_of_le_of_lt (show qs.length ≤ 1000 by omega) (by decide))
          · exact fun b o e => by
              rw [upd_ne (ne_of_none e hD2)]
              exact s4 _ _ e
          · rw [upd_same, putK_new _ (valV_out _ _ hout), List.take_add_one, List.getElem?_eq_getElem hi, List.map_append]
            rfl
        · rintro H4 ⟨s4, d4⟩
          rw [hql, List.take_length] at d4
          have s04 := s03.trans s4
          have ha4 := s04 _ _ ha
          have nDa : D2 ≠ a := fun z => by rw [z] at hD2; rw [s03 _ _ ha] at hD2; cases hD2
          refine ⟨_, rfl, a, CF, dx, [], rfl, ha4, T.cl, T.nL, by show 0 < 1000; decide, ?_⟩
          refine ⟨_, rfl, _, rfl, a, CF, dx, _, rfl, upd_same, T.cl, T.nT, by show 1 < 1000; decide, ?_⟩
          refine ⟨_, rfl, _, rfl, a, CF, dx, _, rfl, upd_same, T.cl, T.nG, by show 2 < 1000; decide, ?_⟩
          refine ⟨_, rfl, _, rfl, a, CF, dx, _, rfl, upd_same, T.cl, T.nP, by show 3 < 1000; decide, ?_⟩
          refine k2 e _ qs ⟨hqs, hs⟩ ⟨dx, D2, upd_same, ?_, nDa⟩ fun b o hb eb => ?_
          · rw [upd_ne nDa, upd_ne nDa, upd_ne nDa, upd_ne nDa]
            exact d4
          · rw [upd_ne hb, upd_ne hb, upd_ne hb, upd_ne hb]
            exact s04 _ _ eb
    · rw [e]
      refine ⟨_, rfl, rfl, _, rfl, iteT ?_⟩
      exact raise_inv (fun Q' q => ⟨_, rfl, q⟩) (due_str e) s1 (k1 z e)
end
end Sj
namespace Sj
open PySem L2 Sup StK
open NdefX (NF NScope ncx envF startF nscope_by)
open C8 (pss_cut tCut)
abbrev sOf : Stmt := inClass (top 20) 2
def kwsF : List (Str × V) := [("top", .int 1), ("ground", .bl false), ("power", .bl false)]
abbrev ksB : List Str := ["top", "ground", "power"]
theorem errH.of {H H1 H' : Hp} {d : Addr} {fld : Str} {v : V} (h : errH H1 H' d fld v) (s : Same H H1) : errH H H' d fld v := ⟨s.free h.1, h.2.1, s.trans h.2.2⟩
section
variable {P : Program} {w : World} {K : PySem.W.Frag} {mg : Str → Option Value} {base : Heap}
theorem fr_kwB {CI fI CF f : Addr} {fd : FuncData} {ks : Kinds} (F : FunD K "__init__" "Frame.__init__" (defArgs sFrI) (defBody sFrI) (defScope sFrI) [] kwsF f fd) (T : FrT P w K mg base ks CI fI CF) :
    FnK P w K mg base (L2.CX P w) 4 f ksB (spStarK 1 (fun vs zs => vs ++ zs) (spFrI K ks CI CF)) :=
  fn_starK (ps := ["self", "top", "ground", "power"]) (pv := "legs") F scFrI StX.cxUp 1 ksB [] (fun us mv ws => us ++ ws) (by decide) (fun q h => nomatch h) (fun r1 _ r3 => r1.append r3)
    (fun us mv ws h1 _ h3 => by rw [List.length_append, h1, h3] <;> rfl)
    (fun D doc pm an cdv ct us rest mv ws h1 h2 h3 => match us, rest, mv, ws, h1, h2, h3 with
      | [a], [], [], [x, y, z], _, _, _ => rfl
      | [a], r :: rs, [], [x, y, z], _, _, _ => rfl)
    (fun cdv A outer s H vs Q E hr h => body_frI T cdv A outer s H vs Q E hr h)
end
end Sj
namespace Sj
open PySem L2 Sup StK
open NdefX (NF NScope ncx envF startF nscope_by)
open C8 (pss_cut tCut)
/-- what is asked of legs xs, with top, rails: the outcomes of the making of a frame, from H on -/
def Outc (K : PySem.W.Frag) (ks : Kinds) (CI CF : Addr) (xs : List V) (T G R : V) (tb rb : Bool) (H : Hp) (Q : VK) (E : XK) : Prop :=
  (∃ bs : List Bool, bs.length = xs.length ∧ bs.all id = false ∧ (∀ (i : Nat) (x : V) (b : Bool), xs[i]? = some x → bs[i]? = some b → IsL K ks H x b) ∧ ∀ d H', errH H H' d "reason" (.str "legs") → E (.ref CI) (some d) H') ∨
   ∃ rs : List LegR, xs = refs rs ∧ (∀ r ∈ rs, r.ok ks H) ∧ (∀ z, due (names rs) tb rb = .str z → ∀ d H', errH H H' d "reason" (.str z) → E (.ref CI) (some d) H') ∧
     (due (names rs) tb rb = .non → ∀ a H' ys, H a = none → Ordd rs ys → FrAt H' a CF ys T G R → Same H H' → Q (.ref a) H')
/-- the making keeps its promise -/
theorem mk_outc {K : PySem.W.Frag} {ks : Kinds} {CI CF : Addr} {xs : List V} {T G R : V} {tb gb pb : Bool} {H0 H : Hp} {Q : VK} {E : XK} {gV : List V → List V → List V} {zs : List V} (hg : ∀ x : Addr, gV [.ref x] zs = [.ref x, T, G, R]) (s0 : Same H0 H) (hlen : xs.length ≤ 1000)
    (hT : TopIs K H0 T tb) (hG : RailIs K H0 G gb) (hR : RailIs K H0 R pb) (o : Outc K ks CI CF xs T G R tb (gb && pb) H0 Q E) : spMk CF (spStarK 1 gV (spFrI K ks CI CF)) E xs zs H Q := by
  intro x dx hx hdx hne
  have s1 : Same H (upd (upd H dx (.own x)) x (.ins CF dx [])) := fun b o e => by
    rw [upd_ne (ne_of_none e hx), upd_ne (ne_of_none e hdx)]
    exact e
  refine ⟨[.ref x], xs, rfl, rfl, Nat.le_trans hlen (by decide), fun p hp => ?_⟩
  obtain ⟨H2, e2⟩ : ∃ H2, H2 = upd (upd (upd H dx (.own x)) x (.ins CF dx [])) p (.tup xs) := ⟨_, rfl⟩
  have hxp : x ≠ p := ne_of_none upd_same hp
  have hx2 : H2 x = some (.ins CF dx []) := by rw [e2, upd_ne hxp, upd_same]
  have hp2 : H2 p = some (.tup xs) := by rw [e2, upd_same]
  have s2 : Same H H2 := fun b o e => by
    rw [e2, upd_ne (ne_of_none (s1 _ _ e) hp)]
    exact s1 _ _ e
  have s02 := s0.trans s2
  rw [hg, ← e2]
  refine ⟨x, dx, p, xs, T, G, R, tb, gb, pb, rfl, hx2, hp2, hlen, hT.same s02, hG.same s02, hR.same s02, ?_⟩
  rcases o with ⟨bs, h1, h2, h3, k⟩ | ⟨rs, h1, h2, k1, k2⟩
  · exact .inl ⟨bs, h1, h2, fun i x b e1 e2 => (h3 i x b e1 e2).same s02, fun d H' e => k d H' (e.of s02)⟩
  · refine .inr ⟨rs, h1, fun r hr => (h2 r hr).same s02, fun z hz d H' e => k1 z hz d H' (e.of s02), fun hd H' ys ho hf hb => ⟨rfl, k2 hd x H' ys (s0.free hx) ho hf fun b o e => ?_⟩⟩
    exact hb b o (ne_of_none e (s0.free hx)) (s02 _ _ e)
/-- Frame.of -/
def spOf (K : PySem.W.Frag) (ks : Kinds) (CI CF : Addr) : Sp := fun vs H Q E => ∃ (x T G R : V) (tb gb pb : Bool), vs = [.ref CF, x, T, G, R] ∧ TopIs K H T tb ∧ RailIs K H G gb ∧ RailIs K H R pb ∧
  ((∃ t, TyX K H x t ∧ PySem.W.kitAny K t [.type "list", .type "tuple"] = some false ∧ ∀ d H', errH H H' d "reason" (.str "legs") → E (.ref CI) (some d) H') ∨
   ∃ (l : Addr) (xs : List V), x = .ref l ∧ (H l = some (.lst xs) ∨ H l = some (.tup xs)) ∧ xs.length ≤ 1000 ∧ Outc K ks CI CF xs T G R tb (gb && pb) H Q E)
structure OfT (P : Program) (w : World) (K : PySem.W.Frag) (mg : Str → Option Value) (base : Heap) (ks : Kinds) (CI fI CF fF : Addr) : Prop where
  isi : mg "isinstance" = none
  list : mg "list" = none
  tuple : mg "tuple" = none
  mI : mg "InvalidFrame" = some (.ref CI)
  ex : ExT P K mg CI "reason"
  iC : PySem.W.findIn K (.ref CI) "__init__" = some (some (.ref fI))
  tI : PySem.W.typeIn K (.ref fI) = some (.type "function")
  inv : ∃ fdI, Binds K fdI ["self", "reason"] [] ∧ FnOk P w K mg base CX0 1 fI fdI ["self", "reason"] (spInv K CI)
  mkc : Mk K CF fF
  kt : PySem.W.kitAny K (.type "list") [.type "list", .type "tuple"] = some true
  kt2 : PySem.W.kitAny K (.type "tuple") [.type "list", .type "tuple"] = some true
section
variable {P : Program} {w : World} {K : PySem.W.Frag} {mg : Str → Option Value} {base : Heap}
theorem scOf : FnScope ["cls", "legs", "top", "ground", "power"] ["cls", "legs", "top", "ground", "power"] (defScope sOf) := ⟨rfl, rfl, rfl, by decide +kernel, rfl, by decide +kernel, by decide +kernel⟩
theorem ok_of {CI fI CF fF f : Addr} {fd : FuncData} {ks : Kinds} (F : FunD K "of" "Frame.of" (defArgs sOf) (defBody sOf) (defScope sOf) [] kwsF f fd) (T : OfT P w K mg base ks CI fI CF fF)
    (GF : FnK P w K mg base (L2.CX P w) 4 fF ksB (spStarK 1 (fun vs zs => vs ++ zs) (spFrI K ks CI CF))) : FnOk P w K mg base (L2.CX P w) 6 f fd ["cls", "legs", "top", "ground", "power"] (spOf K ks CI CF) := by
  obtain ⟨fdI, bI, GI⟩ := T.inv
  refine F.ok scOf (fun vs H Q E h => ?_) (fun cdv A outer s H vs Q E hr h => ?_)
  · obtain ⟨x, T, G, R, tb, gb, pb, rfl, _⟩ := h
    rfl
  · obtain ⟨x, TT, G, R, tb, gb, pb, rfl, hT, hG, hR, h⟩ := h
    refine ⟨_, pss_cons (ps_if (pt_not (pt_val (pe_callB call_isiT (by rfl) T.isi (by decide +kernel) (pa_cons (pv 1) (pa_cons (pe_tup (pa_cons (pe_bltn (by rfl) T.list (by decide +kernel) (v := .ty "list") rfl) (pa_cons (pe_bltn (by rfl) T.tuple (by decide +kernel) (v := .ty "tuple") rfl) pa_nil))) pa_nil)))))
        (pss_one (ps_raise rfl (takes_of rfl rfl rfl rfl) (pmk_oex T.ex.oex T.iC T.tI GI (hr.mono (by decide)) bI .nil pass0 rfl T.mI (pa_cons pe_str pa_nil)))) pss_nil)
      (pss_one (ps_ret (pe_makeT T.mkc GF hr (passes_call (takes_of rfl rfl rfl rfl) fun _ _ _ _ h => h) (pv 0) (pv 1) (pk_cons (pv 2) (pk_cons (pv 3) (pk_cons (pv 4) pk_nil)))))), ?_⟩
    have lay : ∀ (t : Value) (b : Bool) (Q' : VK), TyX K H x t → PySem.W.kitAny K t [.type "list", .type "tuple"] = some b → (∀ H', Same H H' → Q' (.bl b) H') →
        tCB (rIsiT K) (tCons (tVar 1) (tCons (tTup (tCons (tC (.ty "list")) (tCons (tC (.ty "tuple")) tNil))) tNil)) (L2.start ["cls", "legs", "top", "ground", "power"] [.ref CF, x, TT, G, R]) H Q' := by
      intro t b Q' ty e k
      refine ⟨_, rfl, by show 2 ≤ sizeLine; decide, fun p hp => ?_⟩
      have s1 : Same H (upd H p (.tup [.ty "list", .ty "tuple"])) := fun b o e => by rw [upd_ne (ne_of_none e hp)]; exact e
      exact ⟨x, p, [.ty "list", .ty "tuple"], t, [.type "list", .type "tuple"], b, rfl, upd_same, .cons (.ty _) (.cons (.ty _) .nil), tyx_same ty s1, e, k _ s1⟩
    rcases h with ⟨t, ty, e, k⟩ | ⟨l, xs, rfl, hl, hlen, o⟩
    · refine lay t false _ ty e fun H1 s1 => ⟨_, rfl, iteT ?_⟩
      exact raise_inv (fun Q' q => q) (by decide +kernel) s1 k
    · have hty : ∃ t, TyX K H (.ref l) t ∧ PySem.W.kitAny K t [.type "list", .type "tuple"] = some true := by
        rcases hl with h | h
        · exact ⟨_, .base (.lst h), T.kt⟩
        · exact ⟨_, .base (.tup h), T.kt2⟩
      obtain ⟨t, ty, e⟩ := hty
      refine lay t true _ ty e fun H1 s1 => ⟨_, rfl, iteF ?_⟩
      refine ⟨_, rfl, rfl, _, rfl, _, rfl, _, rfl, _, rfl, rfl, l, xs, rfl, ?_, ?_⟩
      · rcases hl with h | h
        · exact .inr (SqL.of (s1 _ _ h))
        · exact .inl (SqT.of (s1 _ _ h))
      · exact mk_outc (fun x => rfl) s1 hlen hT hG hR o
end
end Sj
namespace Sj
open PySem L2 Sup StK
open NdefX (NF NScope ncx envF startF nscope_by)
open C8 (pss_cut tCut)
/-! Frame's own small methods (k03, k05): len, in, legs, names -/
abbrev sFr (i : Nat) : Stmt := inClass (top 20) i
theorem frF_legs (D : Addr) (T G R : V) : (frF D T G R).lookup ("_legs" : Str) = some (.ref D) := by
  unfold frF
  rw [lookup_putF, if_neg (by decide +kernel), lookup_putF, if_neg (by decide +kernel), lookup_putF, if_neg (by decide +kernel), lookup_putF, if_pos rfl]
theorem frF_top (D : Addr) (T G R : V) : (frF D T G R).lookup ("top" : Str) = some T := by
  unfold frF
  rw [lookup_putF, if_neg (by decide +kernel), lookup_putF, if_neg (by decide +kernel), lookup_putF, if_pos rfl]
theorem frF_ground (D : Addr) (T G R : V) : (frF D T G R).lookup ("ground" : Str) = some G := by
  unfold frF
  rw [lookup_putF, if_neg (by decide +kernel), lookup_putF, if_pos rfl]
theorem frF_power (D : Addr) (T G R : V) : (frF D T G R).lookup ("power" : Str) = some R := by
  unfold frF
  rw [lookup_putF, if_pos rfl]
def spFLen (C : Addr) : Sp := fun vs H Q _ => ∃ (a : Addr) (ys : List LegR) (T G R : V), vs = [.ref a] ∧ FrAt H a C ys T G R ∧ Q (.int ys.length) H
def spFIn (K : PySem.W.Frag) (C : Addr) : Sp := fun vs H Q _ => ∃ (a : Addr) (ys : List LegR) (T G R x : V), vs = [.ref a, x] ∧ FrAt H a C ys T G R ∧
  ((∃ z : Str, x = .str z ∧ Q (.bl (decide (z ∈ names ys))) H) ∨ ∃ t : String, TyX K H x (.type t) ∧ kitB t "str" = some false ∧ Q (.bl false) H)
structure FmT (K : PySem.W.Frag) (mg : Str → Option Value) (C : Addr) : Prop where
  cl : Cls K C
  nL : NoAttr K C "_legs"
  len : mg "len" = none
  isi : mg "isinstance" = none
  str : mg "str" = none
theorem valV_in : ∀ (rs : List LegR) (z : Str), (valV (rs.map legRow) (Sum.inr z)).isSome = decide (z ∈ names rs)
  | [], z => rfl
  | q :: rs, z => by
    by_cases e : (legRow q).1 = Sum.inr z
    · rw [List.map_cons, valV_pos e]
      have ez : q.z = z := Sum.inr.inj e
      rw [decide_eq_true (show z ∈ names (q :: rs) by rw [← ez]; exact List.mem_cons_self)]
      rfl
    · rw [List.map_cons, valV_neg e, valV_in rs z]
      have ez : ¬ z = q.z := fun h => e (by rw [h]; rfl)
      have h2 : z ∈ names (q :: rs) ↔ z ∈ names rs := by
        show z ∈ q.z :: names rs ↔ _
        rw [List.mem_cons]
        exact ⟨fun h => h.resolve_left ez, .inr⟩
      exact Bool.eq_iff_iff.mpr (by rw [decide_eq_true_eq, decide_eq_true_eq]; exact h2.symm)
section
variable {P : Program} {w : World} {K : PySem.W.Frag} {mg : Str → Option Value} {base : Heap}
theorem scF1 : FnScope ["self"] ["self"] (defScope (sFr 12)) := ⟨rfl, rfl, rfl, by decide +kernel, rfl, by decide +kernel, by decide +kernel⟩
theorem scFIn : FnScope ["self", "x"] ["self", "x"] (defScope (sFr 9)) := ⟨rfl, rfl, rfl, by decide +kernel, rfl, by decide +kernel, by decide +kernel⟩
theorem ok_flen {f C : Addr} {fd : FuncData} (F : Fun K "__len__" "Frame.__len__" (sFr 12) f fd) (T : FmT K mg C) : FnOk P w K mg base CX0 1 f fd ["self"] (spFLen C) := by
  refine F.ok scF1 (fun vs H Q E h => ?_) (fun cdv A outer s H vs Q E hr h => ?_)
  · obtain ⟨a, ys, _, _, _, rfl, _⟩ := h
    rfl
  · obtain ⟨a, ys, TT, G, R, rfl, ⟨dx, D, ea, eD, _⟩, k⟩ := h
    refine ⟨_, pss_one (ps_ret (pe_callB call_lenD (by rfl) T.len PySem.boot_len (pa_cons (pe_fld (pv 0) rfl) pa_nil))), ?_⟩
    refine ⟨_, rfl, a, C, dx, _, _, rfl, ea, T.cl, T.nL, frF_legs _ _ _ _, D, _, rfl, eD, ?_⟩
    rw [List.length_map]
    exact k
theorem ok_fin {f C : Addr} {fd : FuncData} (F : Fun K "__contains__" "Frame.__contains__" (sFr 9) f fd) (T : FmT K mg C) : FnOk P w K mg base CX0 1 f fd ["self", "x"] (spFIn K C) := by
  refine F.ok scFIn (fun vs H Q E h => ?_) (fun cdv A outer s H vs Q E hr h => ?_)
  · obtain ⟨a, ys, _, _, _, x, rfl, _⟩ := h
    rfl
  · obtain ⟨a, ys, TT, G, R, x, rfl, ⟨dx, D, ea, eD, _⟩, k⟩ := h
    refine ⟨_, pss_one (ps_ret (pe_and (pe_callB call_isi (by rfl) T.isi (by decide +kernel) (pa_cons (pv 1) (pa_cons (pe_bltn (by rfl) T.str (by decide +kernel) (v := .ty "str") rfl) pa_nil)))
      (pe_one (pe_cmp (pc_din (hu_of hr) (pv 1) (pe_fld (pv 0) rfl)) (by rfl))))), ?_⟩
    rcases k with ⟨z, rfl, k⟩ | ⟨t, ty, e, k⟩
    · refine ⟨_, rfl, _, _, _, _, true, rfl, .ty _, .base (.str z), kit_ty (by decide +kernel), _, rfl, iteT ?_⟩
      refine ⟨_, rfl, _, rfl, a, C, dx, _, _, rfl, ea, T.cl, T.nL, frF_legs _ _ _ _, D, _, rfl, DGet.k (k := Sum.inr z) eD, ?_⟩
      rw [valV_in]
      exact k
    · exact ⟨_, rfl, _, _, _, _, false, rfl, .ty _, ty, kit_ty e, _, rfl, iteF k⟩
end
end Sj
/-! == of two dicts whose values are instances with an __eq__ of their own -/
namespace Own
open PySem PySem.Spec PyProof.Rows L2 Sup
/-- what == asks of the class at C, n levels below -/
structure EqN (P : Program) (w : World) (K : PySem.W.Frag) (mg : Str → Option Value) (base : Heap) (n : Nat) (C : Addr) (sp : Sp) : Prop where
  ex : ∃ (g : Addr) (fd : FuncData), PySem.W.findIn K (.ref C) "__eq__" = some (some (.ref g)) ∧ PySem.W.isFn K (.ref g) = true ∧ FnOk P w K mg base CX0 n g fd ["self", "other"] sp ∧ Binds K fd ["self", "other"] []
  ne : PySem.W.findIn K (.ref C) "__ne__" = some (some (.builtin "object.__ne__"))
  ob : PySem.W.mroIn K C (.type "object") = some true
theorem EqN.eqC {X : Cx} {n : Nat} {C : Addr} {sp : Sp} (T : EqN X.prog X.w X.K X.mg X.base n C sp) (hr : Room (n + 1) X.A) : EqC X C sp := by
  obtain ⟨⟨g, fd, h1, h2, h3, h4⟩, h5, h6⟩ := T
  exact ⟨⟨g, fd, n, h1, h2, h3, hr, h4⟩, h5, h6⟩
section
variable {X : Cx} {pins : List (Addr × Obj)} {σ : L2.St} {H : Hp} {s : Shared} {n : Nat}
/-- x == y under any around -/
theorem rc_ownN {op : CmpOp} (hop : op = .Eq ∨ op = .NotEq) {S : Addr → Prop} {spE : Addr → Sp} (T : ∀ C, S C → EqN X.prog X.w X.K X.mg X.base n C (spE C)) {A : Around} (hr : Room (n + 1) A) (I : Inv X pins σ H s) (e0 : Env0 X.prog X.w X.K X.mg X.base A X.stack s H)
    {x y : V} {v u : Value} {Q : VK} {E' : Value → Shared → Prop} (rx : RelV x v) (ry : RelV y u) (h : rOwnE X.K op S spE x y H Q) : wpAny (model X.prog X.w) A (richCompare op v u) (EP X pins σ Q) E' s := by
  obtain ⟨a, C, dx, fs, rfl, ha, hS, h⟩ := h
  obtain rfl : v = Value.ref a := rx
  obtain ⟨mA, O, _⟩ := ins_get I.hok ha
  obtain ⟨od, J, _⟩ := O.look
  have KX := I.kIn
  rcases h with ⟨t, ht, hn, q⟩ | ⟨b, D, dy, gs, rfl, hb, hSD, hne, hsub, q⟩
  · obtain ⟨⟨g, fd, h1, h2, GF, hbd⟩, h3, h4⟩ := T C hS
    obtain ⟨P, KP, hP, _⟩ := kit_of I ry ht
    refine rc_own_left hop hr.units0 KX J (KP.ty _ _ KX hP) hn (R := fun k s' => ∃ H', Inv X pins σ H' s' ∧ Q (.bl (ansOf op k)) H') (try_own hop KX J h1 h2 h3 h4 (Room.in1 hr).units0 fun A' hA => ?_) fun k s' ⟨H', I', qq⟩ => ⟨.bl (ansOf op k), H', I', rfl, qq⟩
    rcases hA with rfl | rfl
    · exact gives_own GF (hr.mono (Nat.le_succ _)) hbd e0 I ry q
    · exact gives_own GF (Room.in1 hr) hbd e0.in1 I ry q
  · obtain rfl : u = Value.ref b := ry
    obtain ⟨⟨g, fd, h1, h2, GF, hbd⟩, h3, h4⟩ := T D hSD
    obtain ⟨mB, O', _⟩ := ins_get I.hok hb
    obtain ⟨od', J', _⟩ := O'.look
    refine rc_own_right hop hr.units0 KX J J' hne hsub (R := fun k s' => ∃ H', Inv X pins σ H' s' ∧ Q (.bl (ansOf op k)) H') (try_own hop KX J' h1 h2 h3 h4 (Room.in1 hr).units0 fun A' hA => ?_) fun k s' ⟨H', I', qq⟩ => ⟨.bl (ansOf op k), H', I', rfl, qq⟩
    rcases hA with rfl | rfl
    · exact gives_own GF (hr.mono (Nat.le_succ _)) hbd e0 I (y := .ref a) rfl q
    · exact gives_own GF (Room.in1 hr) hbd e0.in1 I (y := .ref a) rfl q
end
section
variable {prog : Program} {w : World} {κ : Type} [DecidableEq κ] {knd : KeyKind prog w κ} {A : Around} {E : Value → Shared → Prop} {s : Shared}
/-- the pairs one after another; J holds all along, and the two dicts stand still -/
theorem pairs_own {nm : String} {a b : Addr} {ka kb : List (κ × Value)} {oa ob : Obj} {J : Shared → Prop} {ok : κ → Bool} {Q : Bool → Shared → Prop} (ha : (a == sysModules) = false) (hb : (b == sysModules) = false)
    (still : ∀ s', J s' → s'.heap.get? a = some oa ∧ s'.heap.get? b = some ob) (da : s.heap.DictOf knd a ka) (db : s.heap.DictOf knd b kb) (hJ : J s)
    (turn : ∀ k v, (k, v) ∈ ka → (valueAt kb k = none ∧ ok k = false) ∨ ∃ y, valueAt kb k = some y ∧ ∀ s', J s' → wpAny (model prog w) A (eqBool v y) (fun r s'' => r = ok k ∧ J s'') E s')
    (h : ∀ s', J s' → Q (ka.length == kb.length && ka.all fun p => ok p.1) s') : wpAny (model prog w) A (Builtin.Dict.samePairs nm a b) Q E s := by
  obtain ⟨oa', es, ep, hoa, _, hda, hka, hpa, _⟩ := da
  obtain ⟨ob', es', ep', hob, _, hdb, hkb, hpb, _⟩ := db
  obtain rfl : oa' = oa := Option.some.inj (hoa.symm.trans (still s hJ).1)
  obtain rfl : ob' = ob := Option.some.inj (hob.symm.trans (still s hJ).2)
  have hla : ka.length = es.size := by rw [← hpa.length, Array.length_toList]
  have hlb : kb.length = es'.size := by rw [← hpb.length, Array.length_toList]
  have hfind : ∀ k, findBy knd.is es' k = valueAt kb k := fun k => by
    rw [← hpb.find k]
    clear hlb hpb hkb hdb hob h turn still
    obtain ⟨l⟩ := es'
    simp [findBy]
  unfold Builtin.Dict.samePairs Builtin.Dict.showsAll
  rw [if_neg (by rw [ha]; exact Bool.false_ne_true), if_neg (by rw [hb]; exact Bool.false_ne_true)]
  refine wpAny_bind (wpAny_pure (wpAny_bind (wpAny_pure (wpAny_bind (wpAny_dictEntries hoa hda ?_)))))
  dsimp only
  refine wpAny_bind (wpAny_dictEntries hob hdb ?_)
  by_cases hsz : es.size = es'.size
  case neg =>
    have h' := h s hJ
    rw [if_pos (by simpa using hsz)]
    rw [show (ka.length == kb.length) = false by rw [hla, hlb]; simpa using hsz, Bool.false_and] at h'
    exact wpAny_bind (wpAny_rule (wpAny_pure h'))
  case pos =>
    have h' : ∀ s', J s' → Q (ka.all fun p => ok p.1) s' := fun s' hs => by
      have q := h s' hs
      rwa [show (ka.length == kb.length) = true by rw [hla, hlb]; simpa using hsz, Bool.true_and] at q
    rw [if_neg (by rw [hsz]; simp)]
    refine wpAny_bind (wpAny_dictEpoch hoa hda (wpAny_bind ?_))
    rw [Std.Legacy.Range.forIn_eq_forIn_range']
    simp only [Std.Legacy.Range.size, Nat.sub_zero, Nat.add_sub_cancel, Nat.div_one]
    refine wpAny_forIn_list _ (fun rest q s' => J s' ∧ q = (none, ()) ∧ ∃ i, rest = List.range' i (es.size - i) ∧ i ≤ es.size ∧ (ka.all fun p => ok p.1) = ((ka.drop i).all fun p => ok p.1)) _ ?_ ?_ _ _ ⟨hJ, rfl, 0, by simp, Nat.zero_le _, rfl⟩
    · rintro x rest q s1 ⟨hJ1, rfl, i, hr, hi, hall⟩
      obtain ⟨hoa1, hob1⟩ := still s1 hJ1
      have hlt : i < es.size := by
        rcases Nat.lt_or_ge i es.size with z | z
        · exact z
        · rw [Nat.sub_eq_zero_of_le z] at hr
          simp at hr
      obtain ⟨rfl, hrest⟩ : x = i ∧ rest = List.range' (i + 1) (es.size - (i + 1)) := by
        rw [show es.size - i = (es.size - (i + 1)) + 1 by omega, List.range'_succ] at hr
        injection hr with h1 h2
        exact ⟨h1, h2⟩
      refine wpAny_bind (wpAny_dictEntries hoa1 hda ?_)
      rw [Array.getElem?_eq_getElem hlt]
      have hlt' : x < ka.length := by omega
      obtain ⟨k, v, hkv⟩ : ∃ k v, ka[x] = (k, v) := ⟨_, _, rfl⟩
      have hmem : (k, v) ∈ ka := by rw [← hkv]; exact List.getElem_mem hlt'
      have hdrop : ka.drop x = (k, v) :: ka.drop (x + 1) := by rw [← hkv]; exact List.drop_eq_getElem_cons hlt'
      obtain ⟨hkey, hval⟩ := hpa.get? (i := x) (e := es[x]) (k := k) (v := v) (by rw [Array.getElem?_toList]; exact Array.getElem?_eq_getElem hlt) (by rw [List.getElem?_eq_getElem hlt', hkv])
      obtain ⟨k', hk', hh⟩ := hka es[x] (Array.getElem_mem hlt)
      rw [knd.inj _ _ _ hk' hkey] at hh
      rw [hdrop, List.all_cons] at hall
      dsimp only at hall
      show wpAny _ _ (holding [es[x].key, es[x].val] _ >>= _) _ _ _
      rw [hh]
      refine wpAny_bind (wpAny_holding (wpAny_bind (wpAny_dictFind_of hkey hob1 hdb hkb ?_)))
      cases hj : es'.findIdx? fun e => knd.is k e.key with
      | none =>
        have hn : valueAt kb k = none := by rw [← hfind k, findBy_of_findIdx?, hj]
        rcases turn k v hmem with ⟨_, er⟩ | ⟨y, hy, _⟩
        · rw [er, Bool.false_and] at hall
          have q := h' s1 hJ1
          rw [hall] at q
          refine wpAny_pure (show wpAny _ _ (if (!false) = true then _ else _) _ _ _ from ?_)
          rw [if_pos (by decide)]
          exact wpAny_pure (wpAny_pure q)
        · rw [hn] at hy
          cases hy
      | some j =>
        obtain ⟨hjlt, _, _⟩ := Array.findIdx?_eq_some_iff_getElem.mp hj
        have hv' : valueAt kb k = some es'[j].val := by
          rw [← hfind k, findBy_of_findIdx?, hj]
          simp [Array.getElem?_eq_getElem hjlt]
        refine wpAny_bind (wpAny_dictEntries hob1 hdb ?_)
        rw [Array.getElem?_eq_getElem hjlt]
        rcases turn k v hmem with ⟨hn, _⟩ | ⟨y, hy, he⟩
        · rw [hv'] at hn
          cases hn
        · rw [← Option.some.inj (hv'.symm.trans hy), ← hval] at he
          refine wpAny_holding (wpAny_mono (he s1 hJ1) (fun r s2 ⟨er, hJ2⟩ => ?_) fun _ _ z => z)
          cases r with
          | false =>
            rw [← er, Bool.false_and] at hall
            have q := h' s2 hJ2
            rw [hall] at q
            show wpAny _ _ (if (!false) = true then _ else _) _ _ _
            rw [if_pos (by decide)]
            exact wpAny_pure (wpAny_pure q)
          | true =>
            rw [← er, Bool.true_and] at hall
            show wpAny _ _ (if (!true) = true then _ else _) _ _ _
            rw [if_neg (by decide)]
            refine wpAny_bind (wpAny_dictEpoch (still s2 hJ2).1 hda ?_)
            rw [if_neg (by simp)]
            exact wpAny_pure ⟨hJ2, rfl, x + 1, hrest, hlt, hall⟩
    · rintro q s1 ⟨hJ1, rfl, i, hr, hi, hall⟩
      have hin : i = es.size := by
        rcases Nat.lt_or_ge i es.size with z | z
        · rw [show es.size - i = (es.size - (i + 1)) + 1 by omega, List.range'_succ] at hr
          cases hr
        · exact Nat.le_antisymm hi z
      rw [hin, ← hla, List.drop_length] at hall
      have q := h' s1 hJ1
      rw [hall] at q
      exact wpAny_pure q
theorem rc_dict_own {a b : Addr} {ka kb : List (κ × Value)} {oa ob : Obj} {J : Shared → Prop} {ok : κ → Bool} {Q : Value → Shared → Prop} (ha : (a == sysModules) = false) (hb : (b == sysModules) = false)
    (still : ∀ s', J s' → s'.heap.get? a = some oa ∧ s'.heap.get? b = some ob) (da : s.heap.DictOf knd a ka) (db : s.heap.DictOf knd b kb) (hJ : J s) (hu : A.units < cLine)
    (turn : ∀ k v, (k, v) ∈ ka → (valueAt kb k = none ∧ ok k = false) ∨ ∃ y, valueAt kb k = some y ∧ ∀ s', J s' → wpAny (model prog w) A.in1 (eqBool v y) (fun r s'' => r = ok k ∧ J s'') E s')
    (h : ∀ s', J s' → Q (.bool (ka.length == kb.length && ka.all fun p => ok p.1)) s') : wpAny (model prog w) A (richCompare .Eq (.ref a) (.ref b)) Q E s := by
  refine wpAny_richCompare_same_room (op := .Eq) da.typeIs db.typeIs PySem.F.slot_dict_eq (wpAny_call_entry PySem.F.slot_dict_eq da.typeIs PySem.F.entry_dict_eq (show wpAny _ _ (Builtin.Dict.dictSlotArgs "__eq__" ⟨[.ref a, .ref b], []⟩ >>= _) _ _ s from ?_) (PySem.F.args_dict_eq_2 _ _)) hu
  refine wpAny_bind ?_
  unfold Builtin.Dict.dictSlotArgs
  refine wpAny_bind (wpAny_notOrdered_dict da.typeIs (show wpAny _ _ (pure (Value.ref a, Value.ref b)) _ _ s from wpAny_pure ?_))
  refine wpAny_bind (wpAny_isInstance (T := "dict") db.typeIs PySem.F.sub_dict_dict ?_)
  simp only [Bool.not_true, Bool.false_eq_true, if_false]
  refine wpAny_bind (wpAny_pure (wpAny_bind (wpAny_pure (wpAny_bind (pairs_own ha hb still da db hJ turn fun s1 hJ1 => ?_)))))
  refine wpAny_pure ⟨_, rfl, (fun x => nomatch x), ?_⟩
  simpa using h s1 hJ1
end
theorem kv_mem : ∀ {ks : List (Key × V)} {vs : List (Key × Value)}, KV ks vs → ∀ {k : Key} {u : Value}, (k, u) ∈ vs → ∃ x, (k, x) ∈ ks ∧ RelV x u
  | [], [], .nil, k, u, hm => by cases hm
  | _ :: _, _ :: _, .cons h t, k, u, hm => by
    rcases List.mem_cons.mp hm with e | hm
    · refine ⟨_, List.mem_cons.mpr (.inl (Prod.ext_iff.mpr ⟨?_, rfl⟩)), ?_⟩
      · rw [h.1, ← e]
      · have := h.2
        rw [← e] at this
        exact this
    · obtain ⟨x, hx, r⟩ := kv_mem t hm
      exact ⟨x, List.mem_cons_of_mem _ hx, r⟩
theorem kv_all {ks : List (Key × V)} {vs : List (Key × Value)} (r : KV ks vs) (f : Key → Bool) : (vs.all fun p => f p.1) = ks.all fun p => f p.1 := by
  have e := KV.keys r
  rw [show (vs.all fun p => f p.1) = (vs.map (·.1)).all f by rw [List.all_map]; rfl, ← e, List.all_map]
  rfl
/-- what stands beside the two dicts -/
def Beside (a b : Addr) (H H' : Hp) : Prop := ∀ c o, H c = some o → c ≠ a → c ≠ b → H' c = some o
def rEqD (K : PySem.W.Frag) (S : Addr → Prop) (spE : Addr → Sp) : R2 := fun x y H Q => ∃ (a b : Addr) (ks ls : List (Key × V)) (ok : Key → Bool), x = .ref a ∧ y = .ref b ∧ H a = some (.dK ks) ∧ H b = some (.dK ls) ∧
  (∀ k v, (k, v) ∈ ks → (valV ls k = none ∧ ok k = false) ∨ ∃ p q, v = .ref p ∧ valV ls k = some (.ref q) ∧ ((p = q ∧ ok k = true) ∨ (p ≠ q ∧ ∀ H', Beside a b H H' → rOwnE K .Eq S spE (.ref p) (.ref q) H' fun z H'' => z = .bl (ok k) ∧ Same H' H''))) ∧
  ∀ H', Same H H' → Q (.bl (ks.length == ls.length && ks.all fun p => ok p.1)) H'
theorem op_eqOwnD {X : Cx} {n : Nat} {S : Addr → Prop} {spE : Addr → Sp} (T : ∀ C, S C → EqN X.prog X.w X.K X.mg X.base n C (spE C)) (hr : Room (n + 2) X.A) : OpR X (compareOp .Eq) (rEqD X.K S spE) := by
  intro pins s σ H x y v u Q I rx ry h
  obtain ⟨a, b, ks, ls, ok, rfl, rfl, hka, hkb, turn, fin⟩ := h
  obtain rfl : v = Value.ref a := rx
  obtain rfl : u = Value.ref b := ry
  show wpAny _ _ (richCompare .Eq (.ref a) (.ref b)) _ _ s
  -- both are locked
  obtain ⟨HL, IL, oa, ob, ha1, hb1, hbes, hun⟩ : ∃ HL, Inv X pins σ HL s ∧ ∃ oa ob, HL a = some (.frz oa (.dK ks)) ∧ HL b = some (.frz ob (.dK ls)) ∧ Beside a b H HL ∧ ∀ H' s', Inv X pins σ H' s' → Same HL H' → ∃ H3, Inv X pins σ H3 s' ∧ Same H H3 := by
    obtain ⟨oa, I1⟩ := I.lock hka trivial
    by_cases e : a = b
    · subst e
      obtain rfl : ks = ls := by
        rw [hka] at hkb
        injection hkb with z
        injection z
      refine ⟨_, I1, oa, oa, upd_same, upd_same, fun c o hc n1 _ => by rw [upd_ne n1]; exact hc, fun H' s' I' s1 => ⟨_, I'.unlock (s1 _ _ upd_same) (I.nofrz hka trivial), fun c o hc => ?_⟩⟩
      by_cases z : c = a
      · rw [z] at hc ⊢
        rw [upd_same, ← hc, hka]
      · rw [upd_ne z]
        exact s1 _ _ (by rw [upd_ne z]; exact hc)
    · have hb2 : (upd H a (.frz oa (.dK ks))) b = some (.dK ls) := by rw [upd_ne (Ne.symm e)]; exact hkb
      obtain ⟨ob, I2⟩ := I1.lock hb2 trivial
      refine ⟨_, I2, oa, ob, by rw [upd_ne e, upd_same], upd_same, fun c o hc n1 n2 => by rw [upd_ne n2, upd_ne n1]; exact hc, fun H' s' I' s1 => ?_⟩
      have hbq : H' b = some (.frz ob (.dK ls)) := s1 _ _ upd_same
      have haq : H' a = some (.frz oa (.dK ks)) := s1 _ _ (by rw [upd_ne e, upd_same])
      have I3 := I'.unlock hbq (I.nofrz hkb trivial)
      refine ⟨_, I3.unlock (by rw [upd_ne e]; exact haq) (I.nofrz hka trivial), fun c o hc => ?_⟩
      by_cases z : c = a
      · rw [z] at hc ⊢
        rw [upd_same, ← hc, hka]
      · rw [upd_ne z]
        by_cases z2 : c = b
        · rw [z2] at hc ⊢
          rw [upd_same, ← hc, hkb]
        · rw [upd_ne z2]
          exact s1 _ _ (by rw [upd_ne z2, upd_ne z]; exact hc)
  obtain ⟨sa, ga, xa, esa, epa, va, dta, sza, kva, hma⟩ := IL.frzK ha1
  obtain ⟨sb, gb, xb, esb, epb, vb, dtb, szb, kvb, hmb⟩ := IL.frzK hb1
  refine rc_dict_own (knd := mixKind X.prog X.w) (ok := ok) (J := fun s' => ∃ H', Inv X pins σ H' s' ∧ Same HL H') sa sb (fun s' ⟨H', I', s1⟩ => ⟨(I'.frzK (s1 _ _ ha1)).2.1, (I'.frzK (s1 _ _ hb1)).2.1⟩) hma.dictOf hmb.dictOf ⟨HL, IL, Same.refl HL⟩ hr.units0 (fun k u hm => ?_) fun s1 ⟨H1, I1, s01⟩ => ?_
  · obtain ⟨x, hx, rxu⟩ := kv_mem kva hm
    have rb := KV.val kvb k
    rcases turn k x hx with ⟨e1, e2⟩ | ⟨p, q, rfl, e1, e2⟩
    · rw [e1] at rb
      refine .inl ⟨?_, e2⟩
      cases hv : valueAt vb k with
      | none => rfl
      | some z => rw [hv] at rb; exact False.elim rb
    · rw [e1] at rb
      obtain rfl : u = Value.ref p := rxu
      cases hv : valueAt vb k with
      | none => rw [hv] at rb; exact False.elim rb
      | some z =>
        rw [hv] at rb
        obtain rfl : z = Value.ref q := rb
        refine .inr ⟨_, rfl, fun s1 ⟨H1, I1, s01⟩ => ?_⟩
        rcases e2 with ⟨rfl, e3⟩ | ⟨hpq, e3⟩
        · unfold eqBool
          refine wpAny_holding ?_
          rw [if_pos (by simp)]
          exact wpAny_bind (wpAny_rule (wpAny_pure ⟨e3.symm, H1, I1, s01⟩))
        · refine GQ.eqBool_refG hpq (wpAny_mono (rc_ownN (.inl rfl) T (Room.in1 hr) I1 I1.env0.in1 (x := .ref p) (y := .ref q) rfl rfl (e3 H1 fun c o hc n1 n2 => s01 _ _ (hbes c o hc n1 n2))) (fun v s2 ⟨z, H2, I2, rv, ez, s12⟩ => ?_) fun _ _ z => z)
          subst ez
          exact ⟨ok k, rv, rfl, H2, I2, s01.trans s12⟩
  · obtain ⟨H3, I3, s3⟩ := hun H1 s1 I1 s01
    refine ⟨_, H3, I3, ?_, fin H3 s3⟩
    have e1 : va.length = ks.length := (Paired.length kva).symm
    have e2 : vb.length = ls.length := (Paired.length kvb).symm
    rw [kv_all kva ok, e1, e2]
    rfl
end Own
/-! Defs of which more is known: that nothing is being shown around them (a repr of a list asks it). -/
namespace Grd
open PySem PySem.Spec PyProof.Rows L2
/-- as FnOk, called where nothing is being shown -/
structure FnG (P : Program) (w : World) (K : PySem.W.Frag) (mg : Str → Option Value) (base : Heap) (CX : CXT) (k : Nat) (f : Addr) (fd : FuncData) (ps : List Str) (sp : Sp) : Prop where
  len : ∀ vs H Q E, sp vs H Q E → vs.length = ps.length
  run : ∀ (A : Around) (outer : List Env) (s : Shared) (H : Hp) (args : Args) (us : List Value) (vs : List V) (Q : VK) (E : XK),
    A.guards = some [] → Room k A → Env0 P w K mg base A outer s H → BindsTo s fd args (ps.zip us) → Vals vs us → sp vs H Q E → codeAny (model P w) A (.call (.ref f) args) (CR CX outer P w H s Q E) s
section
variable {P : Program} {w : World} {K : PySem.W.Frag} {mg : Str → Option Value} {base : Heap} {CX : CXT} {j k : Nat} {f : Addr} {fd : FuncData} {ps : List Str} {sp sp' : Sp}
theorem FnG.of (F : FnOk P w K mg base CX k f fd ps sp) : FnG P w K mg base CX k f fd ps sp := ⟨F.len, fun A outer s H args us vs Q E _ => F.run A outer s H args us vs Q E⟩
theorem FnG.mono (F : FnG P w K mg base CX j f fd ps sp) (h : j ≤ k) : FnG P w K mg base CX k f fd ps sp := ⟨F.len, fun A outer s H args us vs Q E hg hr => F.run A outer s H args us vs Q E hg (hr.mono h)⟩
theorem FnG.imp (F : FnG P w K mg base CX k f fd ps sp) (h : ∀ vs H Q E, sp' vs H Q E → sp vs H Q E) : FnG P w K mg base CX k f fd ps sp' :=
  ⟨fun vs H Q E q => F.len vs H Q E (h _ _ _ _ q), fun A outer s H args us vs Q E hg hr he hb hv hs => F.run A outer s H args us vs Q E hg hr he hb hv (h _ _ _ _ hs)⟩
/-- by its body -/
theorem fun_g {x qual : Str} {st : Stmt} {N : List Str} (F : Fun K x qual st f fd) (S : FnScope N ps (defScope st)) (len : ∀ vs H Q E, sp vs H Q E → vs.length = ps.length)
    (hbody : ∀ (cdv : Value) (A : Around) (outer : List Env) (s : Shared) (H : Hp) (vs : List V) (Q : VK) (E : XK), A.guards = some [] → Room k (A.deeper (envOfC qual (defScope st) s.heap.objs.size f cdv)) → sp vs H Q E →
      ∃ t, PSs (cxOf CX0 P w K mg base N qual (defScope st) f cdv A outer s H E).nox (defBody st) t ∧ t { nx := fun _ H' => Q .non H', rt := Q } (start N vs) H) : FnG P w K mg base CX0 (k + 1) f fd ps sp := by
  obtain ⟨oc, od, kV, doc, pm, an, cdv, ct, osl, rfl, lk, hcd⟩ := F.ex
  refine ⟨len, fun A outer s H args us vs Q E hg hr e0 hb r hsp => ?_⟩
  refine LamX.run_ofS (CX := CX0) lk hcd S hr e0 hb r (len _ _ _ _ hsp) fun hr1 => ?_
  obtain ⟨t, ht, hq⟩ := hbody cdv A outer s H vs Q E hg hr1 hsp
  exact ⟨t, ht.nox, hq⟩
end
section
variable {X : Cx} {CX : CXT} {k : Nat} {f : Addr} {fd : FuncData} {ps : List Str} {sp : Sp} {E : XK} {x : Str} {p pos : Pos} {e : Expr} {es : List Expr} {t : TA}
theorem run_g {pins : List (Addr × Obj)} {σ : L2.St} {H : Hp} {s : Shared} {Q : VK} {us : List Value} {vs : List V} (F : FnG X.prog X.w X.K X.mg X.base CX k f fd ps sp) (hG : X.A.guards = some []) (hr : Room k X.A) (hb : Binds X.K fd ps []) (hx : Passes CX X E)
    (I : Inv X pins σ H s) (r : Vals vs us) (h : sp vs H Q E) : wpAny (model X.prog X.w) X.A (call (.ref f) us) (EP X pins σ Q) X.xe s := by
  have hl : (us ++ []).length = ps.length := by rw [List.append_nil, ← r.length]; exact F.len _ _ _ _ h
  have hB := hb s us I.kIn hl
  rw [List.append_nil] at hB
  refine wpAny_call (codeAny_mono (F.run X.A X.stack s H ⟨us, []⟩ us vs Q E hG hr I.env0 hB r h) fun res s' hq => ?_)
  match res, hq with
  | .error e, hq => exact hx pins σ H s e s' I hq
  | .ok (.ret u), hq => exact I.after hq
theorem pe_callG (F : FnG X.prog X.w X.K X.mg X.base CX k f fd ps sp) (hG : X.A.guards = some []) (hr : Room k X.A) (hg : Gl X x) (hm : X.mg x = some (.ref f)) (hk : PySem.W.keepIn X.K (.ref f) = true) (hb : Binds X.K fd ps []) (hx : Passes CX X E)
    (ha : PA X (e :: es) t) (hdb : (x == ("__debug__" : Str)) = false := by decide) (hs : starEach (e :: es) X.env = (false, eval e X.env) :: starEach es X.env := by rfl) (hp : (backTo pos (starEach es X.env)).any (·.1) = false := by rfl) :
    PE X (.Call (.Name x p) (e :: es) [] pos) (tCall sp [] E t) := by
  refine ⟨fun pins s σ H Q I h => wpAny_Call_Name_kw (ld_glob I hg hm ?_ hdb)⟩
  refine PySem.W.callWith_K (h₀ := X.base) I.ok.mod.kin hk (thn (ha.run pos pins s σ H _ I h) ?_) hs hp
  rintro us s1 ⟨vs, H1, I1, r, q⟩
  rw [List.append_nil] at q
  exact ⟨I1.kIn, run_g F hG hr hb hx I1 r q⟩
end
end Grd
/-! len(o), x in o, o[x] of an instance with such methods of its own; o in (None, "a", (..)) by its __eq__ -/
namespace Own
open PySem PySem.Spec PyProof.Rows L2 Sup Grd
section
variable {X : Cx} {CX : CXT} {pins : List (Addr × Obj)} {σ : L2.St} {H : Hp} {s : Shared} {k : Nat} {C f : Addr} {fd : FuncData} {ps : List Str} {sp : Sp} {E : XK}
/-- len(o) -/
def rLenO (C : Addr) (sp : Sp) : List V → Hp → VK → Prop := fun xs H Q => ∃ a dx fs, xs = [.ref a] ∧ H a = some (.ins C dx fs) ∧ sp [.ref a] H (fun z H' => ∃ n : Nat, z = .int n ∧ n < 2 ^ 62 ∧ Q (.int n) H') E0
/-- x in o, x not in o -/
def rInO (C : Addr) (neg : Bool) (sp : Sp) : R2 := fun x y H Q => ∃ a dx fs, y = .ref a ∧ H a = some (.ins C dx fs) ∧ sp [.ref a, x] H (fun z H' => ∃ b : Bool, z = .bl b ∧ Q (.bl (if neg then !b else b)) H') E0
/-- o[x], which may raise -/
def tItO (C : Addr) (sp : Sp) (E : XK) (ta tb : TE) : TE := fun σ H Q => ta σ H fun y H1 => tb σ H1 fun x H2 => ∃ a dx fs, y = .ref a ∧ H2 a = some (.ins C dx fs) ∧ sp [.ref a, x] H2 Q E
end
/-! ### o in (None, "a", (..)) -/
/-- None or a tuple -/
inductive OddL (K : PySem.W.Frag) (H : Hp) : V → Prop
  | non : OddL K H .non
  | tup {t : Addr} {xs : List V} : SqT K H t xs → OddL K H (.ref t)
theorem OddL.same {K : PySem.W.Frag} {H H' : Hp} {x : V} (h : OddL K H x) (s : Same H H') : OddL K H' x := by
  cases h with
  | non => exact .non
  | tup q => exact .tup (SqT.ext q s)
end Own
/-! e.f, a property, of an instance of one of some classes -/
namespace Own
open PySem PySem.Spec PyProof.Rows L2 Sup Grd
structure PropN (P : Program) (w : World) (K : PySem.W.Frag) (mg : Str → Option Value) (base : Heap) (n : Nat) (C : Addr) (f : Str) (sp : Sp) : Prop where
  cl : Cls K C
  ex : ∃ (p g : Addr) (fd : FuncData), PropOf K C f p g ∧ FnOk P w K mg base CX0 n g fd ["self"] sp ∧ Binds K fd ["self"] []
def tPropS (S : Addr → Prop) (spP : Addr → Sp) (ta : TE) : TE := fun σ H Q => ta σ H fun x H1 => ∃ a C dx fs, x = .ref a ∧ H1 a = some (.ins C dx fs) ∧ S C ∧ spP C [.ref a] H1 Q E0
theorem pe_propS {X : Cx} {n : Nat} {S : Addr → Prop} {spP : Addr → Sp} {f : Str} {e : Expr} {ta : TE} {pos : Pos} (he : PE X e ta) (T : ∀ C, S C → PropN X.prog X.w X.K X.mg X.base n C f (spP C)) (hr : Room (n + 1) X.A)
    (hab : attributeBase e f X.env (eval e X.env) = eval e X.env := by rfl) : PE X (.Attribute e f pos) (tPropS S spP ta) := by
  refine ⟨fun pins s σ H Q I h => ?_⟩
  refine attr_of hab (thn (he.run pins s σ H _ I h) fun u s1 ⟨x, H1, I1, rx, a, C, dx, fs, ex, ea, hS, q⟩ => ?_)
  subst ex
  obtain rfl : u = Value.ref a := rx
  obtain ⟨cl, p, g, fd, hp, F, hb⟩ := T C hS
  exact getprop_ok I1 ea cl hp F hr hb .nil pass0 q
end Own
/-! tuple(d), tuple(d.values()) of a dict whose keys are ints or texts -/
/-! sorted(t) of a tuple of texts (fewer than 64) -/
namespace Sj
open PySem L2 Sup StK Own
open NdefX (NF NScope ncx envF startF nscope_by)
open C8 (pss_cut tCut)
/-! Frame's properties (k03, k05, ..) -/
theorem same_at {H : Hp} {a : Addr} {o : HO} (h : H a = none) : Same H (upd H a o) := fun b u e => by rw [upd_ne (ne_of_none e h)]; exact e
/-- a frame as data -/
structure FrD where
  ys : List LegR
  t : Int
  g : Bool
  r : Bool
structure FrIs (ks : Kinds) (CF : Addr) (H : Hp) (a : Addr) (d : FrD) : Prop where
  at_ : FrAt H a CF d.ys (.int d.t) (.bl d.g) (.bl d.r)
  ok : ∀ r ∈ d.ys, r.ok ks H
  nd : (names d.ys).Nodup
  le : d.ys.length ≤ 40
  so : PyProof.Rows.sortedS (names d.ys) = true
theorem FrIs.same {ks : Kinds} {CF : Addr} {H H' : Hp} {a : Addr} {d : FrD} (h : FrIs ks CF H a d) (s : Same H H') : FrIs ks CF H' a d := ⟨h.at_.same s, fun r hr => (h.ok r hr).same s, h.nd, h.le, h.so⟩
def strv (zs : List Str) : List V := zs.map V.str
/-- the names of the legs of the kind b -/
def kindZ (ks : Kinds) (b : Bool) (ys : List LegR) : List Str := names (ys.filter fun r => decide (r.C = ks.drv) == b)
def railsZ (g r : Bool) : List Str := (if g then [("ground" : Str)] else []) ++ if r then [("power" : Str)] else []
/-- a getter that makes a new tuple of texts -/
def spTup (ks : Kinds) (CF : Addr) (f : FrD → List Str) : Sp := fun vs H Q _ => ∃ a d, vs = [.ref a] ∧ FrIs ks CF H a d ∧ ∀ p H', H p = none → H' p = some (.tup (strv (f d))) → Same H H' → Q (.ref p) H'
structure FpT (P : Program) (w : World) (K : PySem.W.Frag) (mg : Str → Option Value) (base : Heap) (ks : Kinds) (CF : Addr) : Prop where
  cl : Cls K CF
  nL : NoAttr K CF "_legs"
  nG : NoAttr K CF "ground"
  nP : NoAttr K CF "power"
  tuple : mg "tuple" = none
  sorted : mg "sorted" = none
  dv : ∀ C, (C = ks.drv ∨ C = ks.lis) → PropN P w K mg base 1 C "drives" (spDr C (decide (C = ks.drv)))
def rTupQ (K : PySem.W.Frag) : List V → Hp → VK → Prop := fun xs H Q => ∃ p ys, xs = [.ref p] ∧ ((SqL K H p ys ∧ ∀ l, H l = none → Q (.ref l) (upd H l (.tup ys))) ∨ (SqT K H p ys ∧ Q (.ref p) H))
section
variable {P : Program} {w : World} {K : PySem.W.Frag} {mg : Str → Option Value} {base : Heap}
theorem kindZ_take {ks : Kinds} {b : Bool} {ys : List LegR} {i : Nat} (hi : i < ys.length) : kindZ ks b (ys.take (i + 1)) = kindZ ks b (ys.take i) ++ if (decide (ys[i].C = ks.drv) == b) = true then [ys[i].z] else [] := by
  unfold kindZ names
  rw [List.take_add_one, List.getElem?_eq_getElem hi, List.filter_append, List.map_append]
  congr 1
  show List.map _ (List.filter _ [ys[i]]) = _
  rw [List.filter_cons]
  by_cases e : (decide (ys[i].C = ks.drv) == b) = true
  · rw [if_pos e, if_pos e]
    rfl
  · rw [if_neg e, if_neg e]
    rfl
def tePl (ks : Kinds) : TE := tPropS (fun C => C = ks.drv ∨ C = ks.lis) (fun C => spDr C (decide (C = ks.drv))) (tVar 2)
def ttPl (ks : Kinds) (b : Bool) : TT := if b then tB (tePl ks) else tNot (tB (tePl ks))
theorem tePl_rd {ks : Kinds} {σ : L2.St} {H : Hp} {r : LegR} {Q : VK} (hv : σ[2]? = some (some (.ref r.a))) (hr : r.ok ks H) (k : Q (.bl (decide (r.C = ks.drv))) H) : tePl ks σ H Q := by
  obtain ⟨hc, dx, ea⟩ := id hr
  exact ⟨_, hv, r.a, r.C, dx, _, rfl, ea, hc, r.a, r.z, rfl, ⟨dx, ea⟩, k⟩
theorem ttPl_rd {ks : Kinds} {b : Bool} {σ : L2.St} {H : Hp} {r : LegR} {Q : Bool → Hp → Prop} (hv : σ[2]? = some (some (.ref r.a))) (hr : r.ok ks H) (k : Q (decide (r.C = ks.drv) == b) H) : ttPl ks b σ H Q := by
  unfold ttPl
  cases b with
  | true =>
    rw [if_pos rfl]
    refine tePl_rd hv hr ⟨_, rfl, ?_⟩
    rw [beq_true] at k
    exact k
  | false =>
    rw [if_neg Bool.false_ne_true]
    refine tePl_rd hv hr ⟨_, rfl, ?_⟩
    rw [beq_false] at k
    exact k
/-- [name for name, leg in self._legs.items() if .. leg.drives], the dict locked at HL -/
theorem kind_walk {ks : Kinds} {b : Bool} {ys : List LegR} {D Dn : Addr} {od : Obj} {HL : Hp} {σ : L2.St} {Qd : Hp → Prop} (hσ : σ.length = 3) (hD : HL D = some (.frz od (.dK (ys.map legRow)))) (hn : HL Dn = none) (hok : ∀ r ∈ ys, r.ok ks HL) (hl : ys.length ≤ 40)
    (hd : ∀ H', Same HL H' → H' Dn = some (.lst (strv (kindZ ks b ys))) → Qd H') :
    ∃ W : Nat → Nat → Hp → Prop, (∃ m, W 0 m (upd HL Dn (.lst []))) ∧ ∀ i m H, W i m H →
      ((Iti D od (ys.map legRow)).stop i H ∧ Qd H) ∨ ((Iti D od (ys.map legRow)).go i H ∧ ∃ Nx : Hp → Prop, (∀ H', Nx H' → ∃ m', m' < m ∧ W (i + 1) m' H') ∧ ∀ x H', (Iti D od (ys.map legRow)).yld i H x H' → gTup K 2 (gCons (gName 1) (gCons (gName 2) gNil)) x (wipe σ [1, 2]) H' fun σ2 H2 => wipe σ2 [1, 2] = wipe σ [1, 2] ∧ ttPl ks b σ2 H2 fun c H3 =>
        if c = true then tVar 1 σ2 H3 fun y H4 => ∃ acc, H4 Dn = some (.lst acc) ∧ acc.length < sizeLine ∧ Nx (upd H4 Dn (.lst (acc ++ [y]))) else Nx H3) := by
  match σ, hσ with
  | [u0, u1, u2], _ =>
  have hlm : (ys.map legRow).length = ys.length := List.length_map _
  refine lc_it (walk_items (d := D) (o := od) (kvs := ys.map legRow)) (fun i H' => Same HL H' ∧ H' Dn = some (.lst (strv (kindZ ks b (ys.take i))))) ⟨same_at hn, upd_same⟩ (fun i H' _ p => p.1 _ _ hD) ?_ ?_
  · rintro i x H1 H2 hi ⟨s1, d1⟩ ⟨Tp, kx, vx, rfl, hT, rfl, hk, hv⟩
    rw [hlm] at hi
    have e1 : (ys.map legRow)[i]? = some (legRow ys[i]) := by rw [List.getElem?_map, List.getElem?_eq_getElem hi]; rfl
    dsimp only at hk hv
    rw [e1] at hk hv
    obtain rfl : V.str ys[i].z = kx := Option.some.inj hk
    obtain rfl : V.ref ys[i].a = vx := Option.some.inj hv
    have s2 : Same HL (upd H1 Tp (.tup [.str ys[i].z, .ref ys[i].a])) := s1.trans (same_at hT)
    have d2 : upd H1 Tp (.tup [.str ys[i].z, .ref ys[i].a]) Dn = some (.lst (strv (kindZ ks b (ys.take i)))) := by rw [upd_ne (ne_of_none d1 hT)]; exact d1
    refine ⟨Tp, _, rfl, SqT.of upd_same, rfl, _, _, rfl, _, _, rfl, rfl, rfl, ?_⟩
    refine ttPl_rd rfl ((hok _ (List.getElem_mem hi)).same s2) ?_
    have et := kindZ_take (ks := ks) (b := b) hi
    by_cases e : (decide (ys[i].C = ks.drv) == b) = true
    · rw [if_pos e] at et ⊢
      refine ⟨_, rfl, _, d2, ?_, fun c o hc => ?_, ?_⟩
      · have q : (kindZ ks b (ys.take i)).length ≤ 40 := by
          unfold kindZ names
          rw [List.length_map]
          exact Nat.le_trans (List.length_filter_le _ _) (by rw [List.length_take]; omega)
        show (List.map V.str _).length < _
        rw [List.length_map]
        exact Nat.lt_of_le_of_lt q (by decide)
      · rw [upd_ne (ne_of_none hc hn)]
        exact s2 _ _ hc
      · rw [upd_same, et]
        show _ = some (HO.lst (List.map V.str _))
        rw [List.map_append]
        rfl
    · rw [if_neg e] at et ⊢
      rw [List.append_nil] at et
      exact ⟨s2, by rw [et]; exact d2⟩
  · rintro H1 ⟨s1, d1⟩
    rw [hlm, List.take_length] at d1
    exact hd H1 s1 d1
/-- behind the lock -/
theorem same_unlock {H H1 : Hp} {D : Addr} {od : Obj} {u : HO} (hD : H D = some u) (s : Same (upd H D (.frz od u)) H1) : Same H (upd H1 D u) := fun b o e => by
  by_cases z : b = D
  · rw [z] at e ⊢
    rw [upd_same, ← e, hD]
  · rw [upd_ne z]
    exact s _ _ (by rw [upd_ne z]; exact e)
theorem scFk (i : Nat) (h : defScope (sFr i) = defScope (sFr 5)) : FnScope ["self", "name", "leg"] ["self"] (defScope (sFr i)) := by
  rw [h]
  exact ⟨rfl, rfl, rfl, by decide +kernel, rfl, by decide +kernel, by decide +kernel⟩
theorem kind_rd {ks : Kinds} {CF : Addr} {b : Bool} {a : Addr} {d : FrD} {H : Hp} {Q : VK} (cl : Cls K CF) (nL : NoAttr K CF "_legs") (hF : FrIs ks CF H a d) (k : ∀ p H', H p = none → H' p = some (.tup (strv (kindZ ks b d.ys))) → Same H H' → Q (.ref p) H') :
    tLockE (tCB (rTupQ K) (tCons (tLc (iItems (tFld K (tVar 0) "_legs")) (gTup K 2 (gCons (gName 1) (gCons (gName 2) gNil))) (ttPl ks b) (tVar 1) [1, 2]) tNil)) (start ["self", "name", "leg"] [.ref a]) H Q := by
  obtain ⟨dx, D, ea, eD, hne⟩ := hF.at_
  refine ⟨D, _, eD, trivial, fun od => ?_⟩
  obtain ⟨HL, eL⟩ : ∃ HL, HL = upd H D (.frz od (.dK (d.ys.map legRow))) := ⟨_, rfl⟩
  rw [← eL]
  have hDL : HL D = some (.frz od (.dK (d.ys.map legRow))) := by rw [eL, upd_same]
  have haL : HL a = some (.ins CF dx (frF D (.int d.t) (.bl d.g) (.bl d.r))) := by rw [eL, upd_ne (Ne.symm hne)]; exact ea
  have hokL : ∀ r ∈ d.ys, r.ok ks HL := fun r hr => by
    obtain ⟨h1, dy, e⟩ := hF.ok r hr
    exact ⟨h1, dy, by rw [eL, upd_ne (ne_of e eD (by intro z; cases z))]; exact e⟩
  refine ⟨_, rfl, a, CF, dx, _, _, rfl, haL, cl, nL, frF_legs _ _ _ _, D, od, _, rfl, hDL, fun Dn hDn => ?_⟩
  refine kind_walk rfl hDL hDn hokL hF.le fun H1 s1 d1 => ⟨Dn, _, rfl, .inl ⟨SqL.of d1, fun p hp => ⟨?_, ?_⟩⟩⟩
  · rw [upd_ne (ne_of_none (s1 _ _ hDL) hp)]
    exact s1 _ _ hDL
  · have hpD : p ≠ D := fun z => by rw [z, s1 _ _ hDL] at hp; cases hp
    refine k p _ ?_ (by rw [upd_ne hpD, upd_same]) (same_unlock eD (by rw [← eL]; exact s1.trans (same_at hp)))
    cases q : H p with
    | none => rfl
    | some o =>
      have e1 : HL p = some o := by rw [eL, upd_ne hpD]; exact q
      rw [s1 _ _ e1] at hp
      cases hp
theorem ok_fdrv {f CF : Addr} {fd : FuncData} {ks : Kinds} (F : Fun K "drivers" "Frame.drivers" (sFr 5) f fd) (T : FpT P w K mg base ks CF) : FnOk P w K mg base CX0 3 f fd ["self"] (spTup ks CF fun d => kindZ ks true d.ys) := by
  refine F.ok (scFk 5 rfl) (fun vs H Q E h => ?_) (fun cdv A outer s H vs Q E hr h => ?_)
  · obtain ⟨a, d, rfl, _⟩ := h
    rfl
  · obtain ⟨a, d, rfl, hF, k⟩ := h
    refine ⟨_, pss_one (ps_ret (pe_lock (pe_callTy (T := "tuple") call_tuple_of (by rfl) T.tuple (by decide +kernel) (pa_cons (pe_lc (te := tVar 1) (tt := ttPl ks true) (own := [("name", 1), ("leg", 2)]) (g := gTup K 2 (gCons (gName 1) (gCons (gName 2) gNil))) rfl (scFk 5 rfl).nd (pi_items (pe_fld (pv 0) rfl))
      (blkOk_by (N := ["self", "name", "leg"]) (sc := defScope (sFr 5)) (by decide +kernel)) (fun _ _ _ _ _ => pg_tup rfl (pgs_cons (pg_name (i := 1) (scFk 5 rfl).nd rfl (Or.inl rfl)) (pgs_cons (pg_name (i := 2) (scFk 5 rfl).nd rfl (Or.inl rfl)) pgs_nil)))
      (fun _ _ _ _ _ => pts_one (pt_val (pe_propS (pv 2) T.dv hr))) (fun _ _ _ _ _ => pv 1)) pa_nil)))), ?_⟩
    exact kind_rd T.cl T.nL hF k
end
end Sj
/-! Own exceptions over any built-in base, made and kept as values. -/
namespace Exg
open PySem PySem.Spec PyProof.Rows L2 Sup
open NdefX (NF NScope ncx envF startF CellsAt inv_startN)
/-- a built-in base -/
structure BaseE (B newId initId : String) (tl : List Value) : Prop where
  F : ExcBaseFacts B newId initId tl
  SF : StoreFacts B tl "object.__setattr__" "object"
  KF : PySem.W.KxsFacts B initId
abbrev tlL : List Value := [.type "LookupError", .type "Exception", .type "BaseException", .type "object"]
abbrev tlO : List Value := [.type "OverflowError", .type "ArithmeticError", .type "Exception", .type "BaseException", .type "object"]
theorem bL : BaseE "LookupError" "LookupError.__new__" "LookupError.__init__" tlL := ⟨PySem.F.excBase_LookupError, PySem.F.store_LookupError, PySem.W.kxs_LookupError⟩
theorem bO : BaseE "OverflowError" "OverflowError.__new__" "OverflowError.__init__" tlO := ⟨PySem.F.excBase_OverflowError, PySem.F.store_OverflowError, PySem.W.kxs_OverflowError⟩
end Exg
namespace Exg
open PySem PySem.Spec PyProof.Rows L2 Sup Grd
end Exg
/-! C(name = e): an own exception, made by keywords. -/
namespace Exg
open PySem PySem.Spec PyProof.Rows L2 Sup Grd
end Exg
namespace Exg
open PySem PySem.Spec PyProof.Rows L2 Sup Grd
/-! ### what is kept: its fields, its classes -/
end Exg
/-! repr of data with an empty dict in it, where nothing is being shown. -/
namespace Shw
open PySem PySem.Spec PyProof.Rows L2
mutual
/-- data; its lists are none of the interpreter's own -/
inductive Dq (K : PySem.W.Frag) (H : Hp) : V → PyData → Prop
  | non : Dq K H .non .none
  | bl (b : Bool) : Dq K H (.bl b) (.bool b)
  | int (i : Int) : Dq K H (.int i) (.int i)
  | str (x : Str) : Dq K H (.str x) (.str x)
  | lst {a : Addr} {xs : List V} {ds : List PyData} (n : sysModules ≠ a) (h : SqL K H a xs) (r : DqAll K H xs ds) : Dq K H (.ref a) (.list ds)
  | tup {a : Addr} {xs : List V} {ds : List PyData} (h : SqT K H a xs) (r : DqAll K H xs ds) : Dq K H (.ref a) (.tuple ds)
  | dic {a : Addr} (h : Rd H a (.dK [])) : Dq K H (.ref a) (.dict [])
inductive DqAll (K : PySem.W.Frag) (H : Hp) : List V → List PyData → Prop
  | nil : DqAll K H [] []
  | cons {v : V} {vs : List V} {d : PyData} {ds : List PyData} (h : Dq K H v d) (r : DqAll K H vs ds) : DqAll K H (v :: vs) (d :: ds)
end
theorem DqAll.append {K : PySem.W.Frag} {H : Hp} {xs ys : List V} {ds es : List PyData} (h : DqAll K H xs ds) (g : DqAll K H ys es) : DqAll K H (xs ++ ys) (ds ++ es) := by
  induction ds generalizing xs with
  | nil => cases h; exact g
  | cons d ds ih => cases h with | cons a b => exact .cons a (ih b)
theorem rd_same {H H' : Hp} {a : Addr} {u : HO} (s : ∀ b o, H b = some o → H' b = some o) (h : Rd H a u) : Rd H' a u := h.imp (s _ _) fun ⟨o, e⟩ => ⟨o, s _ _ e⟩
mutual
theorem Dq.same {K : PySem.W.Frag} {H H' : Hp} (s : ∀ b o, H b = some o → H' b = some o) : ∀ (d : PyData) (v : V), Dq K H v d → Dq K H' v d
  | .none, _, h => by cases h; exact .non
  | .bool _, _, h => by cases h; exact .bl _
  | .int _, _, h => by cases h; exact .int _
  | .str _, _, h => by cases h; exact .str _
  | .list ds, _, h => by
    cases h with
    | lst n q r => exact .lst n (q.imp (rd_same s) id) (Dq.sameAll s ds _ r)
  | .tuple ds, _, h => by
    cases h with
    | tup q r => exact .tup (q.imp (rd_same s) id) (Dq.sameAll s ds _ r)
  | .dict _, _, h => by
    cases h with
    | dic q => exact .dic (rd_same s q)
theorem Dq.sameAll {K : PySem.W.Frag} {H H' : Hp} (s : ∀ b o, H b = some o → H' b = some o) : ∀ (ds : List PyData) (vs : List V), DqAll K H vs ds → DqAll K H' vs ds
  | [], _, h => by cases h; exact .nil
  | d :: ds, _, h => by
    cases h with
    | cons a b => exact .cons (Dq.same s d _ a) (Dq.sameAll s ds _ b)
end
section
variable {X : Cx} {pins : List (Addr × Obj)} {σ : L2.St} {H : Hp} {s : Shared}
mutual
theorem Dq.reads (I : Inv X pins σ H s) : ∀ (d : PyData) (v : V) (u : Value), Dq X.K H v d → RelV v u → ∃ as, Reads s.heap u d as ∧ sysModules ∉ as
  | .none, _, _, h, r => by
    cases h; cases r
    exact ⟨[], .none, List.not_mem_nil⟩
  | .bool b, _, _, h, r => by
    cases h; cases r
    exact ⟨[], .bool b, List.not_mem_nil⟩
  | .int i, _, _, h, r => by
    cases h
    obtain ⟨t, rfl⟩ := r
    exact ⟨[], .int i t, List.not_mem_nil⟩
  | .str x, _, _, h, r => by
    cases h
    obtain ⟨t, rfl⟩ := r
    exact ⟨[], .str x t, List.not_mem_nil⟩
  | .list ds, _, _, h, r => by
    cases h with
    | lst n hs ha =>
      cases r
      obtain ⟨its, rv, ⟨o, k, ho, hc, _, hd⟩, _⟩ := I.list hs
      obtain ⟨as, hr, hn⟩ := Dq.readsAll I ds _ its ha rv
      exact ⟨_, .list ho hc hd hr, fun z => (List.mem_cons.mp z).elim n hn⟩
  | .tuple ds, _, _, h, r => by
    cases h with
    | tup hs ha =>
      cases r
      obtain ⟨its, rv, ⟨o, ho, hc, k, hd⟩, _⟩ := I.tuple hs
      obtain ⟨as, hr, hn⟩ := Dq.readsAll I ds _ its ha rv
      exact ⟨_, .tuple ho hc hd hr, hn⟩
  | .dict _, _, _, h, r => by
    cases h with
    | dic hs =>
      cases r
      obtain ⟨_, hsm, vs, kv, o, es, ep, ho, hx, hd, hk, hp, _⟩ := dk_rd I.hok hs
      cases kv
      have e0 : es.toList = [] := by
        generalize es.toList = l at hp
        cases hp
        rfl
      refine ⟨_, .dict (as := []) (bs := []) ho hx.1 hd (by rw [e0]; exact .nil) (by rw [e0]; exact .nil), ?_⟩
      intro z
      rw [List.append_nil] at z
      rw [List.mem_singleton.mp z] at hsm
      exact absurd hsm (by simp)
theorem Dq.readsAll (I : Inv X pins σ H s) : ∀ (ds : List PyData) (vs : List V) (us : List Value), DqAll X.K H vs ds → Vals vs us → ∃ as, ReadsAll s.heap us ds as ∧ sysModules ∉ as
  | [], _, _, h, r => by
    cases h; cases r
    exact ⟨[], .nil, List.not_mem_nil⟩
  | d :: ds, _, _, h, r => by
    cases h with
    | cons h1 h2 =>
      cases r with
      | cons r1 r2 =>
        obtain ⟨as, q1, n1⟩ := Dq.reads I d _ _ h1 r1
        obtain ⟨bs, q2, n2⟩ := Dq.readsAll I ds _ _ h2 r2
        exact ⟨_, .cons q1 q2, fun z => (List.mem_append.mp z).elim n1 n2⟩
end
end
section
variable {X : Cx}
/-- what may be shown -/
structure Fit (d : PyData) : Prop where
  sh : PyData.showable d = true
  dp : d.depth ≤ 60
  sz : d.shown.length ≤ sizeLine
/-- new lists -/
theorem big {pins : List (Addr × Obj)} {σ : L2.St} {H : Hp} {s : Shared} (I : Inv X pins σ H s) : sysModules ≠ s.heap.objs.size := Nat.ne_of_lt (StX.env0_big I.env0)
end
end Shw
namespace Exg
open PySem PySem.Spec PyProof.Rows L2 Sup Grd Shw
open NdefX (NF NScope ncx envF startF CellsAt inv_startN nscope_by)
/-- what is kept, small enough to be told in a message -/
structure Smalls (d : PyData) : Prop where
  fit : Fit d
  sz : d.shown.length ≤ 1000
end Exg
/-! raise C(e): an own error over any built-in base, whose __init__ shows what it is given -/
namespace Exg
open PySem PySem.Spec PyProof.Rows L2 Sup Grd Shw
end Exg
namespace Sj
open PySem L2 Sup StK Own Grd Exg Shw
open NdefX (NF NScope ncx envF startF nscope_by)
open C8 (pss_cut tCut)
/-! Frame.rails, members, [] (k03, k05, ..) -/
def rowsR (g r : Bool) : List (Key × V) := [(Sum.inr "ground", .bl g), (Sum.inr "power", .bl r)]
theorem rowsR_merge (g r : Bool) : mergeK [] (rowsR g r) = rowsR g r := by
  unfold rowsR mergeK putK
  simp +decide
def ttRl : TT := tB (tDGet (tVar 1) (tVar 2))
def railsP (g r : Bool) : Nat → List Str
  | 0 => []
  | 1 => if g then [("ground" : Str)] else []
  | _ => railsZ g r
section
variable {P : Program} {w : World} {K : PySem.W.Frag} {mg : Str → Option Value} {base : Heap}
theorem scFr7 : FnScope ["self", "there", "name"] ["self"] (defScope (sFr 7)) := ⟨rfl, rfl, rfl, by decide +kernel, rfl, by decide +kernel, by decide +kernel⟩
theorem ok_frails {f CF : Addr} {fd : FuncData} {ks : Kinds} (F : Fun K "rails" "Frame.rails" (sFr 7) f fd) (T : FpT P w K mg base ks CF) : FnOk P w K mg base CX0 1 f fd ["self"] (spTup ks CF fun d => railsZ d.g d.r) := by
  refine F.ok scFr7 (fun vs H Q E h => ?_) (fun cdv A outer s H vs Q E hr h => ?_)
  · obtain ⟨a, d, rfl, _⟩ := h
    rfl
  · obtain ⟨a, d, rfl, hF, k⟩ := h
    obtain ⟨dx, D, ea, eD, _⟩ := hF.at_
    refine ⟨_, pss_cons (ps_set (i := 1) scFr7.nd rfl (Or.inr rfl) (pe_disp (pps_cons pe_str (pe_fld (pv 0) rfl) (pps_cons pe_str (pe_fld (pv 0) rfl) pps_nil)) (by rfl) (by rfl) (fun z => by cases z) (by decide)))
      (pss_one (ps_ret (pe_lock (pe_callTy (T := "tuple") call_tuple_of (by rfl) T.tuple (by decide +kernel) (pa_cons (pe_lc (te := tVar 2) (tt := ttRl) (own := [("name", 2)]) (g := gName 2) rfl scFr7.nd (pi_keys (pv 1))
        (blkOk_by (N := ["self", "there", "name"]) (sc := defScope (sFr 7)) (by decide +kernel)) (fun _ _ _ _ _ => pg_name (i := 2) scFr7.nd rfl (Or.inl rfl)) (fun _ _ _ _ _ => pts_one (pt_val (pe_dget (hu_of hr) (pv 1) (pv 2) (fun _ _ => rfl)))) (fun _ _ _ _ _ => pv 2)) pa_nil))))), ?_⟩
    refine fun p hp => ?_
    have hap : a ≠ p := ne_of_none ea hp
    have ea1 : upd H p (.dK []) a = some (.ins CF dx (frF D (.int d.t) (.bl d.g) (.bl d.r))) := by rw [upd_ne hap]; exact ea
    refine ⟨_, rfl, a, CF, dx, _, _, rfl, ea1, T.cl, T.nG, frF_ground _ _ _ _, _, rfl, a, CF, dx, _, _, rfl, ea1, T.cl, T.nP, frF_power _ _ _ _, upd_same, rowsR d.g d.r, rfl, (by show 2 ≤ 15; decide), ?_⟩
    rw [rowsR_merge]
    obtain ⟨H1, e1⟩ : ∃ H1, H1 = upd (upd H p (.dK [])) p (.dK (rowsR d.g d.r)) := ⟨_, rfl⟩
    rw [← e1]
    have hp1 : H1 p = some (.dK (rowsR d.g d.r)) := by rw [e1, upd_same]
    have s1 : Same H H1 := fun b o e => by
      have n := ne_of_none e hp
      rw [e1, upd_ne n, upd_ne n]
      exact e
    refine ⟨p, _, hp1, trivial, fun od => ?_⟩
    obtain ⟨HL, eL⟩ : ∃ HL, HL = upd H1 p (.frz od (.dK (rowsR d.g d.r))) := ⟨_, rfl⟩
    rw [← eL]
    have hpL : HL p = some (.frz od (.dK (rowsR d.g d.r))) := by rw [eL, upd_same]
    refine ⟨_, rfl, p, od, rfl, .inl ⟨_, hpL, fun Dn hDn => ?_⟩⟩
    refine lc_it (walk_keys (d := p) (o := od) (kvs := rowsR d.g d.r)) (fun i H' => Same HL H' ∧ H' Dn = some (.lst (strv (railsP d.g d.r i)))) ⟨same_at hDn, upd_same⟩ (fun i H' _ q => q.1 _ _ hpL) ?_ ?_
    · rintro i x H2 H3 hi ⟨s2, d2⟩ ⟨rfl, kk, vv, hkv, rfl⟩
      refine ⟨rfl, ?_⟩
      have hget : ∀ (z : Str) (v : Bool), valV (rowsR d.g d.r) (Sum.inr z) = some (.bl v) → DGet H3 p (.str z) (some (.bl v)) := fun z v e => .inl ⟨rowsR d.g d.r, Sum.inr z, .inr ⟨od, s2 _ _ hpL⟩, rfl, e.symm⟩
      have go : ∀ (z : Str) (v : Bool) (acc acc' : List Str), valV (rowsR d.g d.r) (Sum.inr z) = some (.bl v) → H3 Dn = some (.lst (strv acc)) → acc.length ≤ 2 → acc' = acc ++ (if v then [z] else []) →
          ttRl [some (.ref a), some (.ref p), some (.str z)] H3 fun b H4 => if b = true then tVar 2 [some (.ref a), some (.ref p), some (.str z)] H4 fun y H5 => ∃ ac, H5 Dn = some (.lst ac) ∧ ac.length < sizeLine ∧ (Same HL (upd H5 Dn (.lst (ac ++ [y]))) ∧ (upd H5 Dn (.lst (ac ++ [y]))) Dn = some (.lst (strv acc'))) else Same HL H4 ∧ H4 Dn = some (.lst (strv acc')) := by
        intro z v acc acc' hv hd hl he
        refine ⟨_, rfl, _, rfl, p, _, rfl, hget z v hv, _, rfl, ?_⟩
        cases v with
        | true =>
          refine ⟨_, rfl, _, hd, ?_, fun c o hc => ?_, ?_⟩
          · show (List.map V.str acc).length < _
            rw [List.length_map]
            exact Nat.lt_of_le_of_lt hl (by decide)
          · rw [upd_ne (ne_of_none hc hDn)]
            exact s2 _ _ hc
          · rw [upd_same, he]
            show _ = some (HO.lst (List.map V.str _))
            rw [List.map_append]
            rfl
        | false =>
          refine ⟨s2, ?_⟩
          rw [he, if_neg Bool.false_ne_true, List.append_nil]
          exact hd
      match i, hi, hkv, d2 with
      | 0, _, hkv, d2 =>
        obtain ⟨rfl, rfl⟩ : Sum.inr ("ground" : Str) = kk ∧ V.bl d.g = vv := by have := Option.some.inj hkv; exact ⟨congrArg Prod.fst this, congrArg Prod.snd this⟩
        exact go "ground" d.g [] (railsP d.g d.r 1) rfl d2 (by decide) rfl
      | 1, _, hkv, d2 =>
        obtain ⟨rfl, rfl⟩ : Sum.inr ("power" : Str) = kk ∧ V.bl d.r = vv := by have := Option.some.inj hkv; exact ⟨congrArg Prod.fst this, congrArg Prod.snd this⟩
        refine go "power" d.r (railsP d.g d.r 1) (railsP d.g d.r 2) rfl d2 ?_ rfl
        show (if d.g then [("ground" : Str)] else []).length ≤ 2
        cases d.g <;> decide
    · rintro H2 ⟨s2, d2⟩
      refine ⟨Dn, _, rfl, .inl ⟨SqL.of d2, fun q hq => ⟨?_, ?_⟩⟩⟩
      · rw [upd_ne (ne_of_none (s2 _ _ hpL) hq)]
        exact s2 _ _ hpL
      · have hqp : q ≠ p := fun z => by rw [z, s2 _ _ hpL] at hq; cases hq
        refine k q _ ?_ (by rw [upd_ne hqp, upd_same]; rfl) (s1.trans (same_unlock hp1 (by rw [← eL]; exact s2.trans (same_at hq))))
        refine s1.free ?_
        cases z : H1 q with
        | none => rfl
        | some o =>
          have e2 : HL q = some o := by rw [eL, upd_ne hqp]; exact z
          rw [s2 _ _ e2] at hq
          cases hq
end
end Sj
namespace Sj
open PySem L2 Sup StK Own Grd Exg Shw
open NdefX (NF NScope ncx envF startF nscope_by)
open C8 (pss_cut tCut)
/-! Frame.members, [], == (k03, k05, ..) -/
theorem FrIs.ins {ks : Kinds} {CF : Addr} {H : Hp} {a : Addr} {d : FrD} (h : FrIs ks CF H a d) : ∃ dx fs, H a = some (.ins CF dx fs) := by
  obtain ⟨dx, D, ea, _⟩ := h.at_
  exact ⟨dx, _, ea⟩
/-- what is no name of a leg -/
def NotLeg (K : PySem.W.Frag) (H : Hp) (x : V) (d : FrD) : Prop := (∃ z : Str, x = .str z ∧ z ∉ names d.ys) ∨ ∃ t : String, TyX K H x (.type t) ∧ kitB t "str" = some false
def spFIs (K : PySem.W.Frag) (ks : Kinds) (CF : Addr) : Sp := fun vs H Q _ => ∃ a d x, vs = [.ref a, x] ∧ FrIs ks CF H a d ∧ ((∃ z : Str, x = .str z ∧ z ∈ names d.ys ∧ Q (.bl true) H) ∨ (NotLeg K H x d ∧ Q (.bl false) H))
theorem spFIs_of {K : PySem.W.Frag} {ks : Kinds} {CF : Addr} {vs : List V} {H : Hp} {Q : VK} {E : XK} (h : spFIs K ks CF vs H Q E) : spFIn K CF vs H Q E := by
  obtain ⟨a, d, x, rfl, hF, h⟩ := h
  refine ⟨a, d.ys, _, _, _, x, rfl, hF.at_, ?_⟩
  rcases h with ⟨z, rfl, hz, k⟩ | ⟨hn, k⟩
  · refine .inl ⟨z, rfl, ?_⟩
    rw [decide_eq_true hz]
    exact k
  · rcases hn with ⟨z, rfl, hz⟩ | ⟨t, ty, e⟩
    · refine .inl ⟨z, rfl, ?_⟩
      rw [decide_eq_false hz]
      exact k
    · exact .inr ⟨t, ty, e, k⟩
end Sj
namespace Sj
open PySem L2 Sup StK Own Grd Exg Shw
open NdefX (NF NScope ncx envF startF nscope_by)
open C8 (pss_cut tCut)
/-! Frame.__eq__ (k03, k05, ..) -/
/-- alike: name and kind -/
def eqLegs (ys zs : List LegR) : Bool := (ys.length == zs.length) && ys.all fun p => zs.any fun q => decide (q.z = p.z) && decide (q.C = p.C)
def eqFr (d e : FrD) : Bool := decide (d.t = e.t) && (decide (d.g = e.g) && decide (d.r = e.r)) && eqLegs d.ys e.ys
def spFEq (K : PySem.W.Frag) (ks : Kinds) (CF : Addr) : Sp := fun vs H Q _ => ∃ a d y, vs = [.ref a, y] ∧ FrIs ks CF H a d ∧ ((∃ b e, y = .ref b ∧ FrIs ks CF H b e ∧ ∀ H', Same H H' → Q (.bl (eqFr d e)) H') ∨ ∃ t, TyX K H y t ∧ PySem.W.kitOne K t (.ref CF) = some false ∧ ∀ H', Same H H' → Q (.bl false) H')
/-- what == of legs asks -/
structure LqT (P : Program) (w : World) (K : PySem.W.Frag) (mg : Str → Option Value) (base : Heap) (ks : Kinds) : Prop where
  eq : ∀ C, (C = ks.drv ∨ C = ks.lis) → EqN P w K mg base 1 C (spEq K C)
  ic : ∀ C, (C = ks.drv ∨ C = ks.lis) → IsiC K C
  nf : ∀ C D, (C = ks.drv ∨ C = ks.lis) → (D = ks.drv ∨ D = ks.lis) → PySem.W.notFirst K C (.ref D) = true
  un : ∀ C D, (C = ks.drv ∨ C = ks.lis) → (D = ks.drv ∨ D = ks.lis) → C ≠ D → PySem.W.kitOne K (.ref D) (.ref C) = some false
structure FeT (P : Program) (w : World) (K : PySem.W.Frag) (mg : Str → Option Value) (base : Heap) (ks : Kinds) (CF : Addr) : Prop where
  ic : IsiC K CF
  nT : NoAttr K CF "top"
  nL : NoAttr K CF "_legs"
  isi : mg "isinstance" = none
  mF : mg "Frame" = some (.ref CF)
  self : PySem.W.kitOne K (.ref CF) (.ref CF) = some true
  lq : LqT P w K mg base ks
  rails : PropN P w K mg base 1 CF "rails" (spTup ks CF fun d => railsZ d.g d.r)
def railsD (g r : Bool) : PyData := .tuple ((railsZ g r).map .str)
theorem dp_strv {K : PySem.W.Frag} {H : Hp} : ∀ zs : List Str, DpAll K H (strv zs) (zs.map PyData.str)
  | [] => .nil
  | z :: zs => .cons (.str z) (dp_strv zs)
theorem railsD_eq (g r g' r' : Bool) : PyData.eqv (railsD g r) (railsD g' r') = (decide (g = g') && decide (r = r')) := by
  cases g <;> cases r <;> cases g' <;> cases r' <;> decide +kernel
theorem railsD_sh (g r : Bool) : SeqAt.shaped (railsD g r) = true := by
  cases g <;> cases r <;> decide +kernel
theorem find_nd : ∀ {ys : List LegR} {p : LegR}, (names ys).Nodup → p ∈ ys → ys.find? (fun q => decide (q.z = p.z)) = some p
  | q :: ys, p, hn, hp => by
    unfold names at hn
    rw [List.map_cons, List.nodup_cons] at hn
    rcases List.mem_cons.mp hp with rfl | hp
    · rw [List.find?_cons_of_pos]
      exact decide_eq_true rfl
    · rw [List.find?_cons_of_neg]
      · exact find_nd hn.2 hp
      · rw [decide_eq_true_eq]
        exact fun e => hn.1 (e ▸ List.mem_map.mpr ⟨p, hp, rfl⟩)
def okK (ys zs : List LegR) : Key → Bool
  | .inr z => match ys.find? (fun q => decide (q.z = z)) with
    | some p => zs.any fun q => decide (q.z = p.z) && decide (q.C = p.C)
    | none => false
  | _ => false
theorem okK_at {ys zs : List LegR} {p : LegR} (hn : (names ys).Nodup) (hp : p ∈ ys) : okK ys zs (Sum.inr p.z) = zs.any fun q => decide (q.z = p.z) && decide (q.C = p.C) := by
  show (match ys.find? (fun q => decide (q.z = p.z)) with | some p => _ | none => false) = _
  rw [find_nd hn hp]
theorem okK_all {ys zs : List LegR} (hn : (names ys).Nodup) : ((ys.map legRow).length == (zs.map legRow).length && (ys.map legRow).all fun p => okK ys zs p.1) = eqLegs ys zs := by
  unfold eqLegs
  rw [List.length_map, List.length_map, List.all_map]
  congr 1
  have e : ∀ p ∈ ys, ((fun p : Key × V => okK ys zs p.1) ∘ legRow) p = zs.any fun q => decide (q.z = p.z) && decide (q.C = p.C) := fun p hp => okK_at hn hp
  refine Bool.eq_iff_iff.mpr ?_
  rw [List.all_eq_true, List.all_eq_true]
  exact ⟨fun h p hp => (e p hp).symm.trans (h p hp), fun h p hp => (e p hp).trans (h p hp)⟩
section
variable {P : Program} {w : World} {K : PySem.W.Frag} {mg : Str → Option Value} {base : Heap}
theorem ok_feq {f CF : Addr} {fd : FuncData} {ks : Kinds} (F : Fun K "__eq__" "Frame.__eq__" (sFr 13) f fd) (T : FeT P w K mg base ks CF) : FnOk P w K mg base CX0 4 f fd ["self", "other"] (spFEq K ks CF) := by
  have sc : FnScope ["self", "other"] ["self", "other"] (defScope (sFr 13)) := ⟨rfl, rfl, rfl, by decide +kernel, rfl, by decide +kernel, by decide +kernel⟩
  refine F.ok sc (fun vs H Q E h => ?_) (fun cdv A outer s H vs Q E hr h => ?_)
  · obtain ⟨a, d, y, rfl, _⟩ := h
    rfl
  · obtain ⟨a, d, y, rfl, hF, h⟩ := h
    obtain ⟨dx, D, ea, eD, _⟩ := id hF.at_
    refine ⟨_, pss_cons (ps_if (PW.pt (pw_or (pt_not (pt_val (pe_callB call_isi (by rfl) T.isi (by decide +kernel) (pa_cons (pv 1) (pa_cons (pe_glob rfl T.mF (v := .ref CF) rfl) pa_nil))))) (pw_or (pt_cmpR op_ne (pe_fld (pv 0) rfl) (pe_fld (pv 1) rfl) (nomark _))
        (pw_or1 (pt_cmpR (op_neD hr.units) (pe_propS (S := fun C => C = CF) (spP := fun _ => spTup ks CF fun d => railsZ d.g d.r) (pv 0) (fun C e => by rw [e]; exact T.rails) (hr.mono (by decide))) (pe_propS (S := fun C => C = CF) (spP := fun _ => spTup ks CF fun d => railsZ d.g d.r) (pv 1) (fun C e => by rw [e]; exact T.rails) (hr.mono (by decide))) (nomark _))))))
        (pss_one (ps_ret pe_bl)) pss_nil)
      (pss_one (ps_ret (pe_cmpR (op_eqOwnD (S := fun C => C = ks.drv ∨ C = ks.lis) (spE := fun C => spEq K C) T.lq.eq hr) (pe_fld (pv 0) rfl) (pe_fld (pv 1) rfl) (nomark _)))), ?_⟩
    rcases h with ⟨b, e, rfl, hE, k⟩ | ⟨t, ty, hk, k⟩
    · obtain ⟨dy, D', eb, eD', _⟩ := id hE.at_
      have tyb : TyX K H (.ref b) (.ref CF) := .base (.ins eb T.ic.cl T.ic.ca T.ic.cn T.ic.ct T.ic.cm)
      refine ⟨_, rfl, _, _, .ref CF, .ref CF, true, rfl, .own _, tyb, T.self, _, rfl, ?_⟩
      refine iteF ⟨_, rfl, a, CF, dx, _, _, rfl, ea, T.ic.cl, T.nT, frF_top _ _ _ _, _, rfl, b, CF, dy, _, _, rfl, eb, T.ic.cl, T.nT, frF_top _ _ _ _, rfl, _, rfl, ?_⟩
      have keq : ∀ v, eqFr d e = v → ∀ H', Same H H' → Q (.bl v) H' := fun v ev H' s => by rw [← ev]; exact k H' s
      by_cases et : d.t = e.t
      · rw [show (!decide (V.int d.t = V.int e.t)) = false by rw [et, decide_eq_true rfl]; rfl]
        refine iteF ⟨_, rfl, a, CF, dx, _, rfl, ea, rfl, a, d, rfl, hF, fun p1 H1 hp1 hv1 s1 => ?_⟩
        refine ⟨_, rfl, b, CF, dy, _, rfl, s1 _ _ eb, rfl, b, e, rfl, hE.same s1, fun p2 H2 hp2 hv2 s2 => ?_⟩
        refine ⟨railsD d.g d.r, railsD e.g e.r, .tup (SqT.of (s2 _ _ hv1)) (dp_strv _), .tup (SqT.of hv2) (dp_strv _), railsD_sh _ _, railsD_sh _ _, _, rfl, ?_⟩
        rw [railsD_eq]
        have s02 := s1.trans s2
        cases eg : (decide (d.g = e.g) && decide (d.r = e.r)) with
        | false =>
          refine iteT (keq _ ?_ _ s02)
          unfold eqFr
          rw [eg, Bool.and_false, Bool.false_and]
        | true =>
          refine iteF ⟨_, rfl, a, CF, dx, _, _, rfl, s02 _ _ ea, T.ic.cl, T.nL, frF_legs _ _ _ _, _, rfl, b, CF, dy, _, _, rfl, s02 _ _ eb, T.ic.cl, T.nL, frF_legs _ _ _ _, ?_⟩
          have eDs := s02 _ _ eD
          have eDs' := s02 _ _ eD'
          refine ⟨D, D', d.ys.map legRow, e.ys.map legRow, okK d.ys e.ys, rfl, rfl, eDs, eDs', fun kk v hm => ?_, fun H3 s3 => ?_⟩
          · obtain ⟨p, hp, epr⟩ := List.mem_map.mp hm
            obtain ⟨rfl, rfl⟩ : Sum.inr p.z = kk ∧ V.ref p.a = v := ⟨congrArg Prod.fst epr, congrArg Prod.snd epr⟩
            by_cases hz : p.z ∈ names e.ys
            · obtain ⟨q, hq, eqz⟩ := List.mem_map.mp hz
              refine .inr ⟨p.a, q.a, rfl, by rw [← eqz]; exact valV_rows e.ys q hE.nd hq, ?_⟩
              have hokv : okK d.ys e.ys (Sum.inr p.z) = decide (q.C = p.C) := by
                rw [okK_at hF.nd hp]
                refine Bool.eq_iff_iff.mpr ⟨fun h => ?_, fun h => ?_⟩
                · obtain ⟨q', hq', hb⟩ := List.any_eq_true.mp h
                  rw [Bool.and_eq_true, decide_eq_true_eq] at hb
                  have e1 := find_nd hE.nd hq
                  have e2 := find_nd hE.nd hq'
                  rw [hb.1, ← eqz] at e2
                  have : q = q' := Option.some.inj (e1.symm.trans e2)
                  rw [this]
                  exact hb.2
                · refine List.any_eq_true.mpr ⟨q, hq, ?_⟩
                  rw [h, Bool.and_true]
                  exact decide_eq_true eqz
              rw [hokv]
              obtain ⟨hcp, dp, ep⟩ := (hF.ok p hp).same s02
              obtain ⟨hcq, dq, eq⟩ := (hE.ok q hq).same s02
              by_cases epq : p.a = q.a
              · refine .inl ⟨epq, ?_⟩
                rw [epq, eq] at ep
                have := Option.some.inj ep
                injection this with c1
                exact decide_eq_true c1
              · refine .inr ⟨epq, fun H3 hb => ?_⟩
                have np : p.a ≠ D := ne_of ep eDs (by intro z; cases z)
                have np' : p.a ≠ D' := ne_of ep eDs' (by intro z; cases z)
                have nq : q.a ≠ D := ne_of eq eDs (by intro z; cases z)
                have nq' : q.a ≠ D' := ne_of eq eDs' (by intro z; cases z)
                have ep3 := hb _ _ ep np np'
                have eq3 := hb _ _ eq nq nq'
                have lq : LegAt H3 q.a q.C q.z := ⟨dq, eq3⟩
                refine ⟨p.a, p.C, dp, _, rfl, ep3, hcp, .inl ⟨.ref q.C, lq.ty (T.lq.ic _ hcq), T.lq.nf _ _ hcp hcq, p.a, p.z, _, rfl, ⟨dp, ep3⟩, ?_⟩⟩
                by_cases hc : q.C = p.C
                · rw [decide_eq_true hc]
                  refine .inl ⟨q.a, q.z, rfl, by rw [← hc]; exact lq, _, rfl, ?_, Same.refl _⟩
                  show V.bl (decide (p.z = q.z)) = V.bl true
                  rw [decide_eq_true eqz.symm]
                · rw [decide_eq_false hc]
                  exact .inr ⟨.ref q.C, lq.ty (T.lq.ic _ hcq), T.lq.un _ _ hcp hcq (Ne.symm hc), _, rfl, rfl, Same.refl _⟩
            · refine .inl ⟨valV_out _ _ hz, ?_⟩
              rw [okK_at hF.nd hp]
              refine List.any_eq_false.mpr fun q hq h => hz ?_
              rw [Bool.and_eq_true, decide_eq_true_eq] at h
              rw [← h.1]
              exact List.mem_map.mpr ⟨q, hq, rfl⟩
          · rw [okK_all hF.nd]
            refine keq _ ?_ _ (s02.trans s3)
            unfold eqFr
            rw [eg, decide_eq_true et]
            rfl
      · rw [show (!decide (V.int d.t = V.int e.t)) = true by rw [decide_eq_false fun z => et (V.int.inj z)]; rfl]
        refine iteT (keq _ ?_ _ (Same.refl H))
        unfold eqFr
        rw [decide_eq_false et]
        rfl
    · exact ⟨_, rfl, _, _, t, .ref CF, false, rfl, .own _, ty, hk, _, rfl, iteT (k H (Same.refl H))⟩
end
end Sj
namespace Sj
open PySem L2 Sup
open NdefX (NF NScope ncx envF startF nscope_by)
open C8 (pss_cut tCut)
abbrev sTags : Stmt := top 34
def poolS : List Str := ["a", "frame", "b", "rest", "self", "c", "zzzzzzzz", "word", "d", "e", "reads", "leg", "x", "grounds", "q"]
def spTags : Sp := fun vs H Q _ => ∃ (p l : Addr) (cs : List Int) (n m : Nat), vs = [.ref p, .int m] ∧ Pen H p l cs n ∧ m ≤ 15 ∧ n < 100000 ∧
  ∀ (H' : Hp) (q : Addr) (xs rest : List Str), H q = none → H' q = some (.lst (xs.map V.str)) → xs.length = m → (xs ++ rest).Perm poolS → Pen H' p l cs (n + m) → But H H' p → Q (.ref q) H'
section
variable {P : Program} {w : World} {K : PySem.W.Frag} {mg : Str → Option Value} {base : Heap}
theorem scTags : FnScope ["_law_pen_here", "_law_many", "_law_pool", "_law_turn"] ["_law_pen_here", "_law_many"] (defScope sTags) := ⟨rfl, rfl, rfl, by decide +kernel, rfl, by decide +kernel, by decide +kernel⟩
theorem map_erase {α β : Type} (f : α → β) : ∀ (xs : List α) (k : Nat), (xs.map f).eraseIdx k = (xs.eraseIdx k).map f
  | [], _ => by simp
  | x :: xs, 0 => rfl
  | x :: xs, k + 1 => by
    show f x :: (xs.map f).eraseIdx k = f x :: (xs.eraseIdx k).map f
    rw [map_erase f xs k]
theorem perm_erase {α : Type} : ∀ (xs : List α) (k : Nat) (h : k < xs.length), ([xs[k]] ++ xs.eraseIdx k).Perm xs
  | x :: xs, 0, _ => List.Perm.refl _
  | x :: xs, k + 1, h => by
    have hk : k < xs.length := Nat.lt_of_succ_lt_succ h
    have q := perm_erase xs k hk
    exact (List.Perm.swap x xs[k] (xs.eraseIdx k)).trans (List.Perm.cons x q)
theorem Pen.same {H H' : Hp} {p l : Addr} {cs : List Int} {n : Nat} (h : Pen H p l cs n) (s : Same H H') : Pen H' p l cs n := by
  obtain ⟨i, g, h1, h2, h3⟩ := h
  exact ⟨i, g, s _ _ h1, s _ _ h2, h3⟩
/-- the reading of _law_pool.pop(_law_draw(_law_pen_here, len(_law_pool))) -/
def rLenQ (K : PySem.W.Frag) : List V → Hp → VK → Prop := fun xs H Q => ∃ p ys, xs = [.ref p] ∧ (SqL K H p ys ∨ SqT K H p ys) ∧ Q (.int ys.length) H
def rPopQ : V → List V → Hp → VK → Prop := fun x ys H Q => ∃ l xs i k y, x = .ref l ∧ ys = [.int i] ∧ H l = some (.lst xs) ∧ -(2 ^ 63) ≤ i ∧ i < 2 ^ 63 ∧ seqIndex? i xs.length = some k ∧ xs[k]? = some y ∧ Q y (upd H l (.lst (xs.eraseIdx k)))
def tePop (K : PySem.W.Frag) : TE := tBM K "list" rPopQ (tVar 2) (tCons (tCall spDraw [] E0 (tCons (tVar 0) (tCons (tCB (rLenQ K) (tCons (tVar 2) tNil)) tNil))) tNil)
theorem ok_tags {f fD : Addr} {fd fdD : FuncData} (F : Fun K "_law_tags" "_law_tags" sTags f fd) (B : Bi mg) (mR : mg "range" = none) (FD : Fun K "_law_draw" "_law_draw" sDraw fD fdD) (bD : Binds K fdD ["_law_pen_here", "_law_many"] []) (mD : mg "_law_draw" = some (.ref fD)) :
    FnOk P w K mg base CX0 2 f fd ["_law_pen_here", "_law_many"] spTags := by
  have GD : FnOk P w K mg base CX0 1 fD fdD ["_law_pen_here", "_law_many"] spDraw := ok_draw FD B
  refine F.ok scTags (fun vs H Q E h => ?_) (fun cdv A outer s H vs Q E hr h => ?_)
  · obtain ⟨p, l, cs, n, m, rfl, _⟩ := h
    rfl
  · obtain ⟨p, l, cs, n, m, rfl, hP, hm, hn, k⟩ := h
    refine ⟨_, pss_cons (ps_set (i := 2) scTags.nd rfl (Or.inr rfl) (pe_lst (pa_cons pe_str (pa_cons pe_str (pa_cons pe_str (pa_cons pe_str (pa_cons pe_str (pa_cons pe_str (pa_cons pe_str (pa_cons pe_str (pa_cons pe_str (pa_cons pe_str (pa_cons pe_str (pa_cons pe_str (pa_cons pe_str (pa_cons pe_str (pa_cons pe_str pa_nil)))))))))))))))))
      (pss_one (ps_ret (pe_lc (te := tePop K) (own := [("_law_turn", 3)]) (g := gName 3) (tt := tYes) rfl scTags.nd (pi_range1 rfl mR (pa_cons (pv 1) pa_nil))
        (blkOk_by (N := ["_law_pen_here", "_law_many", "_law_pool", "_law_turn"]) (sc := defScope sTags) (by decide +kernel)) (fun _ _ _ _ _ => pg_name (i := 3) scTags.nd rfl (Or.inl rfl)) (fun _ _ _ _ _ => pts_nil)
        (fun s0 H0 C0 cl0 fp0 => by
          refine pe_bm PySem.F.plainAttrs_list PySem.F.slot_list_pop PySem.F.type_list_pop mt_popAt ?o ?a
          case o => exact pv 2
          case a =>
            refine pa_cons ?b pa_nil
            refine pe_call GD hr ?g mD FD.kp bD .nil pass0 ?c
            case g => rfl
            case c => exact pa_cons (pv 0) (pa_cons (pe_callB call_len_seq (by rfl) B.len PySem.boot_len (pa_cons (pv 2) pa_nil)) pa_nil))))), ?_⟩
    refine ⟨(by show 15 ≤ sizeLine; decide), fun q3 h3 => ?_⟩
    have hHq3 : H q3 = none := h3
    have s3 : Same H (upd H q3 (.lst (poolS.map V.str))) := fun b o e => by
      rw [upd_ne (ne_of_none e hHq3)]
      exact e
    have key : ∀ D, upd H q3 (.lst (poolS.map V.str)) D = none → upd H q3 (.lst (poolS.map V.str)) D = none := fun _ z => z
    obtain ⟨i0', g0', hp0, hl0, hz0, hi0, hi1⟩ := id hP
    refine ⟨_, rfl, m, rfl, by omega, by omega, fun D hD0 => have hD := key D hD0; lc_range (n := m) (fun i H' => ∃ xs rest : List Str, xs.length = i ∧ (xs ++ rest).Perm poolS ∧ H' q3 = some (.lst (rest.map V.str)) ∧ H' D = some (.lst (xs.map V.str)) ∧ Pen H' p l cs (n + i) ∧ But H H' p) ?_ ?_ ?_⟩
    · have n3D : q3 ≠ D := ne_of_none upd_same hD
      have s4 : Same H (upd (upd H q3 (.lst (poolS.map V.str))) D (.lst [])) := fun b o e => by
        rw [upd_ne (ne_of_none (s3 _ _ e) hD)]
        exact s3 _ _ e
      exact ⟨[], poolS, rfl, List.Perm.refl _, Eq.trans (upd_ne n3D) upd_same, upd_same, hP.same s4, fun b o _ e => s4 _ _ e⟩
    · rintro i H' hi ⟨xs, rest, hx, hperm, hq, hD', hP', hB⟩
      have hlen : xs.length + rest.length = 15 := by
        have q := hperm.length_eq
        rw [List.length_append] at q
        exact q
      have n3p : q3 ≠ p := fun e => by rw [e, hp0] at hHq3; cases hHq3
      have nDp : D ≠ p := fun e => by rw [e, s3 _ _ hp0] at hD; cases hD
      have nD3 : D ≠ q3 := fun e => by rw [e, upd_same] at hD; cases hD
      refine ⟨rfl, ?_⟩
      unfold tYes
      dsimp only
      rw [if_pos rfl]
      refine ⟨_, rfl, .inl ⟨rfl, _, SqL.of hq⟩, _, rfl, _, rfl, q3, _, rfl, .inl (SqL.of hq), p, l, cs, n + i, _, rfl, hP', ?_, ?_, by omega, fun d iz g H2 d0 d1 i0 i1 hp2 b2 => ?_⟩
      · rw [List.length_map]; omega
      · rw [List.length_map]; omega
      · rw [List.length_map] at d1
        have hq2 : H2 q3 = some (.lst (rest.map V.str)) := b2 _ _ n3p hq
        have hD2 : H2 D = some (.lst (xs.map V.str)) := b2 _ _ nDp hD'
        have hk : d.toNat < rest.length := by omega
        refine ⟨q3, rest.map V.str, d, d.toNat, .str rest[d.toNat], rfl, rfl, hq2, by omega, by omega, seqIndex_of d0 (by rw [List.length_map]; omega), by simp [hk], xs.map V.str, ?_, ?_, ?_⟩
        · exact Eq.trans (upd_ne nD3) hD2
        · rw [List.length_map]; exact Nat.lt_of_le_of_lt (show xs.length ≤ 16 by omega) (by decide)
        · refine ⟨xs ++ [rest[d.toNat]], rest.eraseIdx d.toNat, by rw [List.length_append, hx]; rfl, ?_, ?_, ?_, ?_, ?_⟩
          · refine List.Perm.trans ?_ hperm
            rw [List.append_assoc]
            exact List.Perm.append_left _ (perm_erase rest _ hk)
          · rw [upd_ne nD3.symm, upd_same]
            congr 2
            exact (map_erase V.str rest d.toNat)
          · rw [upd_same, List.map_append]
            rfl
          · have hl' : ∃ i g, H' p = some (penO l i g) ∧ H' l = some (.lst (cs.map V.int)) := by
              obtain ⟨a, b, c, d, _⟩ := hP'
              exact ⟨a, b, c, d⟩
            obtain ⟨ia, ga, hpa, hla⟩ := hl'
            have n3l : q3 ≠ l := fun e => by rw [e, hl0] at hHq3; cases hHq3
            have nDl : D ≠ l := fun e => by rw [e, s3 _ _ hl0] at hD; cases hD
            have npl : l ≠ p := fun e => by
              subst e
              rw [hp0] at hl0
              have z := List.map_eq_cons_iff.mp (HO.lst.inj (Option.some.inj hl0)).symm
              obtain ⟨_, _, _, w1, _⟩ := z
              cases w1
            refine ⟨iz, g, ?_, ?_, hz0, i0, by omega⟩
            · rw [upd_ne nDp.symm, upd_ne n3p.symm]; exact hp2
            · rw [upd_ne nDl.symm, upd_ne n3l.symm]; exact b2 _ _ npl hla
          · intro b o hb e
            have e1 := hB b o hb e
            have nb3 : b ≠ q3 := ne_of_none e hHq3
            have nbD : b ≠ D := fun z => by rw [z] at e; rw [s3 _ _ e] at hD; cases hD
            rw [upd_ne nbD, upd_ne nb3]
            exact b2 _ _ hb e1
    · rintro H' ⟨xs, rest, hx, hperm, hq, hD', hP', hB⟩
      have hHD : H D = none := by
        cases e : H D with
        | none => rfl
        | some o => rw [s3 _ _ e] at hD; cases hD
      exact k H' D xs rest hHD hD' hx hperm hP' hB
end
end Sj
/-! texts in order: of one multitude there is one order -/
namespace OrdS
open PySem PySem.Spec PyProof.Rows
theorem lt_anti : ∀ a b : List Nat, ltCps a b = false → ltCps b a = false → a = b
  | [], [], _, _ => rfl
  | [], _ :: _, h, _ => by cases h
  | _ :: _, [], _, h => by cases h
  | x :: a, y :: b, h, g => by
    have h1 : (decide (x < y) || (x == y && ltCps a b)) = false := h
    have g1 : (decide (y < x) || (y == x && ltCps b a)) = false := g
    rw [Bool.or_eq_false_iff, decide_eq_false_iff_not] at h1 g1
    have e : x = y := by omega
    subst e
    rw [beq_self_eq_true, Bool.true_and] at h1 g1
    rw [lt_anti a b h1.2 g1.2]
theorem le_trans : ∀ a b c : List Nat, ltCps b a = false → ltCps c b = false → ltCps c a = false
  | [], _, [], _, _ => rfl
  | [], [], _ :: _, _, _ => rfl
  | [], _ :: _, _ :: _, _, _ => rfl
  | _ :: _, [], _, h, _ => by cases h
  | _ :: _, _ :: _, [], _, h => by cases h
  | x :: a, y :: b, z :: c, h, g => by
    have h1 : (decide (y < x) || (y == x && ltCps b a)) = false := h
    have g1 : (decide (z < y) || (z == y && ltCps c b)) = false := g
    show (decide (z < x) || (z == x && ltCps c a)) = false
    rw [Bool.or_eq_false_iff, decide_eq_false_iff_not] at h1 g1 ⊢
    refine ⟨by omega, ?_⟩
    by_cases e : z = x
    · have e2 : y = x := by omega
      subst e2
      subst e
      rw [beq_self_eq_true, Bool.true_and] at h1 g1 ⊢
      exact le_trans a b c h1.2 g1.2
    · rw [beq_eq_false_iff_ne.mpr e, Bool.false_and]
def Le (a b : Str) : Prop := ltCps b.cps.toList a.cps.toList = false
theorem Le.anti {a b : Str} (h : Le a b) (g : Le b a) : a = b := by
  have e := lt_anti _ _ g h
  cases a
  cases b
  congr 1
  exact Array.ext' e
theorem Le.trans {a b c : Str} (h : Le a b) (g : Le b c) : Le a c := le_trans _ _ _ h g
theorem rising_pw : ∀ (l : List Str) (p : Str), risingS p l = true → (p :: l).Pairwise Le
  | [], p, _ => List.pairwise_singleton _ _
  | x :: r, p, h => by
    have h1 : (!ltCps x.cps.toList p.cps.toList && risingS x r) = true := h
    rw [Bool.and_eq_true, Bool.not_eq_true'] at h1
    have ih := rising_pw r x h1.2
    refine List.pairwise_cons.mpr ⟨fun y hy => ?_, ih⟩
    rcases List.mem_cons.mp hy with rfl | hy
    · exact h1.1
    · exact Le.trans h1.1 ((List.pairwise_cons.mp ih).1 y hy)
theorem sorted_pw : ∀ {l : List Str}, sortedS l = true → l.Pairwise Le
  | [], _ => .nil
  | x :: r, h => rising_pw r x h
theorem pw_uniq : ∀ {ys zs : List Str}, ys.Perm zs → ys.Pairwise Le → zs.Pairwise Le → ys = zs
  | [], zs, hp, _, _ => (List.Perm.eq_nil hp.symm).symm
  | y :: ys, [], hp, _, _ => by cases List.Perm.eq_nil hp
  | y :: ys, z :: zs, hp, hy, hz => by
    have hy' := List.pairwise_cons.mp hy
    have hz' := List.pairwise_cons.mp hz
    have m1 : y ∈ z :: zs := hp.mem_iff.mp List.mem_cons_self
    have m2 : z ∈ y :: ys := hp.mem_iff.mpr List.mem_cons_self
    have e : y = z := by
      rcases List.mem_cons.mp m1 with e | m1
      · exact e
      · rcases List.mem_cons.mp m2 with e | m2
        · exact e.symm
        · exact (hy'.1 z m2).anti (hz'.1 y m1)
    subst e
    rw [pw_uniq hp.cons_inv hy'.2 hz'.2]
theorem uniq {ys zs : List Str} (hp : ys.Perm zs) (hy : sortedS ys = true) (hz : sortedS zs = true) : ys = zs := pw_uniq hp (sorted_pw hy) (sorted_pw hz)
end OrdS
namespace Sj
open PySem L2 Sup StK Own
open NdefX (NF NScope ncx envF startF nscope_by)
open C8 (pss_cut tCut)
/-! what the laws of frames share: small things, _law_bare (k03, k05, ..) -/
/-- a class of legs, made by place -/
structure MkL (P : Program) (w : World) (K : PySem.W.Frag) (mg : Str → Option Value) (base : Heap) (CI C : Addr) (nm : Str) : Prop where
  ex : ∃ (f : Addr) (fd : FuncData), Mk K C f ∧ FnOk P w K mg base (L2.CX P w) 4 f fd ["self", "name"] (spLegI K CI C) ∧ Binds K fd ["self", "name"] []
  mg : mg nm = some (.ref C)
theorem passNo {P : Program} {w : World} {X : Cx} (h1 : X.prog = P) (h2 : X.w = w) : Passes (L2.CX P w) X E0 := by
  rintro pins σ H s e s' I ⟨a, B, H', cls, d, _, _, _, _, _, _, _, z⟩
  exact z.elim
abbrev tMk (K : PySem.W.Frag) (CI C : Addr) (te : TE) : TE := tMake C (spLegI K CI C) [] E0 (tCons te tNil)
/-- a leg is made -/
theorem mk_rd {K : PySem.W.Frag} {CI C : Addr} {z : Str} {te : TE} {σ : L2.St} {H : Hp} {Q : VK} (hte : ∀ Q' : VK, Q' (.str z) H → te σ H Q') (hn : isName z = true) (hz : z.length ≤ 1000) (k : ∀ a H', H a = none → LegAt H' a C z → Same H H' → Q (.ref a) H') : tMk K CI C te σ H Q := by
  refine hte _ fun x dx hx hdx hne => ⟨x, dx, .str z, rfl, upd_same, .inl ⟨z, rfl, hz, fun _ H' hp hb => ⟨rfl, k x H' hx ⟨dx, hp⟩ fun b o e => ?_⟩, fun h => absurd hn (by rw [h]; exact Bool.false_ne_true)⟩⟩
  refine hb b o (ne_of_none e hx) ?_
  rw [upd_ne (ne_of_none e hx), upd_ne (ne_of_none e hdx)]
  exact e
theorem Pen.at' {H : Hp} {p l : Addr} {cs : List Int} {n : Nat} (h : Pen H p l cs n) : ∃ xs, H p = some (.lst xs) := by
  obtain ⟨i, g, h1, _⟩ := h
  exact ⟨_, h1⟩
theorem Pen.mono {H : Hp} {p l : Addr} {cs : List Int} {n m : Nat} (h : Pen H p l cs n) (hm : n ≤ m) : Pen H p l cs m := by
  obtain ⟨i, g, h1, h2, h3, h4, h5⟩ := h
  exact ⟨i, g, h1, h2, h3, h4, by omega⟩
theorem But.same {H H1 H2 : Hp} {p : Addr} (a : But H H1 p) (s : Same H1 H2) : But H H2 p := fun b o hb e => s _ _ (a b o hb e)
theorem But.of {H H1 : Hp} {p : Addr} (s : Same H H1) : But H H1 p := fun b o _ e => s _ _ e
/-- what was laid behind the entry is not the pen -/
theorem nep {H0 : Hp} {p l q : Addr} {cs : List Int} {n : Nat} (hP : Pen H0 p l cs n) (h : H0 q = none) : q ≠ p := fun e => by
  obtain ⟨xs, z⟩ := hP.at'
  rw [e, z] at h
  cases h
theorem But.free {H H' : Hp} {p q : Addr} (b : But H H' p) (hp : q ≠ p) (h : H' q = none) : H q = none := by
  cases z : H q with
  | none => rfl
  | some o =>
    rw [b _ _ hp z] at h
    cases h
/-- the pen is a list: what is none of these stays -/
theorem But.keep {H H' : Hp} {p l q : Addr} {cs : List Int} {n : Nat} {o : HO} (b : But H H' p) (hP : Pen H p l cs n) (e : H q = some o) (no : ∀ ys, o ≠ .lst ys) : H' q = some o := by
  obtain ⟨xs, hp⟩ := hP.at'
  exact b _ _ (ne_of e hp (no xs)) e
structure DwT (P : Program) (w : World) (K : PySem.W.Frag) (mg : Str → Option Value) (base : Heap) : Prop where
  bi : Bi mg
  sorted : mg "sorted" = none
  draw : ∃ f fd, mg "_law_draw" = some (.ref f) ∧ PySem.W.keepIn K (.ref f) = true ∧ Binds K fd ["_law_pen_here", "_law_many"] [] ∧ FnOk P w K mg base CX0 1 f fd ["_law_pen_here", "_law_many"] spDraw
  tags : ∃ f fd, mg "_law_tags" = some (.ref f) ∧ PySem.W.keepIn K (.ref f) = true ∧ Binds K fd ["_law_pen_here", "_law_many"] [] ∧ FnOk P w K mg base CX0 2 f fd ["_law_pen_here", "_law_many"] spTags
/-- a plain frame as data -/
structure BareD where
  t : Int
  ds : List Str
  ls : List Str
  g : Bool
  r : Bool
structure BareD.ok (d : BareD) : Prop where
  t1 : 1 ≤ d.t
  t3 : d.t ≤ 3
  nd : (d.ds ++ d.ls).Nodup
  po : ∀ z ∈ d.ds ++ d.ls, z ∈ poolS
  sd : d.ds.Pairwise OrdS.Le
  sl : d.ls.Pairwise OrdS.Le
  le : d.ds.length + d.ls.length ≤ 16
def rowsB (t : Int) (dl ll rl : Addr) : List (Key × V) := [(Sum.inr "top", .int t), (Sum.inr "drivers", .ref dl), (Sum.inr "listeners", .ref ll), (Sum.inr "rails", .ref rl)]
def rows3 (t : Int) (dl ll : Addr) : List (Key × V) := [(Sum.inr "top", .int t), (Sum.inr "drivers", .ref dl), (Sum.inr "listeners", .ref ll)]
/-- it stands at b, apart from p -/
structure BareAt (H : Hp) (b : Addr) (d : BareD) (p : Addr) : Prop where
  ex : ∃ dl ll rl, H b = some (.dK (rowsB d.t dl ll rl)) ∧ H dl = some (.lst (strv d.ds)) ∧ H ll = some (.lst (strv d.ls)) ∧ H rl = some (.lst (strv (railsZ d.g d.r))) ∧ dl ≠ p ∧ ll ≠ p ∧ rl ≠ p
theorem BareAt.same {H H' : Hp} {b p : Addr} {d : BareD} (h : BareAt H b d p) (s : Same H H') : BareAt H' b d p := by
  obtain ⟨dl, ll, rl, h1, h2, h3, h4, h5⟩ := h.ex
  exact ⟨dl, ll, rl, s _ _ h1, s _ _ h2, s _ _ h3, s _ _ h4, h5⟩
theorem BareAt.but {H H' : Hp} {b p l : Addr} {cs : List Int} {n : Nat} {d : BareD} (h : BareAt H b d p) (hP : Pen H p l cs n) (s : But H H' p) : BareAt H' b d p := by
  obtain ⟨dl, ll, rl, h1, h2, h3, h4, h5, h6, h7⟩ := h.ex
  exact ⟨dl, ll, rl, s.keep hP h1 (fun ys z => by cases z), s _ _ h5 h2, s _ _ h6 h3, s _ _ h7 h4, h5, h6, h7⟩
theorem pool_ok : ∀ z ∈ poolS, isName z = true ∧ z.length ≤ 8 := by
  have h : (poolS.all fun z => isName z && decide (z.length ≤ 8)) = true := by decide +kernel
  intro z hz
  have e := List.all_eq_true.mp h z hz
  rw [Bool.and_eq_true, decide_eq_true_eq] at e
  exact e
theorem pool_nd : poolS.Nodup := by decide +kernel
abbrev sBare : Stmt := top 35
abbrev nBa : List Str := ["_law_pen_here", "_law_most", "_law_tags_here", "_law_bare_here", "_law_tag", "_law_part_so"]
theorem scBa : FnScope nBa ["_law_pen_here", "_law_most"] (defScope sBare) := ⟨rfl, rfl, rfl, by decide +kernel, rfl, by decide +kernel, by decide +kernel⟩
def spBare : Sp := fun vs H Q _ => ∃ (p l : Addr) (cs : List Int) (n m : Nat), vs = [.ref p, .int m] ∧ Pen H p l cs n ∧ m ≤ 15 ∧ n < 90000 ∧ ∀ b d H', d.ok → d.ds.length + d.ls.length ≤ m → H b = none → BareAt H' b d p → Pen H' p l cs (n + 40) → But H H' p → Q (.ref b) H'
/-- where the loop stands -/
structure BaInv (H0 H : Hp) (p l : Addr) (cs : List Int) (n : Nat) (b dl ll sl : Addr) (t : Int) (xs : List Str) (i : Nat) : Prop where
  pen : Pen H p l cs (n + i)
  hb : H b = some (.dK (rows3 t dl ll))
  sl_ : H sl = some (.lst (strv xs))
  ex : ∃ ds ls, H dl = some (.lst (strv ds)) ∧ H ll = some (.lst (strv ls)) ∧ ds.Sublist (xs.take i) ∧ ls.Sublist (xs.take i) ∧ (ds ++ ls).Perm (xs.take i)
  bt : But H0 H p
theorem sub_snoc {α : Type} {ds xs : List α} {i : Nat} (h : ds.Sublist (xs.take i)) (hi : i < xs.length) : (ds ++ [xs[i]]).Sublist (xs.take (i + 1)) := by
  rw [List.take_add_one, List.getElem?_eq_getElem hi]
  exact h.append (List.Sublist.refl _)
theorem sub_keep {α : Type} {ds xs : List α} {i : Nat} (h : ds.Sublist (xs.take i)) (hi : i < xs.length) : ds.Sublist (xs.take (i + 1)) := by
  rw [List.take_add_one]
  exact h.trans (List.sublist_append_left _ _)
end Sj
namespace Sj
open PySem L2 Sup StK Own
open NdefX (NF NScope ncx envF startF nscope_by)
open C8 (pss_cut tCut)
/-! _law_bare -/
theorem rows3_merge (t : Int) (dl ll : Addr) : mergeK [] (rows3 t dl ll) = rows3 t dl ll := by
  unfold rows3 mergeK putK
  simp +decide
theorem rows3_drv (t : Int) (dl ll x : Addr) : putK (rows3 t dl ll) (Sum.inr "drivers" : Key) (.ref x) = rows3 t x ll := by
  unfold rows3 putK
  simp +decide
theorem rows3_lis (t : Int) (dl ll x : Addr) : putK (rows3 t dl ll) (Sum.inr "listeners" : Key) (.ref x) = rows3 t dl x := by
  unfold rows3 putK
  simp +decide
theorem rows3_put (t : Int) (dl ll rl : Addr) : putK (rows3 t dl ll) (Sum.inr "rails" : Key) (.ref rl) = rowsB t dl ll rl := by
  unfold rows3 rowsB putK
  simp +decide
section
variable {P : Program} {w : World} {K : PySem.W.Frag} {mg : Str → Option Value} {base : Heap}
theorem ok_bare {f : Addr} {fd : FuncData} (F : Fun K "_law_bare" "_law_bare" sBare f fd) (T : DwT P w K mg base) : FnOk P w K mg base CX0 3 f fd ["_law_pen_here", "_law_most"] spBare := by
  obtain ⟨fd_, fdd, md, kd, bd, Gd⟩ := T.draw
  obtain ⟨ft, fdt, mt, kt, bt, Gt⟩ := T.tags
  refine F.ok scBa (fun vs H Q E h => ?_) (fun cdv A outer s H vs Q E hr h => ?_)
  · obtain ⟨p, l, cs, n, m, rfl, _⟩ := h
    rfl
  · obtain ⟨p, l, cs, n, m, rfl, hP, hm, hn, k⟩ := h
    have hr1 := hr.mono (show 1 ≤ 2 by decide)
    refine ⟨_, pss_cons (ps_set (i := 2) scBa.nd rfl (Or.inl rfl) (pe_call Gt hr rfl mt kt bt .nil pass0 (pa_cons (pv 0) (pa_cons (pe_call Gd hr1 rfl md kd bd .nil pass0 (pa_cons (pv 0) (pa_cons (pe_op op_add (pv 1) pe_int) pa_nil))) pa_nil))))
      (pss_cons (ps_set (i := 3) scBa.nd rfl (Or.inl rfl) (pe_disp (pps_cons pe_str (pe_op op_add pe_int (pe_call Gd hr1 rfl md kd bd .nil pass0 (pa_cons (pv 0) (pa_cons pe_int pa_nil)))) (pps_cons pe_str (pe_lst pa_nil) (pps_cons pe_str (pe_lst pa_nil) pps_nil))) (by rfl) (by rfl) (fun z => by cases z) (by decide)))
      (pss_cons (ps_for PassesOwn.never rfl (pi_list (pv 2)) (pg_name (i := 4) scBa.nd rfl (Or.inl rfl))
        (pss_one (ps_expr (pe_bm PySem.F.plainAttrs_list PySem.F.slot_list_append PySem.F.type_list_append mt_append (pe_dget (hu_of hr) (pv 3) (pe_ix ix_list (pe_lst (pa_cons pe_str (pa_cons pe_str (pa_cons pe_str (pa_cons pe_str pa_nil))))) (pe_call Gd hr1 rfl md kd bd .nil pass0 (pa_cons (pv 0) (pa_cons pe_int pa_nil))) (fun _ _ => rfl)) (fun _ _ => rfl)) (pa_cons (pv 4) pa_nil)))))
      (pss_cons (ps_for PassesOwn.never rfl (pi_tup (pe_tup (pa_cons pe_str (pa_cons pe_str pa_nil)))) (pg_name (i := 5) scBa.nd rfl (Or.inl rfl))
        (pss_one (ps_dput (hu_of hr) (pv 3) (pv 5) (pe_callB cr_sortedS (by rfl) T.sorted (by decide +kernel) (pa_cons (pe_dget (hu_of hr) (pv 3) (pv 5) (fun _ _ => rfl)) pa_nil)) rfl)))
      (pss_cons (ps_dput (hu_of hr) (pv 3) pe_str (pe_ix ix_list (pe_lst (pa_cons (pe_lst pa_nil) (pa_cons (pe_lst pa_nil) (pa_cons (pe_lst (pa_cons pe_str pa_nil)) (pa_cons (pe_lst (pa_cons pe_str pa_nil)) (pa_cons (pe_lst (pa_cons pe_str (pa_cons pe_str pa_nil))) pa_nil)))))) (pe_call Gd hr1 rfl md kd bd .nil pass0 (pa_cons (pv 0) (pa_cons pe_int pa_nil))) (fun _ _ => rfl)) rfl)
      (pss_one (ps_ret (pv 3))))))), ?_⟩
    -- the names
    refine ⟨_, rfl, _, rfl, _, rfl, (m : Int), 1, rfl, rfl, p, l, cs, n, (m : Int) + 1, rfl, hP, by omega, by omega, by omega, fun d1 i1 g1 H1 d0 dm i0 in1 hp1 b1 => ?_⟩
    have P1 : Pen H1 p l cs (n + 1) := hP.next i0 in1 hp1 b1
    obtain ⟨q, rfl⟩ : ∃ q : Nat, d1 = (q : Int) := ⟨d1.toNat, by omega⟩
    refine ⟨p, l, cs, n + 1, q, rfl, P1, by omega, by omega, fun H2 tl zs rest htl htl2 hlen hperm P2 b2 => ?_⟩
    have b02 := b1.trans b2
    have tlp : tl ≠ p := nep P1 htl
    have hpool : ∀ z ∈ zs, z ∈ poolS := fun z hz => hperm.mem_iff.mp (List.mem_append_left _ hz)
    have hndz : zs.Nodup := by
      have := hperm.nodup_iff.mpr pool_nd
      rw [List.nodup_append] at this
      exact this.1
    have tl0 : H tl = none := b1.free tlp htl
    -- the dict
    refine fun b hb => ?_
    have b0 : H b = none := b02.free (nep P2 hb) hb
    have P2b : Pen (upd H2 b (.dK [])) p l cs (n + 1 + q) := P2.same (same_at hb)
    refine ⟨_, rfl, p, l, cs, n + 1 + q, 3, rfl, P2b, by omega, by omega, by omega, fun d3 i3 g3 H3 d30 d33 i30 in3 hp3 b3 => ?_⟩
    have P3 : Pen H3 p l cs (n + 2 + q) := (P2b.next i30 in3 hp3 b3).mono (by omega)
    have hb3 : H3 b = some (.dK []) := b3.keep P2b upd_same (fun ys z => by cases z)
    have htl3 : H3 tl = some (.lst (strv zs)) := b3 _ _ tlp (same_at hb _ _ htl2)
    have b03 : But H H3 p := (b02.same (same_at hb)).trans b3
    refine ⟨1, d3, rfl, rfl, by show 0 ≤ sizeLine; decide, fun dl hdl => ⟨by show 0 ≤ sizeLine; decide, fun ll hll => ?_⟩⟩
    obtain ⟨H5, e5⟩ : ∃ H5, H5 = upd (upd H3 dl (.lst [])) ll (.lst []) := ⟨_, rfl⟩
    rw [← e5]
    have s35 : Same H3 H5 := by rw [e5]; exact (same_at hdl).trans (same_at hll)
    have hll0 : H3 ll = none := (same_at (o := .lst []) hdl).free hll
    have nld : ll ≠ dl := fun z => by rw [z, upd_same] at hll; cases hll
    have hdl5 : H5 dl = some (.lst (strv [])) := by rw [e5, upd_ne (Ne.symm nld), upd_same]; rfl
    have hll5 : H5 ll = some (.lst (strv [])) := by rw [e5, upd_same]; rfl
    have dlp : dl ≠ p := nep P3 hdl
    have llp : ll ≠ p := nep P3 hll0
    have dl0 : H dl = none := b03.free dlp hdl
    have ll0 : H ll = none := b03.free llp hll0
    have nbd : b ≠ dl := ne_of_none hb3 hdl
    have nbl : b ≠ ll := ne_of_none hb3 hll0
    refine ⟨s35 _ _ hb3, rows3 (1 + d3) dl ll, rfl, by show 3 ≤ 15; decide, ?_⟩
    rw [rows3_merge]
    obtain ⟨H6, e6⟩ : ∃ H6, H6 = upd H5 b (.dK (rows3 (1 + d3) dl ll)) := ⟨_, rfl⟩
    rw [← e6]
    have hb6 : H6 b = some (.dK (rows3 (1 + d3) dl ll)) := by rw [e6, upd_same]
    have ne6 : ∀ {c : Addr} {o : HO}, H5 c = some o → c ≠ b → H6 c = some o := fun e n => by rw [e6, upd_ne n]; exact e
    have P6 : Pen H6 p l cs (n + 2 + q) := by
      obtain ⟨i, g, h1, h2, h3⟩ := P3
      exact ⟨i, g, ne6 (s35 _ _ h1) (ne_of h1 hb3 (by intro z; cases z)), ne6 (s35 _ _ h2) (ne_of h2 hb3 (by intro z; cases z)), h3⟩
    have b06 : But H H6 p := fun c o hc e => ne6 (s35 _ _ (b03 c o hc e)) (ne_of_none e b0)
    have htl6 : H6 tl = some (.lst (strv zs)) := ne6 (s35 _ _ htl3) (ne_of htl3 hb3 (by intro z; cases z))
    have hdl6 := ne6 hdl5 (Ne.symm nbd)
    have hll6 := ne6 hll5 (Ne.symm nbl)
    have nsd : tl ≠ dl := ne_of_none htl3 hdl
    have nsl : tl ≠ ll := ne_of_none htl3 hll0
    have hxl2 : (strv zs).length = zs.length := List.length_map _
    have zq : zs.length = q := hlen
    refine ⟨_, rfl, tl, rfl, ⟨_, SqL.of htl6⟩, for_list (xs := strv zs) (fun i σ H' => (∃ o4, σ = ([some (.ref p), some (.int m), some (.ref tl), some (.ref b), o4, none] : List (Option V))) ∧ BaInv H H' p l cs (n + 2 + q) b dl ll tl (1 + d3) zs i) ⟨⟨_, rfl⟩, ⟨P6, hb6, htl6, ⟨[], [], hdl6, hll6, List.nil_sublist _, List.nil_sublist _, .nil⟩, b06⟩⟩ (fun i σ H' _ h => SqL.of h.2.sl_) ?_ ?_⟩
    · rintro i x σ H8 hx ⟨⟨o4, rfl⟩, ⟨P8, hb8, hsl8, ⟨ds, ls, hds, hls, sds, sls, hper⟩, b08⟩⟩
      have hi' : i < zs.length := by rw [← hxl2]; exact (List.getElem?_eq_some_iff.mp hx).1
      have ex : (strv zs)[i]? = some (.str zs[i]) := by show (zs.map V.str)[i]? = _; rw [List.getElem?_map, List.getElem?_eq_getElem hi']; rfl
      rw [ex] at hx
      obtain rfl := Option.some.inj hx
      refine ⟨_, rfl, by show 4 ≤ sizeLine; decide, fun w4 hw4 => ?_⟩
      have s89 := same_at (o := .lst [V.str "drivers", .str "drivers", .str "drivers", .str "listeners"]) hw4
      have P9 := P8.same s89
      have w4p : w4 ≠ p := nep P8 hw4
      refine ⟨_, rfl, p, l, cs, _, 4, rfl, P9, by omega, by omega, by omega, fun d4 i4 g4 H10 d40 d41 i40 in4 hp10 b10 => ?_⟩
      have P10 := P9.next i40 in4 hp10 b10
      have hw10 := b10 _ _ w4p (upd_same (H := H8) (a := w4) (o := .lst [V.str "drivers", .str "drivers", .str "drivers", .str "listeners"]))
      have b810 : But H8 H10 p := (But.of s89).trans b10
      have hdsl : ds.length ≤ zs.length := Nat.le_trans sds.length_le (by rw [List.length_take]; omega)
      have hlsl : ls.length ≤ zs.length := Nat.le_trans sls.length_le (by rw [List.length_take]; omega)
      have hb10 := b810.keep P8 hb8 (fun ys z => by cases z)
      have hsl10 := b810 _ _ tlp hsl8
      have hds10 := b810 _ _ dlp hds
      have hls10 := b810 _ _ llp hls
      have z15 : zs.length ≤ 15 := by omega
      obtain ⟨y, hy, hyy⟩ : ∃ y, atI [V.str "drivers", .str "drivers", .str "drivers", .str "listeners"] d4 = some y ∧ (y = .str "drivers" ∨ y = .str "listeners") := by
        rcases (show d4 = ((0 : Nat) : Int) ∨ d4 = ((1 : Nat) : Int) ∨ d4 = ((2 : Nat) : Int) ∨ d4 = ((3 : Nat) : Int) by omega) with e | e | e | e
        · exact ⟨_, by rw [e]; exact atI_nat (j := 0) rfl, .inl rfl⟩
        · exact ⟨_, by rw [e]; exact atI_nat (j := 1) rfl, .inl rfl⟩
        · exact ⟨_, by rw [e]; exact atI_nat (j := 2) rfl, .inl rfl⟩
        · exact ⟨_, by rw [e]; exact atI_nat (j := 3) rfl, .inr rfl⟩
      have hpt : zs.take (i + 1) = zs.take i ++ [zs[i]] := by rw [List.take_add_one, List.getElem?_eq_getElem hi']; rfl
      rcases hyy with rfl | rfl
      · refine ⟨w4, _, d4, _, rfl, rfl, SqL.of hw10, hy, b, _, rfl, DGet.k (k := Sum.inr "drivers") hb10, ?_⟩
        refine ⟨.inl ⟨rfl, _, SqL.of hds10⟩, _, rfl, dl, _, _, rfl, rfl, hds10, ?_, ⟨⟨_, rfl⟩, ?_⟩⟩
        · show (List.map _ ds).length < _
          rw [List.length_map]
          exact Nat.lt_of_le_of_lt (show ds.length ≤ 16 by omega) (by decide)
        · refine ⟨?_, by rw [upd_ne nbd]; exact hb10, by rw [upd_ne nsd]; exact hsl10, ⟨ds ++ [zs[i]], ls, ?_, by rw [upd_ne nld]; exact hls10, sub_snoc sds hi', sub_keep sls hi', ?_⟩, fun c o hc e => ?_⟩
          · obtain ⟨i', g', h1, h2, h3⟩ := P10
            refine ⟨i', g', by rw [upd_ne (Ne.symm dlp)]; exact h1, ?_, h3.1, h3.2.1, by omega⟩
            rw [upd_ne (fun z => ?_)]
            · exact h2
            · obtain ⟨i0', g0', q1, q2, _⟩ := hP
              rw [z, dl0] at q2
              cases q2
          · rw [upd_same]
            show _ = some (HO.lst (List.map V.str _))
            rw [List.map_append]
            rfl
          · rw [hpt, List.append_assoc]
            refine List.Perm.trans ?_ (hper.append_right [zs[i]])
            rw [List.append_assoc]
            exact List.Perm.append_left ds List.perm_append_comm
          · rw [upd_ne (ne_of_none e dl0)]
            exact (b08.trans b810) c o hc e
      · refine ⟨w4, _, d4, _, rfl, rfl, SqL.of hw10, hy, b, _, rfl, DGet.k (k := Sum.inr "listeners") hb10, ?_⟩
        refine ⟨.inl ⟨rfl, _, SqL.of hls10⟩, _, rfl, ll, _, _, rfl, rfl, hls10, ?_, ⟨⟨_, rfl⟩, ?_⟩⟩
        · show (List.map _ ls).length < _
          rw [List.length_map]
          exact Nat.lt_of_le_of_lt (show ls.length ≤ 16 by omega) (by decide)
        · refine ⟨?_, by rw [upd_ne nbl]; exact hb10, by rw [upd_ne nsl]; exact hsl10, ⟨ds, ls ++ [zs[i]], by rw [upd_ne (Ne.symm nld)]; exact hds10, ?_, sub_keep sds hi', sub_snoc sls hi', ?_⟩, fun c o hc e => ?_⟩
          · obtain ⟨i', g', h1, h2, h3⟩ := P10
            refine ⟨i', g', by rw [upd_ne (Ne.symm llp)]; exact h1, ?_, h3.1, h3.2.1, by omega⟩
            rw [upd_ne (fun z => ?_)]
            · exact h2
            · obtain ⟨i0', g0', q1, q2, _⟩ := hP
              rw [z, ll0] at q2
              cases q2
          · rw [upd_same]
            show _ = some (HO.lst (List.map V.str _))
            rw [List.map_append]
            rfl
          · rw [hpt, ← List.append_assoc]
            exact hper.append_right [zs[i]]
          · rw [upd_ne (ne_of_none e ll0)]
            exact (b08.trans b810) c o hc e
    · rintro σ H8 ⟨⟨o4, rfl⟩, ⟨P8, hb8, hsl8, ⟨ds, ls, hds, hls, sds, sls, hper⟩, b08⟩⟩
      rw [hxl2, List.take_length] at sds sls hper
      have lsum : ds.length + ls.length = zs.length := by
        have := hper.length_eq
        rw [List.length_append] at this
        exact this
      -- each sorted
      refine ⟨by show 2 ≤ sizeLine; decide, fun t ht => ?_⟩
      have s89 := same_at (o := .tup [V.str "drivers", .str "listeners"]) ht
      have ht9 : upd H8 t (.tup [V.str "drivers", .str "listeners"]) t = some (.tup [V.str "drivers", .str "listeners"]) := upd_same
      refine ⟨t, rfl, ⟨_, SqT.of ht9⟩, ?_⟩
      refine for_it (walk_tup (K := K) (a := t) (xs := [V.str "drivers", .str "listeners"])) (fun j σ H' => (∃ o5, σ = ([some (.ref p), some (.int m), some (.ref tl), some (.ref b), o4, o5] : List (Option V))) ∧ Pen H' p l cs (n + 2 + q + (strv zs).length) ∧ But H H' p ∧ H' t = some (.tup [V.str "drivers", .str "listeners"]) ∧
          ∃ dl' ll' ds' ls', H' b = some (.dK (rows3 (1 + d3) dl' ll')) ∧ H' dl' = some (.lst (strv ds')) ∧ H' ll' = some (.lst (strv ls')) ∧ dl' ≠ p ∧ ll' ≠ p ∧ ds'.Perm ds ∧ ls'.Perm ls ∧ (1 ≤ j → PyProof.Rows.sortedS ds' = true) ∧ (2 ≤ j → PyProof.Rows.sortedS ls' = true))
        ⟨⟨_, rfl⟩, P8.same s89, b08.same s89, ht9, dl, ll, ds, ls, s89 _ _ hb8, s89 _ _ hds, s89 _ _ hls, dlp, llp, .refl _, .refl _, fun h => absurd h (by decide), fun h => absurd h (by decide)⟩ (fun j σ H' _ h => .inl (.inl h.2.2.2.1)) ?_ ?_
      · rintro j x σ Hz Ha hj ⟨⟨o5, rfl⟩, Pa, ba, hta, dl', ll', ds', ls', hba, hda, hla, ndp, nlp, pd, pl, so1, so2⟩ ⟨rfl, hx1⟩
        have hj2 : j < 2 := hj
        have one : ∀ {ad : Addr} {zs' xs' : List Str} {sl : Addr}, H b = none → Ha b = some (.dK (rows3 (1 + d3) dl' ll')) → Ha sl = none → ∀ (R : List (Key × V)), Pen (upd (upd Ha sl (.lst (strv xs'))) b (.dK R)) p l cs (n + 2 + q + (strv zs).length) ∧ But H (upd (upd Ha sl (.lst (strv xs'))) b (.dK R)) p ∧ upd (upd Ha sl (.lst (strv xs'))) b (.dK R) t = some (.tup [V.str "drivers", .str "listeners"]) ∧ upd (upd Ha sl (.lst (strv xs'))) b (.dK R) sl = some (.lst (strv xs')) ∧ sl ≠ p := fun {ad zs' xs' sl} hb0 hba' hsl R => by
          have s1 := same_at (o := .lst (strv xs')) hsl
          have nbs : sl ≠ b := fun e => by rw [e, hba'] at hsl; cases hsl
          have hb1 := s1 _ _ hba'
          have P1 := Pa.same s1
          refine ⟨?_, fun c o hc e => ?_, ?_, ?_, nep Pa hsl⟩
          · obtain ⟨i', g', q1, q2, q3⟩ := P1
            exact ⟨i', g', by rw [upd_ne (ne_of q1 hb1 (by intro z; cases z))]; exact q1, by rw [upd_ne (ne_of q2 hb1 (by intro z; cases z))]; exact q2, q3⟩
          · rw [upd_ne (ne_of_none e hb0)]
            exact s1 _ _ (ba c o hc e)
          · rw [upd_ne (ne_of (s1 _ _ hta) hb1 (by intro z; cases z))]
            exact s1 _ _ hta
          · rw [upd_ne nbs]
            exact upd_same
        match j, hj2, hx1, so1, so2 with
        | 0, _, hx1, so1, so2 =>
          obtain rfl := Option.some.inj hx1
          refine ⟨_, rfl, _, rfl, b, _, rfl, DGet.k (k := Sum.inr "drivers") hba, dl', ds', rfl, SqL.of hda, by rw [pd.length_eq]; omega, fun xs sl hxs hso hsl => ?_⟩
          have s1 := same_at (o := .lst (xs.map V.str)) hsl
          refine ⟨_, rfl, _, rfl, b, _, rfl, DPut.k (k := Sum.inr "drivers") (s1 _ _ hba) (by show 3 < sizeLine; decide), ?_⟩
          rw [rows3_drv]
          obtain ⟨z1, z2, z3, z4, z5⟩ := one (ad := 0) (zs' := []) (xs' := xs) b0 hba hsl (rows3 (1 + d3) sl ll')
          refine ⟨⟨_, rfl⟩, z1, z2, z3, sl, ll', xs, ls', upd_same, z4, ?_, z5, nlp, hxs.trans pd, pl, fun _ => hso, fun h => absurd h (by decide)⟩
          rw [upd_ne (ne_of (s1 _ _ hla) (s1 _ _ hba) (by intro z; cases z))]
          exact s1 _ _ hla
        | 1, _, hx1, so1, so2 =>
          obtain rfl := Option.some.inj hx1
          refine ⟨_, rfl, _, rfl, b, _, rfl, DGet.k (k := Sum.inr "listeners") hba, ll', ls', rfl, SqL.of hla, by rw [pl.length_eq]; omega, fun xs sl hxs hso hsl => ?_⟩
          have s1 := same_at (o := .lst (xs.map V.str)) hsl
          refine ⟨_, rfl, _, rfl, b, _, rfl, DPut.k (k := Sum.inr "listeners") (s1 _ _ hba) (by show 3 < sizeLine; decide), ?_⟩
          rw [rows3_lis]
          obtain ⟨z1, z2, z3, z4, z5⟩ := one (ad := 0) (zs' := []) (xs' := xs) b0 hba hsl (rows3 (1 + d3) dl' sl)
          refine ⟨⟨_, rfl⟩, z1, z2, z3, dl', sl, ds', xs, upd_same, ?_, z4, ndp, z5, pd, hxs.trans pl, fun _ => so1 (by decide), fun _ => hso⟩
          rw [upd_ne (ne_of (s1 _ _ hda) (s1 _ _ hba) (by intro z; cases z))]
          exact s1 _ _ hda
      rintro σ Ha ⟨⟨o5, rfl⟩, Pa, ba, hta, dl', ll', ds', ls', hba, hda, hla, ndp, nlp, pd, pl, so1, so2⟩
      -- rails
      refine ⟨by show 0 ≤ sizeLine; decide, fun r0 h0 => ⟨by show 0 ≤ sizeLine; decide, fun r1 h1 => ⟨by show 1 ≤ sizeLine; decide, fun r2 h2 => ⟨by show 1 ≤ sizeLine; decide, fun r3 h3 => ⟨by show 2 ≤ sizeLine; decide, fun r4 h4 => ⟨by show 5 ≤ sizeLine; decide, fun L hL => ?_⟩⟩⟩⟩⟩⟩
      have t0 := same_at (o := .lst []) h0
      have t1 := same_at (o := .lst []) h1
      have t2 := same_at (o := .lst [.str "ground"]) h2
      have t3 := same_at (o := .lst [.str "power"]) h3
      have t4 := same_at (o := .lst [.str "ground", .str "power"]) h4
      have tL := same_at (o := .lst [.ref r0, .ref r1, .ref r2, .ref r3, .ref r4]) hL
      have t34 := t4.trans tL
      have t24 := t3.trans t34
      have t14 := t2.trans t24
      have t04 := t1.trans t14
      have t05 := t0.trans t04
      have n0 : r0 ≠ p := nep Pa h0
      have n1 : r1 ≠ p := nep (Pa.same t0) h1
      have n2 : r2 ≠ p := nep ((Pa.same t0).same t1) h2
      have n3 : r3 ≠ p := nep (((Pa.same t0).same t1).same t2) h3
      have n4 : r4 ≠ p := nep ((((Pa.same t0).same t1).same t2).same t3) h4
      have nL : L ≠ p := nep (((((Pa.same t0).same t1).same t2).same t3).same t4) hL
      have e0 := t04 _ _ (upd_same (H := Ha) (a := r0) (o := .lst []))
      have e1 := t14 _ _ (upd_same (a := r1) (o := .lst []))
      have e2 := t24 _ _ (upd_same (a := r2) (o := .lst [.str "ground"]))
      have e3 := t34 _ _ (upd_same (a := r3) (o := .lst [.str "power"]))
      have e4 := tL _ _ (upd_same (a := r4) (o := .lst [.str "ground", .str "power"]))
      obtain ⟨Hb, eHb⟩ : ∃ Hb, Hb = upd (upd (upd (upd (upd (upd Ha r0 (.lst [])) r1 (.lst [])) r2 (.lst [.str "ground"])) r3 (.lst [.str "power"])) r4 (.lst [.str "ground", .str "power"])) L (.lst [V.ref r0, .ref r1, .ref r2, .ref r3, .ref r4]) := ⟨_, rfl⟩
      have eL : Hb L = some (.lst [.ref r0, .ref r1, .ref r2, .ref r3, .ref r4]) := by rw [eHb, upd_same]
      rw [← eHb] at t05 e0 e1 e2 e3 e4 ⊢
      have Pb := Pa.same t05
      refine ⟨_, rfl, p, l, cs, _, 5, rfl, Pb, by omega, by omega, by rw [hxl2]; omega, fun d5 i5 g5 H10 d50 d51 i50 in5 hp10 b10 => ?_⟩
      have P10 := Pb.next i50 in5 hp10 b10
      obtain ⟨y, g, r, rl, hy, rfl, hrl, hrp⟩ : ∃ y g r rl, atI [V.ref r0, .ref r1, .ref r2, .ref r3, .ref r4] d5 = some y ∧ y = .ref rl ∧ H10 rl = some (.lst (strv (railsZ g r))) ∧ rl ≠ p := by
        rcases (show d5 = ((0 : Nat) : Int) ∨ d5 = ((1 : Nat) : Int) ∨ d5 = ((2 : Nat) : Int) ∨ d5 = ((3 : Nat) : Int) ∨ d5 = ((4 : Nat) : Int) by omega) with e | e | e | e | e
        · exact ⟨_, false, false, r0, by rw [e]; exact atI_nat (j := 0) rfl, rfl, b10 _ _ n0 e0, n0⟩
        · exact ⟨_, false, false, r1, by rw [e]; exact atI_nat (j := 1) rfl, rfl, b10 _ _ n1 e1, n1⟩
        · exact ⟨_, true, false, r2, by rw [e]; exact atI_nat (j := 2) rfl, rfl, b10 _ _ n2 e2, n2⟩
        · exact ⟨_, false, true, r3, by rw [e]; exact atI_nat (j := 3) rfl, rfl, b10 _ _ n3 e3, n3⟩
        · exact ⟨_, true, true, r4, by rw [e]; exact atI_nat (j := 4) rfl, rfl, b10 _ _ n4 e4, n4⟩
      have ba10 : But Ha H10 p := (But.of t05).trans b10
      have hb10 := ba10.keep Pa hba (fun ys z => by cases z)
      have hd10 := ba10 _ _ ndp hda
      have hl10 := ba10 _ _ nlp hla
      refine ⟨L, _, d5, _, rfl, rfl, SqL.of (b10 _ _ nL eL), hy, _, rfl, b, _, rfl, DPut.k (k := Sum.inr "rails") hb10 (by show 3 < sizeLine; decide), _, rfl, ?_⟩
      rw [rows3_put]
      have nrb : rl ≠ b := ne_of hrl hb10 (by intro z; cases z)
      have ndb : dl' ≠ b := ne_of hd10 hb10 (by intro z; cases z)
      have nlb : ll' ≠ b := ne_of hl10 hb10 (by intro z; cases z)
      have pmz : (ds' ++ ls').Perm zs := (List.Perm.append pd pl).trans hper
      refine k b ⟨1 + d3, ds', ls', g, r⟩ _ ⟨by show (1 : Int) ≤ 1 + d3; omega, by show (1 : Int) + d3 ≤ 3; omega, pmz.nodup_iff.mpr hndz, fun z hz => hpool z (pmz.mem_iff.mp hz), OrdS.sorted_pw (so1 (by decide)), OrdS.sorted_pw (so2 (by decide)), ?_⟩ ?_ b0 ⟨dl', ll', rl, upd_same, by rw [upd_ne ndb]; exact hd10, by rw [upd_ne nlb]; exact hl10, by rw [upd_ne nrb]; exact hrl, ndp, nlp, hrp⟩ ?_ fun c o hc e => ?_
      · show ds'.length + ls'.length ≤ 16
        rw [pd.length_eq, pl.length_eq]
        omega
      · show ds'.length + ls'.length ≤ m
        rw [pd.length_eq, pl.length_eq]
        omega
      · obtain ⟨i', g', q1, q2, q3⟩ := P10
        rw [hxl2, zq] at q3
        exact ⟨i', g', by rw [upd_ne (ne_of q1 hb10 (by intro z; cases z))]; exact q1, by rw [upd_ne (ne_of q2 hb10 (by intro z; cases z))]; exact q2, q3.1, q3.2.1, by omega⟩
      · rw [upd_ne (ne_of_none e b0)]
        exact (ba.trans ba10) c o hc e
end
end Sj
namespace Sj
open PySem L2 Sup StK Own
open NdefX (NF NScope ncx envF startF nscope_by)
open C8 (pss_cut tCut)
/-! _law_frame (k03, k05, ..) -/
section
variable {P : Program} {w : World} {K : PySem.W.Frag} {mg : Str → Option Value} {base : Heap} {f : Addr} {fd : FuncData} {ks : Kinds} {CI CF : Addr}
abbrev psO : List Str := ["cls", "legs", "top", "ground", "power"]
theorem of_kwB (F : FunD K "of" "Frame.of" (defArgs sOf) (defBody sOf) (defScope sOf) [] kwsF f fd) (G : FnOk P w K mg base (L2.CX P w) 6 f fd psO (spOf K ks CI CF)) :
    FnK P w K mg base (L2.CX P w) 6 f ksB (fun vs zs H Q E => vs.length = 2 ∧ spOf K ks CI CF (vs ++ zs) H Q E) := by
  obtain ⟨mv, hb⟩ := F.kbinds0 (ps := psO) 2 ksB [] (fun us mv ws => us ++ ws) (by decide) (fun q h => nomatch h) (fun r1 _ r3 => r1.append r3)
    (fun D doc pm an cdv ct us mv ws h1 h2 h3 => match us, mv, ws, h1, h2, h3 with
      | [a, b], [], [x, y, z], _, _, _ => rfl)
  exact fnK_of G hb
end
theorem topIn {K : PySem.W.Frag} {H : Hp} {i : Int} (h1 : 1 ≤ i) (h3 : i ≤ 3) : TopIs K H (.int i) true := .inl ⟨i, rfl, by rw [decide_eq_true h1, decide_eq_true h3]; rfl⟩
theorem railIn {K : PySem.W.Frag} {H : Hp} {b : Bool} : RailIs K H (.bl b) true := ⟨"bool", .base (.bl b), by decide +kernel⟩
/-- the legs ys are the drivers ds and the listeners ls -/
def KindsOf (ks : Kinds) (ys : List LegR) (ds ls : List Str) : Prop := ∃ rs1 rs2 : List LegR, ys.Perm (rs1 ++ rs2) ∧ names rs1 = ds ∧ names rs2 = ls ∧ (∀ r ∈ rs1, r.C = ks.drv) ∧ ∀ r ∈ rs2, r.C = ks.lis
abbrev sFrm : Stmt := top 36
abbrev nFm : List Str := ["_law_bare_here", "_law_some", "_law_rails_so", "_law_tag"]
theorem scFm : FnScope nFm ["_law_bare_here"] (defScope sFrm) := ⟨rfl, rfl, rfl, by decide +kernel, rfl, by decide +kernel, by decide +kernel⟩
def spFrm (ks : Kinds) (CF : Addr) : Sp := fun vs H Q _ => ∃ (b : Addr) (d : BareD) (p : Addr), vs = [.ref b] ∧ BareAt H b d p ∧ d.ok ∧ ∀ a ys H', FrIs ks CF H' a ⟨ys, d.t, d.g, d.r⟩ → KindsOf ks ys d.ds d.ls → H a = none → Same H H' → Q (.ref a) H'
structure FkT (P : Program) (w : World) (K : PySem.W.Frag) (mg : Str → Option Value) (base : Heap) (ks : Kinds) (CI CF : Addr) : Prop where
  d : MkL P w K mg base CI ks.drv "Driver"
  i : MkL P w K mg base CI ks.lis "Listener"
  mF : mg "Frame" = some (.ref CF)
  of : ∃ mc q gO, ClX.CRead K CF mc ∧ ClX.CMet K CF mc "of" q gO ∧ FnK P w K mg base (L2.CX P w) 6 gO ksB (fun vs zs H Q E => vs.length = 2 ∧ spOf K ks CI CF (vs ++ zs) H Q E)
def teMk (K : PySem.W.Frag) (CI C : Addr) : TE := tMk K CI C (tVar 3)
theorem names_append (xs ys : List LegR) : names (xs ++ ys) = names xs ++ names ys := List.map_append
theorem refs_append (xs ys : List LegR) : refs (xs ++ ys) = refs xs ++ refs ys := List.map_append
/-- [C(tag) for tag in zs] -/
theorem mk_walk {K : PySem.W.Frag} {CI C q D : Addr} {zs : List Str} {H : Hp} {σ : L2.St} {Qd : Hp → Prop} (hσ : σ.length = 4) (hq : H q = some (.lst (strv zs))) (hD : H D = none) (hz : ∀ z ∈ zs, z ∈ poolS) (hl : zs.length ≤ 16)
    (hd : ∀ H' rs, Same H H' → H' D = some (.lst (refs rs)) → names rs = zs → (∀ r ∈ rs, r.C = C ∧ LegAt H' r.a C r.z) → Qd H') :
    ∃ W : Nat → Nat → Hp → Prop, (∃ m, W 0 m (upd H D (.lst []))) ∧ ∀ i m H, W i m H →
      ((Itl K q).stop i H ∧ Qd H) ∨ ((Itl K q).go i H ∧ ∃ Nx : Hp → Prop, (∀ H', Nx H' → ∃ m', m' < m ∧ W (i + 1) m' H') ∧ ∀ x H', (Itl K q).yld i H x H' → gName 3 x (wipe σ [3]) H' fun σ2 H2 => wipe σ2 [3] = wipe σ [3] ∧ tYes σ2 H2 fun b H3 =>
        if b = true then teMk K CI C σ2 H3 fun y H4 => ∃ acc, H4 D = some (.lst acc) ∧ acc.length < sizeLine ∧ Nx (upd H4 D (.lst (acc ++ [y]))) else Nx H3) := by
  match σ, hσ with
  | [u0, u1, u2, u3], _ =>
  have hlm : (strv zs).length = zs.length := List.length_map _
  refine lc_it (walk_list (K := K) (a := q) (xs := strv zs)) (fun i H' => Same H H' ∧ ∃ rs, H' D = some (.lst (refs rs)) ∧ names rs = zs.take i ∧ ∀ r ∈ rs, r.C = C ∧ LegAt H' r.a C r.z) ⟨same_at hD, [], upd_same, rfl, fun r hr => by cases hr⟩ (fun i H' _ p => SqL.of (p.1 _ _ hq)) ?_ ?_
  · rintro i x H1 H2 hi ⟨s1, rs, d1, hn, hr⟩ ⟨rfl, hx⟩
    rw [hlm] at hi
    have ex : (strv zs)[i]? = some (.str zs[i]) := by show (zs.map V.str)[i]? = _; rw [List.getElem?_map, List.getElem?_eq_getElem hi]; rfl
    rw [ex] at hx
    obtain rfl := Option.some.inj hx
    refine ⟨rfl, ?_⟩
    unfold tYes
    dsimp only
    rw [if_pos rfl]
    obtain ⟨o1, o2⟩ := pool_ok _ (hz _ (List.getElem_mem hi))
    unfold teMk
    refine mk_rd (fun Q'' q => ⟨_, rfl, q⟩) o1 (by omega) fun a H3 ha la s3 => ?_
    have d3 := s3 _ _ d1
    have nDa : D ≠ a := fun z => by
      obtain ⟨dx, e⟩ := la
      rw [← z, d3] at e
      cases e
    have keepD : ∀ {c C' : Addr} {z : Str} {o : HO}, LegAt H3 c C' z → LegAt (upd H3 D o) c C' z := fun ⟨dx, e⟩ => ⟨dx, by rw [upd_ne (ne_of e d3 (by intro z; cases z))]; exact e⟩
    refine ⟨_, d3, ?_, fun c o hc => ?_, rs ++ [⟨a, C, zs[i]⟩], ?_, ?_, fun r hr' => ?_⟩
    · have e1 : rs.length = (zs.take i).length := by rw [← hn]; unfold names; rw [List.length_map]
      show (List.map _ rs).length < _
      rw [List.length_map, e1, List.length_take]
      exact Nat.lt_of_le_of_lt (Nat.min_le_right _ _) (Nat.lt_of_le_of_lt hl (by decide))
    · rw [upd_ne (ne_of_none hc hD)]
      exact s3 _ _ (s1 _ _ hc)
    · rw [upd_same, refs_append]
      rfl
    · rw [names_append, hn, List.take_add_one, List.getElem?_eq_getElem hi]
      rfl
    · rcases List.mem_append.mp hr' with hr' | hr'
      · exact ⟨(hr r hr').1, keepD ((hr r hr').2.same s3)⟩
      · obtain rfl := List.mem_singleton.mp hr'
        exact ⟨rfl, keepD la⟩
  · rintro H1 ⟨s1, rs, d1, hn, hr⟩
    rw [hlm, List.take_length] at hn
    exact hd H1 rs s1 d1 hn hr
theorem inV_rails (g r : Bool) : inV (.str "ground") (strv (railsZ g r)) = g ∧ inV (.str "power") (strv (railsZ g r)) = r := by
  cases g <;> cases r <;> decide +kernel
theorem flat_strv : ∀ zs : List Str, (strv zs).all flatV = true
  | [] => rfl
  | z :: zs => by
    show (flatV (.str z) && (strv zs).all flatV) = true
    rw [flat_strv zs]
    rfl
section
variable {P : Program} {w : World} {K : PySem.W.Frag} {mg : Str → Option Value} {base : Heap}
theorem ok_frm {f CI CF : Addr} {fd : FuncData} {ks : Kinds} (F : Fun K "_law_frame" "_law_frame" sFrm f fd) (T : FkT P w K mg base ks CI CF) : FnOk P w K mg base CX0 7 f fd ["_law_bare_here"] (spFrm ks CF) := by
  obtain ⟨⟨fD, fdD, MD, GD, bD⟩, mD⟩ := T.d
  obtain ⟨⟨fI, fdI, MI, GI, bI⟩, mI⟩ := T.i
  obtain ⟨mc, qO, gO, cr, cm, GB⟩ := T.of
  refine F.ok scFm (fun vs H Q E h => ?_) (fun cdv A outer s H vs Q E hr h => ?_)
  · obtain ⟨b, d, p, rfl, _⟩ := h
    rfl
  · obtain ⟨b, d, p, rfl, hB, ok, k⟩ := h
    obtain ⟨dl, ll, rl, hb, hdl, hll, hrl, _⟩ := hB.ex
    have hr5 := hr.mono (show 5 ≤ 6 by decide)
    refine ⟨_, pss_cons (ps_set (i := 1) scFm.nd rfl (Or.inl rfl) (pe_op op_cat
        (pe_lc (te := teMk K CI ks.drv) (own := [("_law_tag", 3)]) (g := gName 3) (tt := tYes) rfl scFm.nd (pi_list (pe_dget (hu_of hr) (pv 0) pe_str (fun _ _ => rfl))) (blkOk_by (N := nFm) (sc := defScope sFrm) (by decide +kernel))
          (fun _ _ _ _ _ => pg_name (i := 3) scFm.nd rfl (Or.inl rfl)) (fun _ _ _ _ _ => pts_nil) (fun _ _ _ _ _ => pe_make MD GD hr5 rfl mD bD .nil (passNo rfl rfl) (pa_cons (pv 3) pa_nil)))
        (pe_lc (te := teMk K CI ks.lis) (own := [("_law_tag", 3)]) (g := gName 3) (tt := tYes) rfl scFm.nd (pi_list (pe_dget (hu_of hr) (pv 0) pe_str (fun _ _ => rfl))) (blkOk_by (N := nFm) (sc := defScope sFrm) (by decide +kernel))
          (fun _ _ _ _ _ => pg_name (i := 3) scFm.nd rfl (Or.inl rfl)) (fun _ _ _ _ _ => pts_nil) (fun _ _ _ _ _ => pe_make MI GI hr5 rfl mI bI .nil (passNo rfl rfl) (pa_cons (pv 3) pa_nil)))))
      (pss_one (ps_ret (pe_cmethK (pe_glob rfl T.mF (v := .ref CF) rfl) cr cm GB hr (passNo rfl rfl) (pa_cons (pv 1) pa_nil) (pk_cons (pe_dget (hu_of hr) (pv 0) pe_str (fun _ _ => rfl)) (pk_cons (pe_cmpR op_in_seq pe_str (pe_dget (hu_of hr) (pv 0) pe_str (fun _ _ => rfl)) (by rfl)) (pk_cons (pe_cmpR op_in_seq pe_str (pe_dget (hu_of hr) (pv 0) pe_str (fun _ _ => rfl)) (by rfl)) pk_nil)))))), ?_⟩
    have lds : d.ds.length ≤ 16 := by have := ok.le; omega
    have lls : d.ls.length ≤ 16 := by have := ok.le; omega
    refine ⟨_, rfl, b, _, rfl, DGet.k (k := Sum.inr "drivers") hb, dl, rfl, ⟨_, SqL.of hdl⟩, fun D1 hD1 => ?_⟩
    refine mk_walk rfl hdl hD1 (fun z hz => ok.po z (List.mem_append_left _ hz)) lds fun H1 rs1 s1 d1 n1 r1 => ?_
    refine ⟨_, rfl, b, _, rfl, DGet.k (k := Sum.inr "listeners") (s1 _ _ hb), ll, rfl, ⟨_, SqL.of (s1 _ _ hll)⟩, fun D2 hD2 => ?_⟩
    refine mk_walk rfl (s1 _ _ hll) hD2 (fun z hz => ok.po z (List.mem_append_right _ hz)) lls fun H2 rs2 s2 d2 n2 r2 => ?_
    have e1 : rs1.length = d.ds.length := by rw [← n1]; unfold names; rw [List.length_map]
    have e2 : rs2.length = d.ls.length := by rw [← n2]; unfold names; rw [List.length_map]
    have c1 : (refs rs1).length = rs1.length := List.length_map _
    have c2 : (refs rs2).length = rs2.length := List.length_map _
    refine ⟨D1, D2, refs rs1, refs rs2, rfl, rfl, s2 _ _ d1, d2, Nat.le_trans (show _ ≤ 32 by omega) (by decide), fun L hL => ?_⟩
    obtain ⟨H3, e3⟩ : ∃ H3, H3 = upd H2 L (.lst (refs rs1 ++ refs rs2)) := ⟨_, rfl⟩
    have s3 : Same H2 H3 := by rw [e3]; exact same_at hL
    have hL3 : H3 L = some (.lst (refs (rs1 ++ rs2))) := by rw [e3, upd_same, refs_append]
    rw [← e3]
    have s03 := (s1.trans s2).trans s3
    have hb3 := s03 _ _ hb
    have hrl3 := s03 _ _ hrl
    refine ⟨rfl, _, rfl, _, rfl, b, _, rfl, DGet.k (k := Sum.inr "top") hb3, _, rfl, b, _, rfl, DGet.k (k := Sum.inr "rails") hb3, rl, _, rfl, .inl (SqL.of hrl3), rfl, flat_strv _, _, rfl, b, _, rfl, DGet.k (k := Sum.inr "rails") hb3, rl, _, rfl, .inl (SqL.of hrl3), rfl, flat_strv _, rfl, rfl, ?_⟩
    rw [if_neg Bool.false_ne_true, if_neg Bool.false_ne_true, (inV_rails d.g d.r).1, (inV_rails d.g d.r).2]
    have hrs : ∀ r ∈ rs1 ++ rs2, r.ok ks H3 := fun r hr' => by
      rcases List.mem_append.mp hr' with h | h
      · exact ⟨.inl (r1 r h).1, by rw [(r1 r h).1]; exact (((r1 r h).2.same s2).same s3)⟩
      · exact ⟨.inr (r2 r h).1, by rw [(r2 r h).1]; exact ((r2 r h).2.same s3)⟩
    have hnm : names (rs1 ++ rs2) = d.ds ++ d.ls := by rw [names_append, n1, n2]
    have hdue : due (names (rs1 ++ rs2)) true (true && true) = .non := by
      unfold due
      rw [hnm, List.length_append, if_neg (by have := ok.le; omega), if_pos ok.nd]
      rfl
    refine ⟨_, _, _, _, true, true, true, rfl, topIn ok.t1 ok.t3, railIn, railIn, .inr ⟨L, _, rfl, .inl hL3, ?_, .inr ⟨rs1 ++ rs2, rfl, hrs, fun z hz => ?_, fun _ a H4 ys ha ho hf s4 => ?_⟩⟩⟩
    · rw [refs_append, List.length_append]
      omega
    · rw [hdue] at hz
      cases hz
    · have hpn : (names ys).Perm (d.ds ++ d.ls) := by rw [← hnm]; exact ho.1.map _
      refine k a ys H4 ⟨hf, fun r hr' => (hrs r (ho.1.mem_iff.mp hr')).same s4, hpn.nodup_iff.mpr ok.nd, ?_, ho.2⟩ ⟨rs1, rs2, ho.1, n1, n2, fun r h => (r1 r h).1, fun r h => (r2 r h).1⟩ (s03.free ha) (s03.trans s4)
      rw [ho.1.length_eq, List.length_append]
      omega
end
end Sj
namespace Sj
open PySem L2 Sup StK Own Shw Exg
open NdefX (NF NScope ncx envF startF nscope_by)
open C8 (pss_cut tCut)
/-! _law_legs, _law_odd (k03, k05, ..) -/
/-- what is no name of anything -/
def oddF : List V := [.non, .int 0, .bl true, .str "", .str "A", .str "nobody", .str "nothing", .int (10 ^ 30), .str "a b"]
inductive OddX (H : Hp) (p : Addr) : V → Prop
  | flat {x : V} : x ∈ oddF → OddX H p x
  | tup {t : Addr} : H t = some (.tup [.str "a"]) → OddX H p (.ref t)
  | lst {l : Addr} : H l = some (.lst [.str "a"]) → l ≠ p → sysModules ≠ l → OddX H p (.ref l)
  | dic {q : Addr} : H q = some (.dK []) → OddX H p (.ref q)
theorem OddX.same {H H' : Hp} {p : Addr} {x : V} (h : OddX H p x) (s : Same H H') : OddX H' p x := by
  cases h with
  | flat h => exact .flat h
  | tup h => exact .tup (s _ _ h)
  | lst h n m => exact .lst (s _ _ h) n m
  | dic h => exact .dic (s _ _ h)
theorem OddX.but {H H' : Hp} {p l : Addr} {cs : List Int} {n : Nat} {x : V} (h : OddX H p x) (hP : Pen H p l cs n) (s : But H H' p) : OddX H' p x := by
  cases h with
  | flat h => exact .flat h
  | tup h => exact .tup (s.keep hP h fun ys z => by cases z)
  | lst h n m => exact .lst (s _ _ n h) n m
  | dic h => exact .dic (s.keep hP h fun ys z => by cases z)
theorem smalls_of {d : PyData} (h : (PyData.showable d && decide (d.depth ≤ 60) && decide (d.shown.length ≤ 1000)) = true) : Smalls d := by
  rw [Bool.and_eq_true, Bool.and_eq_true, decide_eq_true_eq, decide_eq_true_eq] at h
  exact ⟨⟨h.1.1, h.1.2, Nat.le_trans h.2 (by decide)⟩, h.2⟩
theorem OddX.data {K : PySem.W.Frag} {H : Hp} {p : Addr} {x : V} (h : OddX H p x) : ∃ d, Dq K H x d ∧ Smalls d := by
  cases h with
  | flat h =>
    unfold oddF at h
    simp only [List.mem_cons, List.not_mem_nil, or_false] at h
    rcases h with rfl | rfl | rfl | rfl | rfl | rfl | rfl | rfl | rfl
    · exact ⟨_, .non, smalls_of (by decide +kernel)⟩
    · exact ⟨_, .int _, smalls_of (by decide +kernel)⟩
    · exact ⟨_, .bl _, smalls_of (by decide +kernel)⟩
    · exact ⟨_, .str _, smalls_of (by decide +kernel)⟩
    · exact ⟨_, .str _, smalls_of (by decide +kernel)⟩
    · exact ⟨_, .str _, smalls_of (by decide +kernel)⟩
    · exact ⟨_, .str _, smalls_of (by decide +kernel)⟩
    · exact ⟨_, .int _, smalls_of (by decide +kernel)⟩
    · exact ⟨_, .str _, smalls_of (by decide +kernel)⟩
  | tup h => exact ⟨_, .tup (SqT.of h) (.cons (.str _) .nil), smalls_of (by decide +kernel)⟩
  | lst h n m => exact ⟨_, .lst m (SqL.of h) (.cons (.str _) .nil), smalls_of (by decide +kernel)⟩
  | dic h => exact ⟨_, .dic (.inl h), smalls_of (by decide +kernel)⟩
end Sj
/-! repr of data without dicts, where nothing is being shown. -/
namespace ShN
open PySem PySem.Spec PyProof.Rows L2
structure FitN (d : PyData) : Prop where
  sh : PyData.showable d = true
  dp : d.depth ≤ 60
  sz : d.shown.length ≤ sizeLine
  nd : d.hasDict = false
def rShN (K : PySem.W.Frag) : List V → Hp → VK → Prop := fun xs H Q => ∃ x d, xs = [x] ∧ Dp K H x d ∧ FitN d ∧ Q (.str d.shown) H
theorem call_shN {X : Cx} (hg : X.A.guards = some []) (hu : X.A.units + 64 < cLine) : CallR X (.builtin "repr") (rShN X.K) := by
  intro pins s σ H xs us Q I r h
  obtain ⟨x, d, rfl, hd, ft, q⟩ := h
  obtain ⟨u, rfl, ru⟩ : ∃ u, us = [u] ∧ RelV x u := by
    cases r with
    | cons a r =>
      cases r
      exact ⟨_, rfl, a⟩
  obtain ⟨as, rd⟩ := Dp.reads I d x u hd ru
  cases hd with
  | non => cases ru; exact PySem.P.repr_of_none ⟨.str _, H, I.tok _, ⟨_, rfl⟩, q⟩
  | bl b => cases ru; exact PySem.P.repr_of_bool ⟨.str _, H, I.tok _, ⟨_, rfl⟩, q⟩
  | int i => obtain ⟨t, rfl⟩ := ru; exact PySem.P.repr_of_int (of_decide_eq_true ft.sh) ⟨.str _, H, I.tok _, ⟨_, rfl⟩, q⟩
  | str y => obtain ⟨t, rfl⟩ := ru; exact PySem.P.repr_of_str ⟨.str _, H, I.tok _, ⟨_, rfl⟩, q⟩ ft.sz
  | lst q1 q2 => cases ru; exact PySem.repr_of_reads' rd ft.sh (PyData.noDict_hsm ft.nd) hg (by have := ft.dp; omega) (fun _ _ e => e) (fun h' u tk hk => ⟨.str _, H, I.kept (t' := tk) hk, ⟨_, rfl⟩, q⟩) ft.sz
  | tup q1 q2 => cases ru; exact PySem.repr_of_reads' rd ft.sh (PyData.noDict_hsm ft.nd) hg (by have := ft.dp; omega) (fun _ _ e => e) (fun h' u tk hk => ⟨.str _, H, I.kept (t' := tk) hk, ⟨_, rfl⟩, q⟩) ft.sz
end ShN
namespace Sj
open PySem L2 Sup
/-! data that can be shown, by its parts -/
structure Sm (k n : Nat) (d : PyData) : Prop where
  sh : PyData.showable d = true
  ls : PyData.leavesShort 9 d = true
  nd : d.hasDict = false
  dp : d.depth ≤ k
  bk : d.bulk ≤ n
theorem Sm.mono {k n k' n' : Nat} {d : PyData} (h : Sm k n d) (hk : k ≤ k') (hn : n ≤ n') : Sm k' n' d := ⟨h.sh, h.ls, h.nd, Nat.le_trans h.dp hk, Nat.le_trans h.bk hn⟩
structure SmA (k n : Nat) (ds : List PyData) : Prop where
  sh : PyData.showableAll ds = true
  ls : PyData.leavesShortAll 9 ds = true
  nd : PyData.hasDictAll ds = false
  dp : PyData.depthAll ds ≤ k
  bk : PyData.bulkAll ds ≤ n
theorem SmA.nil {k : Nat} : SmA k 0 [] := ⟨rfl, rfl, rfl, Nat.zero_le _, Nat.le_refl _⟩
theorem SmA.cons {k n m : Nat} {d : PyData} {ds : List PyData} (h : Sm k n d) (t : SmA k m ds) : SmA k (n + 1 + m) (d :: ds) :=
  ⟨Bool.and_eq_true_iff.mpr ⟨h.sh, t.sh⟩, Bool.and_eq_true_iff.mpr ⟨h.ls, t.ls⟩, Bool.or_eq_false_iff.mpr ⟨h.nd, t.nd⟩, Nat.max_le.mpr ⟨h.dp, t.dp⟩, by
    show d.bulk + 1 + PyData.bulkAll ds ≤ _
    have := h.bk
    have := t.bk
    omega⟩
theorem SmA.all {k n : Nat} : ∀ {ds : List PyData}, (∀ d ∈ ds, Sm k n d) → SmA k (ds.length * (n + 1)) ds
  | [], _ => ⟨rfl, rfl, rfl, Nat.zero_le _, Nat.zero_le _⟩
  | d :: ds, h => by
    have t := SmA.cons (h d List.mem_cons_self) (SmA.all (k := k) (n := n) (ds := ds) fun x hx => h x (List.mem_cons_of_mem _ hx))
    refine ⟨t.sh, t.ls, t.nd, t.dp, Nat.le_trans t.bk ?_⟩
    rw [List.length_cons, Nat.succ_mul]
    omega
theorem Sm.tup {k n : Nat} {ds : List PyData} (h : SmA k n ds) : Sm (k + 1) n (.tuple ds) := ⟨h.sh, h.ls, h.nd, Nat.succ_le_succ h.dp, h.bk⟩
theorem Sm.lst {k n : Nat} {ds : List PyData} (h : SmA k n ds) : Sm (k + 1) n (.list ds) := ⟨h.sh, h.ls, h.nd, Nat.succ_le_succ h.dp, h.bk⟩
theorem Sm.fit {k n : Nat} {d : PyData} (h : Sm k n d) (hk : k ≤ 60) (hn : n ≤ 1000000) : ShN.FitN d := by
  refine ⟨h.sh, Nat.le_trans h.dp hk, ?_, h.nd⟩
  have b := PyData.shown_le_bulk 9 (by decide) d h.ls
  have := h.bk
  rw [sizeLine_eq]
  omega
theorem Sm.bool {k n : Nat} (b : Bool) : Sm k n (.bool b) := ⟨rfl, rfl, rfl, Nat.zero_le _, Nat.zero_le _⟩
theorem Sm.top {k n : Nat} {t : Int} (h1 : 1 ≤ t) (h3 : t ≤ 3) : Sm k n (.int t) := by
  obtain rfl | rfl | rfl : t = 1 ∨ t = 2 ∨ t = 3 := by omega
  all_goals exact ⟨by decide +kernel, by decide +kernel, by decide +kernel, Nat.zero_le _, Nat.zero_le _⟩
/-- a short name -/
def shortZ (z : Str) : Bool := PyData.showable (.str z) && PyData.leavesShort 9 (.str z) && decide (PyData.bulk (.str z) ≤ 8)
theorem Sm.str {k : Nat} {z : Str} (h : shortZ z = true) : Sm k 8 (.str z) := by
  unfold shortZ at h
  rw [Bool.and_eq_true, Bool.and_eq_true, decide_eq_true_eq] at h
  exact ⟨h.1.1, h.1.2, rfl, Nat.zero_le _, h.2⟩
theorem pool_short : ∀ z ∈ poolS, shortZ z = true := List.all_eq_true.mp (by decide +kernel)
/-- a tuple of short names -/
theorem Sm.names {zs : List Str} (h : ∀ z ∈ zs, shortZ z = true) (hl : zs.length ≤ 50) : Sm 1 450 (.tuple (zs.map PyData.str)) := by
  have a := SmA.all (k := 0) (n := 8) (ds := zs.map PyData.str) fun d hd => by
    obtain ⟨z, hz, rfl⟩ := List.mem_map.mp hd
    exact Sm.str (h z hz)
  rw [List.length_map] at a
  exact (Sm.tup a).mono (Nat.le_refl _) (by omega)
end Sj
/-! C(), C.m(k = v, ..) by a promise with keywords; lists of the same things under != -/
namespace StK
open PySem PySem.Spec PyProof PyProof.Rows L2
section
variable {X : Cx} {CX : CXT} {k n i : Nat} {f C : Addr} {ks : List Str} {sp : List V → List V → Hp → VK → XK → Prop} {E : XK} {x m : Str} {p pos sp_ apos : Pos} {e o : Expr} {es : List Expr} {kws : List Keyword} {te ta : TE} {t tk : TA} {mc : Value} {q g : Addr}
/-- C.m(k = v, ..), m a classmethod of C -/
theorem pe_cmethK0 {pl : Sem Bool} (he : PE X o ta) (r : ClX.CRead X.K C mc) (c : ClX.CMet X.K C mc m q g) (F : FnK X.prog X.w X.K X.mg X.base CX k g ks sp) (hr : Room k X.A) (hx : Passes CX X E) (hkw : PK X kws tk)
    (hall : (backToKw pos (keywordEach kws X.env)).all (·.1.isSome) = true := by rfl) (hks : (backToKw pos (keywordEach kws X.env)).filterMap (·.1) = ks := by rfl)
    (hpl : ((backTo pos (starEach [] X.env)).any (·.1) || (backToKw pos (keywordEach kws X.env)).any (·.1.isNone)) = false := by rfl)
    (ht : eval (.Call (.Attribute o m apos) [] kws pos) X.env = (do
      let ov ← eval o X.env
      standAt apos.atName
      let (f, first) ← holding [ov] (getMethod ov m pl)
      callWith pos f first (backTo pos (starEach [] X.env)) (backToKw pos (keywordEach kws X.env))) := by rfl) :
    PE X (.Call (.Attribute o m apos) [] kws pos) (tCMethK C ks.length sp E ta tNil tk) := by
  refine ⟨fun pins s σ H Q I h => ?_⟩
  refine PySem.W.methodCall_KW (pl := pl) (thn (he.run pins s σ H _ I h) fun u s1 ⟨x, H1, I1, rx, ex, q1⟩ => ?_) ht
  subst ex
  obtain rfl : u = Value.ref C := rx
  refine ClX.getmethcm_ok I1 r c fun s2 I2 => ?_
  refine PySem.W.callWith_of (P := PySem.W.MethP X.K _ g (.ref C)) hpl (PySem.W.keeps_M c.fi) ?_
  refine evalArgs_kw2_nil hall ?_
  refine thn (hkw.run pos _ s2 σ H1 _ I2 q1) fun ws s4 ⟨zs, H3, I4, rz, l2, q3⟩ => ⟨⟨ClX.pin_at I4, I4.kIn⟩, ?_⟩
  rw [hks]
  exact run_cmK (us := []) (vs := []) F hr hx I4 .nil rz l2 q3
end
end StK
/-! C(*xs, e, k = v) -/
namespace StK
open PySem PySem.Spec PyProof PyProof.Rows L2
end StK
/-! o + x, o - x by an operator of o's own class -/
namespace Own
open PySem PySem.Spec PySem.W PyProof.Rows L2 Sup Grd
end Own
/-! def f(a, .., **d), called with keywords; c(e, .., k = v), c a name that holds a class -/
namespace StK
open PySem PySem.Spec PyProof.Rows L2
open StX
section
variable {prog : Program} {w : World} {A : Around} {E : Value → Shared → Prop} {d : Addr}
open PySem.W (dictOf kwEs putL)
theorem kd_nsSet {s : Shared} {es : List DictEntry} {n : Nat} {k : Str} {v : Value} {Q : Unit → Shared → Prop} (D : s.heap.get? d = some (dictOf es n))
    (hs : ∀ e ∈ es, e.key.isStr k = false) (hr : ∀ e ∈ es, e.refKey = false)
    (h : ∀ h' : Heap, h'.get? d = some (dictOf (es ++ [⟨PyData.keyHash w.params k, .str k s.toks, v⟩]) (n + 1)) → Heap.SameBut d s.heap h' → Q () { s with heap := h', toks := s.toks + 1 }) :
    wpAny (model prog w) A (nsSet d k v) Q E s := by
  have e1 : es.any (·.key.isStr k) = false := by
    cases q : es.any (·.key.isStr k) with
    | false => rfl
    | true => obtain ⟨e, he, z⟩ := List.any_eq_true.mp q; rw [hs e he] at z; cases z
  have e2 : es.any (·.refKey) = false := by
    cases q : es.any (·.refKey) with
    | false => rfl
    | true => obtain ⟨e, he, z⟩ := List.any_eq_true.mp q; rw [hr e he] at z; cases z
  have e : Obj.putName k (PyData.keyHash w.params k) (.str k s.toks) v (dictOf es n) = dictOf (es ++ [⟨PyData.keyHash w.params k, .str k s.toks, v⟩]) (n + 1) := by
    rw [PySem.W.putName_dict, PySem.W.putL_new hs]
    show dictOf _ (if es.any (·.key.isStr k) then n else n + 1) = _
    rw [e1, if_neg Bool.false_ne_true]
  have c : aRefKeyMayBeTheName k es.toArray = false := by
    rw [aRefKeyMayBeTheName_at, ← Array.any_toList, ← Array.any_toList]
    show (!es.any (·.key.isStr k) && es.any (·.refKey)) = false
    rw [e2, Bool.and_false]
  unfold nsSet
  refine wpAny_bind (wpAny_bind (wpAny_askSetting (wpAny_pure (wpAny_bind (wpAny_mkText (wpAny_bind (wpAny_loadPart D ?_)))))))
  dsimp only
  rw [c]
  refine wpAny_updatePart D (h _ ?_ (Heap.SameBut.update _ _ _))
  have e3 : (s.heap.update d (Obj.putName k (PyData.keyHash w.params k) (.str k s.toks) v)).get? d = some (Obj.putName k (PyData.keyHash w.params k) (.str k s.toks) v (dictOf es n)) := Heap.get?_update_self _ D (by rw [e]; rfl)
  rw [e] at e3
  exact e3
theorem kd_fill {Q : PUnit → Shared → Prop} : ∀ (ex : List (Str × Value)) (s : Shared) (es : List DictEntry) (n : Nat), s.heap.get? d = some (dictOf es n) →
    (∀ e ∈ es, ∀ x ∈ ex, e.key.isStr x.1 = false) → (∀ e ∈ es, e.refKey = false) → (ex.map (·.1)).Nodup →
    (∀ h' : Heap, h'.get? d = some (dictOf (es ++ kwEs w.params s.toks ex) (n + ex.length)) → Heap.SameBut d s.heap h' → Q ⟨⟩ { s with heap := h', toks := s.toks + ex.length }) →
    wpAny (model prog w) A (forIn ex PUnit.unit fun x _ => (nsSet d x.1 x.2 >>= fun _ => pure (ForInStep.yield PUnit.unit))) Q E s
  | [], s, es, n, D, _, _, _, h => by
    rw [List.forIn_nil]
    refine wpAny_pure (h s.heap ?_ (Heap.SameBut.refl _ _))
    show s.heap.get? d = some (dictOf (es ++ []) n)
    rw [List.append_nil]
    exact D
  | x :: r, s, es, n, D, hs, hr, hn, h => by
    obtain ⟨hn1, hn2⟩ := List.nodup_cons.mp (show (x.1 :: r.map (·.1)).Nodup from hn)
    rw [List.forIn_cons]
    refine wpAny_bind (wpAny_bind (kd_nsSet D (fun e he => hs e he x (.head _)) hr fun h' D' b' => wpAny_pure ?_))
    show wpAny (model prog w) A (forIn r PUnit.unit fun x _ => (nsSet d x.1 x.2 >>= fun _ => pure (ForInStep.yield PUnit.unit))) Q E { s with heap := h', toks := s.toks + 1 }
    refine kd_fill r { s with heap := h', toks := s.toks + 1 } _ _ D' (fun e he y hy => ?_) (fun e he => ?_) hn2 fun h'' D'' b'' => ?_
    · rcases List.mem_append.mp he with he | he
      · exact hs e he y (.tail _ hy)
      · obtain rfl := List.mem_singleton.mp he
        show (x.1 == y.1) = false
        exact beq_eq_false_iff_ne.mpr fun q => hn1 (by rw [q]; exact List.mem_map_of_mem hy)
    · rcases List.mem_append.mp he with he | he
      · exact hr e he
      · obtain rfl := List.mem_singleton.mp he
        rfl
    · have t1 : s.toks + 1 + r.length = s.toks + (r.length + 1) := by omega
      have t2 : n + 1 + r.length = n + (r.length + 1) := by omega
      show Q ⟨⟩ { s with heap := h'', toks := s.toks + 1 + r.length }
      rw [t1]
      refine h h'' ?_ (b'.trans b'')
      rw [t2, List.append_assoc] at D''
      exact D''
def mixRow (x : Str × Value) : Key × Value := (Sum.inr x.1, x.2)
theorem kd_pairs : ∀ (ex : List (Str × Value)) (t : Tok), Pairs (mixKind prog w) (kwEs w.params t ex) (ex.map mixRow)
  | [], _ => Pairs.nil
  | x :: r, t => Pairs.cons (keyIs_str x.1 t) rfl (kd_pairs r (t + 1))
theorem kd_dict {h : Heap} {ex : List (Str × Value)} {t : Tok} {n : Nat} (hn : (ex.map (·.1)).Nodup) (e : h.get? d = some (dictOf (kwEs w.params t ex) n)) : h.DictOf (mixKind prog w) d (ex.map mixRow) :=
  ⟨_, (kwEs w.params t ex).toArray, n, e, ⟨rfl, rfl, rfl⟩, rfl, fun e he => by
    obtain ⟨k, u, hk, hh⟩ := PySem.W.kwEs_key ex t e (List.mem_toArray.mp he)
    exact ⟨Sum.inr k, by rw [hk]; exact keyIs_str k u, hh.trans rfl⟩, kd_pairs ex t, by
    rw [List.map_map]
    have e2 : (((fun x : Key × Value => x.1) ∘ mixRow) : Str × Value → Key) = (fun z : Str => (Sum.inr z : Key)) ∘ fun x : Str × Value => x.1 := rfl
    rw [e2, ← List.map_map]
    exact List.Pairwise.map _ (fun a b ne z => ne (Sum.inr.inj z)) hn⟩
end
/-- the rows of the dict that the keywords make -/
def kwRows (ks : List Str) (zs : List V) : List (Key × V) := (ks.zip zs).map fun p => (Sum.inr p.1, p.2)
theorem kwRows_kv : ∀ {ks : List Str} {zs : List V} {ws : List Value}, Vals zs ws → KV (kwRows ks zs) ((ks.zip ws).map mixRow)
  | [], _, _, _ => .nil
  | _ :: _, [], _, .nil => .nil
  | k :: ks, z :: zs, _, .cons r t => .cons ⟨rfl, r⟩ (kwRows_kv (ks := ks) t)
section
variable {P : Program} {w : World} {K : PySem.W.Frag} {mg : Str → Option Value} {base : Heap} {A : Around} {outer : List Env} {s : Shared} {H : Hp}
/-- a new object laid and tracked ahead of a def's body, in some steps -/
theorem env0_laidN {h' : Heap} {tk : Tok} {u : HO} (e0 : Env0 P w K mg base A outer s H) (kp : ∀ b x, s.heap.get? b = some x → h'.get? b = some x) (sz : s.heap.objs.size ≤ h'.objs.size) (new : ObjOk P w (upd H s.heap.objs.size u) h' s.heap.objs.size u) :
    Env0 P w K mg base A outer { s with heap := h', toks := tk } (upd H s.heap.objs.size u) := by
  refine ⟨e0.frames, e0.mod, fun b x e => ⟨kp b x (e0.bs b x e).1, ?_⟩, Nat.le_trans e0.bsz sz, Heap.FunFrames.of_keeps (fun b x e _ => ⟨x, kp b x e, rfl⟩) e0.funs, fun b hb => ?_, e0.hok.laid kp (Nat.le_refl _) new, e0.bare⟩
  · rw [upd_ne (Nat.ne_of_lt (Heap.lt_size (e0.bs b x e).1))]
    exact (e0.bs b x e).2
  · obtain ⟨_, x, hx, _⟩ := e0.funs.mem hb
    rw [upd_ne (Nat.ne_of_lt (Heap.lt_size hx))]
    exact e0.frf b hb
end
/-- what a def with **d is promised of: the values, a new dict of the keywords -/
def spKw (n : Nat) (ks : List Str) (sp : Sp) : List V → List V → Hp → VK → XK → Prop := fun vs zs H Q E => vs.length = n ∧ ∀ p, H p = Option.none → sp (vs ++ [V.ref p]) (upd H p (.dK (kwRows ks zs))) Q E
section
variable {CX : CXT} {P : Program} {w : World} {K : PySem.W.Frag} {mg : Str → Option Value} {base : Heap} {k : Nat} {f : Addr} {x qual : Str} {st : Stmt} {fd : FuncData} {N ps : List Str} {sp : Sp}
/-- def f(a, .., **d) called with the keywords ks, none of them a parameter -/
theorem fn_kwD {pd : Str} (F : Fun K x qual st f fd) (S : FnScope N (ps ++ [pd]) (defScope st)) (hCX : CXUp CX) (ks : List Str) (hks : ks.Nodup) (hkl : ks.length ≤ 1000)
    (hb : ∀ (kV doc pm : Value) (an : Option Addr) (cdv ct : Value) (us ws : List Value), us.length = ps.length → ws.length = ks.length →
      bindArgs (PySem.W.fnOf x qual (defArgs st) (defBody st) (defScope st) .none kV doc pm an cdv ct) ⟨us, ks.zip ws⟩ =
        ((alloc ({ cls := .type "dict", data := .dict #[] } : Obj) : Sem Addr) >>= fun d => (forIn (ks.zip ws) PUnit.unit fun x _ => (nsSet d x.1 x.2 >>= fun _ => pure (ForInStep.yield PUnit.unit))) >>= fun _ => pure (ps.zip us ++ [(pd, Value.ref d)])))
    (hbody : ∀ (cdv : Value) (A : Around) (outer : List Env) (s : Shared) (H : Hp) (vs : List V) (Q : VK) (E : XK), Room k (A.deeper (envOfC qual (defScope st) s.heap.objs.size f cdv)) → sp vs H Q E →
      ∃ t, PSs (cxOf CX P w K mg base N qual (defScope st) f cdv A outer s H E) (defBody st) t ∧ t { nx := fun _ H' => Q .non H', rt := Q } (start N vs) H) :
    FnK P w K mg base CX (k + 1) f ks (spKw ps.length ks sp) := by
  obtain ⟨oc, od, kV, doc, pm, an, cdv, ct, osl, rfl, lk, hcd⟩ := F.ex
  intro A outer s H us ws vs zs Q E hr e0 r rz hzl hsp
  obtain ⟨hvl, hsp⟩ := hsp
  have hn : H s.heap.objs.size = Option.none := e0.hok.fresh (Nat.le_refl _)
  have hl1 : us.length = ps.length := by rw [← r.length]; exact hvl
  have hl2 : ws.length = ks.length := by rw [← rz.length]; exact hzl
  refine run_bnd lk hcd S hr e0 (G := fun xs H2 => ∃ p, H p = Option.none ∧ xs = vs ++ [V.ref p] ∧ H2 = upd H p (.dK (kwRows ks zs))) (fun A' Ex Q' h => ?_) fun s2 H2 xs ⟨p, hp, ex, eH⟩ hr' => ?_
  · rw [hb kV doc pm an cdv ct us ws hl1 hl2]
    refine wpAny_bind (wpAny_alloc ?_)
    have hD : (s.heap.push ({ cls := .type "dict", data := .dict #[] } : Obj)).get? s.heap.objs.size = some (PySem.W.dictOf [] 0) := Heap.get?_push_size _ rfl
    have hnd : ((ks.zip ws).map (·.1)).Nodup := by
      rw [List.map_fst_zip (by rw [hl2]; exact Nat.le_refl _)]
      exact hks
    refine wpAny_bind (kd_fill (ks.zip ws) _ [] 0 hD (fun _ he => nomatch he) (fun _ he => nomatch he) hnd fun h' D' b' => wpAny_pure ?_)
    have kp : ∀ b x, s.heap.get? b = some x → h'.get? b = some x := fun b x e => by
      rw [b'.2 b (Nat.ne_of_lt (Heap.lt_size e))]
      exact Heap.get?_push_of_some _ e
    have sz : s.heap.objs.size ≤ h'.objs.size := by
      rw [b'.1]
      show _ ≤ (s.heap.push _).objs.size
      rw [Heap.size_push]
      exact Nat.le_succ _
    have rows : (kwRows ks zs).length ≤ 1000 := by
      unfold kwRows
      rw [List.length_map, List.length_zip]
      exact Nat.le_trans (Nat.min_le_left _ _) hkl
    have big := env0_big e0
    have new : ObjOk P w (upd H s.heap.objs.size (.dK (kwRows ks zs))) h' s.heap.objs.size (.dK (kwRows ks zs)) :=
      ⟨Nat.le_trans rows (by decide), beq_eq_false_iff_ne.mpr fun z => by rw [z] at big; exact Nat.lt_irrefl _ big, _, kwRows_kv rz, kd_dict hnd (by rw [List.nil_append] at D'; exact D')⟩
    have un : Un (frs outer) [] H (upd H s.heap.objs.size (.dK (kwRows ks zs))) s.heap h' := Un.laid kp (Nat.le_refl _) hn
    have z := h _ _ (vs ++ [V.ref s.heap.objs.size]) (us ++ [Value.ref s.heap.objs.size]) (env0_laidN (tk := s.toks + (ks.zip ws).length) e0 kp sz new) un rfl (fun e s' => hCX outer s H _ _ E e s' un kp rfl) (r.append (.cons rfl .nil))
      (by rw [List.length_append, List.length_append, hvl] <;> rfl) ⟨_, hn, rfl, rfl⟩
    rw [List.zip_append hl1.symm] at z
    exact z
  · subst ex eH
    exact hbody cdv A outer s2 _ _ Q E hr' (hsp p hp)
end
section
variable {X : Cx} {CX : CXT} {k n i : Nat} {f C : Addr} {ks : List Str} {sp : List V → List V → Hp → VK → XK → Prop} {E : XK} {x m : Str} {p pos sp_ apos : Pos} {e o : Expr} {es : List Expr} {kws : List Keyword} {te ta : TE} {t tk : TA} {mc : Value} {q g : Addr}
/-- c(e, .., k = v, ..), c a name whose value is the class at C -/
def tMakeC (C : Addr) (m : Nat) (sp : List V → List V → Hp → VK → XK → Prop) (E : XK) (tf : TE) (t tk : TA) : TE := fun σ H Q => tf σ H fun c H0 => c = .ref C ∧ t σ H0 fun vs H1 => tk σ H1 fun zs H2 => zs.length = m ∧ spMk C sp E vs zs H2 Q
theorem pe_makeC {tf : TE} (M : Mk X.K C f) (F : FnK X.prog X.w X.K X.mg X.base CX k f ks sp) (hr : Room (k + 1) X.A) (hx : Passes CX X E) (hf : PE X (.Name x p) tf) (ha : PA X (e :: es) t) (hkw : PK X kws tk)
    (hall : (backToKw pos (keywordEach kws X.env)).all (·.1.isSome) = true := by rfl) (hks : (backToKw pos (keywordEach kws X.env)).filterMap (·.1) = ks := by rfl)
    (he : starEach (e :: es) X.env = (false, eval e X.env) :: starEach es X.env := by rfl) (hpl : ((backTo pos (starEach (e :: es) X.env)).any (·.1) || (backToKw pos (keywordEach kws X.env)).any (·.1.isNone)) = false := by rfl) :
    PE X (.Call (.Name x p) (e :: es) kws pos) (tMakeC C ks.length sp E tf t tk) := by
  refine ⟨fun pins s σ H Q I h => ?_⟩
  refine wpAny_Call_Name_kw (thn (hf.run pins s σ H _ I h) fun u s1 ⟨c, H1, I1, rc, ec, q1⟩ => ?_)
  subst ec
  obtain rfl : u = Value.ref C := rc
  refine PySem.W.callWith_KW (h₀ := X.base) I.ok.mod.kin M.kp hall (thn (ha.run pos pins s1 σ H1 _ I1 q1) fun us s1 ⟨vs, H1, I1, r, q⟩ => ?_) hpl he
  refine thn (hkw.run pos pins s1 σ H1 _ I1 q) fun ws s2 ⟨zs, H2, I2, rz, l2, q2⟩ => ⟨I2.kIn, ?_⟩
  rw [hks]
  exact run_makeK M F hr hx I2 r rz l2 q2
end
end StK
/-! own methods by a promise that asks nothing of what is being shown -/
namespace Own
open PySem PySem.Spec PyProof.Rows L2 Sup Grd
structure MetN (P : Program) (w : World) (K : PySem.W.Frag) (mg : Str → Option Value) (base : Heap) (CX : CXT) (n : Nat) (C : Addr) (name : Str) (ps : List Str) (sp : Sp) : Prop where
  ex : ∃ (f : Addr) (fd : FuncData), PySem.W.findIn K (.ref C) name = some (some (.ref f)) ∧ PySem.W.isFn K (.ref f) = true ∧ PySem.W.fnIn K f = true ∧ FnOk P w K mg base CX n f fd ps sp ∧ Binds K fd ps []
section
variable {X : Cx} {CX : CXT} {pins : List (Addr × Obj)} {σ : L2.St} {H : Hp} {s : Shared} {k : Nat} {C f : Addr} {fd : FuncData} {ps : List Str} {sp : Sp} {E : XK}
theorem run_atN {A : Around} {Q : VK} {us : List Value} {vs : List V} {E' : Value → Shared → Prop} (F : FnOk X.prog X.w X.K X.mg X.base CX k f fd ps sp) (hr : Room k A) (hb : Binds X.K fd ps []) (e0 : Env0 X.prog X.w X.K X.mg X.base A X.stack s H)
    (hx : ∀ e s', CX X.stack H s E e s' → E' e s') (I : Inv X pins σ H s) (r : Vals vs us) (h : sp vs H Q E) : wpAny (model X.prog X.w) A (call (.ref f) us) (EP X pins σ Q) E' s := by
  have hl : (us ++ []).length = ps.length := by rw [List.append_nil, ← r.length]; exact F.len _ _ _ _ h
  have hB := hb s us I.kIn hl
  rw [List.append_nil] at hB
  refine wpAny_call (codeAny_mono (F.run A X.stack s H ⟨us, []⟩ us vs Q E hr e0 hB r h) fun res s' hq => ?_)
  match res, hq with
  | .error e, hq => exact hx e s' hq
  | .ok (.ret u), hq => exact I.after hq
theorem op_inN (M : MetN X.prog X.w X.K X.mg X.base CX0 k C "__contains__" ps sp) (hr : Room k X.A) : OpR X (compareOp .In) (rInO C false sp) := by
  obtain ⟨f, fd, h1, h2, _, F, hb⟩ := M
  intro pins s σ H x y v u Q I rx ry h
  obtain ⟨a, dx, fs, rfl, ha, h⟩ := h
  obtain rfl : u = Value.ref a := ry
  obtain ⟨mA, O, _⟩ := ins_get I.hok ha
  obtain ⟨od, J, _⟩ := O.look
  obtain ⟨m, Fr⟩ := I.fr
  refine PySem.W.in_K Fr I.mod.kin J h1 h2 (wpAny_mono (run_atN (vs := [.ref a, x]) F hr hb I.env0 (E' := X.xe) (fun e s' z => False.elim z) I (.cons rfl (.cons rx .nil)) h) (fun v s1 ⟨z, H1, I1, rv, b, ez, q⟩ => ?_) fun _ _ z => z)
  subst ez
  obtain rfl : v = Value.bool b := rv
  exact wpAny_truthy_bool ⟨.bl b, H1, I1, rfl, q⟩
theorem op_notInN (M : MetN X.prog X.w X.K X.mg X.base CX0 k C "__contains__" ps sp) (hr : Room k X.A) : OpR X (compareOp .NotIn) (rInO C true sp) := by
  obtain ⟨f, fd, h1, h2, _, F, hb⟩ := M
  intro pins s σ H x y v u Q I rx ry h
  obtain ⟨a, dx, fs, rfl, ha, h⟩ := h
  obtain rfl : u = Value.ref a := ry
  obtain ⟨mA, O, _⟩ := ins_get I.hok ha
  obtain ⟨od, J, _⟩ := O.look
  obtain ⟨m, Fr⟩ := I.fr
  refine PySem.W.notIn_K Fr I.mod.kin J h1 h2 (wpAny_mono (run_atN (vs := [.ref a, x]) F hr hb I.env0 (E' := X.xe) (fun e s' z => False.elim z) I (.cons rfl (.cons rx .nil)) h) (fun v s1 ⟨z, H1, I1, rv, b, ez, q⟩ => ?_) fun _ _ z => z)
  subst ez
  obtain rfl : v = Value.bool b := rv
  exact wpAny_truthy_bool ⟨.bl (!b), H1, I1, rfl, q⟩
theorem pe_itN {e1 e2 : Expr} {ta tb : TE} {pos : Pos} (M : MetN X.prog X.w X.K X.mg X.base CX k C "__getitem__" ps sp) (hr : Room (k + 1) X.A) (hx : Passes CX X E) (ha : PE X e1 ta) (hb' : PE X e2 tb)
    (hsl : ∀ v u, subscripted e2 true v u = runValue (.builtin "lifetime.subscript" ⟨[v, u], []⟩) := by intros; with_unfolding_all rfl) : PE X (.Subscript e1 e2 pos) (tItO C sp E ta tb) := by
  obtain ⟨f, fd, h1, h2, h3, F, hb⟩ := M
  refine ⟨fun pins s σ H Q I h => ?_⟩
  refine Subscript_ (binT ha hb' I (R := fun y x H2 => ∃ a dx fs, y = .ref a ∧ H2 a = some (.ins C dx fs) ∧ sp [.ref a, x] H2 Q E) h fun v u s2 y x H2 I2 ry rx ⟨a, dx, fs, ey, hz, q⟩ => ?_)
  subst ey
  obtain rfl : v = Value.ref a := ry
  obtain ⟨mA, O, _⟩ := ins_get I2.hok hz
  obtain ⟨od, J, _⟩ := O.look
  obtain ⟨m, Fr⟩ := I2.fr
  exact PySem.W.sub_K Fr I2.mod.kin J h1 h3 h2 (run_atN (vs := [.ref a, x]) F hr.in1 hb I2.env0.in1 (E' := X.xe) (fun e s' z => hx pins σ H2 s2 e s' I2 z) I2 (.cons rfl (.cons rx .nil)) q) (hsl _ _)
end
end Own
namespace Sj
open PySem L2 Sup StK Own Shw Exg Grd
open NdefX (NF NScope ncx envF startF nscope_by)
open C8 (pss_cut tCut)
/-! k06: is_driver -/
abbrev sIsD : Stmt := top 22
theorem scIsD : FnScope ["frame", "value"] ["frame", "value"] (defScope sIsD) := ⟨rfl, rfl, rfl, by decide +kernel, rfl, by decide +kernel, by decide +kernel⟩
/-- self[at], there -/
def spFGetI (ks : Kinds) (CF : Addr) : Sp := fun vs H Q _ => ∃ a d, ∃ r : LegR, vs = [.ref a, .str r.z] ∧ FrIs ks CF H a d ∧ r ∈ d.ys ∧ Q (.ref r.a) H
def spIsD (K : PySem.W.Frag) (ks : Kinds) (CF : Addr) : Sp := fun vs H Q _ => ∃ a d x, vs = [.ref a, x] ∧ FrIs ks CF H a d ∧ ((∃ r ∈ d.ys, x = .str r.z ∧ Q (.bl (decide (r.C = ks.drv))) H) ∨ (NotLeg K H x d ∧ Q (.bl false) H))
/-- is_between, any bounds -/
def IntIs (K : PySem.W.Frag) (H : Hp) (T : V) (lo hi : Int) (b : Bool) : Prop := (∃ i : Int, T = .int i ∧ b = (decide (lo ≤ i) && decide (i ≤ hi))) ∨ ∃ (t : String) (m c : Bool), TyX K H T (.type t) ∧ kitB t "int" = some m ∧ kitB t "bool" = some c ∧ (m && !c) = false ∧ b = false
def spBetG (K : PySem.W.Frag) : Sp := fun vs H Q _ => ∃ (T : V) (lo hi : Int) (b : Bool), vs = [T, .int lo, .int hi] ∧ IntIs K H T lo hi b ∧ Q (.bl b) H
section
variable {P : Program} {w : World} {K : PySem.W.Frag} {mg : Str → Option Value} {base : Heap}
theorem ok_betG {f fI : Addr} {fd fdI : FuncData} (F : Fun K "is_between" "is_between" sBetw f fd) (FI : FnOk P w K mg base CX0 1 fI fdI ["value"] (spIsInt K)) (mI : mg "is_integer" = some (.ref fI)) (kI : PySem.W.keepIn K (.ref fI) = true) (bI : Binds K fdI ["value"] []) :
    FnOk P w K mg base CX0 2 f fd ["value", "least", "most"] (spBetG K) := by
  refine F.ok scBetw (fun vs H Q E h => ?_) (fun cdv A outer s H vs Q E hr h => ?_)
  · obtain ⟨T, lo, hi, b, rfl, _⟩ := h
    rfl
  · obtain ⟨T, lo, hi, b, rfl, ht, k⟩ := h
    refine ⟨_, pss_one (ps_ret (pe_and (pe_call FI hr rfl mI kI bI .nil pass0 (pa_cons (pv 0) pa_nil)) (pe_one (pe_chain op_le op_le (pv 1) (pv 0) (pv 2))))), ?_⟩
    rcases ht with ⟨i, rfl, rfl⟩ | ⟨t, m, c, ht, hm, hc, e, rfl⟩
    · refine ⟨_, rfl, _, _, _, _, rfl, .base (.int i), (by decide +kernel : kitB "int" "int" = some true), (by decide +kernel : kitB "int" "bool" = some false), _, rfl, ?_⟩
      refine iteT ⟨_, rfl, _, rfl, _, _, rfl, rfl, _, rfl, ?_⟩
      by_cases h1 : lo ≤ i
      · rw [decide_eq_true h1] at k ⊢
        exact iteT ⟨_, rfl, _, _, rfl, rfl, k⟩
      · rw [decide_eq_false h1] at k ⊢
        exact iteF k
    · refine ⟨_, rfl, _, _, _, _, rfl, ht, hm, hc, _, rfl, ?_⟩
      rw [e]
      exact iteF k
theorem ok_fgetI {f CF : Addr} {fd : FuncData} {ks : Kinds} (F : Fun K "__getitem__" "Frame.__getitem__" (sFr 10) f fd) (cl : Cls K CF) (nL : NoAttr K CF "_legs") (TI : MetN P w K mg base CX0 1 CF "__contains__" ["self", "x"] (spFIs K ks CF)) :
    FnOk P w K mg base CX0 2 f fd ["self", "at"] (spFGetI ks CF) := by
  have sc : FnScope ["self", "at"] ["self", "at"] (defScope (sFr 10)) := ⟨rfl, rfl, rfl, by decide +kernel, rfl, by decide +kernel, by decide +kernel⟩
  refine F.ok sc (fun vs H Q E h => ?_) (fun cdv A outer s H vs Q E hr h => ?_)
  · obtain ⟨a, d, r, rfl, _⟩ := h
    rfl
  · obtain ⟨a, d, r, rfl, hF, hr', k⟩ := h
    obtain ⟨dx, D, ea, eD, _⟩ := hF.at_
    refine ⟨_, pss_cons (ps_if (pt_cmpR (op_notInN TI hr) (pv 1) (pv 0) (by rfl)) pss_never pss_nil)
      (pss_one (ps_ret (pe_dget (hu_of hr) (pe_fld (pv 0) rfl) (pv 1) (fun _ _ => rfl)))), ?_⟩
    refine ⟨_, rfl, _, rfl, a, dx, _, rfl, ea, a, d, _, rfl, hF, .inl ⟨r.z, rfl, List.mem_map.mpr ⟨r, hr', rfl⟩, true, rfl, _, rfl, ?_⟩⟩
    refine iteF ⟨_, rfl, a, CF, dx, _, _, rfl, ea, cl, nL, frF_legs _ _ _ _, _, rfl, D, _, rfl, ?_, k⟩
    rw [← valV_rows d.ys r hF.nd hr']
    exact DGet.k (k := Sum.inr r.z) eD
structure IsDT (P : Program) (w : World) (K : PySem.W.Frag) (mg : Str → Option Value) (base : Heap) (ks : Kinds) (CF : Addr) : Prop where
  in_ : MetN P w K mg base CX0 1 CF "__contains__" ["self", "x"] (spFIs K ks CF)
  get : MetN P w K mg base CX0 2 CF "__getitem__" ["self", "at"] (spFGetI ks CF)
  dv : ∀ C, (C = ks.drv ∨ C = ks.lis) → PropN P w K mg base 1 C "drives" (spDr C (decide (C = ks.drv)))
theorem ok_isd {f CF : Addr} {fd : FuncData} {ks : Kinds} (F : Fun K "is_driver" "is_driver" sIsD f fd) (T : IsDT P w K mg base ks CF) : FnOk P w K mg base CX0 4 f fd ["frame", "value"] (spIsD K ks CF) := by
  refine F.ok scIsD (fun vs H Q E h => ?_) (fun cdv A outer s H vs Q E hr h => ?_)
  · obtain ⟨a, d, x, rfl, _⟩ := h
    rfl
  · obtain ⟨a, d, x, rfl, hF, h⟩ := h
    obtain ⟨dx, fs, ea⟩ := hF.ins
    refine ⟨_, pss_one (ps_ret (pe_and (pe_cmpR (op_inN T.in_ (hr.mono (by decide))) (pv 1) (pv 0) (by rfl)) (pe_one (pe_propS (S := fun C => C = ks.drv ∨ C = ks.lis) (spP := fun C => spDr C (decide (C = ks.drv))) (pe_itN T.get (hr.mono (by decide)) pass0 (pv 0) (pv 1)) T.dv (hr.mono (by decide)))))), ?_⟩
    rcases h with ⟨r, hr', rfl, k⟩ | ⟨hn, k⟩
    · refine ⟨_, rfl, _, rfl, a, dx, fs, rfl, ea, a, d, _, rfl, hF, .inl ⟨r.z, rfl, List.mem_map.mpr ⟨r, hr', rfl⟩, true, rfl, _, rfl, ?_⟩⟩
      obtain ⟨hc, dy, er⟩ := hF.ok r hr'
      exact iteT ⟨_, rfl, _, rfl, a, dx, fs, rfl, ea, a, d, r, rfl, hF, hr', r.a, r.C, dy, _, rfl, er, hc, r.a, r.z, rfl, ⟨dy, er⟩, k⟩
    · exact ⟨_, rfl, _, rfl, a, dx, fs, rfl, ea, a, d, x, rfl, hF, .inr ⟨hn, false, rfl, _, rfl, iteF k⟩⟩
end
end Sj
namespace Sj
open PySem L2 Sup StK Own Shw Exg Grd
open NdefX (NF NScope ncx envF startF nscope_by)
open C8 (pss_cut tCut)
/-! driver_levels (k06, ..) -/
abbrev sDL : Stmt := top 25
abbrev nDL : List Str := ["frame", "levels", "name"]
theorem scDL : FnScope nDL ["frame", "levels"] (defScope sDL) := ⟨rfl, rfl, rfl, by decide +kernel, rfl, by decide +kernel, by decide +kernel⟩
def lvRow (p : Str × Int) : Key × V := (Sum.inr p.1, .int p.2)
def lvG : List (Str × Int) → Str → Option Int
  | [], _ => none
  | p :: r, z => if p.1 = z then some p.2 else lvG r z
def lvl (gv : List (Str × Int)) (t : Int) (z : Str) : Int := (lvG gv z).getD t
theorem valV_lv : ∀ (gv : List (Str × Int)) (z : Str), valV (gv.map lvRow) (Sum.inr z) = (lvG gv z).map V.int
  | [], _ => rfl
  | p :: r, z => by
    unfold lvG
    by_cases e : p.1 = z
    · rw [if_pos e, List.map_cons, valV_pos (show (lvRow p).1 = Sum.inr z by rw [← e]; rfl)]
      rfl
    · rw [if_neg e, List.map_cons, valV_neg (fun h : (lvRow p).1 = Sum.inr z => e (Sum.inr.inj h))]
      exact valV_lv r z
theorem lvG_mem : ∀ {gv : List (Str × Int)} {z : Str} {i : Int}, lvG gv z = some i → (z, i) ∈ gv
  | p :: r, z, i, h => by
    unfold lvG at h
    by_cases e : p.1 = z
    · rw [if_pos e] at h
      rw [← e, ← Option.some.inj h]
      exact List.mem_cons_self
    · rw [if_neg e] at h
      exact List.mem_cons_of_mem _ (lvG_mem h)
theorem lvG_of : ∀ {gv : List (Str × Int)} {z : Str}, z ∈ gv.map (·.1) → ∃ i, lvG gv z = some i
  | p :: r, z, h => by
    unfold lvG
    by_cases e : p.1 = z
    · exact ⟨_, if_pos e⟩
    · rw [if_neg e]
      exact lvG_of ((List.mem_cons.mp h).resolve_left fun q => e q.symm)
/-- levels that make a word: of drivers, within 0 and top -/
def LvOk (ks : Kinds) (d : FrD) (gv : List (Str × Int)) : Prop := gv.length ≤ 60 ∧ ∀ p ∈ gv, p.1 ∈ kindZ ks true d.ys ∧ 0 ≤ p.2 ∧ p.2 ≤ d.t
theorem lvl_le {ks : Kinds} {d : FrD} {gv : List (Str × Int)} (h : LvOk ks d gv) (ht : 0 ≤ d.t) (z : Str) : 0 ≤ lvl gv d.t z ∧ lvl gv d.t z ≤ d.t := by
  unfold lvl
  cases e : lvG gv z with
  | none => exact ⟨ht, Int.le_refl _⟩
  | some i => exact ⟨(h.2 _ (lvG_mem e)).2.1, (h.2 _ (lvG_mem e)).2.2⟩
/-- the level of each driver -/
def lvAll (ks : Kinds) (d : FrD) (gv : List (Str × Int)) : List (Str × Int) := (kindZ ks true d.ys).map fun z => (z, lvl gv d.t z)
theorem kind_leg {ks : Kinds} {ys : List LegR} {z : Str} (h : z ∈ kindZ ks true ys) : ∃ r ∈ ys, r.z = z ∧ r.C = ks.drv := by
  obtain ⟨r, hr, e⟩ := List.mem_map.mp h
  obtain ⟨h1, h2⟩ := List.mem_filter.mp hr
  rw [beq_true, decide_eq_true_eq] at h2
  exact ⟨r, h1, e, h2⟩
theorem kind_nd {ks : Kinds} {b : Bool} {ys : List LegR} (h : (names ys).Nodup) : (kindZ ks b ys).Nodup := List.Nodup.sublist (List.Sublist.map _ List.filter_sublist) h
theorem kind_le (ks : Kinds) (b : Bool) (ys : List LegR) : (kindZ ks b ys).length ≤ ys.length := by
  unfold kindZ names
  rw [List.length_map]
  exact List.length_filter_le _ _
def spDL (ks : Kinds) (CF : Addr) : Sp := fun vs H Q _ => ∃ f L d gv, vs = [.ref f, .ref L] ∧ FrIs ks CF H f d ∧ H L = some (.dK (gv.map lvRow)) ∧ LvOk ks d gv ∧ ∀ D H', H D = none → H' D = some (.dK ((lvAll ks d gv).map lvRow)) → Same H H' → Q (.ref D) H'
structure DlT (P : Program) (w : World) (K : PySem.W.Frag) (mg : Str → Option Value) (base : Heap) (ks : Kinds) (CF : Addr) : Prop where
  cl : Cls K CF
  nT : NoAttr K CF "top"
  isi : mg "isinstance" = none
  dict : mg "dict" = none
  str : mg "str" = none
  all : mg "all" = none
  sorted : mg "sorted" = none
  isd : ∃ f fd, mg "is_driver" = some (.ref f) ∧ PySem.W.keepIn K (.ref f) = true ∧ Binds K fd ["frame", "value"] [] ∧ FnOk P w K mg base CX0 4 f fd ["frame", "value"] (spIsD K ks CF)
  bet : ∃ f fd, mg "is_between" = some (.ref f) ∧ PySem.W.keepIn K (.ref f) = true ∧ Binds K fd ["value", "least", "most"] [] ∧ FnOk P w K mg base CX0 2 f fd ["value", "least", "most"] (spBetG K)
  drv : PropN P w K mg base 3 CF "drivers" (spTup ks CF fun d => kindZ ks true d.ys)
def teStr2 (K : PySem.W.Frag) : TE := tCB (rIsi K) (tCons (tVar 2) (tCons (tC (.ty "str")) tNil))
def teGet2 (K : PySem.W.Frag) : TE := tDGet2 (tVar 1) (tVar 2) (tFld K (tVar 0) "top")
section
variable {P : Program} {w : World} {K : PySem.W.Frag} {mg : Str → Option Value} {base : Heap}
theorem ok_dl {f CF : Addr} {fd : FuncData} {ks : Kinds} (F : Fun K "driver_levels" "driver_levels" sDL f fd) (T : DlT P w K mg base ks CF) : FnOk P w K mg base CX0 5 f fd ["frame", "levels"] (spDL ks CF) := by
  obtain ⟨fI, fdI, mI, kI, bI, GI⟩ := T.isd
  obtain ⟨fB, fdB, mB, kB, bB, GB⟩ := T.bet
  refine F.ok scDL (fun vs H Q E h => ?_) (fun cdv A outer s H vs Q E hr h => ?_)
  · obtain ⟨a, L, d, gv, rfl, _⟩ := h
    rfl
  · obtain ⟨a, L, d, gv, rfl, hF, hL, ok, k⟩ := h
    obtain ⟨dx, DD, ea, eD, _⟩ := hF.at_
    refine ⟨_, pss_cons (ps_if (PW.pt (pw_or (pt_not (pt_val (pe_callB call_isi (by rfl) T.isi (by decide +kernel) (pa_cons (pv 1) (pa_cons (pe_bltn (by rfl) T.dict (by decide +kernel) (v := .ty "dict") rfl) pa_nil)))))
        (pw_or1 (pt_not (pt_val (pe_lock (pe_callB (cr_all rfl) (by rfl) T.all (by decide +kernel) (pa_cons
          (pe_lc (te := teStr2 K) (own := [("name", 2)]) (g := gName 2) (tt := tYes) rfl scDL.nd (pi_keys (pv 1)) (blkOk_by (N := nDL) (sc := defScope sDL) (by decide +kernel))
            (fun _ _ _ _ _ => pg_name (i := 2) scDL.nd rfl (Or.inl rfl)) (fun _ _ _ _ _ => pts_nil) (fun _ _ _ _ _ => pe_callB call_isi (by rfl) T.isi (by decide +kernel) (pa_cons (pv 2) (pa_cons (pe_bltn (by rfl) T.str (by decide +kernel) (v := .ty "str") rfl) pa_nil)))) pa_nil))))))))
        pss_never pss_nil)
      (pss_cons (ps_for PassesOwn.never rfl (pi_list (pe_callB (call_sortedD rfl) (by rfl) T.sorted (by decide +kernel) (pa_cons (pv 1) pa_nil))) (pg_name (i := 2) scDL.nd rfl (Or.inl rfl))
        (pss_one (ps_if (PW.pt (pw_or (pt_not (pt_val (pe_call GI hr rfl mI kI bI .nil pass0 (pa_cons (pv 0) (pa_cons (pv 2) pa_nil))))) (pw_or1 (pt_not (pt_val (pe_call GB (hr.mono (by decide)) rfl mB kB bB .nil pass0 (pa_cons (pe_dget (hu_of hr) (pv 1) (pv 2) (fun _ _ => rfl)) (pa_cons pe_int (pa_cons (pe_fld (pv 0) rfl) pa_nil))))))))) pss_never pss_nil)))
      (pss_one (ps_ret (pe_dc (tk := tVar 2) (tv := teGet2 K) (own := [("name", 2)]) (g := gName 2) (tt := tYes) rfl scDL.nd (pi_tup (pe_propS (S := fun C => C = CF) (spP := fun _ => spTup ks CF fun d => kindZ ks true d.ys) (pv 0) (fun C e => by rw [e]; exact T.drv) (hr.mono (by decide))))
          (blkOk_by (N := nDL) (sc := defScope sDL) (by decide +kernel))
          (fun _ _ _ _ _ => pg_name (i := 2) scDL.nd rfl (Or.inl rfl)) (fun _ _ _ _ _ => pts_nil) (fun _ _ _ _ _ => pv 2) (fun _ _ _ _ _ => pe_dget2 (hu_of hr) (pv 1) (pv 2) (pe_fld (pv 0) rfl) ⟨rfl, rfl, rfl, rfl⟩))))), ?_⟩
    have hlm : (gv.map lvRow).length = gv.length := List.length_map _
    refine ⟨_, rfl, _, _, _, _, true, rfl, .ty _, .base (.dK hL), kit_ty (by decide +kernel), _, rfl, ?_⟩
    refine iteF ⟨L, _, hL, trivial, fun od => ?_⟩
    obtain ⟨HL, eL⟩ : ∃ HL, HL = upd H L (.frz od (.dK (gv.map lvRow))) := ⟨_, rfl⟩
    rw [← eL]
    have hLL : HL L = some (.frz od (.dK (gv.map lvRow))) := by rw [eL, upd_same]
    refine ⟨_, rfl, L, od, rfl, .inl ⟨_, hLL, fun Dn hDn => ?_⟩⟩
    refine lc_it (walk_keys (d := L) (o := od) (kvs := gv.map lvRow)) (fun i H' => Same HL H' ∧ H' Dn = some (.lst ((List.replicate i true).map V.bl))) ⟨same_at hDn, upd_same⟩ (fun i H' _ q => q.1 _ _ hLL) ?_ ?_
    · rintro i x H2 H3 hi ⟨s2, d2⟩ ⟨rfl, kk, vv, hkv, rfl⟩
      rw [hlm] at hi
      have e1 : (gv.map lvRow)[i]? = some (lvRow gv[i]) := by rw [List.getElem?_map, List.getElem?_eq_getElem hi]; rfl
      rw [e1] at hkv
      obtain rfl : Sum.inr gv[i].1 = kk := congrArg Prod.fst (Option.some.inj hkv)
      refine ⟨rfl, ?_⟩
      unfold tYes
      dsimp only
      rw [if_pos rfl]
      refine ⟨_, rfl, _, _, _, _, true, rfl, .ty _, .base (.str _), kit_ty (by decide +kernel), _, d2, ?_, fun c o hc => ?_, ?_⟩
      · rw [List.length_map, List.length_replicate]
        exact Nat.lt_of_lt_of_le hi (Nat.le_trans ok.1 (by decide))
      · rw [upd_ne (ne_of_none hc hDn)]
        exact s2 _ _ hc
      · rw [upd_same, List.replicate_succ', List.map_append]
        rfl
    · rintro H2 ⟨s2, d2⟩
      refine ⟨Dn, _, rfl, SqL.of d2, s2 _ _ hLL, _, rfl, ?_⟩
      have ea0 : (List.replicate (gv.map lvRow).length true).all id = true := by
        rw [List.all_eq_true]
        intro b hb
        rw [List.eq_of_mem_replicate hb]
        rfl
      rw [ea0]
      have s02 : Same H (upd H2 L (.dK (gv.map lvRow))) := same_unlock hL (by rw [← eL]; exact s2)
      obtain ⟨H4, e4⟩ : ∃ H4, H4 = upd H2 L (.dK (gv.map lvRow)) := ⟨_, rfl⟩
      rw [← e4] at s02 ⊢
      have hks : (gv.map lvRow).map (·.1) = (gv.map (·.1)).map Sum.inr := by rw [List.map_map, List.map_map]; rfl
      refine iteF ⟨_, rfl, L, _, gv.map (·.1), rfl, .inl (s02 _ _ hL), hks, by rw [List.length_map]; exact Nat.lt_of_le_of_lt ok.1 (by decide), fun ys q hp hs hq => ?_⟩
      obtain ⟨H5, e5⟩ : ∃ H5, H5 = upd H4 q (.lst (ys.map V.str)) := ⟨_, rfl⟩
      have s45 : Same H4 H5 := by rw [e5]; exact same_at hq
      have hq5 : H5 q = some (.lst (strv ys)) := by rw [e5, upd_same]; rfl
      rw [← e5]
      have s05 := s02.trans s45
      have hL5 := s05 _ _ hL
      have ea5 := s05 _ _ ea
      have hF5 := hF.same s05
      have hyl : (strv ys).length = ys.length := List.length_map _
      refine ⟨q, rfl, ⟨_, SqL.of hq5⟩, for_list (xs := strv ys) (fun i σ H' => H' = H5 ∧ ∃ o, σ = [some (.ref a), some (.ref L), o]) ⟨rfl, _, rfl⟩ (fun i σ H' _ h => by rw [h.1]; exact SqL.of hq5) ?_ ?_⟩
      · rintro i x σ H8 hx ⟨rfl, o, rfl⟩
        have hi' : i < ys.length := by rw [← hyl]; exact (List.getElem?_eq_some_iff.mp hx).1
        have ex : (strv ys)[i]? = some (.str ys[i]) := by show (ys.map V.str)[i]? = _; rw [List.getElem?_map, List.getElem?_eq_getElem hi']; rfl
        rw [ex] at hx
        obtain rfl := Option.some.inj hx
        obtain ⟨j, hj⟩ := lvG_of (hp.mem_iff.mp (List.getElem_mem hi'))
        obtain ⟨g1, g2, g3⟩ := ok.2 _ (lvG_mem hj)
        obtain ⟨r, hr', ez, eC⟩ := kind_leg g1
        refine ⟨_, rfl, _, rfl, a, d, _, rfl, hF5, .inl ⟨r, hr', by rw [ez], _, rfl, ?_⟩⟩
        rw [decide_eq_true eC]
        have hg : DGet H8 L (.str ys[i]) (some (.int j)) := by
          have := DGet.k (k := Sum.inr ys[i]) hL5
          rw [valV_lv, hj] at this
          exact this
        refine iteF ⟨_, rfl, _, rfl, L, _, rfl, hg, _, rfl, a, CF, dx, _, _, rfl, ea5, T.cl, T.nT, frF_top _ _ _ _, .int j, 0, d.t, true, rfl, .inl ⟨j, rfl, ?_⟩, _, rfl, ?_⟩
        · rw [decide_eq_true g2, decide_eq_true g3]
          rfl
        · exact iteF ⟨rfl, _, rfl⟩
      · rintro σ H8 ⟨rfl, o, rfl⟩
        refine ⟨_, rfl, a, CF, dx, _, rfl, ea5, rfl, a, d, rfl, hF5, fun tp H6 htp hv6 s56 => ?_⟩
        refine ⟨tp, rfl, ⟨_, SqT.of hv6⟩, fun D hD => ?_⟩
        have s06 := s05.trans s56
        dsimp only at hv6
        have hnd := kind_nd (ks := ks) (b := true) hF.nd
        have hkl := Nat.le_trans (kind_le ks true d.ys) hF.le
        obtain ⟨zs, ezs⟩ : ∃ zs, zs = kindZ ks true d.ys := ⟨_, rfl⟩
        have eall : lvAll ks d gv = zs.map fun z => (z, lvl gv d.t z) := by rw [ezs]; rfl
        rw [← ezs] at hv6 hnd hkl
        have hzl : (strv zs).length = zs.length := List.length_map _
        refine SetT.dict_it (walk_tup (K := K) (a := tp) (xs := strv zs)) (fun i H' => Same H6 H' ∧ H' D = some (.dK (((zs.take i).map fun z => (z, lvl gv d.t z)).map lvRow))) ⟨same_at hD, by rw [upd_same]; rfl⟩ (fun i H' _ p => .inl (.inl (p.1 _ _ hv6))) ?_ ?_
        · rintro i x H7 H9 hi ⟨s7, d7⟩ ⟨rfl, hx1⟩
          rw [hzl] at hi
          have e1 : (strv zs)[i]? = some (.str zs[i]) := by show (zs.map V.str)[i]? = _; rw [List.getElem?_map, List.getElem?_eq_getElem hi]; rfl
          rw [e1] at hx1
          obtain rfl := Option.some.inj hx1
          refine ⟨rfl, ?_⟩
          unfold tYes
          dsimp only
          rw [if_pos rfl]
          have s07 := s06.trans s7
          refine ⟨_, rfl, _, rfl, L, rfl, .inl ⟨_, .inl (s07 _ _ hL)⟩, _, rfl, _, rfl, a, CF, dx, _, _, rfl, s07 _ _ ea, T.cl, T.nT, frF_top _ _ _ _, _, DGet.k (k := Sum.inr zs[i]) (s07 _ _ hL), ?_⟩
          have hout : valV (((zs.take i).map fun z => (z, lvl gv d.t z)).map lvRow) (Sum.inr zs[i]) = none := by
            rw [valV_lv]
            cases e : lvG ((zs.take i).map fun z => (z, lvl gv d.t z)) zs[i] with
            | none => rfl
            | some j =>
              obtain ⟨z, hz, ez⟩ := List.mem_map.mp (lvG_mem e)
              have ez : z = zs[i] := congrArg Prod.fst ez
              obtain ⟨j, hj, ej⟩ := List.getElem_of_mem hz
              rw [List.length_take] at hj
              rw [List.getElem_take, ez] at ej
              have := (List.getElem_inj hnd).mp ej
              omega
          refine ⟨_, Sum.inr zs[i], rfl, d7, ?_, ?_, ?_⟩
          · rw [List.length_map, List.length_map, List.length_take]
            exact Nat.lt_of_le_of_lt (Nat.min_le_right _ _) (Nat.lt_of_le_of_lt hkl (by decide))
          · exact fun b o e => by
              rw [upd_ne (ne_of_none e hD)]
              exact s7 _ _ e
          · rw [upd_same, putK_new _ hout, List.take_add_one, List.getElem?_eq_getElem hi, List.map_append, List.map_append, valV_lv]
            have e2 : (Option.map V.int (lvG gv zs[i])).getD (.int d.t) = .int (lvl gv d.t zs[i]) := by
              unfold lvl
              cases lvG gv zs[i] <;> rfl
            rw [e2]
            rfl
        · rintro H7 ⟨s7, d7⟩
          rw [hzl, List.take_length] at d7
          exact k D H7 (s06.free hD) (by rw [eall]; exact d7) (s06.trans s7)
end
end Sj
namespace Sj
open PySem L2 Sup StK Own Shw Exg Grd
open NdefX (NF NScope ncx envF startF nscope_by)
open C8 (pss_cut tCut)
/-! Word: __init__, of, rest, lone (k06, ..) -/
abbrev sWd (i : Nat) : Stmt := inClass (top 24) i
def wdF (f D : Addr) : List (Str × V) := putF "_levels" (.ref D) (putF "frame" (.ref f) [])
theorem wdF_put (f D D' : Addr) : putF "_levels" (.ref D') (wdF f D) = wdF f D' := by
  rfl
theorem wdF_frame (f D : Addr) : (wdF f D).lookup ("frame" : Str) = some (.ref f) := by
  unfold wdF
  rw [lookup_putF, if_neg (by decide +kernel), lookup_putF, if_pos rfl]
theorem wdF_lv (f D : Addr) : (wdF f D).lookup ("_levels" : Str) = some (.ref D) := by
  unfold wdF
  rw [lookup_putF, if_pos rfl]
/-- a word: of the frame d, by the levels gv -/
structure WdIs (ks : Kinds) (CF CW : Addr) (H : Hp) (a : Addr) (d : FrD) (gv : List (Str × Int)) : Prop where
  ex : ∃ f dx D, H a = some (.ins CW dx (wdF f D)) ∧ H D = some (.dK ((lvAll ks d gv).map lvRow)) ∧ D ≠ a ∧ FrIs ks CF H f d
  ok : LvOk ks d gv
  t1 : 1 ≤ d.t
  t3 : d.t ≤ 3
theorem WdIs.same {ks : Kinds} {CF CW : Addr} {H H' : Hp} {a : Addr} {d : FrD} {gv : List (Str × Int)} (h : WdIs ks CF CW H a d gv) (s : Same H H') : WdIs ks CF CW H' a d gv := by
  obtain ⟨f, dx, D, h1, h2, h3, h4⟩ := h.ex
  exact ⟨⟨f, dx, D, s _ _ h1, s _ _ h2, h3, h4.same s⟩, h.ok, h.t1, h.t3⟩
theorem WdIs.ins {ks : Kinds} {CF CW : Addr} {H : Hp} {a : Addr} {d : FrD} {gv : List (Str × Int)} (h : WdIs ks CF CW H a d gv) : ∃ dx fs, H a = some (.ins CW dx fs) := by
  obtain ⟨f, dx, D, h1, _⟩ := h.ex
  exact ⟨dx, _, h1⟩
def spWdI (ks : Kinds) (CF CW : Addr) : Sp := fun vs H Q _ => ∃ a dx f L d gv, vs = [.ref a, .ref f, .ref L] ∧ H a = some (.ins CW dx []) ∧ FrIs ks CF H f d ∧ H L = some (.dK (gv.map lvRow)) ∧ LvOk ks d gv ∧
  ∀ D H', H' a = some (.ins CW dx (wdF f D)) → H' D = some (.dK ((lvAll ks d gv).map lvRow)) → D ≠ a → But H H' a → Q .non H'
structure WiT6 (P : Program) (w : World) (K : PySem.W.Frag) (mg : Str → Option Value) (base : Heap) (ks : Kinds) (CF CW : Addr) : Prop where
  cl : Cls K CW
  nF : NoAttr K CW "frame"
  nL : NoAttr K CW "_levels"
  dl : ∃ f fd, mg "driver_levels" = some (.ref f) ∧ PySem.W.keepIn K (.ref f) = true ∧ Binds K fd ["frame", "levels"] [] ∧ FnOk P w K mg base CX0 5 f fd ["frame", "levels"] (spDL ks CF)
theorem scWdI : FnScope ["self", "frame", "levels"] ["self", "frame", "levels"] (defScope (sWd 0)) := ⟨rfl, rfl, rfl, by decide +kernel, rfl, by decide +kernel, by decide +kernel⟩
section
variable {P : Program} {w : World} {K : PySem.W.Frag} {mg : Str → Option Value} {base : Heap}
theorem FrIs.setIns {ks : Kinds} {CF CW : Addr} {H : Hp} {a f dx : Addr} {d : FrD} {fs gs : List (Str × V)} (h : FrIs ks CF H f d) (ha : H a = some (.ins CW dx fs)) (hc : CW ≠ CF) (hk : CW ≠ ks.drv) (hl : CW ≠ ks.lis) : FrIs ks CF (upd H a (.ins CW dx gs)) f d := by
  obtain ⟨dy, D, h1, h2, h3⟩ := h.at_
  have e1 : f ≠ a := fun z => by
    rw [z, ha] at h1
    injection Option.some.inj h1 with q
    exact hc q
  have e2 : D ≠ a := ne_of h2 ha (by intro z; cases z)
  refine ⟨⟨dy, D, by rw [upd_ne e1]; exact h1, by rw [upd_ne e2]; exact h2, h3⟩, fun r hr => ?_, h.nd, h.le, h.so⟩
  obtain ⟨c, dz, e⟩ := h.ok r hr
  have e3 : r.a ≠ a := fun z => by
    rw [z, ha] at e
    injection Option.some.inj e with q
    rcases c with c | c
    · exact hk (q.trans c)
    · exact hl (q.trans c)
  exact ⟨c, dz, by rw [upd_ne e3]; exact e⟩
theorem body_wdI {CF CW f : Addr} {ks : Kinds} (T : WiT6 P w K mg base ks CF CW) (hc : CW ≠ CF) (hk : CW ≠ ks.drv) (hl : CW ≠ ks.lis) (cdv : Value) (A : Around) (outer : List Env) (s : Shared) (H : Hp) (vs : List V) (Q : VK) (E : XK)
    (hr : Room 5 (A.deeper (PyProof.Rows.envOfC "Word.__init__" (defScope (sWd 0)) s.heap.objs.size f cdv))) (h : spWdI ks CF CW vs H Q E) :
    ∃ t, PSs (cxOf CX0 P w K mg base ["self", "frame", "levels"] "Word.__init__" (defScope (sWd 0)) f cdv A outer s H E) (defBody (sWd 0)) t ∧ t { nx := fun _ H' => Q .non H', rt := Q } (start ["self", "frame", "levels"] vs) H := by
  obtain ⟨fD, fdD, mD, kD, bD, GD⟩ := T.dl
  obtain ⟨a, dx, fr, L, d, gv, rfl, ha, hF, hL, ok, k⟩ := h
  refine ⟨_, pss_cons (ps_fld (pv 0) (pv 1) rfl) (pss_one (ps_fld (pv 0) (pe_call GD hr rfl mD kD bD .nil pass0 (pa_cons (pv 1) (pa_cons (pv 2) pa_nil))) rfl)), ?_⟩
  refine ⟨_, rfl, _, rfl, a, CW, dx, _, rfl, ha, T.cl, T.nF, by show 0 < 1000; decide, ?_⟩
  have nL : L ≠ a := ne_of hL ha (by intro z; cases z)
  refine ⟨_, rfl, _, rfl, fr, L, d, gv, rfl, hF.setIns ha hc hk hl, by rw [upd_ne nL]; exact hL, ok, fun D H1 hD hv s1 => ?_⟩
  have ha1 := s1 _ _ upd_same
  have nD : D ≠ a := fun z => by rw [z, upd_same] at hD; cases hD
  refine ⟨_, rfl, a, CW, dx, _, rfl, ha1, T.cl, T.nL, by show 1 < 1000; decide, ?_⟩
  refine k D _ upd_same (by rw [upd_ne nD]; exact hv) nD fun b o hb e => ?_
  rw [upd_ne hb]
  exact s1 _ _ (by rw [upd_ne hb]; exact e)
theorem ok_wdI {CF CW f : Addr} {fd : FuncData} {ks : Kinds} (F : Fun K "__init__" "Word.__init__" (sWd 0) f fd) (T : WiT6 P w K mg base ks CF CW) (hc : CW ≠ CF) (hk : CW ≠ ks.drv) (hl : CW ≠ ks.lis) (qs : List Str) (hq : qs.Nodup) (hql : qs.length ≤ 1000)
    (hb : ∀ (kV doc pm : Value) (an : Option Addr) (cdv ct : Value) (us ws : List Value), us.length = 2 → ws.length = qs.length →
      bindArgs (PySem.W.fnOf "__init__" "Word.__init__" (defArgs (sWd 0)) (defBody (sWd 0)) (defScope (sWd 0)) .none kV doc pm an cdv ct) ⟨us, qs.zip ws⟩ =
        ((alloc ({ cls := .type "dict", data := .dict #[] } : Obj) : Sem Addr) >>= fun d => (forIn (qs.zip ws) PUnit.unit fun x _ => (nsSet d x.1 x.2 >>= fun _ => pure (ForInStep.yield PUnit.unit))) >>= fun _ => pure ((["self", "frame"] : List Str).zip us ++ [(("levels" : Str), Value.ref d)]))) :
    FnK P w K mg base CX0 6 f qs (spKw 2 qs (spWdI ks CF CW)) :=
  fn_kwD (ps := ["self", "frame"]) (pd := "levels") F scWdI StX.cxUp_none qs hq hql hb (fun cdv A outer s H vs Q E hr h => body_wdI T hc hk hl cdv A outer s H vs Q E hr h)
theorem wdI_b0 (kV doc pm : Value) (an : Option Addr) (cdv ct : Value) (us ws : List Value) (h1 : us.length = 2) (h2 : ws.length = ([] : List Str).length) :
    bindArgs (PySem.W.fnOf "__init__" "Word.__init__" (defArgs (sWd 0)) (defBody (sWd 0)) (defScope (sWd 0)) .none kV doc pm an cdv ct) ⟨us, ([] : List Str).zip ws⟩ =
        ((alloc ({ cls := .type "dict", data := .dict #[] } : Obj) : Sem Addr) >>= fun d => (forIn (([] : List Str).zip ws) PUnit.unit fun x _ => (nsSet d x.1 x.2 >>= fun _ => pure (ForInStep.yield PUnit.unit))) >>= fun _ => pure ((["self", "frame"] : List Str).zip us ++ [(("levels" : Str), Value.ref d)])) := by
  match us, ws, h1, h2 with
  | [_, _], [], _, _ => rfl
end
end Sj
namespace Sj
open PySem L2 Sup StK Own Shw Exg Grd
open NdefX (NF NScope ncx envF startF nscope_by)
open C8 (pss_cut tCut)
/-! Word.of, rest, lone (k06, ..) -/
/-- a word is made by keywords -/
theorem wd_rd {ks : Kinds} {CF CW f : Addr} {d : FrD} {qs : List Str} {zs : List V} {gv : List (Str × Int)} {H : Hp} {Q : VK} {E : XK} (hz : kwRows qs zs = gv.map lvRow) (hF : FrIs ks CF H f d) (ok : LvOk ks d gv)
    (k : ∀ a dx D H', H a = none → H' a = some (.ins CW dx (wdF f D)) → H' D = some (.dK ((lvAll ks d gv).map lvRow)) → D ≠ a → Same H H' → Q (.ref a) H') : spMk CW (spKw 2 qs (spWdI ks CF CW)) E [.ref f] zs H Q := by
  intro x dx hx hdx hne
  obtain ⟨H1, e1⟩ : ∃ H1, H1 = upd (upd H dx (.own x)) x (.ins CW dx []) := ⟨_, rfl⟩
  have s1 : Same H H1 := fun b o e => by rw [e1, upd_ne (ne_of_none e hx), upd_ne (ne_of_none e hdx)]; exact e
  have hx1 : H1 x = some (.ins CW dx []) := by rw [e1, upd_same]
  rw [← e1]
  refine ⟨rfl, fun p hp => ?_⟩
  have s2 := same_at (o := .dK (kwRows qs zs)) hp
  refine ⟨x, dx, f, p, d, gv, rfl, s2 _ _ hx1, hF.same (s1.trans s2), by rw [upd_same, hz], ok, fun D H' h1 h2 h3 b => ⟨rfl, k x dx D H' hx h1 h2 h3 fun c o e => ?_⟩⟩
  exact b c o (ne_of_none e hx) (s2 _ _ (s1 _ _ e))
/-- the word stands on its own: what is done to a dict that was there before does not touch it -/
def spWOf (ks : Kinds) (CF CW : Addr) : Sp := fun vs H Q _ => ∃ f L d gv, vs = [.ref CW, .ref f, .ref L] ∧ FrIs ks CF H f d ∧ H L = some (.dK (gv.map lvRow)) ∧ LvOk ks d gv ∧ 1 ≤ d.t ∧ d.t ≤ 3 ∧ ∀ a H', H a = none → WdIs ks CF CW H' a d gv → Same H H' → (∀ q kvs H0 H'', Same H0 H → H0 q = none → FrIs ks CF H0 f d → H q = some (.dK kvs) → But H' H'' q → WdIs ks CF CW H'' a d gv) → Q (.ref a) H'
/-- Word(frame) -/
structure WmT (P : Program) (w : World) (K : PySem.W.Frag) (mg : Str → Option Value) (base : Heap) (ks : Kinds) (CF CW fW : Addr) : Prop where
  i : WiT6 P w K mg base ks CF CW
  mkc : Mk K CW fW
  rest : FnK P w K mg base CX0 6 fW [] (spKw 2 [] (spWdI ks CF CW))
theorem lv_nil {ks : Kinds} {d : FrD} : LvOk ks d [] := ⟨by decide, fun p hp => by cases hp⟩
section
variable {P : Program} {w : World} {K : PySem.W.Frag} {mg : Str → Option Value} {base : Heap}
theorem ok_wof {CF CW fW f : Addr} {fd : FuncData} {ks : Kinds} (F : Fun K "of" "Word.of" (sWd 1) f fd) (T : WmT P w K mg base ks CF CW fW) : FnOk P w K mg base CX0 8 f fd ["cls", "frame", "levels"] (spWOf ks CF CW) := by
  obtain ⟨fD, fdD, mD, kD, bD, GD⟩ := T.i.dl
  have sc : FnScope ["cls", "frame", "levels", "checked", "word"] ["cls", "frame", "levels"] (defScope (sWd 1)) := ⟨rfl, rfl, rfl, by decide +kernel, rfl, by decide +kernel, by decide +kernel⟩
  refine F.ok sc (fun vs H Q E h => ?_) (fun cdv A outer s H vs Q E hr h => ?_)
  · obtain ⟨f, L, d, gv, rfl, _⟩ := h
    rfl
  · obtain ⟨f, L, d, gv, rfl, hF, hL, ok, t1, t3, k⟩ := h
    refine ⟨_, pss_cons (ps_set (i := 3) sc.nd rfl (Or.inl rfl) (pe_call GD (hr.mono (by decide)) rfl mD kD bD .nil pass0 (pa_cons (pv 1) (pa_cons (pv 2) pa_nil))))
      (pss_cons (ps_set (i := 4) sc.nd rfl (Or.inl rfl) (pe_makeC T.mkc T.rest hr pass0 (pv 0) (pa_cons (pv 1) pa_nil) pk_nil))
      (pss_cons (ps_fld (pv 4) (pv 3) rfl) (pss_one (ps_ret (pv 4))))), ?_⟩
    refine ⟨_, rfl, _, rfl, f, L, d, gv, rfl, hF, hL, ok, fun D H1 hD hv s1 => ?_⟩
    refine ⟨_, rfl, rfl, _, rfl, rfl, wd_rd (gv := []) rfl (hF.same s1) lv_nil fun a dx D0 H2 ha h1 h2 h3 s2 => ?_⟩
    refine ⟨_, rfl, _, rfl, a, CW, dx, _, rfl, h1, T.i.cl, T.i.nL, by show 2 < 1000; decide, ?_⟩
    rw [wdF_put]
    have nD : D ≠ a := fun z => by rw [z] at hv; rw [hv] at ha; cases ha
    have ha0 : H a = none := s1.free ha
    have s3 : ∀ {o : HO}, Same H1 (upd H2 a o) := fun {o} b u e => by rw [upd_ne (ne_of_none e ha)]; exact s2 _ _ e
    refine ⟨_, rfl, k a _ ha0 ⟨⟨f, dx, D, upd_same, by rw [upd_ne nD]; exact s2 _ _ hv, nD, hF.same (s1.trans s3)⟩, ok, t1, t3⟩ (s1.trans s3) fun q kvs H0 H'' s0 hq0 hF0 hq bq => ?_⟩
    have qa : a ≠ q := fun z => by rw [← z, ha0] at hq; cases hq
    have qD : D ≠ q := fun z => by rw [← z, hD] at hq; cases hq
    exact ⟨⟨f, dx, D, bq _ _ qa upd_same, bq _ _ qD (by rw [upd_ne nD]; exact s2 _ _ hv), nD, hF0.same fun b u e => bq _ _ (ne_of_none e hq0) (s3 _ _ (s1 _ _ (s0 _ _ e)))⟩, ok, t1, t3⟩
end
end Sj
/-! {o} in an f-string, o an instance with its own __str__ -/
namespace Sup
open PySem PySem.Spec PyProof.Rows L2
end Sup
/-! bool(t), t a tuple; bool(o), o an instance with its own __bool__ -/
namespace Sup
open PySem PySem.Spec PyProof.Rows L2
end Sup
/-! o in (None, "a", (..), {..}) by its __eq__ -/
namespace Own
open PySem PySem.Spec PyProof.Rows L2 Sup Grd
/-- None, a text, a tuple, a dict -/
inductive OddM (K : PySem.W.Frag) (H : Hp) : V → Prop
  | non : OddM K H .non
  | tup {t : Addr} {xs : List V} : SqT K H t xs → OddM K H (.ref t)
  | str (z : Str) : OddM K H (.str z)
  | dic {t : Addr} {kvs : List (Key × V)} : H t = some (.dK kvs) → OddM K H (.ref t)
theorem OddM.same {K : PySem.W.Frag} {H H' : Hp} {x : V} (h : OddM K H x) (s : Same H H') : OddM K H' x := by
  cases h with
  | non => exact .non
  | tup q => exact .tup (SqT.ext q s)
  | str z => exact .str z
  | dic q => exact .dic (s _ _ q)
end Own
/-! == of two dicts of ints with the same keys -/
namespace Own
open PySem PySem.Spec PyProof.Rows L2 Sup
end Own
namespace Sj
open PySem L2 Sup StK Own Shw Exg Grd
open NdefX (NF NScope ncx envF startF nscope_by)
open C8 (pss_cut tCut)
/-! Word: low, bool, == (k06, ..) -/
/-- what a word asks of its frame -/
structure WfT (P : Program) (w : World) (K : PySem.W.Frag) (mg : Str → Option Value) (base : Heap) (ks : Kinds) (CF CW : Addr) : Prop where
  cw : Cls K CW
  nF : NoAttr K CW "frame"
  nL : NoAttr K CW "_levels"
  cf : Cls K CF
  nT : NoAttr K CF "top"
  tuple : mg "tuple" = none
  bool : mg "bool" = none
end Sj
/-! x not in (texts), x a text, or flat, or a list, a tuple, a dict -/
namespace Own
open PySem PySem.Spec PyProof.Rows L2 Sup
end Own
namespace Sj
open PySem L2 Sup StK Own Shw Exg Grd
open NdefX (NF NScope ncx envF startF nscope_by)
open C8 (pss_cut tCut)
/-! Word: [] (k06, ..) -/
/-- what an element is driven at, where it is no ground -/
def wlv (ks : Kinds) (d : FrD) (gv : List (Str × Int)) (z : Str) : Int := lvl (lvAll ks d gv) d.t z
theorem lvG_cons (p : Str × Int) (r : List (Str × Int)) (z : Str) : lvG (p :: r) z = if p.1 = z then some p.2 else lvG r z := rfl
theorem lvl_all (gv : List (Str × Int)) (t : Int) : ∀ (zs : List Str) (z : Str), lvl (zs.map fun z => (z, lvl gv t z)) t z = if z ∈ zs then lvl gv t z else t
  | [], z => rfl
  | y :: zs, z => by
    have ih := lvl_all gv t zs z
    unfold lvl at ih ⊢
    rw [List.map_cons, lvG_cons]
    by_cases e : y = z
    · rw [if_pos e, if_pos (by rw [e]; exact List.mem_cons_self), e]
      rfl
    · rw [if_neg e, ih]
      have h2 : (z ∈ y :: zs) = (z ∈ zs) := propext ⟨fun h => (List.mem_cons.mp h).resolve_left fun q => e q.symm, fun h => List.mem_cons_of_mem _ h⟩
      simp only [h2]
theorem wlv_eq (ks : Kinds) (d : FrD) (gv : List (Str × Int)) (z : Str) : wlv ks d gv z = if z ∈ kindZ ks true d.ys then lvl gv d.t z else d.t := lvl_all gv d.t _ z
end Sj
namespace Sj
open PySem L2 Sup StK Own Shw Exg
open NdefX (NF NScope ncx envF startF nscope_by)
open C8 (pss_cut tCut)
/-! xs != [] of a list of anything; what a frame tells of a plain one -/
def rNeNil : R2 := fun x y H Q => ∃ a b xs, x = .ref a ∧ y = .ref b ∧ H a = some (.lst xs) ∧ H b = some (.lst []) ∧ Q (.bl (!xs.isEmpty)) H
theorem op_neNil {X : Cx} (hu : X.A.units + 64 < cLine) : OpR X (compareOp .NotEq) rNeNil := by
  intro pins s σ H x y v u Q I rx ry h
  obtain ⟨a, b, xs, rfl, rfl, ha, hb, q⟩ := h
  cases xs with
  | nil => exact op_neD hu pins s σ H _ _ v u Q I rx ry ⟨.list [], .list [], .lst (SqL.of ha) .nil, .lst (SqL.of hb) .nil, rfl, rfl, q⟩
  | cons y ys =>
    obtain rfl : v = Value.ref a := rx
    obtain rfl : u = Value.ref b := ry
    obtain ⟨its, r1, p1, _⟩ := I.list (SqL.of ha)
    obtain ⟨it2, r2, p2, _⟩ := I.list (SqL.of hb)
    have e1 : its.toArray.size ≠ it2.toArray.size := by
      rw [List.size_toArray, List.size_toArray, ← r1.length, ← r2.length]
      exact Nat.succ_ne_zero _
    exact SeqAt.RcNeAt.lists_lengths p1.isList p2.isList (by simpa using e1) (Nat.lt_of_le_of_lt (Nat.le_add_right _ _) hu) _ _ _ _ ⟨.bl true, H, I, rfl, q⟩
/-- the frame is the one that is told -/
structure Told (ks : Kinds) (ys : List LegR) (d : BareD) : Prop where
  nm : ∀ zs : List Str, zs.Perm (d.ds ++ d.ls) → PyProof.Rows.sortedS zs = true → zs = names ys
  dr : kindZ ks true ys = d.ds
  li : kindZ ks false ys = d.ls
  pm : (names ys).Perm (d.ds ++ d.ls)
theorem told_of {ks : Kinds} {ys : List LegR} {d : BareD} (ok : d.ok) (hne : ks.drv ≠ ks.lis) (so : PyProof.Rows.sortedS (names ys) = true) (h : KindsOf ks ys d.ds d.ls) : Told ks ys d := by
  obtain ⟨rs1, rs2, hp, e1, e2, c1, c2⟩ := h
  have pm : (names ys).Perm (d.ds ++ d.ls) := by
    have : (names ys).Perm (names (rs1 ++ rs2)) := hp.map _
    rwa [names_append, e1, e2] at this
  have pwn := OrdS.sorted_pw so
  have fil : ∀ b, (kindZ ks b ys).Perm (if b then d.ds else d.ls) ∧ (kindZ ks b ys).Pairwise OrdS.Le := fun b => by
    refine ⟨?_, pwn.sublist (List.Sublist.map _ List.filter_sublist)⟩
    have q : (kindZ ks b ys).Perm (names ((rs1 ++ rs2).filter fun r => decide (r.C = ks.drv) == b)) := (hp.filter _).map _
    rw [List.filter_append, names_append] at q
    have f1 : rs1.filter (fun r => decide (r.C = ks.drv) == b) = if b then rs1 else [] := by
      cases b with
      | true => exact List.filter_eq_self.mpr fun r hr => by rw [decide_eq_true (c1 r hr)]; rfl
      | false => exact List.filter_eq_nil_iff.mpr fun r hr => by rw [decide_eq_true (c1 r hr)]; simp
    have f2 : rs2.filter (fun r => decide (r.C = ks.drv) == b) = if b then [] else rs2 := by
      have hn : ∀ r ∈ rs2, decide (r.C = ks.drv) = false := fun r hr => decide_eq_false fun z => hne (by rw [← z, c2 r hr])
      cases b with
      | true => exact List.filter_eq_nil_iff.mpr fun r hr => by rw [hn r hr]; simp
      | false => exact List.filter_eq_self.mpr fun r hr => by rw [hn r hr]; rfl
    rw [f1, f2] at q
    cases b with
    | true => rw [if_pos rfl, if_pos rfl, e1, show names [] = [] from rfl, List.append_nil] at q; exact q
    | false => rw [if_neg Bool.false_ne_true, if_neg Bool.false_ne_true, e2, show names [] = [] from rfl, List.nil_append] at q; exact q
  exact ⟨fun zs hz hs => OrdS.uniq (hz.trans pm.symm) hs so, OrdS.pw_uniq (fil true).1 (fil true).2 ok.sd, OrdS.pw_uniq (fil false).1 (fil false).2 ok.sl, pm⟩
theorem eqFr_top {d e : FrD} (h : d.t ≠ e.t) : eqFr d e = false := by
  unfold eqFr
  rw [decide_eq_false h]
  rfl
/-! a list that is not empty -/
theorem eqLegs_of {ks : Kinds} {ys zs : List LegR} {ds ls : List Str} (h : KindsOf ks ys ds ls) (h' : KindsOf ks zs ds ls) : eqLegs ys zs = true := by
  obtain ⟨r1, r2, hp, e1, e2, c1, c2⟩ := h
  obtain ⟨q1, q2, hp', e1', e2', c1', c2'⟩ := h'
  have l1 : r1.length = q1.length := by
    have := congrArg List.length (e1.trans e1'.symm)
    unfold names at this
    rwa [List.length_map, List.length_map] at this
  have l2 : r2.length = q2.length := by
    have := congrArg List.length (e2.trans e2'.symm)
    unfold names at this
    rwa [List.length_map, List.length_map] at this
  have len : ys.length = zs.length := by rw [hp.length_eq, hp'.length_eq, List.length_append, List.length_append, l1, l2]
  unfold eqLegs
  rw [show (ys.length == zs.length) = true by rw [len]; exact beq_self_eq_true _, Bool.true_and]
  refine List.all_eq_true.mpr fun p hm => ?_
  have find : ∀ (rr qq : List LegR) (C : Addr), names rr = names qq → (∀ r ∈ rr, r.C = C) → (∀ r ∈ qq, r.C = C) → (∀ q ∈ qq, q ∈ zs) → p ∈ rr → (zs.any fun q => decide (q.z = p.z) && decide (q.C = p.C)) = true := fun rr qq C en hr hq hz hm => by
    have hn : p.z ∈ names qq := by rw [← en]; exact List.mem_map.mpr ⟨p, hm, rfl⟩
    obtain ⟨q, hqm, eq⟩ := List.mem_map.mp hn
    refine List.any_eq_true.mpr ⟨q, hz q hqm, ?_⟩
    rw [Bool.and_eq_true, decide_eq_true_eq, decide_eq_true_eq]
    exact ⟨eq, (hq q hqm).trans (hr p hm).symm⟩
  rcases List.mem_append.mp (hp.mem_iff.mp hm) with h | h
  · exact find r1 q1 ks.drv (e1.trans e1'.symm) c1 c1' (fun q hq => hp'.mem_iff.mpr (List.mem_append_left _ hq)) h
  · exact find r2 q2 ks.lis (e2.trans e2'.symm) c2 c2' (fun q hq => hp'.mem_iff.mpr (List.mem_append_right _ hq)) h
theorem eqFr_self {d e : FrD} (h1 : d.t = e.t) (h2 : d.g = e.g) (h3 : d.r = e.r) (h4 : eqLegs d.ys e.ys = true) : eqFr d e = true := by
  unfold eqFr
  rw [h4, decide_eq_true h1, decide_eq_true h2, decide_eq_true h3]
  rfl
end Sj
namespace Sj
open PySem L2 Sup StK Own Shw Exg Grd
open NdefX (NF NScope ncx envF startF nscope_by)
open C8 (pss_cut tCut)
/-! k06: _law_lacking, _law_driven, _law_text -/
theorem inV_strs : ∀ (zs : List Str) (z : Str), inV (.str z) (strv zs) = decide (z ∈ zs)
  | [], z => by simp [inV, strv]
  | y :: zs, z => by
    have ih := inV_strs zs z
    show (eqV (V.str y) (V.str z) || inV (.str z) (strv zs)) = _
    rw [ih]
    by_cases e : z = y
    · subst e
      simp [eqV]
    · have e' : y ≠ z := fun q => e q.symm
      simp [eqV, e, e']
theorem flat_strs (zs : List Str) : (strv zs).all flatV = true := by
  unfold strv
  rw [List.all_map]
  exact List.all_eq_true.mpr fun z _ => rfl
/-- a plain word's levels, as a dict of the law -/
def LvAt (H : Hp) (L : Addr) (gv : List (Str × Int)) : Prop := H L = some (.dK (gv.map lvRow))
/-- levels within 0 and top, of drivers -/
def LvB (d : BareD) (gv : List (Str × Int)) : Prop := gv.length ≤ 60 ∧ (∀ p ∈ gv, p.1 ∈ d.ds ∧ 0 ≤ p.2 ∧ p.2 ≤ d.t)
end Sj
namespace Sj
open PySem L2 Sup StK Own Shw Exg Grd
open NdefX (NF NScope ncx envF startF nscope_by)
open C8 (pss_cut tCut)
/-! k06: _law_unlike, _law_levels -/
abbrev sLvs : Stmt := top 37
/-- unlike: another top, or a leg of the other kind -/
def UnlikeD (d d' : BareD) : Prop := d'.t ≠ d.t ∨ ∃ z, (z ∈ d'.ds ∧ z ∈ d.ls) ∨ (z ∈ d'.ls ∧ z ∈ d.ds)
def arefs (as : List (Addr × BareD)) : List V := as.map fun x => .ref x.1
def UnlL (H : Hp) (p q : Addr) (d : BareD) (as : List (Addr × BareD)) : Prop := H q = some (.lst (arefs as)) ∧ ∀ x ∈ as, BareAt H x.1 x.2 p ∧ BareAt H x.1 x.2 q ∧ x.2.ok ∧ UnlikeD d x.2
theorem UnlL.same {H H' : Hp} {p q : Addr} {d : BareD} {as : List (Addr × BareD)} (h : UnlL H p q d as) (s : Same H H') : UnlL H' p q d as := ⟨s _ _ h.1, fun x hx => ⟨(h.2 x hx).1.same s, (h.2 x hx).2.1.same s, (h.2 x hx).2.2⟩⟩
abbrev nLv : List Str := ["_law_pen_here", "_law_bare_here", "_law_way", "_law_found", "_law_tag", "_law_level"]
theorem scLv : FnScope nLv ["_law_pen_here", "_law_bare_here"] (defScope sLvs) := ⟨rfl, rfl, rfl, by decide +kernel, rfl, by decide +kernel, by decide +kernel⟩
def spLvs : Sp := fun vs H Q _ => ∃ (p l : Addr) (cs : List Int) (n : Nat) (b : Addr) (d : BareD), vs = [.ref p, .ref b] ∧ Pen H p l cs n ∧ BareAt H b d p ∧ d.ok ∧ n < 80000 ∧
  ∀ D gv H', LvB d gv → (gv.map (·.1)).Nodup → LvAt H' D gv → H D = none → Pen H' p l cs (n + 60) → But H H' p → Q (.ref D) H'
section
variable {P : Program} {w : World} {K : PySem.W.Frag} {mg : Str → Option Value} {base : Heap}
theorem ok_lvs {f : Addr} {fd : FuncData} (F : Fun K "_law_levels" "_law_levels" sLvs f fd) (T : DwT P w K mg base) : FnOk P w K mg base CX0 3 f fd ["_law_pen_here", "_law_bare_here"] spLvs := by
  obtain ⟨fD, fdD, mD, kD, bD, GD⟩ := T.draw
  refine F.ok scLv (fun vs H Q E h => ?_) (fun cdv A outer s H vs Q E hr h => ?_)
  · obtain ⟨p, l, cs, n, b, d, rfl, _⟩ := h
    rfl
  · obtain ⟨p, l, cs, n, b, d, rfl, hP, hB, ok, hn, k⟩ := h
    have hu := hu_of hr
    have hr1 := hr.mono (show 1 ≤ 2 by decide)
    refine ⟨_, pss_cons (ps_par (i := 2) (j := 3) (by rfl) scLv.nd rfl rfl (by decide) rfl rfl (pa_cons (pe_call GD hr1 rfl mD kD bD .nil pass0 (pa_cons (pv 0) (pa_cons pe_int pa_nil))) (pa_cons pe_dnewK pa_nil)) (by rfl))
      (pss_cons (ps_for PassesOwn.never rfl (pi_list (pe_dget hu (pv 1) pe_str (fun _ _ => rfl))) (pg_name (i := 4) scLv.nd rfl (Or.inl rfl))
        (pss_cons (ps_set (i := 5) scLv.nd rfl (Or.inl rfl) (pe_ix ix_list (pe_lst (pa_cons pe_int (pa_cons (pe_call GD hr1 rfl mD kD bD .nil pass0 (pa_cons (pv 0) (pa_cons (pe_op op_add (pe_dget hu (pv 1) pe_str (fun _ _ => rfl)) pe_int) pa_nil)))
            (pa_cons (pe_op op_mul (pe_call GD hr1 rfl mD kD bD .nil pass0 (pa_cons (pv 0) (pa_cons pe_int pa_nil))) (pe_dget hu (pv 1) pe_str (fun _ _ => rfl))) (pa_cons (pe_dget hu (pv 1) pe_str (fun _ _ => rfl)) pa_nil))))) (pv 2) (fun _ _ => rfl)))
        (pss_one (ps_if (PW.pt (pw_or (pt_cmpR op_eq (pv 2) pe_int (nomark _)) (pw_or1 (pt_cmpR op_eq (pe_call GD hr1 rfl mD kD bD .nil pass0 (pa_cons (pv 0) (pa_cons pe_int pa_nil))) pe_int (nomark _))))) (pss_one (ps_dput hu (pv 3) (pv 4) (pv 5) rfl)) pss_nil))))
      (pss_one (ps_ret (pv 3)))), ?_⟩
    have t1 := ok.t1
    have t3 := ok.t3
    refine ⟨_, rfl, p, l, cs, n, 4, rfl, hP, by decide, by decide, by omega, fun way i1 g1 H1 w0 w4 i10 in1 hp1 b1 => ?_⟩
    have P1 : Pen H1 p l cs (n + 1) := hP.next i10 in1 hp1 b1
    refine fun D hD => ⟨_, _, rfl, ?_⟩
    have sD := same_at (o := .dK []) hD
    have P2 := P1.same sD
    have hDp : D ≠ p := nep P1 hD
    have hD0 : H D = none := b1.free hDp hD
    have b2 : But H (upd H1 D (.dK [])) p := b1.same sD
    obtain ⟨H2, e2⟩ : ∃ H2, H2 = upd H1 D (.dK []) := ⟨_, rfl⟩
    have hD2 : H2 D = some (.dK []) := by rw [e2, upd_same]
    rw [← e2] at P2 b2 ⊢
    obtain ⟨dl, ll, rl, hb, hdl, hll, hrl, nd, nl, nr⟩ := hB.ex
    have hdsl : (strv d.ds).length = d.ds.length := List.length_map _
    have hd16 : d.ds.length ≤ 16 := by have := ok.le; omega
    have ndup : d.ds.Nodup := (List.nodup_append.mp ok.nd).1
    have hb2 := b2.keep hP hb (fun ys z => by cases z)
    have hdl2 := b2 _ _ nd hdl
    refine ⟨_, rfl, b, _, rfl, DGet.k (k := Sum.inr "drivers") hb2, dl, rfl, ⟨_, SqL.of hdl2⟩, ?_⟩
    refine for_list (xs := strv d.ds) (fun i σ H' => (∃ o4 o5, σ = [some (.ref p), some (.ref b), some (.int way), some (.ref D), o4, o5]) ∧ Pen H' p l cs (n + 1 + 3 * i) ∧ But H H' p ∧
        ∃ gv : List (Str × Int), H' D = some (.dK (gv.map lvRow)) ∧ (gv.map (·.1)).Sublist (d.ds.take i) ∧ ∀ q ∈ gv, 0 ≤ q.2 ∧ q.2 ≤ d.t) ⟨⟨_, _, rfl⟩, P2, b2, [], hD2, List.nil_sublist _, fun q hq => by cases hq⟩ (fun i σ H' _ h => SqL.of (h.2.2.1 _ _ nd hdl)) ?_ ?_
    · rintro i x σ H3 hx ⟨⟨o4, o5, rfl⟩, P3, b3, gv, hv3, hsub, hbd⟩
      have hi : i < d.ds.length := by rw [← hdsl]; exact (List.getElem?_eq_some_iff.mp hx).1
      have ex : (strv d.ds)[i]? = some (.str d.ds[i]) := by show (d.ds.map V.str)[i]? = _; rw [List.getElem?_map, List.getElem?_eq_getElem hi]; rfl
      rw [ex] at hx
      obtain rfl := Option.some.inj hx
      have hb3 := b3.keep hP hb (fun ys z => by cases z)
      have top : ∀ {H' : Hp}, But H3 H' p → DGet H' b (.str "top") (some (.int d.t)) := fun bb => DGet.k (k := Sum.inr "top") (bb.keep P3 hb3 (fun ys z => by cases z))
      have hn3 : n + 1 + 3 * i < 1000000 := by omega
      refine ⟨_, rfl, _, rfl, b, _, rfl, top (But.of (Same.refl _)), d.t, 1, rfl, rfl, p, l, cs, _, d.t + 1, rfl, P3, by omega, by omega, hn3, fun d1 i4 g4 H4 d10 d11 i40 in4 hp4 b4 => ?_⟩
      have P4 : Pen H4 p l cs (n + 1 + 3 * i + 1) := P3.next i40 in4 hp4 b4
      refine ⟨_, rfl, p, l, cs, _, 2, rfl, P4, by decide, by decide, by omega, fun d2 i5 g5 H5 d20 d21 i50 in5 hp5 b5 => ?_⟩
      have P5 : Pen H5 p l cs (n + 1 + 3 * i + 2) := P4.next i50 in5 hp5 b5
      have b35 := b4.trans b5
      refine ⟨_, rfl, b, _, rfl, top b35, d2, d.t, rfl, rfl, .inl ⟨by omega, by omega⟩, _, rfl, b, _, rfl, top b35, by show 4 ≤ sizeLine; decide, fun L hL => ?_⟩
      obtain ⟨far, f0, f1, hfar⟩ : ∃ far : Int, 0 ≤ far ∧ far ≤ d.t ∧ atI [V.int 0, .int d1, .int (d2 * d.t), .int d.t] way = some (.int far) := by
        have h2 : d2 = 0 ∨ d2 = 1 := by omega
        have hm : 0 ≤ d2 * d.t ∧ d2 * d.t ≤ d.t := by
          rcases h2 with e | e <;> rw [e] <;> omega
        obtain e | e | e | e : way = ((0 : Nat) : Int) ∨ way = ((1 : Nat) : Int) ∨ way = ((2 : Nat) : Int) ∨ way = ((3 : Nat) : Int) := by omega
        · exact ⟨0, Int.le_refl _, by omega, by rw [e]; exact atI_nat rfl⟩
        · exact ⟨d1, d10, by omega, by rw [e]; exact atI_nat rfl⟩
        · exact ⟨d2 * d.t, hm.1, hm.2, by rw [e]; exact atI_nat rfl⟩
        · exact ⟨d.t, by omega, Int.le_refl _, by rw [e]; exact atI_nat rfl⟩
      have s56 := same_at (o := .lst [V.int 0, .int d1, .int (d2 * d.t), .int d.t]) hL
      obtain ⟨H6, e6⟩ : ∃ H6, H6 = upd H5 L (.lst [V.int 0, .int d1, .int (d2 * d.t), .int d.t]) := ⟨_, rfl⟩
      have hL6 : H6 L = some (.lst [V.int 0, .int d1, .int (d2 * d.t), .int d.t]) := by rw [e6, upd_same]
      rw [← e6] at s56 ⊢
      have P6 := P5.same s56
      have b36 := b35.same s56
      refine ⟨_, rfl, L, _, _, _, rfl, rfl, SqL.of hL6, hfar, ?_⟩
      have hz : d.ds[i] ∉ gv.map (·.1) := fun hm => by
        obtain ⟨j, hj, ej⟩ := List.getElem_of_mem (hsub.subset hm)
        rw [List.length_take] at hj
        rw [List.getElem_take] at ej
        have := (List.getElem_inj ndup).mp ej
        omega
      have etake : d.ds.take (i + 1) = d.ds.take i ++ [d.ds[i]] := by rw [List.take_add_one, List.getElem?_eq_getElem hi]; rfl
      have skip : ∀ H7, But H3 H7 p → Pen H7 p l cs (n + 1 + 3 * i + 3) → (∃ o4 o5, [some (V.ref p), some (.ref b), some (.int way), some (.ref D), some (.str d.ds[i]), some (.int far)] = [some (.ref p), some (.ref b), some (.int way), some (.ref D), o4, o5]) ∧ Pen H7 p l cs (n + 1 + 3 * (i + 1)) ∧ But H H7 p ∧
          ∃ gv : List (Str × Int), H7 D = some (.dK (gv.map lvRow)) ∧ (gv.map (·.1)).Sublist (d.ds.take (i + 1)) ∧ ∀ q ∈ gv, 0 ≤ q.2 ∧ q.2 ≤ d.t := fun H7 b37 P7 =>
        ⟨⟨_, _, rfl⟩, P7.mono (by omega), b3.trans b37, gv, b37 _ _ hDp hv3, by rw [etake]; exact hsub.trans (List.sublist_append_left _ _), hbd⟩
      have put : ∀ H7, But H3 H7 p → Pen H7 p l cs (n + 1 + 3 * i + 3) → ∃ a H8, V.ref D = .ref a ∧ DPut H7 a (.str d.ds[i]) (.int far) H8 ∧ ((∃ o4 o5, [some (V.ref p), some (.ref b), some (.int way), some (.ref D), some (.str d.ds[i]), some (.int far)] = [some (.ref p), some (.ref b), some (.int way), some (.ref D), o4, o5]) ∧ Pen H8 p l cs (n + 1 + 3 * (i + 1)) ∧ But H H8 p ∧
          ∃ gv : List (Str × Int), H8 D = some (.dK (gv.map lvRow)) ∧ (gv.map (·.1)).Sublist (d.ds.take (i + 1)) ∧ ∀ q ∈ gv, 0 ≤ q.2 ∧ q.2 ≤ d.t) := fun H7 b37 P7 => by
        have hv7 := b37 _ _ hDp hv3
        have hgl : (gv.map lvRow).length ≤ 16 := by
          rw [List.length_map]
          have := hsub.length_le
          rw [List.length_map, List.length_take] at this
          omega
        refine ⟨D, _, rfl, DPut.k (k := Sum.inr d.ds[i]) hv7 (Nat.lt_of_le_of_lt hgl (by decide)), ⟨_, _, rfl⟩, ?_, fun c o hc e => ?_, gv ++ [(d.ds[i], far)], ?_, ?_, fun q hq => ?_⟩
        · obtain ⟨i', g', q1, q2, q3⟩ := P7
          exact ⟨i', g', by rw [upd_ne (ne_of q1 hv7 (by intro z; cases z))]; exact q1, by rw [upd_ne (ne_of q2 hv7 (by intro z; cases z))]; exact q2, q3.1, q3.2.1, by omega⟩
        · rw [upd_ne (ne_of_none e hD0)]
          exact b37 _ _ hc (b3 _ _ hc e)
        · have hout : valV (gv.map lvRow) (Sum.inr d.ds[i]) = none := by
            rw [valV_lv]
            cases q : lvG gv d.ds[i] with
            | none => rfl
            | some j => exact absurd (List.mem_map.mpr ⟨_, lvG_mem q, rfl⟩) hz
          rw [upd_same, putK_new _ hout, List.map_append]
          rfl
        · rw [List.map_append, etake]
          exact List.Sublist.append hsub (List.Sublist.refl _)
        · rcases List.mem_append.mp hq with hq | hq
          · exact hbd q hq
          · rw [List.mem_singleton.mp hq]
            exact ⟨f0, f1⟩
      refine ⟨_, rfl, rfl, _, rfl, ?_⟩
      by_cases ew : way = 1
      · rw [decide_eq_true (show V.int way = V.int 1 by rw [ew])]
        refine iteT ⟨_, rfl, _, rfl, _, rfl, ?_⟩
        exact put H6 b36 (P6.mono (by omega))
      · rw [decide_eq_false (show ¬ V.int way = V.int 1 from fun q => ew (V.int.inj q))]
        refine iteF ⟨_, rfl, p, l, cs, _, 2, rfl, P6, by decide, by decide, by omega, fun d7 i7 g7 H7 d70 d71 i70 in7 hp7 b7 => ?_⟩
        have P7 : Pen H7 p l cs (n + 1 + 3 * i + 3) := P6.next i70 in7 hp7 b7
        have b37 := b36.trans b7
        refine ⟨rfl, _, rfl, ?_⟩
        by_cases ed : d7 = 0
        · rw [decide_eq_true (show V.int d7 = V.int 0 by rw [ed])]
          refine iteT ⟨_, rfl, _, rfl, _, rfl, ?_⟩
          exact put H7 b37 P7
        · rw [decide_eq_false (show ¬ V.int d7 = V.int 0 from fun q => ed (V.int.inj q))]
          exact iteF (skip H7 b37 P7)
    · rintro σ H3 ⟨⟨o4, o5, rfl⟩, P3, b3, gv, hv3, hsub, hbd⟩
      rw [hdsl, List.take_length] at hsub
      rw [hdsl] at P3
      refine ⟨_, rfl, k D gv H3 ⟨?_, fun q hq => ⟨hsub.subset (List.mem_map.mpr ⟨q, hq, rfl⟩), hbd q hq⟩⟩ (ndup.sublist hsub) hv3 hD0 (P3.mono (by omega)) b3⟩
      have := hsub.length_le
      rw [List.length_map] at this
      omega
end
end Sj
/-! x in a tuple of texts, x any value -/
namespace Own
open PySem PySem.Spec PyProof.Rows L2 Sup
end Own
/-! set(t) of a tuple of texts, and sorted of such a set -/
namespace SetS
open PySem PySem.Spec PyProof.Rows L2
abbrev KS (P : Program) (w : World) := PySem.strKind P w
/-- the text that an entry holds -/
def txt (e : Int × Value) : Str := match e.2 with | .str x _ => x | _ => Str.empty
def Ent (w : World) (e : Int × Value) : Prop := ∃ x tk, e.2 = Value.str x tk ∧ e.1 = hashStr w x
/-- one more text -/
def addT (ks : List Str) (x : Str) : List Str := if x ∈ ks then ks else ks ++ [x]
/-- at a stands a set of just these texts, and it can be walked -/
def At (w : World) (h : Heap) (a : Addr) (ks : List Str) : Prop :=
  ∃ o es ep t, h.get? a = some o ∧ o.ExactSet ∧ o.data = .set es ep t ∧ ((∀ e ∈ es.toList, Ent w e) ∧ (es.toList.map txt).Perm ks) ∧ es.size < scanBound ∧ t.fits es.size = true ∧ Ris t.place.toList ∧ (w.params.followText "set-order" = true ∨ t.led = true)
section
variable {P : Program} {w : World} {h h' : Heap} {a : Addr} {ks : List Str}
theorem At.at (R : At w h a ks) (k : ∀ o, h.get? a = some o → h'.get? a = some o) : At w h' a ks := by
  obtain ⟨o, es, ep, t, ho, r⟩ := R
  exact ⟨o, es, ep, t, k o ho, r⟩
theorem ent_is {e : Int × Value} (g : Ent w e) (k : Str) : (KS P w).is k e.2 = true ↔ txt e = k := by
  obtain ⟨x, tk, h1, _⟩ := g
  unfold txt
  rw [h1]
  show ((x == k) = true) ↔ x = k
  exact beq_iff_eq
theorem ent_elems {l : List (Int × Value)} (g : ∀ e ∈ l, Ent w e) : ElemsOf (KS P w) l := fun e he => by
  obtain ⟨x, tk, h1, h2⟩ := g e he
  exact ⟨⟨x, (ent_is (g e he) x).mpr (by unfold txt; rw [h1]), h2⟩, by rw [h1] <;> rfl⟩
end
section
variable {P : Program} {w : World} {A : Around} {E : Value → Shared → Prop} {s : Shared} {a : Addr} {ks : List Str}
/-- the end of add: what is stored -/
theorem add_tail {g : Bool → Sem Unit} (hg : ∀ (b : Bool) (s₁ : Shared) (Q' : Unit → Shared → Prop), Q' () s₁ → wpAny (model P w) A (g b) Q' E s₁)
    {o : Obj} {es : Array (Int × Value)} {ep : Nat} {t : SetTable} (ho : s.heap.get? a = some o) (hex : o.ExactSet) (hd : o.data = .set es ep t)
    {es1 : Array (Int × Value)} {t2 : SetTable} (g1 : (∀ e ∈ es1.toList, Ent w e) ∧ (es1.toList.map txt).Perm ks) (hb1 : es1.size < scanBound) (hf2 : t2.fits es1.size = true) (hr : Ris t2.place.toList) (hl : w.params.followText "set-order" = true ∨ t2.led = true) {wasDummy : Bool} {R : Option Bool → Shared → Prop}
    (hR : ∀ h', Heap.SameBut a s.heap h' → At w h' a ks → R (some true) { s with heap := h' }) :
    wpAny (model P w) A (do
        storeSet a es1 t2
        if (!wasDummy && t2.tooFull) = true then do
            g (relayAll t2 es1 (SetTable.grown es1.size)).2.2
            storeSet a (relayAll t2 es1 (SetTable.grown es1.size)).1 (relayAll t2 es1 (SetTable.grown es1.size)).2.1
            pure (some true)
          else pure (some true)) R E s := by
  have b1 := Heap.SameBut.update s.heap a (Obj.putSet es1 t2)
  have o1 := store_at (es' := es1) (t' := t2) ho hd
  refine wpAny_bind (wpAny_storeSet_of ho hd ?_ (fits_of_scanBound hb1))
  split
  · have r1 := relayAll_perm t2 es1 (SetTable.grown es1.size)
    have r2 := relayAll_fits t2 es1 (SetTable.grown es1.size)
    have r3 := relayAll_ris t2 es1 (SetTable.grown es1.size)
    have r4 := relayAll_led t2 es1 (SetTable.grown es1.size)
    generalize relayAll t2 es1 (SetTable.grown es1.size) = Z at r1 r2 r3 r4 ⊢
    obtain ⟨es2, t3, gave⟩ := Z
    dsimp only at r1 r2 r3 r4 ⊢
    have hb2 : es2.size < scanBound := by rw [← Array.length_toList, r1.length_eq, Array.length_toList]; exact hb1
    refine wpAny_bind (hg _ _ _ (wpAny_bind (wpAny_storeSet_of o1 rfl (wpAny_pure (hR _ (b1.trans (Heap.SameBut.update _ a _)) ?_)) (fits_of_scanBound hb2))))
    exact ⟨_, es2, _, t3, store_at (es' := es2) (t' := t3) o1 rfl, hex, rfl, ⟨fun e he => g1.1 e (r1.mem_iff.mp he), (r1.map txt).trans g1.2⟩, hb2, r2, r3, hl.imp id fun z => by rw [r4]; exact z⟩
  · exact wpAny_pure (hR _ b1 ⟨_, es1, _, t2, o1, hex, rfl, g1, hb1, hf2, hr, hl⟩)
theorem add_text {x : Str} {tk : Tok} {Q : Bool → Shared → Prop} (R : At w s.heap a ks) (room : ks.length + 1 < scanBound) (hQ : ∀ b h', Heap.SameBut a s.heap h' → At w h' a (addT ks x) → Q b { s with heap := h' }) :
    wpAny (model P w) A (setAddHashed a (.str x tk) ((KS P w).hash x)) Q E s := by
  obtain ⟨o, es, ep, t, ho, hex, hd, ⟨g, pk⟩, hb, hf, hr, hl⟩ := R
  have hsc : (Value.str x tk).scannable = true := rfl
  have hkey : (KS P w).is x (.str x tk) = true := beq_self_eq_true x
  have hel : ElemsOf (KS P w) es.toList := ent_elems g
  have hmem : x ∈ ks ↔ ∃ e ∈ es.toList, txt e = x := by rw [← pk.mem_iff, List.mem_map]
  have hn : es.size = ks.length := by rw [← pk.length_eq, List.length_map, Array.length_toList]
  unfold setAddHashed setAddHashedIn
  refine wpAny_holding (wpAny_bind (wpAny_setState_of ho hd hf ?_))
  dsimp only
  rw [byScan_of hsc hb hel]
  simp only [↓reduceIte]
  unfold setAddByScan
  refine wpAny_bind (wpAny_bind (wpAny_rule (wpAny_bind (wpAny_setScan_of hkey ho hd hf hel ?_))))
  cases hfi : List.findIdx? (fun e => (KS P w).is x e.2) es.toList with
  | some j =>
    dsimp only
    obtain ⟨hj, pj, _⟩ := List.findIdx?_eq_some_iff_getElem.mp hfi
    have hin : x ∈ ks := hmem.mpr ⟨es.toList[j], List.getElem_mem hj, (ent_is (g _ (List.getElem_mem hj)) x).mp pj⟩
    refine wpAny_pure (wpAny_pure (hQ _ s.heap (Heap.SameBut.refl a s.heap) ?_))
    unfold addT
    rw [if_pos hin]
    exact ⟨o, es, ep, t, ho, hex, hd, ⟨g, pk⟩, hb, hf, hr, hl⟩
  | none =>
    dsimp only
    have hout : x ∉ ks := fun m => by
      obtain ⟨e, he, q⟩ := hmem.mp m
      have c := List.findIdx?_eq_none_iff.mp hfi e he
      rw [(ent_is (g e he) x).mpr q] at c
      cases c
    have r1 := layNew_perm t es ((KS P w).hash x) (.str x tk)
    have r2 := layNew_fits t es ((KS P w).hash x) (.str x tk)
    have r3 := layNew_ris t es ((KS P w).hash x) (.str x tk) hr
    have r4 := layNew_led t es ((KS P w).hash x) (.str x tk)
    generalize layNew t es ((KS P w).hash x) (.str x tk) = Z at r1 r2 r3 r4 ⊢
    obtain ⟨es1, t1, wasDummy, gave⟩ := Z
    dsimp only at r1 r2 r3 r4 ⊢
    rw [Array.toList_push] at r1
    have g1 : (∀ e ∈ es1.toList, Ent w e) ∧ (es1.toList.map txt).Perm (addT ks x) := by
      refine ⟨fun e he => ?_, ?_⟩
      · rcases List.mem_append.mp (r1.mem_iff.mp he) with z | z
        · exact g e z
        · rw [List.mem_singleton.mp z]
          exact ⟨x, tk, rfl, rfl⟩
      · unfold addT
        rw [if_neg hout]
        refine (r1.map txt).trans ?_
        rw [List.map_append]
        exact pk.append_right _
    have hb1 : es1.size < scanBound := by
      rw [← Array.length_toList, r1.length_eq, List.length_append, Array.length_toList, hn]
      exact room
    have hled : w.params.followText "set-order" = true ∨ t1.led = true := hl.imp id fun z => by rw [r4]; exact z
    refine wpAny_bind ?_
    refine (show ∀ (b : Bool) {s₁ : Shared} {Q' : Unit → Shared → Prop}, Q' () s₁ → wpAny (model P w) A (match b with | true => rule "set.scan.the-table-gave-way" | false => pure ()) Q' E s₁ from
      fun b s₁ Q' q => by cases b <;> first | exact wpAny_pure q | exact wpAny_rule q) _ ?_
    split
    · refine wpAny_bind ?_
      rw [hashByValue_scannable 8 hsc]
      refine wpAny_pure ?_
      refine add_tail ?_ ho hex hd g1 hb1 ?_ ?_ ?_ ?_
      · intro b s₁ Q' q
        cases b <;> first | exact wpAny_pure q | exact wpAny_rule q
      · first | (split <;> first | exact r2 | exact SetTable.fits_plain_off r2) | exact r2
      · first | (split <;> exact r3) | exact r3
      · first | (split <;> exact hled) | exact hled
      · intro h' sb r
        dsimp only
        exact wpAny_pure (hQ _ h' sb r)
    · refine wpAny_bind (wpAny_pure ?_)
      simp only [↓reduceIte]
      refine add_tail ?_ ho hex hd g1 hb1 r2 r3 hled ?_
      · intro b s₁ Q' q
        cases b <;> first | exact wpAny_pure q | exact wpAny_rule q
      · intro h' sb r
        dsimp only
        exact wpAny_pure (hQ _ h' sb r)
end
/-- all of them -/
def setL (xs : List Str) : List Str := xs.foldl addT []
theorem addT_len (ks : List Str) (x : Str) : (addT ks x).length ≤ ks.length + 1 := by
  unfold addT
  split
  · omega
  · rw [List.length_append]
    exact Nat.le_refl _
theorem fold_len : ∀ (xs : List Str) (ks : List Str), (xs.foldl addT ks).length ≤ ks.length + xs.length
  | [], ks => Nat.le_refl _
  | x :: xs, ks => by
    have := fold_len xs (addT ks x)
    have := addT_len ks x
    show (xs.foldl addT (addT ks x)).length ≤ ks.length + (xs.length + 1)
    omega
theorem setL_len (xs : List Str) : (setL xs).length ≤ xs.length := Nat.le_trans (fold_len xs []) (by simp)
theorem at_new {w : World} {h : Heap} {a : Addr} (ho : h.get? a = some { cls := .type "set", dict := none, data := .set #[] 0 (.fresh 0 0 (!w.params.followText "set-order")) }) : At w h a [] :=
  ⟨_, #[], 0, _, ho, ⟨rfl, rfl, rfl⟩, rfl, ⟨(fun e he => by simp at he), .refl _⟩, (by decide), (by rfl), List.Pairwise.nil, by
    show _ ∨ (!w.params.followText "set-order") = true
    cases w.params.followText "set-order"
    · exact .inr rfl
    · exact .inl rfl⟩
section
variable {P : Program} {w : World} {A : Around} {E : Value → Shared → Prop} {s : Shared}
theorem fill_texts {I : Addr} {fp wr : List Addr} {G : Array GenState → Array GenState → Prop} {n : Nat} {Pv : Nat → Value → Prop} {St : Nat → Shared → Prop} {R : Result → Shared → Prop}
    (W : WalksS P w A.in1 I fp wr G n Pv St) (S : Addr) (hSf : S ∉ fp) (xs : List Str) (hn : n = xs.length) (hb : xs.length + 1 < scanBound) (hval : ∀ i v, Pv i v → ∃ x t, xs[i]? = some x ∧ v = .str x t) :
    ∀ (k i : Nat) (s : Shared), n - i = k → i ≤ n → St i s → At w s.heap S (setL (xs.take i)) →
      (∀ s', Moved (S :: wr) G s s' → At w s'.heap S (setL xs) → R (.ok (.ret .none)) s') →
      codeAny (model P w) A (.builtin "set.update.loop" ⟨[.ref S, .ref I], []⟩) R s := by
  have out : S ∉ wr := fun h => hSf (W.sub _ h)
  have up : ∀ b ∈ wr, b ∈ S :: wr := fun b hb => List.mem_cons_of_mem _ hb
  intro k
  induction k with
  | zero =>
    intro i s hk' hi hst hS hR
    obtain rfl : i = n := by omega
    rw [List.take_of_length_le (by omega)] at hS
    refine codeAny_builtin F.entry_set_update_loop ?_
    rw [Around.under_plainId F.plain_set_update_loop _]
    refine wpAny_bind (W.done s _ _ hst fun s' hm => ?_)
    exact wpAny_pure (hR s' (hm.mono up) (hS.at fun o e => hm.heap S o out e))
  | succ k ih =>
    intro i s hk' hi hst hS hR
    have lt : i < n := by omega
    refine codeAny_builtin F.entry_set_update_loop ?_
    rw [Around.under_plainId F.plain_set_update_loop _]
    refine wpAny_bind (W.item i s _ _ lt hst fun v s' hP hst' hm => ?_)
    obtain ⟨x, t, hx, rfl⟩ := hval i v hP
    have hS' : At w s'.heap S (setL (xs.take i)) := hS.at fun o e => hm.heap S o out e
    refine wpAny_bind (wpAny_holding ?_)
    unfold setAdd
    refine wpAny_holding (wpAny_bind ((KS P w).pyHash (k := x) (beq_self_eq_true x) ?_))
    have room : (setL (xs.take i)).length + 1 < scanBound := by
      have := setL_len (xs.take i)
      rw [List.length_take] at this
      omega
    refine add_text (s := { s' with toks := s'.toks + 1 }) hS' room fun b h' hsb hS2 => ?_
    have e : addT (setL (xs.take i)) x = setL (xs.take (i + 1)) := by
      unfold setL
      rw [List.take_add_one, hx, List.foldl_append]
      rfl
    rw [e] at hS2
    refine wpAny_pure ⟨plainId_quiet F.plain_set_update_loop _, ih (i + 1) _ (by omega) lt (W.frame _ s' _ _ hst' (Nat.le_succ _) fun b hb o e => ?_) hS2 fun s'' hm'' hS'' => ?_⟩
    · rw [hsb.2 b (fun h : b = S => hSf (by rw [← h]; exact hb))]
      exact e
    · refine hR s'' (Moved.trans W.gtrans ((hm.mono up).then_heap (Nat.le_succ _) fun b o hb e => ?_) hm'') hS''
      rw [hsb.2 b (fun h : b = S => hb (by rw [h]; exact List.mem_cons_self))]
      exact e
end
/-- such a set, as what stands at an address -/
def SetX (w : World) (a : Addr) (ks : List Str) : HO := .ext fun h => At w h a ks
end SetS
/-! set(xs) of a list of texts, and how many there are -/
namespace SetS
open PySem PySem.Spec PyProof.Rows L2
section
variable {P : Program} {w : World} {A : Around} {E : Value → Shared → Prop} {s : Shared}
set_option maxHeartbeats 3200000 in
/-- set(xs) -/
theorem set_of_list {l : Addr} {items : Array Value} {xs : List Str} {Q : Value → Shared → Prop} (hh : A.handled = none) (hl : s.heap.IsList l items) (hit : PyProof.Rows.StrsAre items.toList xs) (hb : xs.length + 1 < scanBound)
    (h : ∀ (h' : Heap) (tk : Nat), At w h' s.heap.objs.size (setL xs) → (∀ b o, s.heap.get? b = some o → h'.get? b = some o) → Q (.ref s.heap.objs.size) { s with heap := h', toks := tk }) :
    wpAny (model P w) A (call (.type "set") [.ref l]) Q E s := by
  have hisz : items.size = xs.length := by rw [← PyProof.Rows.StrsAre.len_eq hit, Array.length_toList]
  obtain ⟨c, tl, hmro⟩ := F.called_set.mro
  have hmade := F.called_set.made
  have hsub := F.called_set.sub
  refine wpAny_call (codeAny_of_tree ?_)
  show wpAny _ _ (callAny (.type "set") _) _ _ _
  refine wpAny_pure ⟨Code.quiet_builtin _ (by decide +kernel), codeAny_builtin F.entry_type_call ?_⟩
  rw [Around.under_plain (weight_type_call_type "set" [.ref l] []) rfl]
  have h1 := F.called_set.notType
  have h2 := F.called_set.canCreate
  have hct := F.typeCall_set_1 (.ref l)
  repeat (any_goals (first | assumption | wp_step))
  obtain ⟨N, eN⟩ : ∃ N : Heap, N = s.heap.push { cls := .type "set", dict := none, data := .set #[] 0 (.fresh 0 0 (!w.params.followText "set-order")) } := ⟨_, rfl⟩
  refine codeAny_mono (code_set_led1 (.ref l) (E := E) (Q₁ := fun obj s₁ => obj = .ref s.heap.objs.size ∧ s₁ = { s with heap := N }) ⟨rfl, by rw [eN]⟩) fun r s₁ hr => ?_
  cases r with
  | error e => exact hr
  | ok fl =>
    cases fl with
    | ret obj =>
      obtain ⟨rfl, rfl⟩ := hr
      have hS : N.get? s.heap.objs.size = some { cls := .type "set", dict := none, data := .set #[] 0 (.fresh 0 0 (!w.params.followText "set-order")) } := by rw [eN]; exact Heap.get?_push_size _ rfl
      have hsz : N.objs.size = s.heap.objs.size + 1 := by rw [eN]; exact Heap.size_push ..
      have hold : ∀ b o, s.heap.get? b = some o → N.get? b = some o := fun b o e => by rw [eN]; exact Heap.get?_push_of_some _ e
      have hT : Shared.TypeIs { s with heap := N } (.ref s.heap.objs.size) "set" := ⟨_, hS, rfl⟩
      have hli := F.called_set.init.lookup
      have hbi := F.called_set.init.bind (.ref s.heap.objs.size)
      repeat (any_goals (first | assumption | wp_step))
      refine codeAny_mono (codeAny_call_builtin (R := wants (fun r s₂ => r = .none ∧ ∃ h' tk, s₂ = { s with heap := h', toks := tk } ∧ At w h' s.heap.objs.size (setL xs) ∧ (∀ b o, s.heap.get? b = some o → h'.get? b = some o)) E) F.called_set.init.plain F.entry_set_init (check_set_init_1 hT ?_)) fun r₂ s₂ hr₂ => ?_
      · obtain ⟨ol, hol, hcl, nl, hdl⟩ := id hl
        obtain ⟨ocls, odict, odata, oslots⟩ := ol
        simp only at hcl hdl
        subst hcl; subst hdl
        have hol' := hold l _ hol
        have hsls := F.sub_list_set
        have hslf := F.sub_list_frozenset
        have hne : (Value.type "list" == Value.type "dict") = false := by decide
        have hl1 : N.IsList l items := ⟨_, hol', rfl, nl, rfl⟩
        unfold Builtin.«set.__init__» noKeywords Builtin.Frozenset.updateFrom
        generalize hPI : pyIter = PI
        wp_walk
        subst hPI
        refine wpAny_pyIter_list hl1 ?_
        refine wpAny_bind (wpAny_runValue ?_)
        have hlS : l < s.heap.objs.size := Heap.lt_size hol
        have hneI : l ≠ N.objs.size := by rw [hsz]; exact Nat.ne_of_lt (Nat.lt_succ_of_lt hlS)
        have hSf : s.heap.objs.size ∉ [N.objs.size, l] := by
          simp only [List.mem_cons, List.mem_singleton, List.not_mem_nil, or_false, not_or]
          exact ⟨by rw [hsz]; exact Nat.ne_of_lt (Nat.lt_succ_self _), Nat.ne_of_gt hlS⟩
        have hval : ∀ (i : Nat) (v : Value), items[i]? = some v → ∃ x t, xs[i]? = some x ∧ v = .str x t := fun i v hv => by
          have hi : i < xs.length := by rw [← hisz]; exact (Array.getElem?_eq_some_iff.mp hv).1
          obtain ⟨t, e⟩ := SS.strs_at hit i v (by rw [Array.getElem?_toList]; exact hv)
          refine ⟨xs[i], t, List.getElem?_eq_getElem hi, ?_⟩
          rw [e, List.getD_eq_getElem?_getD, List.getElem?_eq_getElem hi] <;> rfl
        refine fill_texts ((Walks.list (by simp [hh]) _ l hneI items).toS) s.heap.objs.size hSf xs hisz hb hval (items.size - 0) 0 _ (by omega) (Nat.zero_le _)
          ⟨⟨_, Heap.get?_push_size _ rfl, rfl, rfl⟩, (hl1.push _)⟩ ?hS0 ?hR
        case hS0 => exact at_new (Heap.get?_push_of_some _ hS)
        case hR =>
          intro s' hm hS'
          obtain ⟨h', g2, d', tk', os'⟩ := s'
          have eg : g2 = s.gens := hm.gens
          have ed : d' = s.drawn := hm.drawn
          have eo : os' = s.os := hm.os
          subst eg; subst ed; subst eo
          refine wpAny_pure ?_
          show wpAny _ _ (ret Value.none) _ _ _
          refine wpAny_pure ⟨rfl, h', tk', rfl, hS', fun b o e => ?_⟩
          have hb0 : b < s.heap.objs.size := Heap.lt_size e
          refine hm.heap b o ?_ (Heap.get?_push_of_some _ (hold b o e))
          simp only [List.mem_cons, List.mem_singleton, List.not_mem_nil, or_false, not_or]
          exact ⟨Nat.ne_of_lt hb0, by rw [hsz]; exact Nat.ne_of_lt (Nat.lt_succ_of_lt hb0)⟩
      · cases r₂ with
        | error e => exact hr₂
        | ok fl₂ =>
          cases fl₂ with
          | ret r =>
            obtain ⟨rfl, h', tk, rfl, hS', hk'⟩ := hr₂
            repeat (any_goals (first | assumption | wp_step))
            exact h _ _ hS' hk'
          | _ => exact hr₂.elim
    | _ => exact hr.elim
end
section
variable {X : Cx}
def rSetL (K : PySem.W.Frag) (w : World) : List V → Hp → VK → Prop := fun xs H Q => ∃ (t : Addr) (zs : List Str), xs = [.ref t] ∧ SqL K H t (zs.map V.str) ∧ zs.length < 1000 ∧ ∀ p, H p = none → Q (.ref p) (upd H p (SetX w p (setL zs)))
theorem call_setL (hc : X.calm = true) : CallR X (.type "set") (rSetL X.K X.w) := by
  intro pins s σ H xs us Q I r h
  obtain ⟨t, zs, rfl, ht, hl, q⟩ := h
  obtain ⟨its, rv, pl, hz⟩ := I.list ht
  rw [Vals.ref1 r]
  refine set_of_list (I.ok.hd hc) pl.isList rv.strs (by unfold scanBound; omega) fun h' tk hA hk => ?_
  exact ⟨.ref _, upd H s.heap.objs.size (SetX X.w s.heap.objs.size (setL zs)), I.laid (t' := tk) hk (Nat.le_refl _) ⟨hA, hA.elim fun o h => h.elim fun _ h => h.elim fun _ h => h.elim fun _ h => ⟨o, h.1⟩, fun h1 h2 p k => At.at p k⟩, rfl, q _ (I.hok.fresh (Nat.le_refl _))⟩
theorem setL_same {zs : List Str} (h : zs.Nodup) : setL zs = zs := by
  have go : ∀ (xs ks : List Str), (ks ++ xs).Nodup → xs.foldl addT ks = ks ++ xs := by
    intro xs
    induction xs with
    | nil => intro ks _; rw [List.append_nil]; rfl
    | cons x xs ih =>
      intro ks h
      have hx : x ∉ ks := fun m => (List.nodup_append.mp h).2.2 x m x List.mem_cons_self rfl
      show xs.foldl addT (addT ks x) = _
      rw [show addT ks x = ks ++ [x] from if_neg hx, ih _ (by rw [List.append_assoc]; exact h), List.append_assoc]
      rfl
  exact (go zs [] h).trans rfl
/-- len(set) -/
def rLenX (w : World) : List V → Hp → VK → Prop := fun xs H Q => ∃ (a : Addr) (ks : List Str), xs = [.ref a] ∧ H a = some (SetX w a ks) ∧ Q (.int (ks.length : Nat)) H
theorem At.setOf {P : Program} {w : World} {h : Heap} {a : Addr} {ks : List Str} (R : At w h a ks) : h.SetOf (KS P w) a (fun k => decide (k ∈ ks)) ks.length := by
  obtain ⟨o, es, ep, t, ho, hx, hd, ⟨g, pk⟩, hb, hf, _⟩ := R
  refine ⟨o, es, ep, t, ho, hx, hd, ent_elems g, fun k => ?_, hb, hf, by rw [← pk.length_eq, List.length_map, Array.length_toList]⟩
  rw [decide_eq_true_eq, ← pk.mem_iff, List.mem_map]
  exact ⟨fun ⟨e, he, q⟩ => ⟨e, he, (ent_is (g e he) k).mpr q⟩, fun ⟨e, he, q⟩ => ⟨e, he, (ent_is (g e he) k).mp q⟩⟩
theorem call_lenX : CallR X (.builtin "len") (rLenX X.w) := by
  intro pins s σ H xs us Q I r h
  obtain ⟨p, ks, rfl, hp, q⟩ := h
  obtain ⟨u, rfl, rx⟩ := vals1 r
  cases rx
  obtain ⟨o, es, ep, t, ho, hex, hd, _, _, hb, hf, hn⟩ := At.setOf (P := X.prog) (I.hok p _ hp).1
  exact call_len_set ho hex hd hf (Int.lt_trans (Int.ofNat_lt.mpr hb) (by decide)) ⟨.int ks.length, H, I.tok _, ⟨_, by rw [hn]⟩, q⟩
end
end SetS
/-! try: .. / except x as e: c = e, and what c holds behind it -/
namespace KepE
open PySem PySem.Spec PyProof.Rows L2
/-! ### what is kept -/
end KepE
namespace Sj
open PySem PySem.Spec PyProof.Rows L2 Sup
/-! k09: over a list or a tuple; [.. for x in xs for y in x] -/
section
variable {X : Cx} {tg : Expr}
def iSeq (K : PySem.W.Frag) (tl : TE) : TI := fun σ H R => tl σ H fun x H1 => ∃ a, x = .ref a ∧ (((∃ xs, SqL K H1 a xs) ∧ R (Itl K a) H1) ∨ ((∃ xs, SqT K H1 a xs) ∧ R (Itt K a) H1))
theorem pi_seq {l : Expr} {tl : TE} (hl : PE X l tl) : PI X tg l (iSeq X.K tl) := by
  refine ⟨fun pins s σ H R I h => thn (hl.run pins s σ H _ I h) fun v s1 ⟨x, H1, I1, r1, a, e, q⟩ => ?_⟩
  subst e
  cases r1
  have new : ∀ {c : Addr}, c ∈ [s1.heap.objs.size] → FpOk X pins H1 c ∧ True := fun {c} hc => ⟨by rw [List.mem_singleton.mp hc]; exact I1.fpOk (Nat.le_refl _) (I1.hok.fresh (Nat.le_refl _)), trivial⟩
  rcases q with ⟨⟨xs, hq⟩, q⟩ | ⟨⟨xs, hq⟩, q⟩
  · obtain ⟨its, rv, p, hz⟩ := I1.list hq
    exact wpAny_pyIter_list p.isList ⟨s1.heap.objs.size, [s1.heap.objs.size], _, _, H1, rfl, I1.kept (t' := s1.toks) fun b o e => Heap.get?_push_of_some _ e, turn_list a _, ⟨_, Heap.get?_push_size _ rfl, rfl, rfl⟩, fun b hb => (new hb).1, q⟩
  · obtain ⟨its, rv, p, hz⟩ := I1.tuple hq
    exact wpAny_pyIter_tuple (show s1.heap.IsTuple a its.toArray from p) ⟨s1.heap.objs.size, [s1.heap.objs.size], _, _, H1, rfl, I1.kept (t' := s1.toks) fun b o e => Heap.get?_push_of_some _ e, turn_tuple a _, ⟨_, Heap.get?_push_size _ rfl, rfl, rfl⟩, fun b hb => (new hb).1, q⟩
end
/-- the inner loop -/
def InLoop (J1 : It) (g1 : TG) (tt1 : TT) (te : TE) (vs1 : List Nat) (D : Addr) (σ2 : L2.St) (H4 : Hp) (Nx : Hp → Prop) : Prop := ∃ W1 : Nat → Nat → Hp → Prop, (∃ m, W1 0 m H4) ∧ ∀ j k H, W1 j k H →
  (J1.stop j H ∧ Nx H) ∨ (J1.go j H ∧ ∃ Nx1 : Hp → Prop, (∀ H', Nx1 H' → ∃ k', k' < k ∧ W1 (j + 1) k' H') ∧ ∀ x H', J1.yld j H x H' → g1 x (wipe σ2 vs1) H' fun σ3 H5 => wipe σ3 vs1 = wipe σ2 vs1 ∧ tt1 σ3 H5 fun b H6 =>
    if b = true then te σ3 H6 fun y H7 => ∃ acc, H7 D = some (.lst acc) ∧ acc.length < sizeLine ∧ Nx1 (upd H7 D (.lst (acc ++ [y]))) else Nx1 H6)
theorem in_it {J1 : It} {n : Nat} {G : Hp → Prop} {Y : Nat → Hp → V → Hp → Prop} (wk : Walk J1 n G Y) {g1 : TG} {tt1 : TT} {te : TE} {vs1 : List Nat} {D : Addr} {σ2 : L2.St} {H4 : Hp} {Nx : Hp → Prop} (Pv : Nat → Hp → Prop) (h0 : Pv 0 H4) (hG : ∀ i H, i ≤ n → Pv i H → G H)
    (hs : ∀ j x H H', j < n → Pv j H → Y j H x H' → g1 x (wipe σ2 vs1) H' fun σ3 H5 => wipe σ3 vs1 = wipe σ2 vs1 ∧ tt1 σ3 H5 fun b H6 => if b = true then te σ3 H6 fun y H7 => ∃ acc, H7 D = some (.lst acc) ∧ acc.length < sizeLine ∧ Pv (j + 1) (upd H7 D (.lst (acc ++ [y]))) else Pv (j + 1) H6)
    (hd : ∀ H, Pv n H → Nx H) : InLoop J1 g1 tt1 te vs1 D σ2 H4 Nx := by
  refine ⟨fun j k H => k + j = n ∧ Pv j H, ⟨n, rfl, h0⟩, fun j k H ⟨e, q⟩ => ?_⟩
  match k, e with
  | 0, e =>
    obtain rfl : j = n := by omega
    exact .inl ⟨wk.stops H (hG _ _ (Nat.le_refl _) q), hd H q⟩
  | k + 1, e => exact .inr ⟨wk.goes j H (by omega) (hG _ _ (by omega) q), Pv (j + 1), fun H' p' => ⟨k, Nat.lt_succ_self k, by omega, p'⟩, fun x H' y => hs j x H H' (by omega) q (wk.yields j H x H' (by omega) (hG _ _ (by omega) q) y)⟩
theorem lc2_it {J : It} {n : Nat} {G : Hp → Prop} {Y : Nat → Hp → V → Hp → Prop} (wk : Walk J n G Y) {g g1 : TG} {tt tt1 : TT} {wi1 : TI} {te : TE} {vs vs1 : List Nat} {σ : L2.St} {H1 : Hp} {D : Addr} {Qd : Hp → Prop} (Pv : Nat → Hp → Prop) (h0 : Pv 0 (upd H1 D (.lst []))) (hG : ∀ i H, i ≤ n → Pv i H → G H)
    (hs : ∀ i x H H', i < n → Pv i H → Y i H x H' → g x (wipe σ vs) H' fun σ2 H2 => wipe σ2 vs = wipe σ vs ∧ tt σ2 H2 fun b H3 => if b = true then wi1 σ2 H3 fun J1 H4 => InLoop J1 g1 tt1 te vs1 D σ2 H4 (Pv (i + 1)) else Pv (i + 1) H3) (hd : ∀ H, Pv n H → Qd H) :
    ∃ W : Nat → Nat → Hp → Prop, (∃ m, W 0 m (upd H1 D (.lst []))) ∧ ∀ i m H, W i m H →
      (J.stop i H ∧ Qd H) ∨ (J.go i H ∧ ∃ Nx : Hp → Prop, (∀ H', Nx H' → ∃ m', m' < m ∧ W (i + 1) m' H') ∧ ∀ x H', J.yld i H x H' → g x (wipe σ vs) H' fun σ2 H2 => wipe σ2 vs = wipe σ vs ∧ tt σ2 H2 fun b H3 =>
        if b = true then wi1 σ2 H3 fun J1 H4 => InLoop J1 g1 tt1 te vs1 D σ2 H4 Nx else Nx H3) := by
  refine ⟨fun i m H => m + i = n ∧ Pv i H, ⟨n, rfl, h0⟩, fun i m H ⟨e, q⟩ => ?_⟩
  match m, e with
  | 0, e =>
    obtain rfl : i = n := by omega
    exact .inl ⟨wk.stops H (hG _ _ (Nat.le_refl _) q), hd H q⟩
  | m + 1, e => exact .inr ⟨wk.goes i H (by omega) (hG _ _ (by omega) q), Pv (i + 1), fun H' p' => ⟨m, Nat.lt_succ_self m, by omega, p'⟩, fun x H' y => hs i x H H' (by omega) q (wk.yields i H x H' (by omega) (hG _ _ (by omega) q) y)⟩
end Sj
namespace Sj
open PySem L2 Sup StK Own Shw Exg Grd KepE
open NdefX (NF NScope ncx envF startF nscope_by)
open C8 (pss_cut tCut)
/-! what k65 shares with k09's text B9b -/
def allN (Bl : List (Addr × List Str)) : List Str := Bl.flatMap (·.2)
theorem allN_snoc {Bl : List (Addr × List Str)} {i : Nat} {y : Addr × List Str} (h : Bl[i]? = some y) : allN (Bl.take (i + 1)) = allN (Bl.take i) ++ y.2 := by
  unfold allN
  rw [List.take_add_one, h, Option.toList_some, List.flatMap_append]
  simp
/-- rows of texts, each a list or a tuple, empty or not -/
def RowAt (H : Hp) (Bl : List (Addr × List Str)) : Prop := ∀ x ∈ Bl, H x.1 = some (.lst (strv x.2)) ∨ H x.1 = some (.tup (strv x.2))
theorem RowAt.same {H H' : Hp} {Bl : List (Addr × List Str)} (h : RowAt H Bl) (s : Same H H') : RowAt H' Bl := fun x hx => (h x hx).imp (s _ _) (s _ _)
def refsB (Bl : List (Addr × List Str)) : List V := Bl.map fun y => V.ref y.1
theorem refsB_len (Bl : List (Addr × List Str)) : (refsB Bl).length = Bl.length := List.length_map _
theorem refsB_at {Bl : List (Addr × List Str)} {i : Nat} {x : V} (h : (refsB Bl)[i]? = some x) : ∃ y ∈ Bl, Bl[i]? = some y ∧ x = .ref y.1 := by
  unfold refsB at h
  rw [List.getElem?_map] at h
  cases e : Bl[i]? with
  | none => rw [e] at h; cases h
  | some y => rw [e] at h; exact ⟨y, List.mem_of_getElem? e, rfl, (Option.some.inj h).symm⟩
end Sj
namespace Own
open PySem PySem.Spec PyProof.Rows L2 Sup Grd
section
variable {X : Cx} {CX : CXT} {pins : List (Addr × Obj)} {σ : L2.St} {H : Hp} {s : Shared} {k : Nat} {C f : Addr} {fd : FuncData} {ps : List Str} {sp : Sp} {E : XK}
theorem call_lenN (M : MetN X.prog X.w X.K X.mg X.base CX0 k C "__len__" ps sp) (hr : Room (k + 1) X.A) : CallR X (.builtin "len") (rLenO C sp) := by
  obtain ⟨f, fd, h1, h2, _, F, hb⟩ := M
  intro pins s σ H xs us Q I r h
  obtain ⟨a, dx, fs, rfl, ha, h⟩ := h
  obtain ⟨u, rfl, rx⟩ := vals1 r
  obtain rfl : u = Value.ref a := rx
  obtain ⟨mA, O, _⟩ := ins_get I.hok ha
  obtain ⟨od, J, _⟩ := O.look
  obtain ⟨m, Fr⟩ := I.fr
  refine PySem.W.len_K Fr I.mod.kin J h1 h2 (wpAny_mono (run_atN (vs := [.ref a]) F hr.in1 hb I.env0.in1 (E' := X.xe) (fun e s' z => False.elim z) I (.cons rfl .nil) h) (fun v s1 ⟨z, H1, I1, rv, n, ez, hn, q⟩ => ?_) fun _ _ z => z)
  subst ez
  obtain ⟨t, rfl⟩ := rv
  exact ⟨⟨by omega, by omega⟩, .int n, H1, I1.tok _, ⟨_, rfl⟩, q⟩
end
end Own
namespace Sj
open PySem L2 Sup StK Own Shw Exg Grd KepE
open NdefX (NF NScope ncx envF startF nscope_by)
open C8 (pss_cut tCut)
/-! k65: wrong_parts, where all is well -/
abbrev sWp : Stmt := top 29
abbrev nWp : List Str := ["frame", "parts", "names", "part", "name"]
theorem scWp : FnScope nWp ["frame", "parts"] (defScope sWp) := ⟨rfl, rfl, rfl, by decide +kernel, rfl, by decide +kernel, by decide +kernel⟩
def teP1 (K : PySem.W.Frag) : TE := tCB (rIsiT K) (tCons (tVar 3) (tCons (tTup (tCons (tC (.ty "list")) (tCons (tC (.ty "tuple")) tNil))) tNil))
def teP3 (K : PySem.W.Frag) (ks : Kinds) (CF : Addr) : TE := tOp (rInO CF false (spFIs K ks CF)) (tVar 4) (tVar 0)
structure WpT (P : Program) (w : World) (K : PySem.W.Frag) (mg : Str → Option Value) (base : Heap) (ks : Kinds) (CF CC : Addr) : Prop where
  in_ : MetN P w K mg base CX0 1 CF "__contains__" ["self", "x"] (spFIs K ks CF)
  len_ : MetN P w K mg base CX0 1 CF "__len__" ["self"] (spFLen CF)
  mC : mg "Chain" = some (.ref CC)
  most : ∃ mc u, ClX.CRead K CC mc ∧ ClX.CVal K CC mc "MOST" (.int 8) u
  isi : mg "isinstance" = none
  all : mg "all" = none
  len : mg "len" = none
  set : mg "set" = none
  list : mg "list" = none
  tuple : mg "tuple" = none
  kl : PySem.W.kitAny K (.type "list") [.type "list", .type "tuple"] = some true
  kt : PySem.W.kitAny K (.type "tuple") [.type "list", .type "tuple"] = some true
/-- these rows part the legs of the frame -/
structure Parts (d : FrD) (Bl : List (Addr × List Str)) : Prop where
  l1 : 1 ≤ Bl.length
  l8 : Bl.length ≤ 8
  pm : (allN Bl).Perm (names d.ys)
def spWp (K : PySem.W.Frag) (ks : Kinds) (CF : Addr) : Sp := fun vs H Q _ => ∃ (f t : Addr) (d : FrD) (Bl : List (Addr × List Str)), vs = [.ref f, .ref t] ∧ FrIs ks CF H f d ∧ SqT K H t (refsB Bl) ∧ RowAt H Bl ∧ Parts d Bl ∧ ∀ H', Same H H' → Q .non H'
theorem repl_bl (n : Nat) (b : Bool) : (List.replicate (n + 1) b).map V.bl = (List.replicate n b).map V.bl ++ [.bl b] := by
  rw [List.replicate_succ', List.map_append]
  rfl
theorem repl_all (n : Nat) : (List.replicate n true).all id = true := List.all_eq_true.mpr fun b hb => List.eq_of_mem_replicate hb
/-- each of a comprehension's items is true -/
theorem lc_true {J : It} {n : Nat} {G : Hp → Prop} {Y : Nat → Hp → V → Hp → Prop} (wk : Walk J n G Y) {g : TG} {te : TE} {vs : List Nat} {σ : L2.St} {H1 : Hp} {D : Addr} {Qd : Hp → Prop} (hD : H1 D = none) (hn : n ≤ 1000) (hG : ∀ H', Same H1 H' → G H')
    (hs : ∀ i x H H' (Q : VK), i < n → Same H1 H → Y i H x H' → (∀ H'', Same H' H'' → Q (.bl true) H'') → Same H H' ∧ g x (wipe σ vs) H' fun σ2 H2 => wipe σ2 vs = wipe σ vs ∧ te σ2 H2 Q) (hd : ∀ H, Same H1 H → H D = some (.lst ((List.replicate n true).map V.bl)) → Qd H)
    (hgm : ∀ x H' (R R' : L2.St → Hp → Prop), (∀ σ2 H2, R σ2 H2 → R' σ2 H2) → g x (wipe σ vs) H' R → g x (wipe σ vs) H' R') :
    ∃ W : Nat → Nat → Hp → Prop, (∃ m, W 0 m (upd H1 D (.lst []))) ∧ ∀ i m H, W i m H →
      (J.stop i H ∧ Qd H) ∨ (J.go i H ∧ ∃ Nx : Hp → Prop, (∀ H', Nx H' → ∃ m', m' < m ∧ W (i + 1) m' H') ∧ ∀ x H', J.yld i H x H' → g x (wipe σ vs) H' fun σ2 H2 => wipe σ2 vs = wipe σ vs ∧ tYes σ2 H2 fun b H3 =>
        if b = true then te σ2 H3 fun y H4 => ∃ acc, H4 D = some (.lst acc) ∧ acc.length < sizeLine ∧ Nx (upd H4 D (.lst (acc ++ [y]))) else Nx H3) := by
  refine lc_it wk (fun i H' => Same H1 H' ∧ H' D = some (.lst ((List.replicate i true).map V.bl))) ⟨same_at hD, upd_same⟩ (fun i H' _ p => hG H' p.1) ?_ fun H p => hd H p.1 p.2
  rintro i x Ho Ha hi ⟨sa, da⟩ y
  refine hgm x Ha _ _ (fun σ2 H2 h => ⟨h.1, ?_⟩) (hs i x Ho Ha (fun y H4 => ∃ acc, H4 D = some (.lst acc) ∧ acc.length < sizeLine ∧ (Same H1 (upd H4 D (.lst (acc ++ [y]))) ∧ (upd H4 D (.lst (acc ++ [y]))) D = some (.lst ((List.replicate (i + 1) true).map V.bl)))) hi sa y fun H2 s2 => ?_).2
  · unfold tYes
    dsimp only
    rw [if_pos rfl]
    exact h.2
  · have sy := (hs i x Ho Ha (fun _ _ => True) hi sa y fun _ _ => trivial).1
    refine ⟨_, s2 _ _ (sy _ _ da), ?_, fun c o e => ?_, ?_⟩
    · rw [List.length_map, List.length_replicate]
      exact Nat.lt_of_lt_of_le (show i < 1000 by omega) (by decide)
    · rw [upd_ne (ne_of_none e hD)]
      exact s2 _ _ (sy _ _ (sa _ _ e))
    · rw [upd_same, repl_bl]
theorem gName_mn {v : Nat} {x : V} {σ : L2.St} {H' : Hp} (R R' : L2.St → Hp → Prop) (h : ∀ σ2 H2, R σ2 H2 → R' σ2 H2) (q : gName v x σ H' R) : gName v x σ H' R' := h _ _ q
/-- isinstance(row, (list, tuple)) -/
theorem isRow_rd {K : PySem.W.Frag} {σ : L2.St} {v : Nat} {H : Hp} {y : Addr × List Str} {Q : VK} (hv : σ[v]? = some (some (.ref y.1))) (kl : PySem.W.kitAny K (.type "list") [.type "list", .type "tuple"] = some true) (kt : PySem.W.kitAny K (.type "tuple") [.type "list", .type "tuple"] = some true)
    (h : H y.1 = some (.lst (strv y.2)) ∨ H y.1 = some (.tup (strv y.2))) (k : ∀ H', Same H H' → Q (.bl true) H') : tCB (rIsiT K) (tCons (tVar v) (tCons (tTup (tCons (tC (.ty "list")) (tCons (tC (.ty "tuple")) tNil))) tNil)) σ H Q := by
  refine ⟨_, hv, by show 2 ≤ sizeLine; decide, fun p hp => ?_⟩
  have sp := same_at (o := .tup [V.ty "list", .ty "tuple"]) hp
  have hty : ∃ tt, TyX K (upd H p (.tup [V.ty "list", .ty "tuple"])) (.ref y.1) (.type tt) ∧ PySem.W.kitAny K (.type tt) [.type "list", .type "tuple"] = some true := by
    rcases h with q | q
    · exact ⟨"list", .base (.lst (sp _ _ q)), kl⟩
    · exact ⟨"tuple", .base (.tup (sp _ _ q)), kt⟩
  obtain ⟨tt, ty, e⟩ := hty
  exact ⟨.ref y.1, p, [.ty "list", .ty "tuple"], .type tt, [.type "list", .type "tuple"], true, rfl, upd_same, .cons (.ty _) (.cons (.ty _) .nil), ty, e, k _ sp⟩
/-- [x for row in rows for x in row], the rows lists or tuples -/
theorem flat_it {K : PySem.W.Frag} {t D : Addr} {Bl : List (Addr × List Str)} {H1 : Hp} {σ : L2.St} {v u : Nat} {vs : List Nat} {Qd : Hp → Prop} (ht : SqT K H1 t (refsB Bl)) (hD : H1 D = none) (hB : RowAt H1 Bl) (hl : (allN Bl).length ≤ 1000)
    (hw1 : ∀ x, wipe ((wipe σ vs).set v (some x)) vs = wipe σ vs) (hv1 : ∀ x, ((wipe σ vs).set v (some x))[v]? = some (some x)) (hw2 : ∀ x y, wipe ((wipe ((wipe σ vs).set v (some x)) [u]).set u (some y)) [u] = wipe ((wipe σ vs).set v (some x)) [u]) (hv2 : ∀ x y, ((wipe ((wipe σ vs).set v (some x)) [u]).set u (some y))[u]? = some (some y))
    (k : ∀ H', Same H1 H' → H' D = some (.lst (strv (allN Bl))) → Qd H') :
    ∃ W : Nat → Nat → Hp → Prop, (∃ m, W 0 m (upd H1 D (.lst []))) ∧ ∀ i m H, W i m H →
      ((Itt K t).stop i H ∧ Qd H) ∨ ((Itt K t).go i H ∧ ∃ Nx : Hp → Prop, (∀ H', Nx H' → ∃ m', m' < m ∧ W (i + 1) m' H') ∧ ∀ x H', (Itt K t).yld i H x H' → gName v x (wipe σ vs) H' fun σ2 H2 => wipe σ2 vs = wipe σ vs ∧ tYes σ2 H2 fun b H3 =>
        if b = true then iSeq K (tVar v) σ2 H3 fun J1 H4 => InLoop J1 (gName u) tYes (tVar u) [u] D σ2 H4 Nx else Nx H3) := by
  have hBl := refsB_len Bl
  refine lc2_it (walk_tup (K := K) (a := t) (xs := refsB Bl)) (fun i H' => Same H1 H' ∧ H' D = some (.lst (strv (allN (Bl.take i))))) ⟨same_at hD, upd_same⟩ (fun i H' _ p => SqT.ext ht p.1) ?_ ?_
  · rintro i x Ho Ha hi ⟨sa, da⟩ ⟨rfl, hx⟩
    obtain ⟨y, hy, ey, rfl⟩ := refsB_at hx
    refine ⟨hw1 _, ?_⟩
    unfold tYes
    dsimp only
    rw [if_pos rfl]
    have hle : (allN (Bl.take i) ++ y.2).length ≤ 1000 := by
      rw [← allN_snoc ey]
      refine Nat.le_trans ?_ hl
      have e : allN Bl = allN (Bl.take (i + 1)) ++ allN (Bl.drop (i + 1)) := by
        unfold allN
        rw [← List.flatMap_append, List.take_append_drop]
      rw [e, List.length_append]
      omega
    rw [List.length_append] at hle
    have hyl : (strv y.2).length = y.2.length := List.length_map _
    have turn : ∀ (j : Nat) (x : V) (Hc Hd : Hp), j < (strv y.2).length → (Same H1 Hc ∧ Hc D = some (.lst (strv (allN (Bl.take i) ++ y.2.take j)))) → (Hd = Hc ∧ (strv y.2)[j]? = some x) →
        gName u x (wipe ((wipe σ vs).set v (some (.ref y.1))) [u]) Hd fun σ3 H5 => wipe σ3 [u] = wipe ((wipe σ vs).set v (some (.ref y.1))) [u] ∧ tYes σ3 H5 fun b H6 =>
          if b = true then tVar u σ3 H6 fun z H7 => ∃ acc, H7 D = some (.lst acc) ∧ acc.length < sizeLine ∧ (Same H1 (upd H7 D (.lst (acc ++ [z]))) ∧ upd H7 D (.lst (acc ++ [z])) D = some (.lst (strv (allN (Bl.take i) ++ y.2.take (j + 1))))) else (Same H1 H6 ∧ H6 D = some (.lst (strv (allN (Bl.take i) ++ y.2.take (j + 1))))) := by
      rintro j x Hc Hd hj ⟨sc, dc⟩ ⟨rfl, hxj⟩
      rw [hyl] at hj
      have exj : (strv y.2)[j]? = some (.str y.2[j]) := by show (y.2.map V.str)[j]? = _; rw [List.getElem?_map, List.getElem?_eq_getElem hj]; rfl
      rw [exj] at hxj
      obtain rfl := Option.some.inj hxj
      refine ⟨hw2 _ _, ?_⟩
      unfold tYes
      dsimp only
      rw [if_pos rfl]
      refine ⟨_, hv2 _ _, _, dc, ?_, fun c o e => ?_, ?_⟩
      · unfold strv
        rw [List.length_map, List.length_append, List.length_take]
        exact Nat.lt_of_le_of_lt (show _ ≤ 1000 by omega) (by decide)
      · rw [upd_ne (ne_of_none e hD)]
        exact sc _ _ e
      · rw [upd_same, List.take_add_one, List.getElem?_eq_getElem hj, Option.toList_some, ← List.append_assoc]
        show _ = some (HO.lst (List.map V.str _))
        rw [List.map_append (l₁ := allN (Bl.take i) ++ y.2.take j)]
        rfl
    have d0 : Ha D = some (.lst (strv (allN (Bl.take i) ++ y.2.take 0))) := by
      rw [List.take_zero, List.append_nil]
      exact da
    have fin : ∀ Hc, (Same H1 Hc ∧ Hc D = some (.lst (strv (allN (Bl.take i) ++ y.2.take (strv y.2).length)))) → (Same H1 Hc ∧ Hc D = some (.lst (strv (allN (Bl.take (i + 1)))))) := fun Hc h => ⟨h.1, by
      have := h.2
      rw [hyl, List.take_length, ← allN_snoc ey] at this
      exact this⟩
    rcases hB y hy with q | q
    · exact ⟨_, hv1 _, y.1, rfl, .inl ⟨⟨_, SqL.of (sa _ _ q)⟩, in_it (walk_list (K := K) (a := y.1) (xs := strv y.2)) (fun j H' => Same H1 H' ∧ H' D = some (.lst (strv (allN (Bl.take i) ++ y.2.take j)))) ⟨sa, d0⟩ (fun j H' _ p => SqL.of (p.1 _ _ q)) turn fin⟩⟩
    · exact ⟨_, hv1 _, y.1, rfl, .inr ⟨⟨_, SqT.of (sa _ _ q)⟩, in_it (walk_tup (K := K) (a := y.1) (xs := strv y.2)) (fun j H' => Same H1 H' ∧ H' D = some (.lst (strv (allN (Bl.take i) ++ y.2.take j)))) ⟨sa, d0⟩ (fun j H' _ p => SqT.of (p.1 _ _ q)) turn fin⟩⟩
  · rintro H2 ⟨s2, d2⟩
    rw [hBl, List.take_length] at d2
    exact k _ s2 d2
section
variable {P : Program} {w : World} {K : PySem.W.Frag} {mg : Str → Option Value} {base : Heap}
theorem ok_wp {f CF CC : Addr} {fd : FuncData} {ks : Kinds} (F : Fun K "wrong_parts" "wrong_parts" sWp f fd) (T : WpT P w K mg base ks CF CC) : FnOk P w K mg base CX0 3 f fd ["frame", "parts"] (spWp K ks CF) := by
  obtain ⟨mc, u, cr, cv⟩ := T.most
  refine F.ok scWp (fun vs H Q E h => ?_) (fun cdv A outer s H vs Q E hr h => ?_)
  · obtain ⟨f, t, d, Bl, rfl, _⟩ := h
    rfl
  · obtain ⟨f, t, d, Bl, rfl, hF, ht, hB, hp, k⟩ := h
    have hr1 := hr.mono (show 1 ≤ 2 by decide)
    refine ⟨_, pss_cons (ps_if (PW.pt (pw_or (pt_not (pt_chain op_le op_le pe_int (pe_callB call_len_seq (by rfl) T.len PySem.boot_len (pa_cons (pv 1) pa_nil)) (ClX.pe_cval (pe_glob rfl T.mC (v := .ref CC) rfl))))
        (pw_or1 (pt_not (pt_val (pe_callB (cr_all rfl) (by rfl) T.all (by decide +kernel) (pa_cons (pe_lc (te := teP1 K) (tt := tYes) (own := [("part", 3)]) (g := gName 3) rfl scWp.nd (pi_tup (pv 1)) (blkOk_by (N := nWp) (sc := defScope sWp) (by decide +kernel))
          (fun _ _ _ _ _ => pg_name (i := 3) scWp.nd rfl (Or.inl rfl)) (fun _ _ _ _ _ => pts_nil) (fun _ _ _ _ _ => pe_callB call_isiT (by rfl) T.isi (by decide +kernel) (pa_cons (pv 3) (pa_cons (pe_tup (pa_cons (pe_bltn (by rfl) T.list (by decide +kernel) (v := .ty "list") rfl) (pa_cons (pe_bltn (by rfl) T.tuple (by decide +kernel) (v := .ty "tuple") rfl) pa_nil))) pa_nil)))) pa_nil))))))) (pss_one (ps_ret pe_str)) pss_nil)
      (pss_cons (ps_setLc2 (i := 2) (wi1 := iSeq K (tVar 3)) (te := tVar 4) (tt := tYes) (tt1 := tYes) (own := [("part", 3), ("name", 4)]) (vs1 := [4]) (g := gName 3) (g1 := gName 4) rfl scWp.nd rfl rfl (sw_true rfl rfl rfl (by decide +kernel)) (pi_tup (pv 1)) (blkOk_by (N := nWp) (sc := defScope sWp) (by decide +kernel)) (by decide)
          (fun _ _ _ _ _ => pg_name (i := 3) scWp.nd rfl (Or.inl rfl)) (fun _ _ _ _ _ => pts_nil) (fun _ _ _ _ _ => pi_seq (pv 3)) (fun _ _ _ _ _ => pg_name (i := 4) scWp.nd rfl (Or.inl rfl)) (fun _ _ _ _ _ => pts_nil) (fun _ _ _ _ _ => pv 4))
      (pss_cons (ps_if (pt_not (pt_val (pe_callB (cr_all rfl) (by rfl) T.all (by decide +kernel) (pa_cons (pe_lc (te := teP3 K ks CF) (tt := tYes) (own := [("name", 4)]) (g := gName 4) rfl scWp.nd (pi_list (pv 2)) (blkOk_by (N := nWp) (sc := defScope sWp) (by decide +kernel))
          (fun _ _ _ _ _ => pg_name (i := 4) scWp.nd rfl (Or.inl rfl)) (fun _ _ _ _ _ => pts_nil) (fun _ _ _ _ _ => pe_cmpR (op_inN T.in_ hr1) (pv 4) (pv 0) (by rfl))) pa_nil)))) (pss_one (ps_ret pe_str)) pss_nil)
      (pss_cons (ps_if (pt_cmpR op_lt (pe_callB (SetS.call_lenX) (by rfl) T.len PySem.boot_len (pa_cons (pe_callTy (T := "set") (SetS.call_setL rfl) (by rfl) T.set (by decide +kernel) (pa_cons (pv 2) pa_nil)) pa_nil)) (pe_callB call_len_seq (by rfl) T.len PySem.boot_len (pa_cons (pv 2) pa_nil)) (nomark _)) (pss_one (ps_ret pe_str)) pss_nil)
      (pss_cons (ps_if (pt_cmpR op_lt (pe_callB call_len_seq (by rfl) T.len PySem.boot_len (pa_cons (pv 2) pa_nil)) (pe_callB (call_lenN T.len_ hr) (by rfl) T.len PySem.boot_len (pa_cons (pv 0) pa_nil)) (nomark _)) (pss_one (ps_ret pe_str)) pss_nil)
      (pss_one (ps_ret pe_non)))))), ?_⟩
    have hBl := refsB_len Bl
    have h1 := hp.l1
    have h8 := hp.l8
    have hn40 : (names d.ys).length ≤ 40 := by unfold names; rw [List.length_map]; exact hF.le
    have hlen : (allN Bl).length = d.ys.length := by rw [hp.pm.length_eq]; unfold names; rw [List.length_map]
    have hnd : (allN Bl).Nodup := hp.pm.nodup_iff.mpr hF.nd
    have hl : (allN Bl).length ≤ 40 := by rw [hlen]; exact hF.le
    -- 1 <= len(parts) <= 8
    refine ⟨_, rfl, t, _, rfl, .inr ht, _, _, rfl, rfl, true, ?_, ?_⟩
    · show V.bl (decide ((1 : Int) ≤ ((refsB Bl).length : Int))) = _
      rw [decide_eq_true (by rw [hBl]; omega)]
    rw [if_pos rfl]
    refine ⟨CC, mc, _, u, rfl, cr, cv, _, _, rfl, rfl, true, ?_, iteF ?_⟩
    · show V.bl (decide (((refsB Bl).length : Int) ≤ 8)) = _
      rw [decide_eq_true (by rw [hBl]; omega)]
    refine ⟨_, rfl, t, rfl, ⟨_, ht⟩, fun D hD => ?_⟩
    refine lc_true (walk_tup (K := K) (a := t) (xs := refsB Bl)) hD (by rw [hBl]; omega) (fun H' s => SqT.ext ht s) ?_ ?_ (fun _ _ R R' h q => gName_mn R R' h q)
    · rintro i x Ho Ha Q' hi sa ⟨rfl, hx⟩ kq
      obtain ⟨y, hy, ey, rfl⟩ := refsB_at hx
      exact ⟨Same.refl _, rfl, isRow_rd (v := 3) (y := y) rfl T.kl T.kt (hB.same sa y hy) kq⟩
    intro H1 s1 d1
    refine ⟨D, _, rfl, SqL.of d1, ?_⟩
    rw [repl_all]
    refine ⟨_, rfl, iteF ?_⟩
    -- all names
    have ht1 := SqT.ext ht s1
    have hB1 := hB.same s1
    refine ⟨_, rfl, t, rfl, ⟨_, ht1⟩, fun D2 hD2 => flat_it ht1 hD2 hB1 (by omega) (fun x => rfl) (fun x => rfl) (fun x y => rfl) (fun x y => rfl) fun H2 s2 d2 => ?_⟩
    have hF2 := hF.same (s1.trans s2)
    have nl : (strv (allN Bl)).length = (allN Bl).length := List.length_map _
    obtain ⟨dx, fs, ea⟩ := hF2.ins
    refine ⟨_, rfl, D2, rfl, ⟨_, SqL.of d2⟩, fun D3 hD3 => ?_⟩
    refine lc_true (walk_list (K := K) (a := D2) (xs := strv (allN Bl))) hD3 (by omega) (fun H' s => SqL.ext (SqL.of d2) s) ?_ ?_ (fun _ _ R R' h q => gName_mn R R' h q)
    · rintro i x Ho Ha Q' hi sa ⟨rfl, hx⟩ kq
      rw [nl] at hi
      have ex : (strv (allN Bl))[i]? = some (.str (allN Bl)[i]) := by show ((allN Bl).map V.str)[i]? = _; rw [List.getElem?_map, List.getElem?_eq_getElem hi]; rfl
      rw [ex] at hx
      obtain rfl := Option.some.inj hx
      exact ⟨Same.refl _, rfl, _, rfl, _, rfl, f, dx, fs, rfl, sa _ _ ea, f, d, _, rfl, hF2.same sa, .inl ⟨_, rfl, hp.pm.mem_iff.mp (List.getElem_mem hi), true, rfl, kq _ (Same.refl _)⟩⟩
    intro H3 s3 d3
    refine ⟨D3, _, rfl, SqL.of d3, ?_⟩
    rw [repl_all]
    refine ⟨_, rfl, iteF ?_⟩
    -- no name twice
    have d2b := s3 _ _ d2
    refine ⟨_, rfl, D2, allN Bl, rfl, SqL.of d2b, Nat.lt_of_le_of_lt hl (by decide), fun p hp' => ?_⟩
    have sp := same_at (o := SetS.SetX w p (SetS.setL (allN Bl))) hp'
    refine ⟨p, SetS.setL (allN Bl), rfl, upd_same, _, rfl, D2, strv (allN Bl), rfl, .inl (SqL.of (sp _ _ d2b)), ?_⟩
    refine ⟨_, _, rfl, rfl, ?_⟩
    have e4 : decide (((SetS.setL (allN Bl)).length : Int) < ((strv (allN Bl)).length : Int)) = false := by
      rw [SetS.setL_same hnd, nl]
      exact decide_eq_false (Int.lt_irrefl _)
    refine ⟨false, by show V.bl (decide (((SetS.setL (allN Bl)).length : Int) < ((strv (allN Bl)).length : Int))) = _; rw [e4], iteF ?_⟩
    -- all legs
    have s24 := s3.trans sp
    have hF4 := hF2.same s24
    refine ⟨_, rfl, D2, strv (allN Bl), rfl, .inl (SqL.of (sp _ _ d2b)), _, rfl, f, dx, fs, rfl, s24 _ _ ea, f, d.ys, _, _, _, rfl, hF4.at_, d.ys.length, rfl, ?_, ?_⟩
    · exact Nat.lt_of_le_of_lt hF.le (by decide)
    refine ⟨_, _, rfl, rfl, false, ?_, iteF (k _ ((s1.trans s2).trans s24))⟩
    show V.bl (decide (((strv (allN Bl)).length : Int) < (d.ys.length : Int))) = _
    rw [nl, hlen, decide_eq_false (Int.lt_irrefl _)]
end
end Sj
/-! C(e, .., *xs), C a class of the module or what a name holds -/
namespace MakeS
open PySem PySem.Spec PyProof.Rows L2 StX
section
variable {X : Cx} {CX : CXT} {k : Nat} {f C : Addr} {sp : Sp} {E : XK} {x : PySem.Str} {e : Expr} {es : List Expr} {tf : TE} {t : TA} {p pos : Pos}
def tMakeSV (C : Addr) (sp : Sp) (E : XK) (tf : TE) (t : TA) : TE := fun σ H Q => tf σ H fun c H0 => c = .ref C ∧ tMakeR C sp E t σ H0 Q
theorem pe_makeSV (M : Mk X.K C f) (F : FnR X.prog X.w X.K X.mg X.base CX k f sp) (hr : Room (k + 1) X.A) (hx : Passes CX X E) (hf : PE X (.Name x p) tf) (ha : PA X (e :: es) t)
    (he : starEach (e :: es) X.env = (false, eval e X.env) :: starEach es X.env := by rfl) (hst : (backTo pos (starEach es X.env)).any (·.1) = true := by rfl) : PE X (.Call (.Name x p) (e :: es) [] pos) (tMakeSV C sp E tf t) := by
  refine ⟨fun pins s σ H Q I h => ?_⟩
  refine wpAny_Call_Name_kw (thn (hf.run pins s σ H _ I h) fun u s1 ⟨c, H1, I1, rc, ec, q1⟩ => ?_)
  subst ec
  obtain rfl : u = Value.ref C := rc
  refine PySem.W.callWith_S2 (h₀ := X.base) I.ok.mod.kin M.kp (thn (ha.run pos pins s1 σ H1 _ I1 q1) fun us s2 ⟨vs, H2, I2, r, q⟩ => ⟨I2.kIn, ?_⟩) he hst
  exact run_makeR M F hr hx I2 r q
end
end MakeS
namespace Sj
open PySem L2 Sup StK Own Shw Exg Grd KepE
open NdefX (NF NScope ncx envF startF nscope_by)
open C8 (pss_cut tCut)
/-! k65: Chain.__init__, where all is well; Chain.of -/
abbrev sChI : Stmt := inClass (top 28) 1
abbrev sChO : Stmt := inClass (top 28) 2
abbrev nCh : List Str := ["self", "frame", "parts", "reason", "part"]
theorem scChI : FnScope nCh ["self", "frame", "parts"] (defScope sChI) := ⟨rfl, rfl, rfl, by decide +kernel, rfl, by decide +kernel, by decide +kernel⟩
theorem scChO : FnScope ["cls", "frame", "parts"] ["cls", "frame", "parts"] (defScope sChO) := ⟨rfl, rfl, rfl, by decide +kernel, rfl, by decide +kernel, by decide +kernel⟩
structure ChT (P : Program) (w : World) (K : PySem.W.Frag) (mg : Str → Option Value) (base : Heap) (ks : Kinds) (CF CC : Addr) : Prop where
  wrong : ∃ f fd, mg "wrong_parts" = some (.ref f) ∧ PySem.W.keepIn K (.ref f) = true ∧ Binds K fd ["frame", "parts"] [] ∧ FnOk P w K mg base CX0 3 f fd ["frame", "parts"] (spWp K ks CF)
  tuple : mg "tuple" = none
  list : mg "list" = none
  isi : mg "isinstance" = none
  cl : Cls K CC
  nF : NoAttr K CC "frame"
  nP : NoAttr K CC "parts"
  kl : PySem.W.kitAny K (.type "list") [.type "list", .type "tuple"] = some true
  kt : PySem.W.kitAny K (.type "tuple") [.type "list", .type "tuple"] = some true
/-- a chain's attributes -/
def chF (f B : Addr) : List (Str × V) := putF "parts" (.ref B) (putF "frame" (.ref f) [])
theorem chF_frame (f B : Addr) : (chF f B).lookup ("frame" : Str) = some (V.ref f) := by
  unfold chF
  rw [lookup_putF, if_neg (by decide +kernel), lookup_putF, if_pos rfl]
theorem chF_parts (f B : Addr) : (chF f B).lookup ("parts" : Str) = some (V.ref B) := by
  unfold chF
  rw [lookup_putF, if_pos rfl]
/-- a chain stands at o -/
def ChAt (H : Hp) (o CC f : Addr) (L : List (Addr × List Str)) : Prop := ∃ dx B, H o = some (.ins CC dx (chF f B)) ∧ H B = some (.tup (refsB L)) ∧ ∀ x ∈ L, H x.1 = some (.tup (strv x.2))
theorem ChAt.same {H H' : Hp} {o CC f : Addr} {L : List (Addr × List Str)} (h : ChAt H o CC f L) (s : Same H H') : ChAt H' o CC f L := by
  obtain ⟨dx, B, h1, h2, h3⟩ := h
  exact ⟨dx, B, s _ _ h1, s _ _ h2, fun x hx => s _ _ (h3 x hx)⟩
def tRow (K : PySem.W.Frag) (v : Nat) : TE := tCB (fun xs H Q => ∃ p ys, xs = [V.ref p] ∧ ((SqL K H p ys ∧ ∀ l, H l = none → Q (.ref l) (upd H l (.tup ys))) ∨ (SqT K H p ys ∧ Q (.ref p) H))) (tCons (tVar v) tNil)
/-- [tuple(row) for row in rows] -/
theorem rows_it {K : PySem.W.Frag} {D : Addr} {J : It} {Bl : List (Addr × List Str)} {H1 : Hp} {σ : L2.St} {v : Nat} {vs : List Nat} {Qd : Hp → Prop} (G : Hp → Prop) (wk : Walk J (refsB Bl).length G fun i H x H' => H' = H ∧ (refsB Bl)[i]? = some x) (hG : ∀ H', Same H1 H' → G H') (hD : H1 D = none) (hB : RowAt H1 Bl) (hl : Bl.length ≤ 1000)
    (hw1 : ∀ x, wipe ((wipe σ vs).set v (some x)) vs = wipe σ vs) (hv1 : ∀ x, ((wipe σ vs).set v (some x))[v]? = some (some x))
    (k : ∀ H' L, Same H1 H' → L.map (·.2) = Bl.map (·.2) → (∀ x ∈ L, H' x.1 = some (.tup (strv x.2))) → H' D = some (.lst (refsB L)) → Qd H') :
    ∃ W : Nat → Nat → Hp → Prop, (∃ m, W 0 m (upd H1 D (.lst []))) ∧ ∀ i m H, W i m H →
      (J.stop i H ∧ Qd H) ∨ (J.go i H ∧ ∃ Nx : Hp → Prop, (∀ H', Nx H' → ∃ m', m' < m ∧ W (i + 1) m' H') ∧ ∀ x H', J.yld i H x H' → gName v x (wipe σ vs) H' fun σ2 H2 => wipe σ2 vs = wipe σ vs ∧ tYes σ2 H2 fun b H3 =>
        if b = true then tRow K v σ2 H3 fun y H4 => ∃ acc, H4 D = some (.lst acc) ∧ acc.length < sizeLine ∧ Nx (upd H4 D (.lst (acc ++ [y]))) else Nx H3) := by
  have hBl := refsB_len Bl
  refine lc_it wk (fun i H' => Same H1 H' ∧ ∃ L : List (Addr × List Str), L.map (·.2) = (Bl.take i).map (·.2) ∧ (∀ x ∈ L, H' x.1 = some (.tup (strv x.2))) ∧ H' D = some (.lst (refsB L))) ⟨same_at hD, [], rfl, (fun x hx => (by cases hx)), upd_same⟩ (fun i H' _ p => hG _ p.1) ?_ ?_
  · rintro i x Ho Ha hi ⟨sa, L, hL, hLa, da⟩ ⟨rfl, hx⟩
    obtain ⟨y, hy, ey, rfl⟩ := refsB_at hx
    refine ⟨hw1 _, ?_⟩
    unfold tYes
    dsimp only
    rw [if_pos rfl]
    have hLl : L.length ≤ 1000 := by
      have := congrArg List.length hL
      rw [List.length_map, List.length_map, List.length_take] at this
      omega
    have go : ∀ (a : Addr) (H4 : Hp), Same Ha H4 → H4 a = some (.tup (strv y.2)) → ∃ acc, H4 D = some (.lst acc) ∧ acc.length < sizeLine ∧ (Same H1 (upd H4 D (.lst (acc ++ [.ref a]))) ∧ ∃ L : List (Addr × List Str), L.map (·.2) = (Bl.take (i + 1)).map (·.2) ∧ (∀ x ∈ L, upd H4 D (.lst (acc ++ [.ref a])) x.1 = some (.tup (strv x.2))) ∧ upd H4 D (.lst (acc ++ [.ref a])) D = some (.lst (refsB L))) := by
      intro a H4 s4 ha
      have d4 := s4 _ _ da
      have off : ∀ {c : Addr} {zs : List V}, H4 c = some (.tup zs) → ∀ o, upd H4 D o c = some (.tup zs) := fun {c zs} e o => by
        rw [upd_ne fun q => by rw [q, d4] at e; cases e]
        exact e
      refine ⟨_, d4, ?_, fun c o e => ?_, L ++ [(a, y.2)], ?_, fun x hx => ?_, ?_⟩
      · rw [refsB_len]
        exact Nat.lt_of_le_of_lt hLl (by decide)
      · rw [upd_ne (ne_of_none e hD)]
        exact s4 _ _ (sa _ _ e)
      · rw [List.map_append, hL, List.take_add_one, ey, Option.toList_some, List.map_append]
        rfl
      · rcases List.mem_append.mp hx with hx | hx
        · exact off (s4 _ _ (hLa x hx)) _
        · obtain rfl := List.mem_singleton.mp hx
          exact off ha _
      · rw [upd_same]
        unfold refsB
        rw [List.map_append]
        rfl
    refine ⟨_, hv1 _, y.1, strv y.2, rfl, ?_⟩
    rcases hB y hy with q | q
    · refine .inl ⟨SqL.of (sa _ _ q), fun l hl' => ?_⟩
      exact go l _ (same_at hl') upd_same
    · exact .inr ⟨SqT.of (sa _ _ q), go y.1 _ (Same.refl _) (sa _ _ q)⟩
  · rintro H2 ⟨s2, L, hL, hLa, d2⟩
    rw [hBl, List.take_length] at hL
    exact k H2 L s2 hL hLa d2
def spChI (K : PySem.W.Frag) (ks : Kinds) (CF CC : Addr) : Sp := fun vs H Q E => ∃ (o dx f t : Addr) (d : FrD) (Bl : List (Addr × List Str)), vs = [.ref o, .ref f, .ref t] ∧ H o = some (.ins CC dx []) ∧ FrIs ks CF H f d ∧ H t = some (.tup (refsB Bl)) ∧ RowAt H Bl ∧ Parts d Bl ∧
  ∀ H' L, L.map (·.2) = Bl.map (·.2) → ChAt H' o CC f L → But H H' o → Q .non H'
section
variable {P : Program} {w : World} {K : PySem.W.Frag} {mg : Str → Option Value} {base : Heap}
theorem body_chI {CF CC f : Addr} {ks : Kinds} (T : ChT P w K mg base ks CF CC) (cdv : Value) (A : Around) (outer : List Env) (s : Shared) (H : Hp) (vs : List V) (Q : VK) (E : XK)
    (hr : Room 3 (A.deeper (PyProof.Rows.envOfC "Chain.__init__" (defScope sChI) s.heap.objs.size f cdv))) (h : spChI K ks CF CC vs H Q E) :
    ∃ t, PSs (cxOf (L2.CX P w) P w K mg base nCh "Chain.__init__" (defScope sChI) f cdv A outer s H E) (defBody sChI) t ∧ t { nx := fun _ H' => Q .non H', rt := Q } (start nCh vs) H := by
  obtain ⟨fW, fdW, mW, kW, bW, GW⟩ := T.wrong
  have hr1 := hr.mono (show 2 ≤ 3 by decide)
  refine ⟨_, pss_cons (ps_set (i := 3) scChI.nd rfl (Or.inl rfl) (pe_call GW hr rfl mW kW bW .nil pass0 (pa_cons (pv 1) (pa_cons (pv 2) pa_nil))))
      (pss_cons (ps_if (pt_cmpR op_notN (pv 3) pe_non (nomark _)) pss_never pss_nil)
      (pss_cons (ps_fld (pv 0) (pv 1) rfl)
      (pss_one (ps_fld (pv 0) (pe_callTy (T := "tuple") call_tuple_of (by rfl) T.tuple (by decide +kernel) (pa_cons
          (pe_lc (te := tRow K 4) (tt := tYes) (own := [("part", 4)]) (g := gName 4) rfl scChI.nd (pi_tup (pv 2)) (blkOk_by (N := nCh) (sc := defScope sChI) (by decide +kernel)) (fun _ _ _ _ _ => pg_name (i := 4) scChI.nd rfl (Or.inl rfl)) (fun _ _ _ _ _ => pts_nil)
            (fun _ _ _ _ _ => pe_callTy (T := "tuple") call_tuple_of (by rfl) T.tuple (by decide +kernel) (pa_cons (pv 4) pa_nil))) pa_nil)) rfl)))), ?_⟩
  obtain ⟨o, dx, f, t, d, Bl, rfl, ho, hF, ht, hB, hp, k⟩ := h
  refine ⟨_, rfl, _, rfl, f, t, d, Bl, rfl, hF, SqT.of ht, hB, hp, fun H1 s1 => ?_⟩
  refine ⟨_, rfl, rfl, _, rfl, iteF ?_⟩
  refine ⟨_, rfl, _, rfl, o, CC, dx, [], rfl, s1 _ _ ho, T.cl, T.nF, by show 0 < 1000; decide, ?_⟩
  obtain ⟨H2, e2⟩ : ∃ H2, H2 = upd H1 o (.ins CC dx (putF "frame" (.ref f) [])) := ⟨_, rfl⟩
  rw [← e2]
  have b2 : But H H2 o := fun b u hb e => by rw [e2, upd_ne hb]; exact s1 _ _ e
  have o2 : H2 o = some (.ins CC dx (putF "frame" (.ref f) [])) := by rw [e2, upd_same]
  have nto : t ≠ o := fun e => by rw [e, ho] at ht; cases ht
  have ht2 : H2 t = some (.tup (refsB Bl)) := b2 _ _ nto ht
  have hB2 : RowAt H2 Bl := fun x hx => (hB x hx).imp (fun q => b2 _ _ (fun e => by rw [e, ho] at q; cases q) q) (fun q => b2 _ _ (fun e => by rw [e, ho] at q; cases q) q)
  have h8 := hp.l8
  refine ⟨_, rfl, t, rfl, ⟨_, SqT.of ht2⟩, fun D1 hD1 => ?_⟩
  refine rows_it (fun H' => SqT K H' t (refsB Bl)) (walk_tup (K := K) (a := t) (xs := refsB Bl)) (fun H' s => SqT.of (s _ _ ht2)) hD1 hB2 (by omega) (fun x => rfl) (fun x => rfl) fun H3 L s3 hL hLa d3 => ?_
  refine ⟨D1, _, rfl, .inl ⟨SqL.of d3, fun B hBn => ?_⟩⟩
  have s4 := same_at (o := .tup (refsB L)) hBn
  have o4 := s4 _ _ (s3 _ _ o2)
  have nBo : B ≠ o := fun e => by rw [e, upd_same] at o4; cases o4
  refine ⟨_, rfl, o, CC, dx, _, rfl, o4, T.cl, T.nP, by show 1 < 1000; decide, ?_⟩
  refine k _ L hL ⟨dx, B, upd_same, ?_, fun x hx => ?_⟩ fun b u hb e => ?_
  · rw [upd_ne nBo]
    exact upd_same
  · have e := s4 _ _ (hLa x hx)
    rw [upd_ne fun q => by rw [q, o4] at e; cases e]
    exact e
  · rw [upd_ne hb]
    exact s4 _ _ (s3 _ _ (b2 _ _ hb e))
def spChS (K : PySem.W.Frag) (ks : Kinds) (CF CC : Addr) : Sp := fun vs H Q E => ∃ ws rest, vs = ws ++ rest ∧ ws.length = (["self", "frame"] : List Str).length ∧ rest.length ≤ sizeLine ∧ ∀ p, H p = none → spChI K ks CF CC (ws ++ [.ref p]) (upd H p (.tup rest)) Q E
theorem fnr_chI {CF CC f : Addr} {fd : FuncData} {ks : Kinds} (F : FunD K "__init__" "Chain.__init__" (defArgs sChI) (defBody sChI) (defScope sChI) [] [] f fd) (T : ChT P w K mg base ks CF CC) :
    FnR P w K mg base (L2.CX P w) 4 f (spChS K ks CF CC) := by
  obtain ⟨oc, od, dV, kV, doc, pm, an, cdv, ct, osl, rfl, lk, hcd, hD, hK⟩ := F.ex
  rcases hD with ⟨_, rfl⟩ | ⟨e, _⟩
  case inr => exact absurd rfl e
  refine StX.fn_star (pv := "parts") (ps := ["self", "frame"]) lk hcd scChI StX.cxUp (fun us rest h => ?_) fun A outer s H vs Q E hr h => body_chI T cdv A outer s H vs Q E hr h
  exact StX.bind_star2 (B := fun l => bindArgs _ ⟨l, []⟩) (fun a b => rfl) (fun a b r rs => rfl) us rest h
theorem mk_ch {CF CC f x dx : Addr} {ks : Kinds} {d : FrD} {Bl : List (Addr × List Str)} {H : Hp} {Q : VK} {E : XK} (hF : FrIs ks CF H f d) (hB : RowAt H Bl) (p : Parts d Bl) (hx : H x = none) (hdx : H dx = none) (hne : dx ≠ x)
    (k : ∀ H' L, L.map (·.2) = Bl.map (·.2) → ChAt H' x CC f L → Same H H' → Q .non H') : spChS K ks CF CC (V.ref x :: .ref f :: refsB Bl) (upd (upd H dx (.own x)) x (.ins CC dx [])) Q E := by
  have s1 : Same H (upd (upd H dx (.own x)) x (.ins CC dx [])) := fun b o e => by
    rw [upd_ne (ne_of_none e hx), upd_ne (ne_of_none e hdx)]
    exact e
  refine ⟨[.ref x, .ref f], refsB Bl, rfl, rfl, ?_, fun t ht => ?_⟩
  · rw [refsB_len]
    exact Nat.le_trans p.l8 (by decide)
  have hxt : x ≠ t := ne_of_none upd_same ht
  have s2 := s1.trans (same_at (o := .tup (refsB Bl)) ht)
  refine ⟨x, dx, f, t, d, Bl, rfl, by rw [upd_ne hxt, upd_same], hF.same s2, upd_same, hB.same s2, p, fun H' L hL hC hb => k H' L hL hC fun b o e => ?_⟩
  exact hb b o (ne_of_none e hx) (s2 _ _ e)
/-- Chain.of of rows that part the legs -/
def spChO (K : PySem.W.Frag) (ks : Kinds) (CF CC : Addr) : Sp := fun vs H Q E => ∃ (f l : Addr) (d : FrD) (Bl : List (Addr × List Str)), vs = [.ref CC, .ref f, .ref l] ∧ (H l = some (.lst (refsB Bl)) ∨ H l = some (.tup (refsB Bl))) ∧ FrIs ks CF H f d ∧ RowAt H Bl ∧ Parts d Bl ∧
  ∀ x H' L, H x = none → L.map (·.2) = Bl.map (·.2) → ChAt H' x CC f L → Same H H' → Q (.ref x) H'
theorem ok_cho {CF CC fC f : Addr} {fd : FuncData} {ks : Kinds} (F : FunD K "of" "Chain.of" (defArgs sChO) (defBody sChO) (defScope sChO) [] [] f fd) (T : ChT P w K mg base ks CF CC) (M : Mk K CC fC)
    (GF : FnR P w K mg base (L2.CX P w) 4 fC (spChS K ks CF CC)) : FnOk P w K mg base (L2.CX P w) 6 f fd ["cls", "frame", "parts"] (spChO K ks CF CC) := by
  refine F.ok scChO (fun vs H Q E h => ?_) (fun cdv A outer s H vs Q E hr h => ?_)
  · obtain ⟨fr, l, d, Bl, rfl, _⟩ := h
    rfl
  · obtain ⟨fr, l, d, Bl, rfl, hl, hF, hB, hp, k⟩ := h
    refine ⟨_, pss_cons (ps_if (pt_not (pt_val (pe_callB call_isiT (by rfl) T.isi (by decide +kernel) (pa_cons (pv 2) (pa_cons (pe_tup (pa_cons (pe_bltn (by rfl) T.list (by decide +kernel) (v := .ty "list") rfl) (pa_cons (pe_bltn (by rfl) T.tuple (by decide +kernel) (v := .ty "tuple") rfl) pa_nil))) pa_nil)))))
        pss_never pss_nil)
      (pss_one (ps_ret (MakeS.pe_makeSV M GF hr (passes_call (takes_of rfl rfl rfl rfl) fun _ _ _ _ h => h) (pv 0) (pa_cons (pv 1) (StX.pa_star (pv 2) pa_nil))))), ?_⟩
    refine ⟨_, rfl, by show 2 ≤ sizeLine; decide, fun p hp' => ?_⟩
    have sp := same_at (o := .tup [V.ty "list", .ty "tuple"]) hp'
    have hty : ∃ tt, TyX K (upd H p (.tup [V.ty "list", .ty "tuple"])) (.ref l) (.type tt) ∧ PySem.W.kitAny K (.type tt) [.type "list", .type "tuple"] = some true := by
      rcases hl with q | q
      · exact ⟨"list", .base (.lst (sp _ _ q)), T.kl⟩
      · exact ⟨"tuple", .base (.tup (sp _ _ q)), T.kt⟩
    obtain ⟨tt, ty, e⟩ := hty
    refine ⟨.ref l, p, [.ty "list", .ty "tuple"], .type tt, [.type "list", .type "tuple"], true, rfl, upd_same, .cons (.ty _) (.cons (.ty _) .nil), ty, e, _, rfl, iteF ?_⟩
    refine ⟨_, rfl, rfl, _, rfl, _, rfl, l, refsB Bl, rfl, ?_, ?_⟩
    · rcases hl with h | h
      · exact .inr (SqL.of (sp _ _ h))
      · exact .inl (SqT.of (sp _ _ h))
    · intro x dx hx hdx hne
      rw [List.append_nil]
      exact mk_ch (hF.same sp) (hB.same sp) hp hx hdx hne fun H' L hL hC hs => ⟨rfl, k x H' L (sp.free hx) hL hC (sp.trans hs)⟩
end
end Sj
/-! == of tuples of texts, and of tuples of such tuples -/
namespace Own
open PySem PySem.Spec PyProof.Rows L2 Sup
theorem all_same {α : Type} [DecidableEq α] (xs ys : List α) : ((List.range (min xs.length ys.length)).all (fun j => decide (xs[j]? = ys[j]?)) && xs.length == ys.length) = decide (xs = ys) := by
  refine Bool.eq_iff_iff.mpr ?_
  rw [Bool.and_eq_true, List.all_eq_true, decide_eq_true_eq, beq_iff_eq]
  constructor
  · rintro ⟨h1, h2⟩
    refine List.ext_getElem? fun j => ?_
    by_cases hj : j < xs.length
    · exact of_decide_eq_true (h1 j (List.mem_range.mpr (by omega)))
    · rw [List.getElem?_eq_none (by omega), List.getElem?_eq_none (by omega)]
  · rintro rfl
    exact ⟨fun j _ => decide_eq_true rfl, rfl⟩
theorem strs_nth : ∀ {zs : List Str} {its : List Value}, Vals (zs.map V.str) its → ∀ (j : Nat) (h : j < its.length), ∃ z tk, zs[j]? = some z ∧ its[j] = .str z tk
  | [], [], .nil, j, h => absurd h (Nat.not_lt_zero _)
  | z :: zs, _, .cons r t, 0, h => by
    obtain ⟨tk, rfl⟩ := r
    exact ⟨z, tk, rfl, rfl⟩
  | z :: zs, _, .cons r t, j + 1, h => by
    obtain ⟨y, tk, e1, e2⟩ := strs_nth t j (Nat.lt_of_succ_lt_succ h)
    exact ⟨y, tk, e1, e2⟩
theorem refs_nth : ∀ {as : List Addr} {its : List Value}, Vals (as.map V.ref) its → ∀ (j : Nat) (h : j < its.length), ∃ a, as[j]? = some a ∧ its[j] = .ref a
  | [], [], .nil, j, h => absurd h (Nat.not_lt_zero _)
  | a :: as, _, .cons r t, 0, h => by
    obtain rfl := r
    exact ⟨a, rfl, rfl⟩
  | a :: as, _, .cons r t, j + 1, h => refs_nth t j (Nat.lt_of_succ_lt_succ h)
section
variable {X : Cx} {pins : List (Addr × Obj)} {σ : L2.St} {H : Hp} {s : Shared}
theorem eqT_at (I : Inv X pins σ H s) {A : Around} {a b : Addr} {xs ys : List Str} (ha : H a = some (.tup (xs.map V.str))) (hb : H b = some (.tup (ys.map V.str))) (hu : A.units < cLine) : SeqAt.RcAt A s (.ref a) (.ref b) (decide (xs = ys)) := by
  obtain ⟨it1, r1, p1, _⟩ := I.tuple (SqT.of ha)
  obtain ⟨it2, r2, p2, _⟩ := I.tuple (SqT.of hb)
  have l1 : it1.length = xs.length := by rw [← r1.length, List.length_map]
  have l2 : it2.length = ys.length := by rw [← r2.length, List.length_map]
  have z := SeqAt.RcAt.tuples (A := A) (s := s) (e := fun j => decide (xs[j]? = ys[j]?)) p1 p2 hu fun j h1 h2 => by
    obtain ⟨x, t1, e1, q1⟩ := strs_nth r1 j h1
    obtain ⟨y, t2, e2, q2⟩ := strs_nth r2 j h2
    have w := SeqAt.EqAt.str_str (A := A.in1) (s := s) x t1 y t2
    have e : decide (xs[j]? = ys[j]?) = (x == y) := by
      rw [e1, e2]
      refine Bool.eq_iff_iff.mpr ?_
      rw [decide_eq_true_eq, beq_iff_eq]
      exact ⟨fun h => Option.some.inj h, fun h => by rw [h]⟩
    show SeqAt.EqAt A.in1 s it1[j] it2[j] _
    rw [e, q1, q2]
    exact w
  rw [List.size_toArray, List.size_toArray, l1, l2, all_same] at z
  exact z
theorem eqTT_at (I : Inv X pins σ H s) {A : Around} {a b : Addr} {L M : List (Addr × List Str)} (ha : H a = some (.tup (L.map fun x => V.ref x.1))) (hb : H b = some (.tup (M.map fun x => V.ref x.1)))
    (hL : ∀ x ∈ L, H x.1 = some (.tup (x.2.map V.str))) (hM : ∀ x ∈ M, H x.1 = some (.tup (x.2.map V.str))) (hu : A.units + 1 < cLine) : SeqAt.RcAt A s (.ref a) (.ref b) (decide (L.map (·.2) = M.map (·.2))) := by
  obtain ⟨it1, r1, p1, _⟩ := I.tuple (SqT.of ha)
  obtain ⟨it2, r2, p2, _⟩ := I.tuple (SqT.of hb)
  have l1 : it1.length = (L.map (·.2)).length := by rw [← r1.length, List.length_map, List.length_map]
  have l2 : it2.length = (M.map (·.2)).length := by rw [← r2.length, List.length_map, List.length_map]
  have n1 : Vals ((L.map (·.1)).map V.ref) it1 := by rw [List.map_map]; exact r1
  have n2 : Vals ((M.map (·.1)).map V.ref) it2 := by rw [List.map_map]; exact r2
  have at_ : ∀ {L : List (Addr × List Str)} {j : Nat} {a : Addr}, (L.map (·.1))[j]? = some a → ∃ x ∈ L, x.1 = a ∧ (L.map (·.2))[j]? = some x.2 := fun {L j a} h => by
    rw [List.getElem?_map] at h
    cases e : L[j]? with
    | none => rw [e] at h; cases h
    | some x =>
      rw [e] at h
      exact ⟨x, List.mem_of_getElem? e, Option.some.inj h, by rw [List.getElem?_map, e]; rfl⟩
  have z := SeqAt.RcAt.tuples (A := A) (s := s) (e := fun j => decide ((L.map (·.2))[j]? = (M.map (·.2))[j]?)) p1 p2 (by omega) fun j h1 h2 => by
    obtain ⟨c, e1, q1⟩ := refs_nth n1 j h1
    obtain ⟨d, e2, q2⟩ := refs_nth n2 j h2
    obtain ⟨x, hx, rfl, ex⟩ := at_ e1
    obtain ⟨y, hy, rfl, ey⟩ := at_ e2
    have hx' := hL x hx
    have hy' := hM y hy
    have e : decide ((L.map (·.2))[j]? = (M.map (·.2))[j]?) = decide (x.2 = y.2) := by
      rw [ex, ey]
      refine Bool.eq_iff_iff.mpr ?_
      rw [decide_eq_true_eq, decide_eq_true_eq]
      exact ⟨fun h => Option.some.inj h, fun h => by rw [h]⟩
    show SeqAt.EqAt A.in1 s it1[j] it2[j] _
    rw [e, q1, q2]
    by_cases hc : x.1 = y.1
    · have : x.2 = y.2 := by
        rw [hc, hy'] at hx'
        have h3 : y.2.map V.str = x.2.map V.str := by injection hx' with h; injection h
        exact (List.map_inj_right fun _ _ h => by injection h).mp h3.symm
      rw [decide_eq_true this, hc]
      exact SeqAt.EqAt.same _
    · exact SeqAt.EqAt.of_refs hc (eqT_at I hx' hy' (by show A.units + 1 < cLine; omega))
  rw [List.size_toArray, List.size_toArray, l1, l2, all_same] at z
  exact z
def rEqTT : R2 := fun x y H Q => ∃ (a b : Addr) (L M : List (Addr × List Str)), x = .ref a ∧ y = .ref b ∧ H a = some (.tup (L.map fun x => V.ref x.1)) ∧ H b = some (.tup (M.map fun x => V.ref x.1)) ∧
  (∀ x ∈ L, H x.1 = some (.tup (x.2.map V.str))) ∧ (∀ x ∈ M, H x.1 = some (.tup (x.2.map V.str))) ∧ Q (.bl (decide (L.map (·.2) = M.map (·.2)))) H
theorem op_eqTT (hu : X.A.units + 1 < cLine) : OpR X (compareOp .Eq) rEqTT := by
  intro pins s σ H x y v u Q I rx ry h
  obtain ⟨a, b, L, M, rfl, rfl, ha, hb, hL, hM, q⟩ := h
  obtain rfl : v = Value.ref a := rx
  obtain rfl : u = Value.ref b := ry
  exact eqTT_at I ha hb hL hM hu _ _ _ _ ⟨.bl _, H, I, rfl, q⟩
end
end Own
/-! != of tuples of texts, and of tuples of such; a list of texts in a list of such; a tuple of texts not in a list of such -/
namespace Own
open PySem PySem.Spec PyProof.Rows L2 Sup
section
variable {X : Cx} {pins : List (Addr × Obj)} {σ : L2.St} {H : Hp} {s : Shared}
theorem strs_eq {A : Around} {xs ys : List Str} {it1 it2 : List Value} (r1 : Vals (xs.map V.str) it1) (r2 : Vals (ys.map V.str) it2) (j : Nat) (h1 : j < it1.toArray.size) (h2 : j < it2.toArray.size) : SeqAt.EqAt A s it1.toArray[j] it2.toArray[j] (decide (xs[j]? = ys[j]?)) := by
  obtain ⟨x, t1, e1, q1⟩ := strs_nth r1 j h1
  obtain ⟨y, t2, e2, q2⟩ := strs_nth r2 j h2
  have w := SeqAt.EqAt.str_str (A := A) (s := s) x t1 y t2
  have e : decide (xs[j]? = ys[j]?) = (x == y) := by
    rw [e1, e2]
    refine Bool.eq_iff_iff.mpr ?_
    rw [decide_eq_true_eq, beq_iff_eq]
    exact ⟨fun h => Option.some.inj h, fun h => by rw [h]⟩
  show SeqAt.EqAt A s it1[j] it2[j] _
  rw [e, q1, q2]
  exact w
/-- lists of texts -/
theorem eqL_at (I : Inv X pins σ H s) {A : Around} {a b : Addr} {xs ys : List Str} (ha : H a = some (.lst (xs.map V.str))) (hb : H b = some (.lst (ys.map V.str))) (hu : A.units < cLine) : SeqAt.RcAt A s (.ref a) (.ref b) (decide (xs = ys)) := by
  obtain ⟨it1, r1, p1, _⟩ := I.list (SqL.of ha)
  obtain ⟨it2, r2, p2, _⟩ := I.list (SqL.of hb)
  have l1 : it1.length = xs.length := by rw [← r1.length, List.length_map]
  have l2 : it2.length = ys.length := by rw [← r2.length, List.length_map]
  by_cases hl : it1.length = it2.length
  · have z := SeqAt.RcAt.lists (A := A) (s := s) (e := fun j => decide (xs[j]? = ys[j]?)) p1.isList p2.isList (by rw [List.size_toArray, List.size_toArray]; exact hl) hu fun j h1 h2 => strs_eq r1 r2 j h1 h2
    have e : ((List.range it1.toArray.size).all fun j => decide (xs[j]? = ys[j]?)) = decide (xs = ys) := by
      rw [← all_same xs ys, List.size_toArray, l1, show min xs.length ys.length = xs.length by omega, show (xs.length == ys.length) = true by rw [beq_iff_eq]; omega, Bool.and_true]
    rw [e] at z
    exact z
  · have z := SeqAt.RcAt.lists_lengths (A := A) (s := s) p1.isList p2.isList (by rw [List.size_toArray, List.size_toArray, bne_iff_ne]; exact hl) hu
    rw [decide_eq_false (fun e => hl (by rw [l1, l2, e]))]
    exact z
end
end Own
/-! enumerate of a tuple. -/
namespace EnT
open PySem PySem.Spec PyProof.Rows L2
open AutoSeq1 (wpAny_loadPart')
def tupIt (l : Addr) : Obj := { cls := .type "tuple_iterator", data := .fields #[.ref l, .int 0 0] }
def enumO (it : Addr) : Obj := { cls := .type "enumerate", data := .fields #[.none, .bool false, .ref it, rawInt 0, .none, .none] }
set_option maxHeartbeats 1000000 in
theorem meets_new (l : Addr) (items : Array Value) (n : Nat) (dct : Option Addr) (sl : Array (Option Value)) :
    Meets (Builtin.«enumerate.__new__» ⟨[.type "enumerate", .ref l], []⟩)
      (fun _ R s => s.heap.get? l = some { cls := .type "tuple", dict := dct, data := .seq items n, slots := sl } ∧ R (.ok (.ret (.ref (s.heap.push (tupIt l)).objs.size))) { s with heap := (s.heap.push (tupIt l)).push (enumO s.heap.objs.size) }) :=
  .of_wp fun prog w A R s h => by
    obtain ⟨hp, g, d, tk, os⟩ := s
    obtain ⟨hl, h⟩ := h
    have hsub := sub_enumerate
    have hT : Heap.IsTuple (Shared.heap ⟨hp, g, d, tk, os⟩) l items := ⟨_, hl, rfl, n, rfl⟩
    wp_walk using wpAny_loadPart' hl
    refine wpAny_stack_any fun st => wpAny_pure ?_
    split
    · rename_i c _ _ _ _ _
      cases (c == Value.type "enumerate")
      all_goals
        wp_walk using wpAny_loadPart' hl, wpAny_pyIter_tuple hT
        exact ⟨_, rfl, h⟩
    · wp_walk using wpAny_loadPart' hl, wpAny_pyIter_tuple hT
      exact ⟨_, rfl, h⟩
section
variable {prog : Program} {w : World} {A : Around} {E : Value → Shared → Prop} {s : Shared}
theorem call_new {l : Addr} {items : Array Value} {Q : Value → Shared → Prop} (hL : s.heap.IsTuple l items)
    (h : ∀ h', IsEnum h' (s.heap.objs.size + 1) s.heap.objs.size 0 .none → h'.IsTupleIter s.heap.objs.size l 0 → (∀ b o, s.heap.get? b = some o → h'.get? b = some o) → Q (.ref (s.heap.objs.size + 1)) { s with heap := h' }) :
    wpAny (model prog w) A (call (.type "enumerate") [.ref l]) Q E s := by
  obtain ⟨⟨c, dct, dt, sl⟩, hl, hc, n, hd⟩ := hL
  obtain rfl : c = .type "tuple" := hc
  obtain rfl : dt = .seq items n := hd
  refine callType_new F.called_enumerate (by decide) (F.typeCall_enumerate_1 _) (F.newCall_enumerate_1 _) (fun obj => F.args_object_init_2 obj _) F.entry_enumerate_new (meets_new l items n dct sl) ⟨hl, ?_⟩
  have hz : (s.heap.push (tupIt l)).objs.size = s.heap.objs.size + 1 := Heap.size_push ..
  show _ ∧ _
  rw [hz]
  have he : IsEnum ((s.heap.push (tupIt l)).push (enumO s.heap.objs.size)) (s.heap.objs.size + 1) s.heap.objs.size 0 .none := by
    have q := Heap.get?_push_size (s.heap.push (tupIt l)) (o := enumO s.heap.objs.size) rfl
    rw [hz] at q
    exact q
  exact ⟨⟨_, he, rfl⟩, h _ he ⟨_, Heap.get?_push_of_some _ (Heap.get?_push_size _ rfl), rfl, rfl⟩ fun b o x => Heap.get?_push_of_some _ (Heap.get?_push_of_some _ x)⟩
end
/-- the tuple at a, each item in a new pair -/
def IteT (K : PySem.W.Frag) (a : Addr) : It :=
  ⟨fun i H => ∃ (xs : List V) (x : V), SqT K H a xs ∧ xs[i]? = some x, fun i H v H' => ∃ T x, v = .ref T ∧ H T = none ∧ H' = upd H T (.tup [.int (i : Nat), x]) ∧ ∀ xs, SqT K H a xs → xs[i]? = some x, fun i H => ∃ xs : List V, SqT K H a xs ∧ xs.length ≤ i⟩
theorem turn {P : Program} {w : World} {K : PySem.W.Frag} {elts : List Expr} {kk : Nat} {tpos : Pos} (a e it : Addr) (hai : a ≠ it) (hae : a ≠ e) :
    Turn P w K (.Tuple elts kk tpos) (IteT K a) [e, it] e (fun i h => (∃ old, IsEnum h e it ((i : Nat) : Int) old) ∧ h.IsTupleIter it a i ∧ e ≠ it) where
  mem := by simp
  obj := fun i h st b hb => by
    obtain ⟨⟨old, he⟩, ⟨o, ho, hc, hd⟩, _⟩ := st
    rcases (show b = e ∨ b = it by simpa using hb) with z | z <;> rw [z]
    · exact ⟨_, he, fun v q => nomatch q⟩
    · exact ⟨o, ho, fun v q => by rw [hd] at q; cases q⟩
  keep := fun i h h' st k => let ⟨⟨old, he⟩, hi, hne⟩ := st; ⟨⟨old, k e (by simp) _ he⟩, hi.at fun o q => k it (by simp) o q, hne⟩
  item := by
    intro X hP hw hK hc i pins s σ H E I hf st hg
    subst hP hw hK
    obtain ⟨⟨old, he⟩, hit, hne⟩ := st
    obtain ⟨xs, x, hq, hx⟩ := hg
    obtain ⟨its, rv, p, hz⟩ := I.tuple hq
    obtain ⟨u, hu, ru⟩ := rv.get hx
    have hel : e < s.heap.objs.size := Heap.lt_size he
    have hil : it < s.heap.objs.size := by obtain ⟨_, q, _⟩ := hit; exact Heap.lt_size q
    have hlt : i < its.toArray.size := by
      have := (List.getElem?_eq_some_iff.mp hu).1
      simpa using this
    refine wpAny_pyNext_enum_itemD (Draws.tuple (show X.A.in1.handled = none from I.ok.hd hc) it a hai its.toArray) he ⟨hit, p⟩ hlt hne (by simp [hne, Ne.symm hae]) fun y h' tk hy ho hs' hT hsz hk => ?_
    obtain rfl : u = y := by
      have q : its.toArray[i]? = some u := by simpa using hu
      rw [q] at hy
      exact Option.some.inj hy
    refine ⟨_, rfl, wpAny_letOwnedTupleGo_enum (s := { s with heap := h', toks := tk + 1 }) ho fun h'' he' sb => ?_⟩
    have hT2 : h''.get? s.heap.objs.size = some { cls := .type "tuple", data := .seq #[.int i tk, u] } := (sb.2 _ (Nat.ne_of_gt hel)).trans hT
    have new : ObjOk X.prog X.w (upd H s.heap.objs.size (.tup [.int (i : Nat), x])) h'' s.heap.objs.size (.tup [.int (i : Nat), x]) := ⟨by show 2 ≤ sizeLine; decide, [.int i tk, u], .cons ⟨_, rfl⟩ (.cons ru .nil), ⟨_, hT2, rfl, _, rfl⟩⟩
    have I1 : Inv X pins σ (upd H s.heap.objs.size (.tup [.int (i : Nat), x])) { s with heap := h'', toks := tk + 1 } :=
      I.turnedNew (ch := [e, it]) (fun b ob hb q => (sb.2 b (fun z => hb (by simp [z]))).trans (hk b ob (fun z => hb (by simp [z])) (fun z => hb (by simp [z])) q)) hf (Nat.le_refl _) new
    refine ⟨.ref s.heap.objs.size, _, I1, rfl, ⟨_, x, rfl, I.hok.fresh (Nat.le_refl _), rfl, fun ys hy => by rw [I.tuple_inj hy hq]; exact hx⟩, ⟨⟨u, ?_⟩, hs'.1.at fun o q => (sb.2 it (Ne.symm hne)).trans q, hne⟩, fun b hb => ?_⟩
    · rw [show ((i + 1 : Nat) : Int) = (i : Int) + 1 by omega]
      exact he'
    · have hb' : b < s.heap.objs.size := by rcases (show b = e ∨ b = it by simpa using hb) with z | z <;> rw [z] <;> assumption
      rw [upd_ne (Nat.ne_of_lt hb')]
      exact (hf b hb).1
  done := by
    intro X hP hw hK hc i pins s σ H E I hf st hg
    subst hP hw hK
    obtain ⟨⟨old, he⟩, hit, hne⟩ := st
    obtain ⟨xs, hq, hx⟩ := hg
    obtain ⟨its, rv, p, hz⟩ := I.tuple hq
    have hl := rv.length
    have hnone : its.toArray[i]? = none := by simp; omega
    have D : Draws X.prog X.w X.A.in1 it [it, a] i (fun _ _ => False) (fun j h => j = i ∧ h.IsTupleIter it a i ∧ h.IsTuple a its.toArray) :=
      ⟨fun j h st => let ⟨o, ho, _⟩ := st.2.1; ⟨o, ho⟩, fun j h h' st hk => ⟨st.1, st.2.1.at fun o e => hk it (by simp) o e, st.2.2.at fun o e => hk a (by simp) o e⟩,
        fun j s Q E hj st => absurd st.1 (Nat.ne_of_lt hj), fun s Q E st hE => wpAny_nextOf_tuple_end (show X.A.in1.handled = none from I.ok.hd hc) st.2.1 st.2.2 hnone hE⟩
    obtain ⟨f0, f1, f2, f3, f4, f5⟩ := hf it (by simp)
    exact wpAny_pyNext_enum_endD D he ⟨rfl, hit, p⟩ fun h' eb => ⟨rfl, I.turned (t' := s.toks) (fun b o hb q => eb b o hb q) f0 f1 f3 f4 f5⟩
  self := fun A i s Q E st h => let ⟨⟨_, he⟩, _⟩ := st; wpAny_pyIter_enum he h
def iEnumA (K : PySem.W.Frag) (ta : TA) : TI := fun σ H R => ta σ H fun vs H1 => ∃ a xs, vs = [.ref a] ∧ ((SqL K H1 a xs ∧ R (Ite K a) H1) ∨ (SqT K H1 a xs ∧ R (IteT K a) H1))
theorem pi_enumA {X : Cx} {e : Expr} {ta : TA} {p pos tpos : Pos} {elts : List Expr} {kk : Nat} (hg : Gl X "enumerate") (hm : X.mg "enumerate" = none) (ha : PA X [e] ta) (hs : starEach [e] X.env = [(false, eval e X.env)] := by rfl) :
    PI X (.Tuple elts kk tpos) (.Call (.Name "enumerate" p) [e] [] pos) (iEnumA X.K ta) := by
  refine ⟨fun pins s σ H R I h => ?_⟩
  refine Call_ (ld_blt I hg hm boot_enumerate (PyProof.Rows.callWith_type1 (thn (ha.run pos pins s σ H _ I h) fun us s1 ⟨vs, H1, I1, r1, q1⟩ => ?_) hs rfl))
  obtain ⟨a, xs, ex, hq⟩ := q1
  subst ex
  cases r1 with
  | cons r rr =>
    cases rr
    cases r
    have low : ∀ b ∈ [s1.heap.objs.size + 1, s1.heap.objs.size], s1.heap.objs.size ≤ b := fun b hb => by
      rcases (show b = s1.heap.objs.size + 1 ∨ b = s1.heap.objs.size by simpa using hb) with z | z <;> omega
    rcases hq with ⟨hq, q⟩ | ⟨hq, q⟩
    · obtain ⟨its, rv, p', hz⟩ := I1.list hq
      refine call_enumerate_list p'.isList fun h' he hit hsz hk => wpAny_pyIter_enum he ?_
      exact ⟨s1.heap.objs.size + 1, [s1.heap.objs.size + 1, s1.heap.objs.size], _, _, H1, rfl, I1.kept (t' := s1.toks) hk, turn_enum a (s1.heap.objs.size + 1) s1.heap.objs.size, ⟨⟨.none, he⟩, hit, Nat.succ_ne_self _⟩, fun b hb => I1.fpOk (low b hb) (I1.hok.fresh (low b hb)), q⟩
    · obtain ⟨its, rv, p', hz⟩ := I1.tuple hq
      have la : a < s1.heap.objs.size := by obtain ⟨o, ho, _⟩ := p'; exact Heap.lt_size ho
      refine call_new p' fun h' he hit hk => wpAny_pyIter_enum he ?_
      exact ⟨s1.heap.objs.size + 1, [s1.heap.objs.size + 1, s1.heap.objs.size], _, _, H1, rfl, I1.kept (t' := s1.toks) hk, turn a (s1.heap.objs.size + 1) s1.heap.objs.size (Nat.ne_of_lt la) (Nat.ne_of_lt (Nat.lt_succ_of_lt la)), ⟨⟨.none, he⟩, hit, Nat.succ_ne_self _⟩, fun b hb => I1.fpOk (low b hb) (I1.hok.fresh (low b hb)), q⟩
theorem walk_enumT {K : PySem.W.Frag} {a : Addr} {xs : List V} : Walk (IteT K a) xs.length (fun H => SqT K H a xs) (YPair (fun i => some (.int (i : Nat))) (fun i => xs[i]?)) := by
  refine ⟨fun i _ hi q => ⟨xs, xs[i], q, by simp [hi]⟩, fun _ q => ⟨xs, q, Nat.le_refl _⟩, fun i H v H' _ q y => ?_⟩
  obtain ⟨T, x, h1, h2, h3, h4⟩ := y
  exact ⟨T, .int (i : Nat), x, h1, h2, h3, rfl, h4 xs q⟩
end EnT
namespace EnT
open PySem PySem.Spec PyProof.Rows L2
/-- what a for over J asks -/
def ForR (J : It) (g : TG) (tb : TS) (D : Ends) (σ : L2.St) (H : Hp) : Prop :=
  ∃ W : Nat → Nat → L2.St → Hp → Prop, (∃ m, W 0 m σ H) ∧ ∀ i m σ H, W i m σ H → (J.stop i H ∧ D.nx σ H) ∨
    (J.go i H ∧ ∃ N : L2.St → Hp → Prop, (∀ σ' H', N σ' H' → ∃ m', m' < m ∧ W (i + 1) m' σ' H') ∧ ∀ x H', J.yld i H x H' → g x σ H' fun σ2 H2 => tb { D with nx := N, ct := N, bk := D.nx } σ2 H2)
/-- for .. in enumerate of a list or a tuple that stands -/
theorem for_enumA {K : PySem.W.Frag} {a : Addr} {xs : List V} {g : TG} {tb : TS} {D : Ends} {σ : L2.St} {H H0 : Hp} (h : SqL K H0 a xs ∨ SqT K H0 a xs) (Pv : Nat → L2.St → Hp → Prop) (h0 : Pv 0 σ H) (hG : ∀ i σ H', Pv i σ H' → ∀ b o, H0 b = some o → H' b = some o)
    (hs : ∀ i x σ H1 T, xs[i]? = some x → Pv i σ H1 → H1 T = none → g (.ref T) σ (upd H1 T (.tup [.int (i : Nat), x])) fun σ2 H2 => tb { D with nx := Pv (i + 1), ct := Pv (i + 1), bk := D.nx } σ2 H2)
    (hd : ∀ σ H', Pv xs.length σ H' → D.nx σ H') : (SqL K H a xs ∧ ForR (Ite K a) g tb D σ H) ∨ (SqT K H a xs ∧ ForR (IteT K a) g tb D σ H) := by
  have key : ∀ i x σ H1 H2, i < xs.length → Pv i σ H1 → YPair (fun i => some (.int (i : Nat))) (fun i => xs[i]?) i H1 x H2 → g x σ H2 fun σ2 H2 => tb { D with nx := Pv (i + 1), ct := Pv (i + 1), bk := D.nx } σ2 H2 := by
    rintro i _ σ H1 _ _ p ⟨T, x, y, rfl, hT, rfl, hx, hy⟩
    cases hx
    exact hs i y σ H1 T hy p hT
  rcases h with h | h
  · have st : ∀ i σ H', Pv i σ H' → SqL K H' a xs := fun i σ H' p => h.imp (fun r => r.imp (hG i σ H' p _ _) fun ⟨o, q⟩ => ⟨o, hG i σ H' p _ _ q⟩) id
    exact .inl ⟨st _ _ _ h0, for_it walk_enum Pv h0 (fun i σ H' _ p => st i σ H' p) key hd⟩
  · have st : ∀ i σ H', Pv i σ H' → SqT K H' a xs := fun i σ H' p => h.imp (fun r => r.imp (hG i σ H' p _ _) fun ⟨o, q⟩ => ⟨o, hG i σ H' p _ _ q⟩) id
    exact .inr ⟨st _ _ _ h0, for_it walk_enumT Pv h0 (fun i σ H' _ p => st i σ H' p) key hd⟩
end EnT
namespace Sj
open PySem L2 Sup StK Own Shw Exg Grd KepE
open NdefX (NF NScope ncx envF startF nscope_by)
open C8 (pss_cut tCut)
/-! k65: what a chain tells -/
/-- a chain of the frame at f -/
structure ChIs (ks : Kinds) (CF CC : Addr) (H : Hp) (o f : Addr) (d : FrD) (L : List (Addr × List Str)) : Prop where
  at_ : ChAt H o CC f L
  fr : FrIs ks CF H f d
  p : Parts d L
theorem ChIs.same {ks : Kinds} {CF CC : Addr} {H H' : Hp} {o f : Addr} {d : FrD} {L : List (Addr × List Str)} (h : ChIs ks CF CC H o f d L) (s : Same H H') : ChIs ks CF CC H' o f d L := ⟨h.at_.same s, h.fr.same s, h.p⟩
theorem Parts.le40 {ks : Kinds} {CF : Addr} {H : Hp} {f : Addr} {d : FrD} {L : List (Addr × List Str)} (p : Parts d L) (h : FrIs ks CF H f d) : (allN L).length ≤ 40 := by
  rw [p.pm.length_eq]
  unfold names
  rw [List.length_map]
  exact h.le
theorem Parts.nd {ks : Kinds} {CF : Addr} {H : Hp} {f : Addr} {d : FrD} {L : List (Addr × List Str)} (p : Parts d L) (h : FrIs ks CF H f d) : (allN L).Nodup := p.pm.nodup_iff.mpr h.nd
/-- what is known of the class -/
structure ChM (K : PySem.W.Frag) (mg : Str → Option Value) (CF CC : Addr) : Prop where
  cl : Cls K CC
  nF : NoAttr K CC "frame"
  nP : NoAttr K CC "parts"
  cf : Cls K CF
  nT : NoAttr K CF "top"
  tuple : mg "tuple" = none
  len : mg "len" = none
abbrev sChC : Stmt := inClass (top 28) 3
abbrev sChP : Stmt := inClass (top 28) 4
abbrev sChN : Stmt := inClass (top 28) 5
abbrev sChL : Stmt := inClass (top 28) 7
abbrev sChQ : Stmt := inClass (top 28) 8
theorem scChC : FnScope ["self", "marks", "part", "cell"] ["self"] (defScope sChC) := ⟨rfl, rfl, rfl, by decide +kernel, rfl, by decide +kernel, by decide +kernel⟩
theorem scChP : FnScope ["self", "name", "number", "part"] ["self", "name"] (defScope sChP) := ⟨rfl, rfl, rfl, by decide +kernel, rfl, by decide +kernel, by decide +kernel⟩
theorem scChN : FnScope ["self", "word", "top", "digits", "cell"] ["self", "word"] (defScope sChN) := ⟨rfl, rfl, rfl, by decide +kernel, rfl, by decide +kernel, by decide +kernel⟩
def cellsV (t : Int) (L : List (Addr × List Str)) : List V := L.flatMap fun x => strv x.2 ++ [.int 0, .int t]
theorem cells_snoc {t : Int} {L : List (Addr × List Str)} {i : Nat} {y : Addr × List Str} (h : L[i]? = some y) : cellsV t (L.take (i + 1)) = cellsV t (L.take i) ++ (strv y.2 ++ [.int 0, .int t]) := by
  unfold cellsV
  rw [List.take_add_one, h, Option.toList_some, List.flatMap_append]
  simp
theorem cells_len (t : Int) (L : List (Addr × List Str)) : (cellsV t L).length = (allN L).length + 2 * L.length := by
  unfold cellsV allN
  induction L with
  | nil => rfl
  | cons x L ih =>
    rw [List.flatMap_cons, List.flatMap_cons, List.length_append, List.length_append, ih, List.length_append, List.length_cons]
    have : (strv x.2).length = x.2.length := List.length_map _
    simp only [List.length_cons, List.length_nil]
    omega
theorem allN_take_le (L : List (Addr × List Str)) (i : Nat) : (allN (L.take i)).length ≤ (allN L).length := by
  have e : allN L = allN (L.take i) ++ allN (L.drop i) := by
    unfold allN
    rw [← List.flatMap_append, List.take_append_drop]
  rw [e, List.length_append]
  omega
def spChC (ks : Kinds) (CF CC : Addr) : Sp := fun vs H Q _ => ∃ o f d L, vs = [.ref o] ∧ ChIs ks CF CC H o f d L ∧ ∀ p H', H p = none → H' p = some (.tup (cellsV d.t L)) → Same H H' → Q (.ref p) H'
def spChP (ks : Kinds) (CF CC : Addr) : Sp := fun vs H Q _ => ∃ o f d L, ∃ (j : Nat) (y : Addr × List Str) (z : Str), vs = [.ref o, .str z] ∧ ChIs ks CF CC H o f d L ∧ L[j]? = some y ∧ z ∈ y.2 ∧ ∀ H', Same H H' → Q (.int j) H'
def spWGetI (ks : Kinds) (CF CW : Addr) : Sp := fun vs H Q _ => ∃ a d gv z, vs = [.ref a, .str z] ∧ WdIs ks CF CW H a d gv ∧ z ∈ names d.ys ∧ Q (.int (wlv ks d gv z)) H
/-- what enters, behind the head -/
def digV (ks : Kinds) (e : FrD) (gv : List (Str × Int)) (t : Int) (L : List (Addr × List Str)) : List V := L.flatMap fun x => (x.2.map fun z => V.int (wlv ks e gv z)) ++ [.int t, .int t]
def spChN (ks : Kinds) (CF CC CW : Addr) : Sp := fun vs H Q _ => ∃ o f d L a e gv, vs = [.ref o, .ref a] ∧ ChIs ks CF CC H o f d L ∧ WdIs ks CF CW H a e gv ∧ (∀ z ∈ names d.ys, z ∈ names e.ys) ∧ ∀ p H', H p = none → H' p = some (.tup (.int 0 :: .int d.t :: (digV ks e gv d.t L).reverse)) → Same H H' → Q (.ref p) H'
def spChL (ks : Kinds) (CF CC : Addr) : Sp := fun vs H Q _ => ∃ o f d L, vs = [.ref o] ∧ ChIs ks CF CC H o f d L ∧ Q (.int L.length) H
def eqCh (d e : FrD) (L M : List (Addr × List Str)) : Bool := eqFr d e && decide (L.map (·.2) = M.map (·.2))
def spCEq (K : PySem.W.Frag) (ks : Kinds) (CF CC : Addr) : Sp := fun vs H Q _ => ∃ o f d L y, vs = [.ref o, y] ∧ ChIs ks CF CC H o f d L ∧ ((∃ b g e M, y = .ref b ∧ ChIs ks CF CC H b g e M ∧ ∀ H', Same H H' → Q (.bl (eqCh d e L M)) H') ∨ ∃ t, TyX K H y t ∧ PySem.W.kitOne K t (.ref CC) = some false ∧ ∀ H', Same H H' → Q (.bl false) H')
section
variable {P : Program} {w : World} {K : PySem.W.Frag} {mg : Str → Option Value} {base : Heap}
theorem ok_wgi {f CF CW : Addr} {fd : FuncData} {ks : Kinds} (F : Fun K "__getitem__" "Word.__getitem__" (sWd 5) f fd) (T : WfT P w K mg base ks CF CW) (TI : MetN P w K mg base CX0 1 CF "__contains__" ["self", "x"] (spFIs K ks CF)) : FnOk P w K mg base CX0 2 f fd ["self", "at"] (spWGetI ks CF CW) := by
  have sc : FnScope ["self", "at"] ["self", "at"] (defScope (sWd 5)) := ⟨rfl, rfl, rfl, by decide +kernel, rfl, by decide +kernel, by decide +kernel⟩
  refine F.ok sc (fun vs H Q E h => ?_) (fun cdv A outer s H vs Q E hr h => ?_)
  · obtain ⟨a, d, gv, z, rfl, _⟩ := h
    rfl
  · obtain ⟨a, d, gv, z, rfl, hW, hz, k⟩ := h
    obtain ⟨fr, dx, D, ea, eD, hne, hF⟩ := hW.ex
    obtain ⟨dy, DD, ef, _⟩ := hF.at_
    refine ⟨_, pss_cons (ps_if (pt_cmpR (op_inN TI hr) (pv 1) (pe_fld (pv 0) rfl) (by rfl)) (pss_one (ps_ret (pe_dget2 (hu_of hr) (pe_fld (pv 0) rfl) (pv 1) (pe_fld (pe_fld (pv 0) rfl) rfl) ⟨rfl, rfl, rfl, rfl⟩))) pss_nil) pss_never, ?_⟩
    refine ⟨_, rfl, _, rfl, a, CW, dx, _, _, rfl, ea, T.cw, T.nF, wdF_frame _ _, ?_⟩
    refine ⟨fr, dy, _, rfl, ef, fr, d, _, rfl, hF, ?_⟩
    refine .inl ⟨z, rfl, hz, true, rfl, _, rfl, iteT ?_⟩
    refine ⟨_, rfl, a, CW, dx, _, _, rfl, ea, T.cw, T.nL, wdF_lv _ _, D, rfl, .inl ⟨_, .inl eD⟩, _, rfl, _, rfl, a, CW, dx, _, _, rfl, ea, T.cw, T.nF, wdF_frame _ _, fr, CF, dy, _, _, rfl, ef, T.cf, T.nT, frF_top _ _ _ _, _, DGet.k (k := Sum.inr z) eD, ?_⟩
    rw [valV_lv]
    have e2 : (Option.map V.int (lvG (lvAll ks d gv) z)).getD (.int d.t) = .int (wlv ks d gv z) := by
      unfold wlv lvl
      cases lvG (lvAll ks d gv) z <;> rfl
    rw [e2]
    exact k
theorem ok_chl {f CF CC : Addr} {fd : FuncData} {ks : Kinds} (F : Fun K "__len__" "Chain.__len__" sChL f fd) (T : ChM K mg CF CC) : FnOk P w K mg base CX0 1 f fd ["self"] (spChL ks CF CC) := by
  have sc : FnScope ["self"] ["self"] (defScope sChL) := ⟨rfl, rfl, rfl, by decide +kernel, rfl, by decide +kernel, by decide +kernel⟩
  refine F.ok sc (fun vs H Q E h => ?_) (fun cdv A outer s H vs Q E hr h => ?_)
  · obtain ⟨o, f, d, L, rfl, _⟩ := h
    rfl
  · obtain ⟨o, f, d, L, rfl, hC, k⟩ := h
    obtain ⟨dx, B, h1, h2, h3⟩ := hC.at_
    refine ⟨_, pss_one (ps_ret (pe_callB call_len_seq (by rfl) T.len PySem.boot_len (pa_cons (pe_fld (pv 0) rfl) pa_nil))), ?_⟩
    refine ⟨_, rfl, o, CC, dx, _, _, rfl, h1, T.cl, T.nP, chF_parts _ _, B, _, rfl, .inr (SqT.of h2), ?_⟩
    rw [refsB_len]
    exact k
def tSt (K : PySem.W.Frag) : TE := tTup (StX.tStar K (tVar 2) (StX.tStar K (tVar 1) tNil))
theorem ok_chc {f CF CC : Addr} {fd : FuncData} {ks : Kinds} (F : Fun K "cells" "Chain.cells" sChC f fd) (T : ChM K mg CF CC) : FnOk P w K mg base CX0 1 f fd ["self"] (spChC ks CF CC) := by
  refine F.ok scChC (fun vs H Q E h => ?_) (fun cdv A outer s H vs Q E hr h => ?_)
  · obtain ⟨o, f, d, L, rfl, _⟩ := h
    rfl
  · obtain ⟨o, f, d, L, rfl, hC, k⟩ := h
    obtain ⟨dx, B, h1, h2, h3⟩ := hC.at_
    obtain ⟨dy, DD, ef, _⟩ := hC.fr.at_
    have h40 := hC.p.le40 hC.fr
    have h8 := hC.p.l8
    refine ⟨_, pss_cons (ps_set (i := 1) scChC.nd rfl (Or.inr rfl) (pe_tup (pa_cons pe_int (pa_cons (pe_fld (pe_fld (pv 0) rfl) rfl) pa_nil))))
      (pss_one (ps_ret (pe_callTy (T := "tuple") call_tuple_of (by rfl) T.tuple (by decide +kernel) (pa_cons (pe_lc2 (wi1 := iTup K (tSt K)) (te := tVar 3) (tt := tYes) (tt1 := tYes) (own := [("part", 2), ("cell", 3)]) (vs1 := [3]) (g := gName 2) (g1 := gName 3) rfl scChC.nd (pi_tup (pe_fld (pv 0) rfl)) (blkOk_by (N := ["self", "marks", "part", "cell"]) (sc := defScope sChC) (by decide +kernel)) (by decide)
          (fun _ _ _ _ _ => pg_name (i := 2) scChC.nd rfl (Or.inl rfl)) (fun _ _ _ _ _ => pts_nil) (fun _ _ _ _ _ => pi_tup (pe_tup (StX.pa_star (pv 2) (StX.pa_star (pv 1) pa_nil)))) (fun _ _ _ _ _ => pg_name (i := 3) scChC.nd rfl (Or.inl rfl)) (fun _ _ _ _ _ => pts_nil) (fun _ _ _ _ _ => pv 3)) pa_nil)))), ?_⟩
    refine ⟨_, rfl, o, CC, dx, _, _, rfl, h1, T.cl, T.nF, chF_frame _ _, f, CF, dy, _, _, rfl, ef, T.cf, T.nT, frF_top _ _ _ _, by show 2 ≤ sizeLine; decide, fun m hm => ?_⟩
    have s1 := same_at (o := .tup [V.int 0, .int d.t]) hm
    obtain ⟨H1, e1⟩ : ∃ H1, H1 = upd H m (.tup [V.int 0, .int d.t]) := ⟨_, rfl⟩
    have hm1 : H1 m = some (.tup [V.int 0, .int d.t]) := by rw [e1, upd_same]
    rw [← e1] at s1 ⊢
    refine ⟨_, rfl, o, CC, dx, _, _, rfl, s1 _ _ h1, T.cl, T.nP, chF_parts _ _, B, rfl, ⟨_, SqT.of (s1 _ _ h2)⟩, fun D hD => ?_⟩
    refine lc2_it (walk_tup (K := K) (a := B) (xs := refsB L)) (fun i H' => Same H1 H' ∧ H' D = some (.lst (cellsV d.t (L.take i)))) ⟨same_at hD, upd_same⟩ (fun i H' _ p => SqT.of (p.1 _ _ (s1 _ _ h2))) ?_ ?_
    · rintro i x Ho Ha hi ⟨sa, da⟩ ⟨rfl, hx⟩
      obtain ⟨y, hy, ey, rfl⟩ := refsB_at hx
      refine ⟨rfl, ?_⟩
      unfold tYes
      dsimp only
      rw [if_pos rfl]
      have hyl : (strv y.2).length = y.2.length := List.length_map _
      have hi' : i < L.length := by rw [← refsB_len L]; exact hi
      have hle : (cellsV d.t (L.take i)).length + (y.2.length + 2) ≤ 60 := by
        have q := cells_len d.t (L.take (i + 1))
        rw [cells_snoc ey, List.length_append, List.length_append, hyl] at q
        have q2 := allN_take_le L (i + 1)
        simp only [List.length_cons, List.length_nil, List.length_take] at q
        omega
      refine ⟨_, rfl, y.1, _, rfl, .inl (SqT.of (sa _ _ (s1 _ _ (h3 y hy)))), _, rfl, m, _, rfl, .inl (SqT.of (sa _ _ hm1)), ?_, fun c hc => ?_⟩
      · rw [List.length_append, hyl]
        exact Nat.le_trans (show _ ≤ 62 by simp only [List.length_append, List.length_cons, List.length_nil]; omega) (by decide)
      obtain ⟨row, er⟩ : ∃ row, row = strv y.2 ++ ([V.int 0, .int d.t] ++ []) := ⟨_, rfl⟩
      have erow : row = strv y.2 ++ [V.int 0, .int d.t] := by rw [er, List.append_nil]
      rw [← er] at *
      have sc := same_at (o := .tup row) hc
      have hrl : row.length = y.2.length + 2 := by rw [erow, List.length_append, hyl]; rfl
      have hcr : upd Ha c (.tup row) c = some (.tup row) := upd_same
      obtain ⟨Hb, eb⟩ : ∃ Hb, Hb = upd Ha c (.tup row) := ⟨_, rfl⟩
      rw [← eb] at sc hcr ⊢
      refine ⟨c, rfl, ⟨_, SqT.of hcr⟩, ?_⟩
      have ncD : c ≠ D := fun q => by rw [q, da] at hc; cases hc
      refine in_it (walk_tup (K := K) (a := c) (xs := row)) (fun j H' => Same H1 H' ∧ H' c = some (.tup row) ∧ H' D = some (.lst (cellsV d.t (L.take i) ++ row.take j))) ⟨sa.trans sc, hcr, by rw [List.take_zero, List.append_nil]; exact sc _ _ da⟩ (fun j H' _ p => SqT.of p.2.1) ?_ ?_
      · rintro j x Hc Hd hj ⟨sc', cc, dc⟩ ⟨rfl, hxj⟩
        refine ⟨rfl, ?_⟩
        dsimp only
        rw [if_pos rfl]
        refine ⟨_, rfl, _, dc, ?_, fun b o e => ?_, ?_, ?_⟩
        · rw [List.length_append, List.length_take]
          exact Nat.lt_of_le_of_lt (show _ ≤ 60 by omega) (by decide)
        · rw [upd_ne (ne_of_none e hD)]
          exact sc' _ _ e
        · rw [upd_ne ncD]
          exact cc
        · rw [upd_same, List.take_add_one, hxj, Option.toList_some, List.append_assoc]
      · rintro Hc ⟨sc', cc, dc⟩
        rw [List.take_length] at dc
        refine ⟨sc', ?_⟩
        rw [cells_snoc ey, ← erow]
        exact dc
    rintro H2 ⟨s2, d2⟩
    rw [refsB_len, List.take_length] at d2
    refine ⟨D, _, rfl, .inl ⟨SqL.of d2, fun p hp => ?_⟩⟩
    exact k p _ ((s1.trans s2).free hp) upd_same ((s1.trans s2).trans (same_at hp))
end
end Sj
namespace Sj
open PySem L2 Sup StK Own Shw Exg Grd KepE
open NdefX (NF NScope ncx envF startF nscope_by)
open C8 (pss_cut tCut)
/-! k65: part_of, entering, == of chains -/
def ttPo (K : PySem.W.Frag) : TT := tTest (tOp (rIn K false) (tVar 1) (tVar 3))
theorem allN_two {L : List (Addr × List Str)} {i j : Nat} {x y : Addr × List Str} {z : Str} (h : (allN L).Nodup) (hi : L[i]? = some x) (hj : L[j]? = some y) (hx : z ∈ x.2) (hy : z ∈ y.2) : i = j := by
  induction L generalizing i j with
  | nil => cases hi
  | cons u L ih =>
    have e : allN (u :: L) = u.2 ++ allN L := rfl
    rw [e] at h
    obtain ⟨h1, h2, h3⟩ := List.nodup_append.mp h
    have mem : ∀ {k : Nat} {v : Addr × List Str}, L[k]? = some v → z ∈ v.2 → z ∈ allN L := fun {k v} hk hv => List.mem_flatMap.mpr ⟨v, List.mem_of_getElem? hk, hv⟩
    match i, j with
    | 0, 0 => rfl
    | 0, j + 1 =>
      obtain rfl := Option.some.inj hi
      exact absurd rfl (h3 z hx z (mem hj hy))
    | i + 1, 0 =>
      obtain rfl := Option.some.inj hj
      exact absurd rfl (h3 z hy z (mem hi hx))
    | i + 1, j + 1 => rw [ih h2 hi hj]
section
variable {P : Program} {w : World} {K : PySem.W.Frag} {mg : Str → Option Value} {base : Heap}
theorem ok_chp {f CF CC : Addr} {fd : FuncData} {ks : Kinds} (F : Fun K "part_of" "Chain.part_of" sChP f fd) (T : ChM K mg CF CC) (TI : MetN P w K mg base CX0 1 CF "__contains__" ["self", "x"] (spFIs K ks CF)) (mE : mg "enumerate" = none) : FnOk P w K mg base CX0 2 f fd ["self", "name"] (spChP ks CF CC) := by
  refine F.ok scChP (fun vs H Q E h => ?_) (fun cdv A outer s H vs Q E hr h => ?_)
  · obtain ⟨o, f, d, L, j, y, z, rfl, _⟩ := h
    rfl
  · obtain ⟨o, f, d, L, j, y, z, rfl, hC, ey, hz, k⟩ := h
    obtain ⟨dx, B, h1, h2, h3⟩ := hC.at_
    obtain ⟨dy, fs, ef⟩ := hC.fr.ins
    refine ⟨_, pss_cons (ps_if (pt_cmpR (op_notInN TI hr) (pv 1) (pe_fld (pv 0) rfl) (by rfl)) pss_never pss_nil)
      (pss_one (ps_ret (pe_ix ix_list (pe_lc (te := tVar 2) (tt := ttPo K) (own := [("number", 2), ("part", 3)]) (g := gTup K 2 (gCons (gName 2) (gCons (gName 3) gNil))) rfl scChP.nd (EnT.pi_enumA (by rfl) mE (pa_cons (pe_fld (pv 0) rfl) pa_nil))
        (blkOk_by (N := ["self", "name", "number", "part"]) (sc := defScope sChP) (by decide +kernel)) (fun _ _ _ _ _ => pg_tup rfl (pgs_cons (pg_name (i := 2) scChP.nd rfl (Or.inl rfl)) (pgs_cons (pg_name (i := 3) scChP.nd rfl (Or.inl rfl)) pgs_nil)))
        (fun _ _ _ _ _ => pts_one (pt_cmpR op_in_seq (pv 1) (pv 3) (by rfl))) (fun _ _ _ _ _ => pv 2)) pe_int (fun _ _ => rfl)))), ?_⟩
    have hzn : z ∈ names d.ys := hC.p.pm.mem_iff.mp (List.mem_flatMap.mpr ⟨y, List.mem_of_getElem? ey, hz⟩)
    have hnd := hC.p.nd hC.fr
    have h8 := hC.p.l8
    refine ⟨_, rfl, _, rfl, o, CC, dx, _, _, rfl, h1, T.cl, T.nF, chF_frame _ _, f, dy, fs, rfl, ef, f, d, _, rfl, hC.fr, .inl ⟨z, rfl, hzn, true, rfl, _, rfl, iteF ?_⟩⟩
    refine ⟨_, rfl, o, CC, dx, _, _, rfl, h1, T.cl, T.nP, chF_parts _ _, B, _, rfl, .inr ⟨SqT.of h2, fun D hD => ?_⟩⟩
    refine lc_it (EnT.walk_enumT (K := K) (a := B) (xs := refsB L)) (fun i H' => Same H H' ∧ H' D = some (.lst (if j < i then [V.int j] else []))) ⟨same_at hD, by rw [if_neg (Nat.not_lt_zero j)]; exact upd_same⟩ (fun i H' _ p => SqT.of (p.1 _ _ h2)) ?_ ?_
    · rintro i x Ho Ha hi ⟨sa, da⟩ ⟨Tp, kx, vx, rfl, hT, rfl, hk, hv⟩
      dsimp only at hk hv
      obtain rfl : V.int (i : Nat) = kx := Option.some.inj hk
      obtain ⟨u, hu, eu, rfl⟩ := refsB_at hv
      have s2 := sa.trans (same_at (o := .tup [.int (i : Nat), .ref u.1]) hT)
      have d2 : upd Ho Tp (.tup [.int (i : Nat), .ref u.1]) D = some (.lst (if j < i then [V.int j] else [])) := by rw [upd_ne (ne_of_none da hT)]; exact da
      refine ⟨Tp, _, rfl, SqT.of upd_same, rfl, _, _, rfl, _, _, rfl, rfl, rfl, ?_⟩
      refine ⟨_, rfl, _, rfl, u.1, strv u.2, rfl, .inr (SqT.of (s2 _ _ (h3 u hu))), rfl, flat_strs _, decide (z ∈ u.2), congrArg V.bl (inV_strs u.2 z), ?_⟩
      by_cases hzu : z ∈ u.2
      · obtain rfl := allN_two hnd eu ey hzu hz
        rw [decide_eq_true hzu]
        rw [if_neg (Nat.lt_irrefl _)] at d2
        refine ⟨_, rfl, _, d2, by show 0 < sizeLine; decide, fun c o e => ?_, ?_⟩
        · rw [upd_ne (ne_of_none e hD)]
          exact s2 _ _ e
        · rw [upd_same, if_pos (Nat.lt_succ_self _)]
          rfl
      · rw [decide_eq_false hzu]
        refine ⟨s2, ?_⟩
        have ne : j ≠ i := fun e => by
          subst e
          rw [ey] at eu
          obtain rfl := Option.some.inj eu
          exact hzu hz
        rw [d2]
        by_cases hji : j < i
        · rw [if_pos hji, if_pos (by omega)]
        · rw [if_neg hji, if_neg (by omega)]
    rintro H1 ⟨s1, d1⟩
    have hjl : j < (refsB L).length := by rw [refsB_len]; exact (List.getElem?_eq_some_iff.mp ey).1
    rw [if_pos hjl] at d1
    exact ⟨D, _, 0, _, rfl, rfl, SqL.of d1, atI_nat (j := 0) rfl, k _ s1⟩
def teEn (K : PySem.W.Frag) (ks : Kinds) (CF CW : Addr) : TE := tIf (tB (tCB (rIsi K) (tCons (tVar 4) (tCons (tC (.ty "str")) tNil)))) (tItO CW (spWGetI ks CF CW) E0 (tVar 1) (tVar 4)) (tVar 2)
theorem dig_len (ks : Kinds) (e : FrD) (gv : List (Str × Int)) (t : Int) (L : List (Addr × List Str)) : (digV ks e gv t L).length = (cellsV t L).length := by
  unfold digV cellsV
  induction L with
  | nil => rfl
  | cons x L ih =>
    rw [List.flatMap_cons, List.flatMap_cons, List.length_append, List.length_append, ih, List.length_append, List.length_append, List.length_map]
    have : (strv x.2).length = x.2.length := List.length_map _
    rw [this]
    rfl
/-- a cell is the name of a leg, with its digit, or a mark, with top -/
theorem dig_at (ks : Kinds) (e : FrD) (gv : List (Str × Int)) (t : Int) (L : List (Addr × List Str)) (i : Nat) (x : V) (h : (cellsV t L)[i]? = some x) : (∃ z ∈ allN L, x = .str z ∧ (digV ks e gv t L)[i]? = some (.int (wlv ks e gv z))) ∨ (∃ n, x = .int n) ∧ (digV ks e gv t L)[i]? = some (.int t) := by
  induction L generalizing i with
  | nil => cases h
  | cons y L ih =>
    have e1 : cellsV t (y :: L) = (strv y.2 ++ [V.int 0, .int t]) ++ cellsV t L := rfl
    have e2 : digV ks e gv t (y :: L) = ((y.2.map fun z => V.int (wlv ks e gv z)) ++ [V.int t, .int t]) ++ digV ks e gv t L := rfl
    have e3 : allN (y :: L) = y.2 ++ allN L := rfl
    have l1 : (strv y.2).length = y.2.length := List.length_map _
    have l2 : (y.2.map fun z => V.int (wlv ks e gv z)).length = y.2.length := List.length_map _
    rw [e1] at h
    rw [e2, e3]
    by_cases hi : i < y.2.length + 2
    · rw [List.getElem?_append_left (by rw [List.length_append, l1]; exact hi)] at h
      rw [List.getElem?_append_left (by rw [List.length_append, l2]; exact hi)]
      by_cases hi2 : i < y.2.length
      · rw [List.getElem?_append_left (by rw [l1]; exact hi2)] at h
        rw [List.getElem?_append_left (by rw [l2]; exact hi2)]
        have ex : (strv y.2)[i]? = some (.str y.2[i]) := by show (y.2.map V.str)[i]? = _; rw [List.getElem?_map, List.getElem?_eq_getElem hi2]; rfl
        rw [ex] at h
        exact .inl ⟨y.2[i], List.mem_append_left _ (List.getElem_mem hi2), (Option.some.inj h).symm, by rw [List.getElem?_map, List.getElem?_eq_getElem hi2]; rfl⟩
      · rw [List.getElem?_append_right (by rw [l1]; omega), l1] at h
        rw [List.getElem?_append_right (by rw [l2]; omega), l2]
        rcases (show i - y.2.length = 0 ∨ i - y.2.length = 1 by omega) with q | q <;> rw [q] at h ⊢ <;> exact .inr ⟨⟨_, (Option.some.inj h).symm⟩, rfl⟩
    · rw [List.getElem?_append_right (by rw [List.length_append, l1]; simp only [List.length_cons, List.length_nil]; omega), List.length_append, l1] at h
      rw [List.getElem?_append_right (by rw [List.length_append, l2]; simp only [List.length_cons, List.length_nil]; omega), List.length_append, l2]
      simp only [List.length_cons, List.length_nil] at h ⊢
      rcases ih _ h with ⟨z, hz, r1, r2⟩ | r
      · exact .inl ⟨z, List.mem_append_right _ hz, r1, r2⟩
      · exact .inr r
theorem ok_chn {f CF CC CW : Addr} {fd : FuncData} {ks : Kinds} (F : Fun K "entering" "Chain.entering" sChN f fd) (T : ChM K mg CF CC) (TC : PropN P w K mg base 1 CC "cells" (spChC ks CF CC)) (TG : MetN P w K mg base CX0 2 CW "__getitem__" ["self", "at"] (spWGetI ks CF CW)) (mI : mg "isinstance" = none) (mS : mg "str" = none) :
    FnOk P w K mg base CX0 4 f fd ["self", "word"] (spChN ks CF CC CW) := by
  refine F.ok scChN (fun vs H Q E h => ?_) (fun cdv A outer s H vs Q E hr h => ?_)
  · obtain ⟨o, f, d, L, a, e, gv, rfl, _⟩ := h
    rfl
  · obtain ⟨o, f, d, L, a, e, gv, rfl, hC, hW, hle, k⟩ := h
    obtain ⟨dx, B, h1, h2, h3⟩ := hC.at_
    obtain ⟨dy, DD, ef, _⟩ := hC.fr.at_
    obtain ⟨wx, wfs, ew⟩ := hW.ins
    have h40 := hC.p.le40 hC.fr
    have h8 := hC.p.l8
    refine ⟨_, pss_cons (ps_set (i := 2) scChN.nd rfl (Or.inr rfl) (pe_fld (pe_fld (pv 0) rfl) rfl))
      (pss_cons (ps_setLc (i := 3) (te := teEn K ks CF CW) (own := [("cell", 4)]) (g := gName 4) (tt := tYes) rfl scChN.nd rfl rfl (sw_true rfl rfl rfl (by decide +kernel)) (pi_tup (pe_propS (S := fun C => C = CC) (spP := fun _ => spChC ks CF CC) (pv 0) (fun C e => by rw [e]; exact TC) (hr.mono (by decide))))
        (blkOk_by (N := ["self", "word", "top", "digits", "cell"]) (sc := defScope sChN) (by decide +kernel)) (fun _ _ _ _ _ => pg_name (i := 4) scChN.nd rfl (Or.inl rfl)) (fun _ _ _ _ _ => pts_nil)
        (fun _ _ _ _ _ => pe_ifExp (pt_val (pe_callB call_isi (by rfl) mI (by decide +kernel) (pa_cons (pv 4) (pa_cons (pe_bltn (by rfl) mS (by decide +kernel) (v := .ty "str") rfl) pa_nil)))) (pe_itN TG hr pass0 (pv 1) (pv 4)) (pv 2)))
      (pss_one (ps_ret (pe_tup (pa_cons pe_int (pa_cons (pv 2) (StX.pa_star (pe_revL (pv 3)) pa_nil))))))), ?_⟩
    refine ⟨_, rfl, o, CC, dx, _, _, rfl, h1, T.cl, T.nF, chF_frame _ _, f, CF, dy, _, _, rfl, ef, T.cf, T.nT, frF_top _ _ _ _, ?_⟩
    refine ⟨_, rfl, o, CC, dx, _, rfl, h1, rfl, o, f, d, L, rfl, hC, fun p H1 hp hv s1 => ?_⟩
    refine ⟨p, rfl, ⟨_, SqT.of hv⟩, fun D hD => ?_⟩
    have hcl := cells_len d.t L
    have hdl := dig_len ks e gv d.t L
    refine lc_it (walk_tup (K := K) (a := p) (xs := cellsV d.t L)) (fun i H' => Same H1 H' ∧ H' D = some (.lst ((digV ks e gv d.t L).take i))) ⟨same_at hD, by rw [List.take_zero]; exact upd_same⟩ (fun i H' _ q => SqT.of (q.1 _ _ hv)) ?_ ?_
    · rintro i x Ho Ha hi ⟨sa, da⟩ ⟨rfl, hx⟩
      refine ⟨rfl, ?_⟩
      unfold tYes
      dsimp only
      rw [if_pos rfl]
      have fin : ∀ v, (digV ks e gv d.t L)[i]? = some v → ∃ acc, Ha D = some (.lst acc) ∧ acc.length < sizeLine ∧ (Same H1 (upd Ha D (.lst (acc ++ [v]))) ∧ upd Ha D (.lst (acc ++ [v])) D = some (.lst ((digV ks e gv d.t L).take (i + 1)))) := fun v ev => by
        refine ⟨_, da, ?_, fun c u q => ?_, ?_⟩
        · rw [List.length_take]
          exact Nat.lt_of_le_of_lt (show _ ≤ 60 by omega) (by decide)
        · rw [upd_ne (ne_of_none q hD)]
          exact sa _ _ q
        · rw [upd_same, List.take_add_one, ev]
          rfl
      rcases dig_at ks e gv d.t L i x hx with ⟨z, hz, rfl, ed⟩ | ⟨⟨n, rfl⟩, ed⟩
      · refine ⟨_, rfl, _, _, .type "str", .type "str", true, rfl, .ty _, .base (.str _), rfl, _, rfl, iteT ?_⟩
        refine ⟨_, rfl, _, rfl, a, wx, wfs, rfl, (s1.trans sa) _ _ ew, a, e, gv, z, rfl, hW.same (s1.trans sa), hle z (hC.p.pm.mem_iff.mp hz), fin _ ed⟩
      · refine ⟨_, rfl, _, _, .type "int", .type "str", false, rfl, .ty _, .base (.int _), rfl, _, rfl, iteF ?_⟩
        exact ⟨_, rfl, fin _ ed⟩
    rintro H2 ⟨s2, d2⟩
    have hcl2 : (cellsV d.t L).length = (digV ks e gv d.t L).length := hdl.symm
    rw [hcl2, List.take_length] at d2
    refine ⟨_, rfl, _, rfl, D, _, rfl, SqL.of d2, fun q hq => ?_⟩
    have s3 := same_at (o := .lst (digV ks e gv d.t L).reverse) hq
    refine ⟨q, _, rfl, .inr (SqL.of upd_same), ?_, fun c hc => ?_⟩
    · simp only [List.length_append, List.length_reverse, List.length_cons, List.length_nil]
      exact Nat.le_trans (show _ ≤ 100 by omega) (by decide)
    have s4 := same_at (o := .tup (.int 0 :: .int d.t :: ((digV ks e gv d.t L).reverse ++ []))) hc
    refine k c _ ((s1.trans (s2.trans s3)).free hc) ?_ (s1.trans (s2.trans (s3.trans s4)))
    show upd _ c (.tup (.int 0 :: .int d.t :: ((digV ks e gv d.t L).reverse ++ []))) c = _
    rw [upd_same, List.append_nil]
structure ChqT (P : Program) (w : World) (K : PySem.W.Frag) (mg : Str → Option Value) (base : Heap) (ks : Kinds) (CF CC : Addr) : Prop where
  m : ChM K mg CF CC
  isi : mg "isinstance" = none
  mC : mg "Chain" = some (.ref CC)
  icC : IsiC K CC
  self : PySem.W.kitOne K (.ref CC) (.ref CC) = some true
  eqF : EqN P w K mg base 4 CF (spFEq K ks CF)
  icF : IsiC K CF
  nf : PySem.W.notFirst K CF (.ref CF) = true
theorem ok_cheq {CF CC f : Addr} {fd : FuncData} {ks : Kinds} (F : Fun K "__eq__" "Chain.__eq__" sChQ f fd) (T : ChqT P w K mg base ks CF CC) : FnOk P w K mg base CX0 7 f fd ["self", "other"] (spCEq K ks CF CC) := by
  have sc : FnScope ["self", "other"] ["self", "other"] (defScope sChQ) := ⟨rfl, rfl, rfl, by decide +kernel, rfl, by decide +kernel, by decide +kernel⟩
  refine F.ok sc (fun vs H Q E h => ?_) (fun cdv A outer s H vs Q E hr h => ?_)
  · obtain ⟨o, f, d, L, y, rfl, _⟩ := h
    rfl
  · obtain ⟨o, f, d, L, y, rfl, hC, h⟩ := h
    obtain ⟨dx, B, h1, h2, h3⟩ := hC.at_
    refine ⟨_, pss_one (ps_ret (pe_and (pe_callB call_isi (by rfl) T.isi (by decide +kernel) (pa_cons (pv 1) (pa_cons (pe_glob rfl T.mC (v := .ref CC) rfl) pa_nil)))
      (pe_and (pe_cmpR (op_ownE (.inl rfl) (S := fun C => C = CF) (spE := fun _ => spFEq K ks CF) (fun C e => by rw [e]; exact T.eqF.eqC (hr.mono (by decide)))) (pe_fld (pv 0) rfl) (pe_fld (pv 1) rfl) (nomark _))
      (pe_one (pe_cmpR (op_eqTT (Nat.lt_of_le_of_lt (Nat.add_le_add_left (show 1 ≤ 64 by decide) _) hr.units)) (pe_fld (pv 0) rfl) (pe_fld (pv 1) rfl) (nomark _)))))), ?_⟩
    rcases h with ⟨b, g, e, M, rfl, hD, k⟩ | ⟨t, ty, hk, k⟩
    · obtain ⟨dx', B', g1, g2, g3⟩ := hD.at_
      have tyb : TyX K H (.ref b) (.ref CC) := .base (.ins g1 T.icC.cl T.icC.ca T.icC.cn T.icC.ct T.icC.cm)
      obtain ⟨fx, fs, ef⟩ := hC.fr.ins
      obtain ⟨fy, fs', ef'⟩ := hD.fr.ins
      refine ⟨_, rfl, _, _, .ref CC, .ref CC, true, rfl, .own _, tyb, T.self, _, rfl, iteT ?_⟩
      refine ⟨_, rfl, o, CC, dx, _, _, rfl, h1, T.m.cl, T.m.nF, chF_frame _ _, _, rfl, b, CC, dx', _, _, rfl, g1, T.m.cl, T.m.nF, chF_frame _ _, ?_⟩
      refine ⟨f, CF, fx, fs, rfl, ef, rfl, .inl ⟨.ref CF, .base (.ins ef' T.icF.cl T.icF.ca T.icF.cn T.icF.ct T.icF.cm), T.nf, f, d, .ref g, rfl, hC.fr, .inl ⟨g, e, rfl, hD.fr, fun H1 s1 => ⟨_, rfl, _, rfl, ?_⟩⟩⟩⟩
      show if eqFr d e = true then _ else _
      have keq : ∀ v, eqCh d e L M = v → ∀ H', Same H H' → Q (.bl v) H' := fun v ev H' s => by rw [← ev]; exact k H' s
      cases ef : eqFr d e with
      | false =>
        refine iteF (keq _ ?_ _ s1)
        unfold eqCh
        rw [ef, Bool.false_and]
      | true =>
        refine iteT ⟨_, rfl, o, CC, dx, _, _, rfl, s1 _ _ h1, T.m.cl, T.m.nP, chF_parts _ _, _, rfl, b, CC, dx', _, _, rfl, s1 _ _ g1, T.m.cl, T.m.nP, chF_parts _ _, ?_⟩
        refine ⟨B, B', L, M, rfl, rfl, s1 _ _ h2, s1 _ _ g2, fun x hx => s1 _ _ (h3 x hx), fun x hx => s1 _ _ (g3 x hx), keq _ ?_ _ s1⟩
        unfold eqCh
        rw [ef, Bool.true_and]
    · exact ⟨_, rfl, _, _, t, .ref CC, false, rfl, .own _, ty, hk, _, rfl, iteF (k H (Same.refl H))⟩
end
end Sj
namespace Sj
open PySem L2 Sup StK Own Shw Exg Grd KepE
open NdefX (NF NScope ncx envF startF nscope_by)
open C8 (pss_cut tCut)
/-! k65: _law_parts -/
abbrev sPar : Stmt := top 38
abbrev nPar : List Str := ["_law_pen_here", "_law_bare_here", "_law_left", "_law_found", "_law_k"]
theorem scPar : FnScope nPar ["_law_pen_here", "_law_bare_here"] (defScope sPar) := ⟨rfl, rfl, rfl, by decide +kernel, rfl, by decide +kernel, by decide +kernel⟩
theorem allN_set : ∀ {G : List (Addr × List Str)} {d : Nat} {r : Addr × List Str} (z : Str), G[d]? = some r → (allN (G.set d (r.1, r.2 ++ [z]))).Perm (allN G ++ [z])
  | [], _, _, _, h => by cases h
  | x :: G, 0, r, z, h => by
    obtain rfl := Option.some.inj h
    show ((x.2 ++ [z]) ++ allN G).Perm ((x.2 ++ allN G) ++ [z])
    rw [List.append_assoc, List.append_assoc]
    exact List.Perm.append_left _ List.perm_append_comm
  | x :: G, d + 1, r, z, h => by
    show (x.2 ++ allN (G.set d (r.1, r.2 ++ [z]))).Perm ((x.2 ++ allN G) ++ [z])
    rw [List.append_assoc]
    exact List.Perm.append_left _ (allN_set z h)
theorem fst_set : ∀ {G : List (Addr × List Str)} {d : Nat} {r : Addr × List Str} (w : List Str), G[d]? = some r → (G.set d (r.1, w)).map (·.1) = G.map (·.1)
  | [], _, _, _, h => by cases h
  | x :: G, 0, r, w, h => by
    obtain rfl := Option.some.inj h
    rfl
  | x :: G, d + 1, r, w, h => by
    show x.1 :: (G.set d (r.1, w)).map (·.1) = x.1 :: G.map (·.1)
    exact congrArg (x.1 :: ·) (fst_set w h)
theorem refs_set {G : List (Addr × List Str)} {d : Nat} {r : Addr × List Str} (w : List Str) (h : G[d]? = some r) : refsB (G.set d (r.1, w)) = refsB G := by
  have e : ∀ G : List (Addr × List Str), refsB G = (G.map (·.1)).map V.ref := fun G => by unfold refsB; rw [List.map_map]; rfl
  rw [e, e, fst_set w h]
theorem mem_set {G : List (Addr × List Str)} {d : Nat} {r : Addr × List Str} {w : List Str} (nd : (G.map (·.1)).Nodup) (h : G[d]? = some r) {x : Addr × List Str} (hx : x ∈ G.set d (r.1, w)) : x = (r.1, w) ∨ (x ∈ G ∧ x.1 ≠ r.1) := by
  obtain ⟨j, hj⟩ := List.mem_iff_getElem?.mp hx
  rw [List.getElem?_set] at hj
  by_cases e : d = j
  · rw [if_pos e] at hj
    split at hj
    · exact .inl (Option.some.inj hj).symm
    · cases hj
  · rw [if_neg e] at hj
    refine .inr ⟨List.mem_of_getElem? hj, fun q => e ?_⟩
    have h1 : (G.map (·.1))[d]? = some r.1 := by rw [List.getElem?_map, h]; rfl
    have h2 : (G.map (·.1))[j]? = some r.1 := by rw [List.getElem?_map, hj, ← q]; rfl
    exact (List.getElem?_inj (List.getElem?_eq_some_iff.mp h1).1 nd).mp (h1.trans h2.symm)
/-- rows of texts that are new since H, in a list -/
structure RowsN (H H' : Hp) (q : Addr) (G : List (Addr × List Str)) : Prop where
  at_ : H' q = some (.lst (refsB G))
  row : ∀ x ∈ G, H' x.1 = some (.lst (strv x.2)) ∧ H x.1 = none ∧ x.1 ≠ q
  nd : (G.map (·.1)).Nodup
  new : H q = none
theorem RowsN.same {H H' H2 : Hp} {q : Addr} {G : List (Addr × List Str)} (h : RowsN H H' q G) (s : Same H' H2) : RowsN H H2 q G := ⟨s _ _ h.at_, fun x hx => ⟨s _ _ (h.row x hx).1, (h.row x hx).2⟩, h.nd, h.new⟩
theorem RowsN.but {H H' H2 : Hp} {q p l : Addr} {cs : List Int} {n : Nat} {G : List (Addr × List Str)} (h : RowsN H H' q G) (hP : Pen H p l cs n) (s : But H' H2 p) : RowsN H H2 q G := ⟨s _ _ (nep hP h.new) h.at_, fun x hx => ⟨s _ _ (nep hP (h.row x hx).2.1) (h.row x hx).1, (h.row x hx).2⟩, h.nd, h.new⟩
def spPar : Sp := fun vs H Q _ => ∃ (p l : Addr) (cs : List Int) (n : Nat) (b : Addr) (d : BareD), vs = [.ref p, .ref b] ∧ Pen H p l cs n ∧ BareAt H b d p ∧ d.ok ∧ n < 80000 ∧
  ∀ q G H', RowsN H H' q G → 1 ≤ G.length → G.length ≤ 8 → (allN G).Perm (d.ds ++ d.ls) → Pen H' p l cs (n + 40) → But H H' p → Q (.ref q) H'
def muL (a : Addr) (H : Hp) : Nat := match H a with
  | some (.lst xs) => xs.length
  | _ => 0
theorem muL_of {a : Addr} {H : Hp} {xs : List V} (h : H a = some (.lst xs)) : muL a H = xs.length := by
  unfold muL
  rw [h]
section
variable {P : Program} {w : World} {K : PySem.W.Frag} {mg : Str → Option Value} {base : Heap}
theorem ok_par {f : Addr} {fd : FuncData} (F : Fun K "_law_parts" "_law_parts" sPar f fd) (T : DwT P w K mg base) (mR : mg "range" = none) : FnOk P w K mg base CX0 2 f fd ["_law_pen_here", "_law_bare_here"] spPar := by
  obtain ⟨fD, fdD, mD, kD, bD, GD⟩ := T.draw
  refine F.ok scPar (fun vs H Q E h => ?_) (fun cdv A outer s H vs Q E hr h => ?_)
  · obtain ⟨p, l, cs, n, b, d, rfl, _⟩ := h
    rfl
  · obtain ⟨p, l, cs, n, b, d, rfl, hP, hB, ok, hn, k⟩ := h
    have hu := hu_of hr
    refine ⟨_, pss_cons (ps_set (i := 2) scPar.nd rfl (Or.inl rfl) (pe_callB cr_sortedS (by rfl) T.sorted (by decide +kernel) (pa_cons (pe_op op_cat (pe_dget hu (pv 1) pe_str (fun _ _ => rfl)) (pe_dget hu (pv 1) pe_str (fun _ _ => rfl))) pa_nil)))
      (pss_cons (ps_setLc (i := 3) (te := tLst tNil) (tt := tYes) (own := [("_law_k", 4)]) (g := gName 4) rfl scPar.nd rfl rfl (sw_true rfl rfl rfl (by decide +kernel)) (pi_range1 rfl mR (pa_cons (pe_op op_add pe_int (pe_call GD hr rfl mD kD bD .nil pass0 (pa_cons (pv 0) (pa_cons pe_int pa_nil)))) pa_nil))
        (blkOk_by (N := nPar) (sc := defScope sPar) (by decide +kernel)) (fun _ _ _ _ _ => pg_name (i := 4) scPar.nd rfl (Or.inl rfl)) (fun _ _ _ _ _ => pts_nil) (fun _ _ _ _ _ => pe_lst pa_nil))
      (pss_cons (ps_while PassesOwn.never (pt_cmpR (op_neNil hr.units) (pv 2) (pe_lst pa_nil) (nomark _))
        (pss_one (ps_expr (pe_bm PySem.F.plainAttrs_list PySem.F.slot_list_append PySem.F.type_list_append mt_append (pe_ix ix_list (pv 3) (pe_call GD hr rfl mD kD bD .nil pass0 (pa_cons (pv 0) (pa_cons (pe_callB call_len_seq (by rfl) T.bi.len PySem.boot_len (pa_cons (pv 3) pa_nil)) pa_nil))) (fun _ _ => rfl))
          (pa_cons (pe_bm PySem.F.plainAttrs_list PySem.F.slot_list_pop PySem.F.type_list_pop mt_popAt (pv 2) (pa_cons (pe_call GD hr rfl mD kD bD .nil pass0 (pa_cons (pv 0) (pa_cons (pe_callB call_len_seq (by rfl) T.bi.len PySem.boot_len (pa_cons (pv 2) pa_nil)) pa_nil))) pa_nil)) pa_nil)))))
      (pss_one (ps_ret (pv 3))))), ?_⟩
    obtain ⟨dl, ll, rl, hb, hdl, hll, hrl, hdp, hlp, hrp⟩ := hB.ex
    have c1 : (strv d.ds).length = d.ds.length := List.length_map _
    have c2 : (strv d.ls).length = d.ls.length := List.length_map _
    have hle := ok.le
    refine ⟨_, rfl, b, _, rfl, DGet.k (k := Sum.inr "drivers") hb, _, rfl, b, _, rfl, DGet.k (k := Sum.inr "listeners") hb, dl, ll, _, _, rfl, rfl, hdl, hll, Nat.le_trans (show _ ≤ 16 by rw [c1, c2]; omega) (by decide), fun p2 hp2 => ?_⟩
    have s2 := same_at (o := .lst (strv d.ds ++ strv d.ls)) hp2
    refine ⟨p2, d.ds ++ d.ls, rfl, SqL.of ?_, by rw [List.length_append]; omega, fun zs tl hzp hso htl => ?_⟩
    · rw [upd_same]
      show _ = some (HO.lst (List.map _ _))
      rw [List.map_append]
      rfl
    have s3 := s2.trans (same_at (o := .lst (zs.map V.str)) htl)
    have htlH : H tl = none := s2.free htl
    obtain ⟨H3, e3⟩ : ∃ H3, H3 = upd (upd H p2 (.lst (strv d.ds ++ strv d.ls))) tl (.lst (zs.map V.str)) := ⟨_, rfl⟩
    have htl3 : H3 tl = some (.lst (strv zs)) := by rw [e3, upd_same]; rfl
    rw [← e3] at s3 ⊢
    have hz16 : zs.length ≤ 16 := by rw [hzp.length_eq, List.length_append]; exact hle
    have P3 := hP.same s3
    refine ⟨_, rfl, p, l, cs, n, 8, rfl, P3, by decide, by decide, by omega, fun d8 i8 g8 H4 d80 d88 i80 in8 hp4 b34 => ?_⟩
    have P4 := P3.next i80 in8 hp4 b34
    have tlp : tl ≠ p := nep hP htlH
    have htl4 := b34 _ _ tlp htl3
    have b04 : But H H4 p := (But.of s3).trans b34
    refine ⟨_, _, rfl, rfl, _, rfl, by omega, by omega, fun q hq => ?_⟩
    have hqH : H q = none := by
      cases e : H q with
      | none => rfl
      | some o =>
        by_cases qp : q = p
        · obtain ⟨i', g', w1, _⟩ := P4
          rw [← qp, hq] at w1
          cases w1
        · rw [b04 _ _ qp e] at hq
          cases hq
    have hqp : q ≠ p := nep hP hqH
    have en : ((1 : Int) + d8).toNat = d8.toNat + 1 := by omega
    rw [en]
    have free4 : ∀ {r : Addr} {H' : Hp}, But H H' p → r ≠ p → H' r = none → H r = none := fun {r H'} bb rp hr0 => by
      cases e : H r with
      | none => rfl
      | some o => rw [bb _ _ rp e] at hr0; cases hr0
    refine lc_range (n := d8.toNat + 1) (fun i H' => ∃ G : List (Addr × List Str), G.length = i ∧ allN G = [] ∧ H' q = some (.lst (refsB G)) ∧ (∀ x ∈ G, (H' x.1 = some (.lst (strv x.2)) ∧ H x.1 = none ∧ x.1 ≠ q) ∧ x.1 ≠ tl) ∧ (G.map (·.1)).Nodup ∧ Pen H' p l cs (n + 1) ∧ But H H' p ∧ H' tl = some (.lst (strv zs))) ?_ ?_ ?_
    · have s5 := same_at (o := .lst []) hq
      exact ⟨[], rfl, rfl, upd_same, (fun x hx => (by cases hx)), List.nodup_nil, P4.same s5, b04.same s5, s5 _ _ htl4⟩
    · rintro i H5 hi ⟨G, hGl, hGe, hq5, hrow, hnd, P5, b05, htl5⟩
      refine ⟨rfl, ?_⟩
      unfold tYes
      dsimp only
      rw [if_pos rfl]
      refine ⟨by show 0 ≤ sizeLine; decide, fun r hr0 => ?_⟩
      have s6 := same_at (o := .lst []) hr0
      have rq : r ≠ q := fun e => by rw [e, hq5] at hr0; cases hr0
      have rp : r ≠ p := nep P5 hr0
      have rtl : r ≠ tl := fun e => by rw [e, htl5] at hr0; cases hr0
      have tlq : tl ≠ q := fun e => by rw [e, hq] at htl4; cases htl4
      have off : ∀ {c : Addr} {o : HO}, c ≠ q → upd H5 r (.lst []) c = some o → upd (upd H5 r (.lst [])) q (.lst (refsB G ++ [.ref r])) c = some o := fun {c o} h e => by rw [upd_ne h]; exact e
      refine ⟨refsB G, s6 _ _ hq5, ?_, G ++ [(r, [])], by rw [List.length_append, hGl]; rfl, ?_, ?_, fun x hx => ?_, ?_, ?_, ?_, ?_⟩
      · rw [refsB_len, hGl]
        exact Nat.lt_of_lt_of_le (show i < 9 by omega) (by decide)
      · unfold allN at hGe ⊢
        rw [List.flatMap_append, hGe]
        rfl
      · rw [upd_same]
        unfold refsB
        rw [List.map_append]
        rfl
      · rcases List.mem_append.mp hx with hx | hx
        · obtain ⟨⟨h1, h2, h3⟩, h4⟩ := hrow x hx
          exact ⟨⟨off h3 (s6 _ _ h1), h2, h3⟩, h4⟩
        · obtain rfl := List.mem_singleton.mp hx
          exact ⟨⟨off rq upd_same, free4 b05 rp hr0, rq⟩, rtl⟩
      · rw [List.map_append, List.nodup_append]
        refine ⟨hnd, by simp, fun a ha b hb e => ?_⟩
        obtain ⟨x, hx, rfl⟩ := List.mem_map.mp ha
        have : b = r := by simpa using hb
        rw [this] at e
        have := (hrow x hx).1.1
        rw [e, hr0] at this
        cases this
      · obtain ⟨i', g', w1, w2, w3⟩ := P5.same s6
        have lq : l ≠ q := fun z => by
          obtain ⟨_, _, _, v2, _⟩ := hP
          rw [z, hqH] at v2
          cases v2
        exact ⟨i', g', by rw [upd_ne (Ne.symm hqp)]; exact w1, by rw [upd_ne lq]; exact w2, w3⟩
      · intro c o hc e
        have cq : c ≠ q := fun z => by rw [z, hqH] at e; cases e
        exact off cq (s6 _ _ (b05 _ _ hc e))
      · exact off tlq (s6 _ _ htl5)
    rintro H5 ⟨G, hGl, hGe, hq5, hrow, hnd, P5, b05, htl5⟩
    have tlq : tl ≠ q := fun e => by rw [e, hq] at htl4; cases htl4
    have lH : ∃ o, H l = some o := by
      obtain ⟨_, _, _, v2, _⟩ := hP
      exact ⟨_, v2⟩
    refine while_by (fun σ H' => (∃ o4, σ = ([some (.ref p), some (.ref b), some (.ref tl), some (.ref q), o4] : List (Option V))) ∧ ∃ (G : List (Addr × List Str)) (rest : List Str), G.length = d8.toNat + 1 ∧ rest.length ≤ zs.length ∧ (allN G ++ rest).Perm zs ∧ RowsN H H' q G ∧ (∀ x ∈ G, x.1 ≠ tl) ∧ Pen H' p l cs (n + 1 + 2 * (zs.length - rest.length)) ∧ But H H' p ∧ H' tl = some (.lst (strv rest)))
      (fun σ H' => muL tl H') ⟨⟨_, rfl⟩, G, zs, hGl, Nat.le_refl _, by rw [hGe]; exact .refl _, ⟨hq5, fun x hx => (hrow x hx).1, hnd, hqH⟩, fun x hx => (hrow x hx).2, P5.mono (by omega), b05, htl5⟩ ?_ ?_
    · rintro σ H6 ⟨⟨o4, rfl⟩, G, rest, hGl, hrl, hper, hR, htx, P6, b06, htl6⟩
      refine ⟨_, rfl, by show 0 ≤ sizeLine; decide, fun e he => ?_⟩
      have s7 := same_at (o := .lst []) he
      refine ⟨tl, e, strv rest, rfl, rfl, s7 _ _ htl6, upd_same, _, rfl, ?_⟩
      have R7 := hR.same s7
      have P7 := P6.same s7
      have b07 := b06.same s7
      have htl7 := s7 _ _ htl6
      obtain ⟨H7, e7⟩ : ∃ H7, H7 = upd H6 e (.lst []) := ⟨_, rfl⟩
      rw [← e7] at R7 P7 b07 htl7 ⊢
      by_cases hre : rest = []
      · subst hre
        refine iteF ⟨_, rfl, k q G H7 R7 (by omega) (by omega) ?_ (P7.mono (by simp only [List.length_nil]; omega)) b07⟩
        rw [List.append_nil] at hper
        exact hper.trans hzp
      · have hpos : 0 < rest.length := List.length_pos_iff.mpr hre
        have crl : (strv rest).length = rest.length := List.length_map _
        have hmu : muL tl H6 = rest.length := by rw [muL_of htl6, crl]
        have hie : (!(strv rest).isEmpty) = true := by
          cases rest with
          | nil => exact absurd rfl hre
          | cons _ _ => rfl
        rw [hie]
        refine iteT ?_
        -- the row
        refine ⟨_, rfl, _, rfl, _, rfl, q, _, rfl, .inl (SqL.of R7.at_), p, l, cs, _, _, rfl, P7, by rw [refsB_len, hGl]; omega, by rw [refsB_len, hGl]; omega, by omega, fun da ia ga H8 da0 da1 ia0 in8 hp8 b78 => ?_⟩
        rw [refsB_len] at da1
        have P8 := P7.next ia0 in8 hp8 b78
        have R8 := R7.but hP b78
        have htl8 := b78 _ _ tlp htl7
        have b08 := b07.trans b78
        have hda : da.toNat < G.length := by omega
        have eda : da = ((da.toNat : Nat) : Int) := by omega
        have eG : G[da.toNat]? = some G[da.toNat] := List.getElem?_eq_getElem hda
        obtain ⟨r, er8⟩ : ∃ r, r = G[da.toNat] := ⟨_, rfl⟩
        rw [← er8] at eG
        have hrm : r ∈ G := List.mem_of_getElem? eG
        have egr : (refsB G)[da.toNat]? = some (.ref r.1) := by unfold refsB; rw [List.getElem?_map, eG]; rfl
        obtain ⟨r1, r2, r3⟩ := R8.row r hrm
        have rtl := htx r hrm
        refine ⟨q, _, da, _, rfl, rfl, SqL.of R8.at_, by rw [eda]; exact atI_nat egr, ?_⟩
        refine ⟨.inl ⟨rfl, _, SqL.of r1⟩, ?_⟩
        -- what is popped
        refine ⟨_, rfl, .inl ⟨rfl, _, SqL.of htl8⟩, _, rfl, _, rfl, tl, _, rfl, .inl (SqL.of htl8), p, l, cs, _, _, rfl, P8, by rw [crl]; omega, by rw [crl]; omega, by omega, fun dd id gd H9 dd0 dd1 id0 in9 hp9 b89 => ?_⟩
        rw [crl] at dd1
        have P9 := P8.next id0 in9 hp9 b89
        have R9 := R8.but hP b89
        have htl9 := b89 _ _ tlp htl8
        have b09 := b08.trans b89
        have hdd : dd.toNat < rest.length := by omega
        have ex : (strv rest)[dd.toNat]? = some (.str rest[dd.toNat]) := by show (rest.map V.str)[_]? = _; rw [List.getElem?_map, List.getElem?_eq_getElem hdd]; rfl
        obtain ⟨z, ez⟩ : ∃ z, z = rest[dd.toNat] := ⟨_, rfl⟩
        rw [← ez] at ex
        obtain ⟨q1, q2, q3⟩ := R9.row r hrm
        refine ⟨tl, strv rest, dd, dd.toNat, .str z, rfl, rfl, htl9, by omega, by omega, seqIndex_of dd0 (by rw [crl]; omega), ex, r.1, _, _, rfl, rfl, by rw [upd_ne rtl]; exact q1, ?_, ?_⟩
        · show (List.map _ r.2).length < _
          rw [List.length_map]
          have h1 : r.2.length ≤ (allN G).length := by
            obtain ⟨A, B, eAB⟩ := List.append_of_mem hrm
            unfold allN
            rw [eAB, List.flatMap_append, List.flatMap_cons, List.length_append, List.length_append]
            omega
          have h2 := hper.length_eq
          rw [List.length_append] at h2
          exact Nat.lt_of_le_of_lt (show _ ≤ 16 by omega) (by decide)
        have hlen' : (rest.eraseIdx dd.toNat).length = rest.length - 1 := by rw [List.length_eraseIdx, if_pos hdd]
        obtain ⟨HA, eA⟩ : ∃ HA, HA = upd (upd H9 tl (.lst ((strv rest).eraseIdx dd.toNat))) r.1 (.lst (strv r.2 ++ [.str z])) := ⟨_, rfl⟩
        have e1 : (strv rest).eraseIdx dd.toNat = strv (rest.eraseIdx dd.toNat) := map_erase V.str rest dd.toNat
        have hA : ∀ c, c ≠ tl → c ≠ r.1 → HA c = H9 c := fun c h1 h2 => by rw [eA, upd_ne h2, upd_ne h1]
        have hAr : HA r.1 = some (.lst (strv (r.2 ++ [z]))) := by
          rw [eA, upd_same]
          unfold strv
          rw [List.map_append]
          rfl
        have hAt : HA tl = some (.lst (strv (rest.eraseIdx dd.toNat))) := by rw [eA, upd_ne (Ne.symm rtl), upd_same, e1]
        rw [← eA]
        have rp : r.1 ≠ p := nep hP q2
        have lnew : ∀ {c : Addr}, H c = none → l ≠ c := fun {c} hc e => by
          obtain ⟨o, eo⟩ := lH
          rw [e, hc] at eo
          cases eo
        refine ⟨⟨⟨_, rfl⟩, G.set da.toNat (r.1, r.2 ++ [z]), rest.eraseIdx dd.toNat, by rw [List.length_set]; exact hGl, by omega, ?_, ⟨?_, fun x hx => ?_, by rw [fst_set _ eG]; exact R9.nd, hqH⟩, fun x hx => ?_, ?_, fun c o hc e => ?_, hAt⟩, ?_⟩
        · refine ((allN_set z eG).append_right _).trans ?_
          rw [List.append_assoc]
          refine List.Perm.trans ?_ hper
          refine List.Perm.append_left _ ?_
          rw [ez]
          exact perm_erase rest dd.toNat hdd
        · rw [refs_set _ eG, hA q (Ne.symm tlq) (Ne.symm q3)]
          exact R9.at_
        · rcases mem_set R9.nd eG hx with rfl | ⟨hx, hxr⟩
          · exact ⟨hAr, q2, q3⟩
          · obtain ⟨x1, x2, x3⟩ := R9.row x hx
            exact ⟨by rw [hA x.1 (htx x hx) hxr]; exact x1, x2, x3⟩
        · rcases mem_set R9.nd eG hx with rfl | ⟨hx, hxr⟩
          · exact rtl
          · exact htx x hx
        · obtain ⟨i', g', w1, w2, w3, w4, w5⟩ := P9
          exact ⟨i', g', by rw [hA p (Ne.symm tlp) (Ne.symm rp)]; exact w1, by rw [hA l (lnew htlH) (lnew q2)]; exact w2, w3, w4, by omega⟩
        · rw [hA c (ne_of_none e htlH) (ne_of_none e q2)]
          exact b09 _ _ hc e
        · show muL tl HA < muL tl H6
          rw [hmu, muL_of hAt]
          have : (strv (rest.eraseIdx dd.toNat)).length = (rest.eraseIdx dd.toNat).length := List.length_map _
          omega
    · rintro σ H' R R' m ⟨x, hx, hs, ff⟩
      refine ⟨x, hx, hs, fun c hc => ?_⟩
      obtain ⟨a, b, xs, h1, h2, h3, h4, kk, e, qq⟩ := ff c hc
      exact ⟨a, b, xs, h1, h2, h3, h4, kk, e, m _ _ qq⟩
end
end Sj
namespace Sj
open PySem L2 Sup StK Own Shw Exg Grd KepE
open NdefX (NF NScope ncx envF startF nscope_by)
open C8 (pss_cut tCut)
/-! k65: _law_cells, _law_sent -/
abbrev sCel : Stmt := top 39
abbrev sSen : Stmt := top 40
abbrev nCel : List Str := ["_law_bare_here", "_law_rows", "_law_found", "_law_row"]
abbrev nSen : List Str := ["_law_bare_here", "_law_rows", "_law_told", "_law_found", "_law_cell"]
theorem scCel : FnScope nCel ["_law_bare_here", "_law_rows"] (defScope sCel) := ⟨rfl, rfl, rfl, by decide +kernel, rfl, by decide +kernel, by decide +kernel⟩
theorem scSen : FnScope nSen ["_law_bare_here", "_law_rows", "_law_told"] (defScope sSen) := ⟨rfl, rfl, rfl, by decide +kernel, rfl, by decide +kernel, by decide +kernel⟩
/-- rows of the law: lists -/
def RowL (H : Hp) (q : Addr) (G : List (Addr × List Str)) : Prop := H q = some (.lst (refsB G)) ∧ ∀ x ∈ G, H x.1 = some (.lst (strv x.2))
theorem RowL.same {H H' : Hp} {q : Addr} {G : List (Addr × List Str)} (h : RowL H q G) (s : Same H H') : RowL H' q G := ⟨s _ _ h.1, fun x hx => s _ _ (h.2 x hx)⟩
theorem RowsN.l {H H' : Hp} {q : Addr} {G : List (Addr × List Str)} (h : RowsN H H' q G) : RowL H' q G := ⟨h.at_, fun x hx => (h.row x hx).1⟩
def spCel : Sp := fun vs H Q _ => ∃ (b p q : Addr) (d : BareD) (G : List (Addr × List Str)), vs = [.ref b, .ref q] ∧ BareAt H b d p ∧ RowL H q G ∧ G.length ≤ 8 ∧ (allN G).length ≤ 40 ∧ ∀ a H', H a = none → H' a = some (.lst (cellsV d.t G)) → Same H H' → Q (.ref a) H'
def digB (gv : List (Str × Int)) (t : Int) (L : List (Addr × List Str)) : List V := L.flatMap fun x => (x.2.map fun z => V.int (lvl gv t z)) ++ [.int t, .int t]
def spSen : Sp := fun vs H Q _ => ∃ (b p q D : Addr) (d : BareD) (G : List (Addr × List Str)) (gv : List (Str × Int)), vs = [.ref b, .ref q, .ref D] ∧ BareAt H b d p ∧ RowL H q G ∧ G.length ≤ 8 ∧ (allN G).length ≤ 40 ∧ LvAt H D gv ∧ ∀ a H', H a = none → H' a = some (.lst (.int 0 :: .int d.t :: (digB gv d.t G).reverse)) → Same H H' → Q (.ref a) H'
theorem digB_len (gv : List (Str × Int)) (t : Int) (L : List (Addr × List Str)) : (digB gv t L).length = (cellsV t L).length := by
  unfold digB cellsV
  induction L with
  | nil => rfl
  | cons x L ih =>
    rw [List.flatMap_cons, List.flatMap_cons, List.length_append, List.length_append, ih, List.length_append, List.length_append, List.length_map]
    have : (strv x.2).length = x.2.length := List.length_map _
    rw [this]
    rfl
theorem digB_at (gv : List (Str × Int)) (t : Int) (L : List (Addr × List Str)) (i : Nat) (x : V) (h : (cellsV t L)[i]? = some x) : (∃ z, x = .str z ∧ (digB gv t L)[i]? = some (.int (lvl gv t z))) ∨ (∃ n, x = .int n) ∧ (digB gv t L)[i]? = some (.int t) := by
  induction L generalizing i with
  | nil => cases h
  | cons y L ih =>
    have e1 : cellsV t (y :: L) = (strv y.2 ++ [V.int 0, .int t]) ++ cellsV t L := rfl
    have e2 : digB gv t (y :: L) = ((y.2.map fun z => V.int (lvl gv t z)) ++ [V.int t, .int t]) ++ digB gv t L := rfl
    have l1 : (strv y.2).length = y.2.length := List.length_map _
    have l2 : (y.2.map fun z => V.int (lvl gv t z)).length = y.2.length := List.length_map _
    rw [e1] at h
    rw [e2]
    by_cases hi : i < y.2.length + 2
    · rw [List.getElem?_append_left (by rw [List.length_append, l1]; exact hi)] at h
      rw [List.getElem?_append_left (by rw [List.length_append, l2]; exact hi)]
      by_cases hi2 : i < y.2.length
      · rw [List.getElem?_append_left (by rw [l1]; exact hi2)] at h
        rw [List.getElem?_append_left (by rw [l2]; exact hi2)]
        have ex : (strv y.2)[i]? = some (.str y.2[i]) := by show (y.2.map V.str)[i]? = _; rw [List.getElem?_map, List.getElem?_eq_getElem hi2]; rfl
        rw [ex] at h
        exact .inl ⟨y.2[i], (Option.some.inj h).symm, by rw [List.getElem?_map, List.getElem?_eq_getElem hi2]; rfl⟩
      · rw [List.getElem?_append_right (by rw [l1]; omega), l1] at h
        rw [List.getElem?_append_right (by rw [l2]; omega), l2]
        rcases (show i - y.2.length = 0 ∨ i - y.2.length = 1 by omega) with q | q <;> rw [q] at h ⊢ <;> exact .inr ⟨⟨_, (Option.some.inj h).symm⟩, rfl⟩
    · rw [List.getElem?_append_right (by rw [List.length_append, l1]; simp only [List.length_cons, List.length_nil]; omega), List.length_append, l1] at h
      rw [List.getElem?_append_right (by rw [List.length_append, l2]; simp only [List.length_cons, List.length_nil]; omega), List.length_append, l2]
      simp only [List.length_cons, List.length_nil] at h ⊢
      exact ih _ h
section
variable {P : Program} {w : World} {K : PySem.W.Frag} {mg : Str → Option Value} {base : Heap}
theorem ok_cel {f : Addr} {fd : FuncData} (F : Fun K "_law_cells" "_law_cells" sCel f fd) : FnOk P w K mg base CX0 1 f fd ["_law_bare_here", "_law_rows"] spCel := by
  refine F.ok scCel (fun vs H Q E h => ?_) (fun cdv A outer s H vs Q E hr h => ?_)
  · obtain ⟨b, p, q, d, G, rfl, _⟩ := h
    rfl
  · obtain ⟨b, p, q, d, G, rfl, hB, hR, h8, h40, k⟩ := h
    have hu := hu_of hr
    refine ⟨_, pss_cons (ps_set (i := 2) scCel.nd rfl (Or.inl rfl) (pe_lst pa_nil))
      (pss_cons (ps_for PassesOwn.never rfl (pi_list (pv 1)) (pg_name (i := 3) scCel.nd rfl (Or.inl rfl))
        (pss_one (ps_set (i := 2) scCel.nd rfl (Or.inl rfl) (pe_op op_cat (pe_op op_cat (pv 2) (pv 3)) (pe_lst (pa_cons pe_int (pa_cons (pe_dget hu (pv 0) pe_str (fun _ _ => rfl)) pa_nil)))))))
      (pss_one (ps_ret (pv 2)))), ?_⟩
    obtain ⟨dl, ll, rl, hb, _⟩ := hB.ex
    refine ⟨by show 0 ≤ sizeLine; decide, fun a ha => ?_⟩
    have s1 := same_at (o := .lst []) ha
    have hq1 := s1 _ _ hR.1
    have hcl := cells_len d.t G
    refine ⟨_, rfl, q, rfl, ⟨_, SqL.of hq1⟩, for_list (xs := refsB G) (fun i σ H' => (∃ o3, ∃ a', σ = ([some (.ref b), some (.ref q), some (.ref a'), o3] : List (Option V)) ∧ H a' = none ∧ H' a' = some (.lst (cellsV d.t (G.take i)))) ∧ Same H H') ⟨⟨_, a, rfl, ha, upd_same⟩, s1⟩ (fun i σ H' _ h => SqL.of (h.2 _ _ hR.1)) ?_ ?_⟩
    · rintro i x σ H2 hx ⟨⟨o3, a', rfl, ha', hv⟩, s2⟩
      obtain ⟨y, hy, ey, rfl⟩ := refsB_at hx
      have hi : i < G.length := (List.getElem?_eq_some_iff.mp ey).1
      have hyl : (strv y.2).length = y.2.length := List.length_map _
      have hle : (cellsV d.t (G.take i)).length + (y.2.length + 2) ≤ 60 := by
        have q := cells_len d.t (G.take (i + 1))
        rw [cells_snoc ey, List.length_append, List.length_append, hyl] at q
        have q2 := allN_take_le G (i + 1)
        simp only [List.length_cons, List.length_nil, List.length_take] at q
        omega
      refine ⟨_, rfl, _, rfl, a', y.1, _, _, rfl, rfl, hv, s2 _ _ (hR.2 y hy), Nat.le_trans (show _ ≤ 60 by rw [hyl]; omega) (by decide), fun c hc => ?_⟩
      have s3 := same_at (o := .lst (cellsV d.t (G.take i) ++ strv y.2)) hc
      refine ⟨_, rfl, b, _, rfl, DGet.k (k := Sum.inr "top") (s3 _ _ (s2 _ _ hb)), by show 2 ≤ sizeLine; decide, fun e he => ?_⟩
      have s4 := same_at (o := .lst [V.int 0, .int d.t]) he
      refine ⟨c, e, _, _, rfl, rfl, s4 _ _ upd_same, upd_same, Nat.le_trans (show _ ≤ 60 by rw [List.length_append, hyl]; simp only [List.length_cons, List.length_nil]; omega) (by decide), fun g hg => ?_⟩
      refine ⟨⟨_, g, rfl, (s2.trans (s3.trans s4)).free hg, ?_⟩, s2.trans (s3.trans (s4.trans (same_at hg)))⟩
      rw [upd_same, cells_snoc ey, List.append_assoc]
    · rintro σ H2 ⟨⟨o3, a', rfl, ha', hv⟩, s2⟩
      rw [refsB_len, List.take_length] at hv
      exact ⟨_, rfl, k a' H2 ha' hv s2⟩
structure SenT (P : Program) (w : World) (K : PySem.W.Frag) (mg : Str → Option Value) (base : Heap) : Prop where
  cel : ∃ f fd, mg "_law_cells" = some (.ref f) ∧ PySem.W.keepIn K (.ref f) = true ∧ Binds K fd ["_law_bare_here", "_law_rows"] [] ∧ FnOk P w K mg base CX0 1 f fd ["_law_bare_here", "_law_rows"] spCel
  isi : mg "isinstance" = none
  str : mg "str" = none
theorem ok_sen {f : Addr} {fd : FuncData} (F : Fun K "_law_sent" "_law_sent" sSen f fd) (T : SenT P w K mg base) : FnOk P w K mg base CX0 2 f fd ["_law_bare_here", "_law_rows", "_law_told"] spSen := by
  obtain ⟨fC, fdC, mC, kC, bC, GC⟩ := T.cel
  refine F.ok scSen (fun vs H Q E h => ?_) (fun cdv A outer s H vs Q E hr h => ?_)
  · obtain ⟨b, p, q, D, d, G, gv, rfl, _⟩ := h
    rfl
  · obtain ⟨b, p, q, D, d, G, gv, rfl, hB, hR, h8, h40, hL, k⟩ := h
    have hu := hu_of hr
    refine ⟨_, pss_cons (ps_set (i := 3) scSen.nd rfl (Or.inl rfl) (pe_lst pa_nil))
      (pss_cons (ps_for PassesOwn.never rfl (pi_list (pe_call GC hr rfl mC kC bC .nil pass0 (pa_cons (pv 0) (pa_cons (pv 1) pa_nil)))) (pg_name (i := 4) scSen.nd rfl (Or.inl rfl))
        (pss_one (ps_expr (pe_bm PySem.F.plainAttrs_list PySem.F.slot_list_append PySem.F.type_list_append mt_append (pv 3) (pa_cons (pe_ifExp (pt_val (pe_callB call_isi (by rfl) T.isi (by decide +kernel) (pa_cons (pv 4) (pa_cons (pe_bltn (by rfl) T.str (by decide +kernel) (v := .ty "str") rfl) pa_nil))))
          (pe_dget2 hu (pv 2) (pv 4) (pe_dget hu (pv 0) pe_str (fun _ _ => rfl)) ⟨rfl, rfl, rfl, rfl⟩) (pe_dget hu (pv 0) pe_str (fun _ _ => rfl))) pa_nil)))))
      (pss_one (ps_ret (pe_op op_cat (pe_lst (pa_cons pe_int (pa_cons (pe_dget hu (pv 0) pe_str (fun _ _ => rfl)) pa_nil))) (pe_revL (pv 3)))))), ?_⟩
    obtain ⟨dl, ll, rl, hb, _⟩ := hB.ex
    refine ⟨by show 0 ≤ sizeLine; decide, fun a ha => ?_⟩
    have s1 := same_at (o := .lst []) ha
    refine ⟨_, rfl, _, rfl, b, p, q, d, G, rfl, hB.same s1, hR.same s1, h8, h40, fun c H1 hc hv s12 => ?_⟩
    have s01 := s1.trans s12
    have hcl := cells_len d.t G
    have hdl := digB_len gv d.t G
    have nac : a ≠ c := ne_of_none upd_same hc
    refine ⟨c, rfl, ⟨_, SqL.of hv⟩, for_list (xs := cellsV d.t G) (fun i σ H' => (∃ o4, σ = ([some (.ref b), some (.ref q), some (.ref D), some (.ref a), o4] : List (Option V))) ∧ H' a = some (.lst ((digB gv d.t G).take i)) ∧ H' c = some (.lst (cellsV d.t G)) ∧ Same H H') ⟨⟨_, rfl⟩, by rw [List.take_zero]; exact s12 _ _ upd_same, hv, s01⟩ (fun i σ H' _ h => SqL.of h.2.2.1) ?_ ?_⟩
    · rintro i x σ H2 hx ⟨⟨o4, rfl⟩, ha2, hc2, s2⟩
      have fin : ∀ v, (digB gv d.t G)[i]? = some v → ∃ l xs e, V.ref a = .ref l ∧ [v] = [e] ∧ H2 l = some (.lst xs) ∧ xs.length < sizeLine ∧ (∃ o4, ([some (.ref b), some (.ref q), some (.ref D), some (.ref a), some x] : List (Option V)) = [some (.ref b), some (.ref q), some (.ref D), some (.ref a), o4]) ∧ upd H2 l (.lst (xs ++ [e])) a = some (.lst ((digB gv d.t G).take (i + 1))) ∧ upd H2 l (.lst (xs ++ [e])) c = some (.lst (cellsV d.t G)) ∧ Same H (upd H2 l (.lst (xs ++ [e]))) := fun v ev => by
        refine ⟨a, _, v, rfl, rfl, ha2, ?_, ⟨_, rfl⟩, ?_, ?_, fun u o e => ?_⟩
        · rw [List.length_take]
          exact Nat.lt_of_le_of_lt (show _ ≤ 60 by omega) (by decide)
        · rw [upd_same, List.take_add_one, ev]
          rfl
        · rw [upd_ne (Ne.symm nac)]
          exact hc2
        · rw [upd_ne (ne_of_none e ha)]
          exact s2 _ _ e
      rcases digB_at gv d.t G i x hx with ⟨z, rfl, ed⟩ | ⟨⟨n, rfl⟩, ed⟩
      · refine ⟨_, rfl, .inl ⟨rfl, _, SqL.of ha2⟩, _, rfl, _, _, .type "str", .type "str", true, rfl, .ty _, .base (.str _), rfl, _, rfl, iteT ?_⟩
        refine ⟨_, rfl, D, rfl, .inl ⟨_, .inl (s2 _ _ hL)⟩, _, rfl, _, rfl, b, _, rfl, DGet.k (k := Sum.inr "top") (s2 _ _ hb), _, DGet.k (k := Sum.inr z) (s2 _ _ hL), ?_⟩
        rw [valV_lv]
        have e2 : (Option.map V.int (lvG gv z)).getD (.int d.t) = .int (lvl gv d.t z) := by
          unfold lvl
          cases lvG gv z <;> rfl
        show _
        have := fin _ ed
        rw [← e2] at this
        exact this
      · refine ⟨_, rfl, .inl ⟨rfl, _, SqL.of ha2⟩, _, rfl, _, _, .type "int", .type "str", false, rfl, .ty _, .base (.int _), rfl, _, rfl, iteF ?_⟩
        exact ⟨_, rfl, b, _, rfl, DGet.k (k := Sum.inr "top") (s2 _ _ hb), fin _ ed⟩
    · rintro σ H2 ⟨⟨o4, rfl⟩, ha2, hc2, s2⟩
      have hcl2 : (cellsV d.t G).length = (digB gv d.t G).length := hdl.symm
      rw [hcl2, List.take_length] at ha2
      refine ⟨_, rfl, b, _, rfl, DGet.k (k := Sum.inr "top") (s2 _ _ hb), by show 2 ≤ sizeLine; decide, fun e he => ?_⟩
      have s3 := same_at (o := .lst [V.int 0, .int d.t]) he
      refine ⟨_, rfl, a, _, rfl, SqL.of (s3 _ _ ha2), fun g hg => ?_⟩
      have s4 := same_at (o := .lst (digB gv d.t G).reverse) hg
      refine ⟨e, g, _, _, rfl, rfl, s4 _ _ upd_same, upd_same, Nat.le_trans (show _ ≤ 100 by simp only [List.length_append, List.length_reverse, List.length_cons, List.length_nil]; omega) (by decide), fun u hu' => ?_⟩
      exact k u _ ((s2.trans (s3.trans s4)).free hu') upd_same (s2.trans (s3.trans (s4.trans (same_at hu'))))
end
end Sj
/-! != of lists of lists of texts -/
namespace Own
open PySem PySem.Spec PyProof.Rows L2 Sup
section
variable {X : Cx} {pins : List (Addr × Obj)} {σ : L2.St} {H : Hp} {s : Shared}
theorem neLL_at (I : Inv X pins σ H s) {A : Around} {a b : Addr} {L M : List (Addr × List Str)} (ha : H a = some (.lst (L.map fun x => V.ref x.1))) (hb : H b = some (.lst (M.map fun x => V.ref x.1)))
    (hL : ∀ x ∈ L, H x.1 = some (.lst (x.2.map V.str))) (hM : ∀ x ∈ M, H x.1 = some (.lst (x.2.map V.str))) (hu : A.units + 1 < cLine) : SeqAt.RcNeAt A s (.ref a) (.ref b) (!decide (L.map (·.2) = M.map (·.2))) := by
  obtain ⟨it1, r1, p1, _⟩ := I.list (SqL.of ha)
  obtain ⟨it2, r2, p2, _⟩ := I.list (SqL.of hb)
  have l1 : it1.length = (L.map (·.2)).length := by rw [← r1.length, List.length_map, List.length_map]
  have l2 : it2.length = (M.map (·.2)).length := by rw [← r2.length, List.length_map, List.length_map]
  have n1 : Vals ((L.map (·.1)).map V.ref) it1 := by rw [List.map_map]; exact r1
  have n2 : Vals ((M.map (·.1)).map V.ref) it2 := by rw [List.map_map]; exact r2
  have at_ : ∀ {L : List (Addr × List Str)} {j : Nat} {a : Addr}, (L.map (·.1))[j]? = some a → ∃ x ∈ L, x.1 = a ∧ (L.map (·.2))[j]? = some x.2 := fun {L j a} h => by
    rw [List.getElem?_map] at h
    cases e : L[j]? with
    | none => rw [e] at h; cases h
    | some x =>
      rw [e] at h
      exact ⟨x, List.mem_of_getElem? e, Option.some.inj h, by rw [List.getElem?_map, e]; rfl⟩
  by_cases hl : it1.length = it2.length
  · have z := SeqAt.RcNeAt.lists (A := A) (s := s) (e := fun j => decide ((L.map (·.2))[j]? = (M.map (·.2))[j]?)) p1.isList p2.isList (by rw [List.size_toArray, List.size_toArray]; exact hl) (by omega) fun j h1 h2 => by
      obtain ⟨c, e1, q1⟩ := refs_nth n1 j h1
      obtain ⟨d, e2, q2⟩ := refs_nth n2 j h2
      obtain ⟨x, hx, rfl, ex⟩ := at_ e1
      obtain ⟨y, hy, rfl, ey⟩ := at_ e2
      have hx' := hL x hx
      have hy' := hM y hy
      have e : decide ((L.map (·.2))[j]? = (M.map (·.2))[j]?) = decide (x.2 = y.2) := by
        rw [ex, ey]
        refine Bool.eq_iff_iff.mpr ?_
        rw [decide_eq_true_eq, decide_eq_true_eq]
        exact ⟨fun h => Option.some.inj h, fun h => by rw [h]⟩
      show SeqAt.EqAt A.in1 s it1[j] it2[j] _
      rw [e, q1, q2]
      by_cases hc : x.1 = y.1
      · have : x.2 = y.2 := by
          rw [hc, hy'] at hx'
          have h3 : y.2.map V.str = x.2.map V.str := by injection hx' with h; injection h
          exact (List.map_inj_right fun _ _ h => by injection h).mp h3.symm
        rw [decide_eq_true this, hc]
        exact SeqAt.EqAt.same _
      · exact SeqAt.EqAt.of_refs hc (eqL_at I hx' hy' (by show A.units + 1 < cLine; omega))
    have e : ((List.range it1.toArray.size).all fun j => decide ((L.map (·.2))[j]? = (M.map (·.2))[j]?)) = decide (L.map (·.2) = M.map (·.2)) := by
      rw [← all_same (L.map (·.2)) (M.map (·.2)), List.size_toArray, l1, show min (L.map (·.2)).length (M.map (·.2)).length = (L.map (·.2)).length by omega, show ((L.map (·.2)).length == (M.map (·.2)).length) = true by rw [beq_iff_eq]; omega, Bool.and_true]
    rw [e] at z
    exact z
  · have z := SeqAt.RcNeAt.lists_lengths (A := A) (s := s) p1.isList p2.isList (by rw [List.size_toArray, List.size_toArray, bne_iff_ne]; exact hl) (by omega)
    rw [decide_eq_false (fun e => hl (by rw [l1, l2, e]))]
    exact z
def rNeLL : R2 := fun x y H Q => ∃ (a b : Addr) (L M : List (Addr × List Str)), x = .ref a ∧ y = .ref b ∧ H a = some (.lst (L.map fun x => V.ref x.1)) ∧ H b = some (.lst (M.map fun x => V.ref x.1)) ∧
  (∀ x ∈ L, H x.1 = some (.lst (x.2.map V.str))) ∧ (∀ x ∈ M, H x.1 = some (.lst (x.2.map V.str))) ∧ Q (.bl (!decide (L.map (·.2) = M.map (·.2)))) H
theorem op_neLL (hu : X.A.units + 1 < cLine) : OpR X (compareOp .NotEq) rNeLL := by
  intro pins s σ H x y v u Q I rx ry h
  obtain ⟨a, b, L, M, rfl, rfl, ha, hb, hL, hM, q⟩ := h
  obtain rfl : v = Value.ref a := rx
  obtain rfl : u = Value.ref b := ry
  exact neLL_at I ha hb hL hM hu _ _ _ _ ⟨.bl _, H, I, rfl, q⟩
end
end Own
namespace Sj
open PySem L2 Sup StK Own Shw Exg Grd KepE
open NdefX (NF NScope ncx envF startF nscope_by)
open C8 (pss_cut tCut)
/-! k65: _law_other_right -/
abbrev ksPF : List Str := ["parts", "frame"]
/-- what is known of Chain where chains are made and compared -/
structure ChK (P : Program) (w : World) (K : PySem.W.Frag) (mg : Str → Option Value) (base : Heap) (ks : Kinds) (CF CC gO fC : Addr) : Prop where
  mC : mg "Chain" = some (.ref CC)
  cls : ∃ mc pO, ClX.CRead K CC mc ∧ ClX.CMet K CC mc "of" pO gO
  of0 : FnK P w K mg base (L2.CX P w) 6 gO [] (fun vs zs H Q E => vs.length = 3 ∧ spChO K ks CF CC vs H Q E)
  ofK : FnK P w K mg base (L2.CX P w) 6 gO ksPF (fun vs zs H Q E => vs.length = 1 ∧ spChO K ks CF CC (vs ++ zs.reverse) H Q E)
  mkC : Mk K CC fC
  iS : FnR P w K mg base (L2.CX P w) 4 fC (spChS K ks CF CC)
  eqN : EqN P w K mg base 7 CC (spCEq K ks CF CC)
  ic : IsiC K CC
  nfC : PySem.W.notFirst K CC (.ref CC) = true
  nfL : PySem.W.notFirst K CC (.type "list") = true
  nfN : PySem.W.notFirst K CC (.type "NoneType") = true
  koL : PySem.W.kitOne K (.type "list") (.ref CC) = some false
  koN : PySem.W.kitOne K (.type "NoneType") (.ref CC) = some false
theorem ch_of0 {P : Program} {w : World} {K : PySem.W.Frag} {mg : Str → Option Value} {base : Heap} {f CF CC : Addr} {fd : FuncData} {ks : Kinds} (F : FunD K "of" "Chain.of" (defArgs sChO) (defBody sChO) (defScope sChO) [] [] f fd) (G : FnOk P w K mg base (L2.CX P w) 6 f fd ["cls", "frame", "parts"] (spChO K ks CF CC)) :
    FnK P w K mg base (L2.CX P w) 6 f [] (fun vs zs H Q E => vs.length = 3 ∧ spChO K ks CF CC vs H Q E) := by
  have hb : KBn K fd ["cls", "frame", "parts"] 3 [] (fun us _ => us) (fun vs _ => vs) := by
    obtain ⟨oc, od, dV, kV, doc, pm, an, cdv, ct, osl, rfl, lk, hcd, hD, hK⟩ := F.ex
    rcases hD with ⟨_, rfl⟩ | ⟨e, _⟩
    case inr => exact absurd rfl e
    exact ⟨fun s us ws X h1 h2 => match us, ws, h1, h2 with
      | [a, b, c], [], _, _ => .of_eq rfl, fun r _ => r⟩
  exact fnK_of G hb
theorem ch_ofK {P : Program} {w : World} {K : PySem.W.Frag} {mg : Str → Option Value} {base : Heap} {f CF CC : Addr} {fd : FuncData} {ks : Kinds} (F : FunD K "of" "Chain.of" (defArgs sChO) (defBody sChO) (defScope sChO) [] [] f fd) (G : FnOk P w K mg base (L2.CX P w) 6 f fd ["cls", "frame", "parts"] (spChO K ks CF CC)) :
    FnK P w K mg base (L2.CX P w) 6 f ksPF (fun vs zs H Q E => vs.length = 1 ∧ spChO K ks CF CC (vs ++ zs.reverse) H Q E) := by
  have rev : ∀ {vs : List V} {us : List Value}, Vals vs us → Vals vs.reverse us.reverse := by
    intro vs us r
    induction r with
    | nil => exact .nil
    | cons r t ih =>
      rw [List.reverse_cons, List.reverse_cons]
      exact ih.append (.cons r .nil)
  have hb : KBn K fd ["cls", "frame", "parts"] 1 ksPF (fun us ws => us ++ ws.reverse) (fun vs zs => vs ++ zs.reverse) := by
    obtain ⟨oc, od, dV, kV, doc, pm, an, cdv, ct, osl, rfl, lk, hcd, hD, hK⟩ := F.ex
    rcases hD with ⟨_, rfl⟩ | ⟨e, _⟩
    case inr => exact absurd rfl e
    exact ⟨fun s us ws X h1 h2 => match us, ws, h1, h2 with
      | [a], [b, c], _, _ => .of_eq rfl, fun r1 r2 => r1.append (rev r2)⟩
  exact fnK_of G hb
theorem eqc_rd {P : Program} {w : World} {K : PySem.W.Frag} {mg : Str → Option Value} {base : Heap} {ks : Kinds} {CF CC gO fC a f b g : Addr} {H : Hp} {d e : FrD} {L M : List (Addr × List Str)} {op : CmpOp} {Q : VK} (T : ChK P w K mg base ks CF CC gO fC) (hC : ChIs ks CF CC H a f d L) (hD : ChIs ks CF CC H b g e M)
    (k : ∀ H', Same H H' → Q (.bl (ansOf op (eqCh d e L M))) H') : rOwnE K op (fun C => C = CC) (fun _ => spCEq K ks CF CC) (.ref a) (.ref b) H Q := by
  obtain ⟨dx, B, h1, _⟩ := hC.at_
  obtain ⟨dy, B', g1, _⟩ := hD.at_
  exact ⟨a, CC, dx, _, rfl, h1, rfl, .inl ⟨.ref CC, .base (.ins g1 T.ic.cl T.ic.ca T.ic.cn T.ic.ct T.ic.cm), T.nfC, a, f, d, L, _, rfl, hC, .inl ⟨b, g, e, M, rfl, hD, fun H' s => ⟨_, rfl, k H' s⟩⟩⟩⟩
theorem eqo_rd {K : PySem.W.Frag} {ks : Kinds} {CF CC a f : Addr} {H : Hp} {d : FrD} {L : List (Addr × List Str)} {op : CmpOp} {Q : VK} {y : V} {t : Value} (hC : ChIs ks CF CC H a f d L) (ty : TyX K H y t) (nf : PySem.W.notFirst K CC t = true) (ko : PySem.W.kitOne K t (.ref CC) = some false)
    (k : ∀ H', Same H H' → Q (.bl (ansOf op false)) H') : rOwnE K op (fun C => C = CC) (fun _ => spCEq K ks CF CC) (.ref a) y H Q := by
  obtain ⟨dx, B, h1, _⟩ := hC.at_
  exact ⟨a, CC, dx, _, rfl, h1, rfl, .inl ⟨t, ty, nf, a, f, d, L, _, rfl, hC, .inr ⟨t, ty, ko, fun H' s => ⟨_, rfl, k H' s⟩⟩⟩⟩
theorem allN_map (L : List (Addr × List Str)) : allN L = (L.map (·.2)).flatten := by
  unfold allN
  rw [List.flatMap_def]
theorem Parts.rows {d : FrD} {L M : List (Addr × List Str)} (h : Parts d L) (e : M.map (·.2) = L.map (·.2)) : Parts d M := by
  have hl : M.length = L.length := by
    have := congrArg List.length e
    rwa [List.length_map, List.length_map] at this
  exact ⟨by rw [hl]; exact h.l1, by rw [hl]; exact h.l8, by rw [allN_map, e, ← allN_map]; exact h.pm⟩
theorem put_top (t x : Int) (dl ll rl : Addr) : putK (rowsB t dl ll rl) (Sum.inr "top" : Key) (.int x) = rowsB x dl ll rl := by
  unfold rowsB putK
  simp +decide
structure OtrT (P : Program) (w : World) (K : PySem.W.Frag) (mg : Str → Option Value) (base : Heap) (ks : Kinds) (CF CC gO fC : Addr) : Prop where
  ck : ChK P w K mg base ks CF CC gO fC
  frm : ∃ f fd, mg "_law_frame" = some (.ref f) ∧ PySem.W.keepIn K (.ref f) = true ∧ Binds K fd ["_law_bare_here"] [] ∧ FnOk P w K mg base CX0 7 f fd ["_law_bare_here"] (spFrm ks CF)
  ne : ks.drv ≠ ks.lis
  tuple : mg "tuple" = none
  len : mg "len" = none
  dict : mg "dict" = none
  int : mg "int" = none
abbrev sOtr : Stmt := top 41
abbrev nOtr : List Str := ["_law_pen_here", "_law_bare_here", "_law_rows", "_law_made", "_law_field", "_law_again", "_law_longer", "_law_wide", "_law_row"]
theorem scOtr : FnScope nOtr ["_law_pen_here", "_law_bare_here", "_law_rows", "_law_made", "_law_field"] (defScope sOtr) := ⟨rfl, rfl, rfl, by decide +kernel, rfl, by decide +kernel, by decide +kernel⟩
def spOtr (ks : Kinds) (CF CC : Addr) : Sp := fun vs H Q _ => ∃ (p b q m f : Addr) (d : BareD) (ys : List LegR) (G L : List (Addr × List Str)), vs = [.ref p, .ref b, .ref q, .ref m, .ref f] ∧ BareAt H b d p ∧ d.ok ∧ RowL H q G ∧ KindsOf ks ys d.ds d.ls ∧ ChIs ks CF CC H m f ⟨ys, d.t, d.g, d.r⟩ L ∧ L.map (·.2) = G.map (·.2) ∧ ∀ H', Same H H' → Q (.bl true) H'
section
variable {P : Program} {w : World} {K : PySem.W.Frag} {mg : Str → Option Value} {base : Heap}
theorem ok_otr {f CF CC gO fC : Addr} {fd : FuncData} {ks : Kinds} (F : Fun K "_law_other_right" "_law_other_right" sOtr f fd) (T : OtrT P w K mg base ks CF CC gO fC) : FnOk P w K mg base CX0 9 f fd ["_law_pen_here", "_law_bare_here", "_law_rows", "_law_made", "_law_field"] (spOtr ks CF CC) := by
  obtain ⟨mc, pO, cr, cO⟩ := T.ck.cls
  obtain ⟨fF, fdF, mF, kF, bF, GF⟩ := T.frm
  have mC := T.ck.mC
  refine F.ok scOtr (fun vs H Q E h => ?_) (fun cdv A outer s H vs Q E hr h => ?_)
  · obtain ⟨p, b, q, m, f, d, ys, G, L, rfl, _⟩ := h
    rfl
  · obtain ⟨p, b, q, m, f, d, ys, G, L, rfl, hB, ok, hR, hk, hC, hLG, k⟩ := h
    have hu := hu_of hr
    have hr6 := hr.mono (show 6 ≤ 8 by decide)
    have hr7 := hr.mono (show 7 ≤ 8 by decide)
    have eq_ : ∀ {X : Cx}, X.prog = P → X.w = w → X.K = K → X.mg = mg → X.base = base → Room 8 X.A → EqC X CC (spCEq K ks CF CC) := fun {X} e1 e2 e3 e4 e5 h => by subst e1 e2 e3 e4 e5; exact T.ck.eqN.eqC h
    refine ⟨_, pss_cons (ps_set (i := 5) scOtr.nd rfl (Or.inl rfl) (pe_cmethK0 (pe_glob rfl mC (v := .ref CC) rfl) cr cO T.ck.ofK hr6 (passNo rfl rfl) (pk_cons (pe_callTy (T := "tuple") call_tuple_of (by rfl) T.tuple (by decide +kernel) (pa_cons
          (pe_lc (te := tRow K 8) (tt := tYes) (own := [("_law_row", 8)]) (g := gName 8) rfl scOtr.nd (pi_list (pv 2)) (blkOk_by (N := nOtr) (sc := defScope sOtr) (by decide +kernel)) (fun _ _ _ _ _ => pg_name (i := 8) scOtr.nd rfl (Or.inl rfl)) (fun _ _ _ _ _ => pts_nil)
            (fun _ _ _ _ _ => pe_callTy (T := "tuple") call_tuple_of (by rfl) T.tuple (by decide +kernel) (pa_cons (pv 8) pa_nil))) pa_nil)) (pk_cons (pv 4) pk_nil))))
      (pss_cons (ps_if (PW.pt (pw_or (pt_not (pt_cmpR (op_ownE (.inl rfl) (S := fun C => C = CC) (spE := fun _ => spCEq K ks CF CC) (fun C e => by rw [e]; exact eq_ rfl rfl rfl rfl rfl hr)) (pv 3) (pv 5) (nomark _)))
        (pw_or (pt_cmpR (op_ownE (.inr rfl) (S := fun C => C = CC) (spE := fun _ => spCEq K ks CF CC) (fun C e => by rw [e]; exact eq_ rfl rfl rfl rfl rfl hr)) (pv 3) (pv 5) (nomark _))
        (pw_or (pt_cmpR (op_ownE (.inl rfl) (S := fun C => C = CC) (spE := fun _ => spCEq K ks CF CC) (fun C e => by rw [e]; exact eq_ rfl rfl rfl rfl rfl hr)) (pv 3) (pv 2) (nomark _))
        (pw_or1 (pt_cmpR (op_ownE (.inl rfl) (S := fun C => C = CC) (spE := fun _ => spCEq K ks CF CC) (fun C e => by rw [e]; exact eq_ rfl rfl rfl rfl rfl hr)) (pv 3) pe_non (nomark _))))))) (pss_one (ps_ret pe_bl)) pss_nil)
      (pss_cut (ps_if (pt_cmpR op_lt (pe_callB call_len_seq (by rfl) T.len PySem.boot_len (pa_cons (pv 2) pa_nil)) pe_int (nomark _))
        (pss_cons (ps_set (i := 6) scOtr.nd rfl (Or.inl rfl) (pe_cmethK (pe_glob rfl mC (v := .ref CC) rfl) cr cO T.ck.of0 hr6 (passNo rfl rfl) (pa_cons (pv 4) (pa_cons (pe_op op_cat (pv 2) (pe_lst (pa_cons (pe_lst pa_nil) pa_nil))) pa_nil)) pk_nil))
        (pss_one (ps_if (PW.pt (pw_or (pt_cmpR (op_ownE (.inl rfl) (S := fun C => C = CC) (spE := fun _ => spCEq K ks CF CC) (fun C e => by rw [e]; exact eq_ rfl rfl rfl rfl rfl hr)) (pv 3) (pv 6) (nomark _))
          (pw_or1 (pt_not (pt_cmpR (op_ownE (.inr rfl) (S := fun C => C = CC) (spE := fun _ => spCEq K ks CF CC) (fun C e => by rw [e]; exact eq_ rfl rfl rfl rfl rfl hr)) (pv 3) (pv 6) (nomark _)))))) (pss_one (ps_ret pe_bl)) pss_nil))) pss_nil)
      (pss_cut (ps_if (PW.pt (pw_and (pt_cmpR (op_neLL (Nat.lt_of_le_of_lt (Nat.add_le_add_left (show 1 ≤ 64 by decide) _) hr.units)) (pv 2) (pe_revL (pv 2)) (nomark _))
        (pw_and1 (pt_cmpR (op_ownE (.inl rfl) (S := fun C => C = CC) (spE := fun _ => spCEq K ks CF CC) (fun C e => by rw [e]; exact eq_ rfl rfl rfl rfl rfl hr)) (pv 3) (pe_cmethK (pe_glob rfl mC (v := .ref CC) rfl) cr cO T.ck.of0 hr6 (passNo rfl rfl) (pa_cons (pv 4) (pa_cons (pe_revL (pv 2)) pa_nil)) pk_nil) (nomark _))))) (pss_one (ps_ret pe_bl)) pss_nil)
      (pss_cons (ps_set (i := 7) scOtr.nd rfl (Or.inl rfl) (pe_callTy (T := "dict") call_dictD (by rfl) T.dict (by decide +kernel) (pa_cons (pv 1) pa_nil)))
      (pss_cons (ps_dput hu (pv 7) pe_str (pe_op op_add pe_int (pe_op op_mod (pe_callTy call_int1 (by rfl) T.int (by decide +kernel) (pa_cons (pe_dget hu (pv 1) pe_str (fun _ _ => rfl)) pa_nil)) pe_int)) rfl)
      (pss_one (ps_ret (pe_cmpR (op_ownE (.inr rfl) (S := fun C => C = CC) (spE := fun _ => spCEq K ks CF CC) (fun C e => by rw [e]; exact eq_ rfl rfl rfl rfl rfl hr)) (pv 3) (pe_cmethK (pe_glob rfl mC (v := .ref CC) rfl) cr cO T.ck.of0 hr6 (passNo rfl rfl) (pa_cons (pe_call GF hr7 rfl mF kF bF .nil pass0 (pa_cons (pv 7) pa_nil)) (pa_cons (pv 2) pa_nil)) pk_nil) (nomark _))))))))), ?_⟩
    have h8 := hC.p.l8
    have h1 := hC.p.l1
    have hp : Parts ⟨ys, d.t, d.g, d.r⟩ G := hC.p.rows hLG.symm
    have hgl : G.length = L.length := by
      have := congrArg List.length hLG
      rw [List.length_map, List.length_map] at this
      exact this.symm
    have h40 := hp.le40 hC.fr
    have eself : ∀ M : List (Addr × List Str), M.map (·.2) = G.map (·.2) → eqCh ⟨ys, d.t, d.g, d.r⟩ ⟨ys, d.t, d.g, d.r⟩ L M = true := fun M hM => by
      unfold eqCh
      rw [eqFr_self rfl rfl rfl (eqLegs_of hk hk), decide_eq_true (hLG.trans hM.symm)]
      rfl
    -- again
    refine ⟨rfl, _, rfl, q, rfl, ⟨_, SqL.of hR.1⟩, fun D hD => ?_⟩
    refine rows_it (Bl := G) (fun H' => SqL K H' q (refsB G)) (walk_list (K := K) (a := q) (xs := refsB G)) (fun H' s => SqL.of (s _ _ hR.1)) hD (fun x hx => .inl (hR.2 x hx)) (by omega) (fun x => rfl) (fun x => rfl) fun H1 L1 s1 hL1 hLa d1 => ?_
    refine ⟨D, _, rfl, .inl ⟨SqL.of d1, fun t1 ht1 => ?_⟩⟩
    have s2 := same_at (o := .tup (refsB L1)) ht1
    have s12 := s1.trans s2
    refine ⟨_, rfl, rfl, rfl, f, t1, _, L1, rfl, .inr upd_same, hC.fr.same s12, fun x hx => .inr (s2 _ _ (hLa x hx)), hp.rows hL1, fun x H3 L3 hx hL3 hc3 s3 => ?_⟩
    have s03 := s12.trans s3
    have hC3 := hC.same s03
    have hA3 : ChIs ks CF CC H3 x f ⟨ys, d.t, d.g, d.r⟩ L3 := ⟨hc3, hC.fr.same s03, hp.rows (hL3.trans hL1)⟩
    have eA := eself L3 (hL3.trans hL1)
    refine ⟨_, rfl, _, rfl, eqc_rd T.ck hC3 hA3 fun H4 s4 => ⟨true, by rw [eA]; rfl, iteF ?_⟩⟩
    refine ⟨_, rfl, _, rfl, eqc_rd T.ck (hC3.same s4) (hA3.same s4) fun H5 s5 => ⟨false, by rw [eA]; rfl, iteF ?_⟩⟩
    have s05 := s03.trans (s4.trans s5)
    refine ⟨_, rfl, _, rfl, eqo_rd (hC.same s05) (.base (.lst (s05 _ _ hR.1))) T.ck.nfL T.ck.koL fun H6 s6 => ⟨false, rfl, iteF ?_⟩⟩
    refine ⟨_, rfl, ?_⟩
    dsimp only [tC]
    refine eqo_rd (hC.same (s05.trans s6)) (.base .non) T.ck.nfN T.ck.koN fun H7 s7 => ⟨false, rfl, iteF ?_⟩
    have s07 := s05.trans (s6.trans s7)
    -- longer
    have dF : ∀ {M : List (Addr × List Str)}, L.map (·.2) ≠ M.map (·.2) → eqCh ⟨ys, d.t, d.g, d.r⟩ ⟨ys, d.t, d.g, d.r⟩ L M = false := fun {M} h => by
      unfold eqCh
      rw [decide_eq_false h, Bool.and_false]
    have rowAt : ∀ {H' : Hp}, Same H H' → RowAt H' G := fun {H'} s y hy => .inl (s _ _ (hR.2 y hy))
    refine ⟨fun σ H' => (∃ o6, σ = ([some (.ref p), some (.ref b), some (.ref q), some (.ref m), some (.ref f), some (.ref x), o6, none, none] : List (Option V))) ∧ Same H H', ?_, ?_⟩
    · refine ⟨_, rfl, q, _, rfl, .inl (SqL.of (s07 _ _ hR.1)), _, _, rfl, rfl, _, rfl, ?_⟩
      rw [refsB_len]
      by_cases hlt : G.length < 8
      · rw [decide_eq_true (show (G.length : Int) < 8 by omega)]
        refine iteT ?_
        refine ⟨rfl, _, rfl, _, rfl, by show 0 ≤ sizeLine; decide, fun e he => ⟨by show 1 ≤ sizeLine; decide, fun l2 hl2 => ?_⟩⟩
        have s8 := same_at (o := .lst []) he
        have s9 := same_at (o := .lst [V.ref e]) hl2
        have s79 := s07.trans (s8.trans s9)
        refine ⟨q, l2, _, _, rfl, rfl, s79 _ _ hR.1, upd_same, Nat.le_trans (show _ ≤ 9 by rw [refsB_len]; simp only [List.length_cons, List.length_nil]; omega) (by decide), fun c hc => ?_⟩
        have s10 := same_at (o := .lst (refsB G ++ [V.ref e])) hc
        have sA := s79.trans s10
        have eMap : (G ++ [(e, ([] : List Str))]).map (·.2) = G.map (·.2) ++ [[]] := List.map_append
        refine ⟨rfl, rfl, f, c, _, G ++ [(e, [])], rfl, .inl ?_, hC.fr.same sA, fun y hy => ?_, ⟨?_, ?_, ?_⟩, fun x2 HB LB hx2 hLB hcB sB => ?_⟩
        · rw [upd_same]
          unfold refsB
          rw [List.map_append]
          rfl
        · rcases List.mem_append.mp hy with hy | hy
          · exact rowAt sA y hy
          · obtain rfl := List.mem_singleton.mp hy
            exact .inl (s10 _ _ (s9 _ _ upd_same))
        · rw [List.length_append]; omega
        · rw [List.length_append, List.length_singleton]; omega
        · unfold allN
          rw [List.flatMap_append]
          simp only [List.flatMap_cons, List.flatMap_nil, List.append_nil]
          exact hp.pm
        have s0B := sA.trans sB
        have hpB : Parts ⟨ys, d.t, d.g, d.r⟩ LB := Parts.rows (L := G ++ [(e, [])]) ⟨by rw [List.length_append]; omega, by rw [List.length_append, List.length_singleton]; omega, by
          unfold allN
          rw [List.flatMap_append]
          simp only [List.flatMap_cons, List.flatMap_nil, List.append_nil]
          exact hp.pm⟩ hLB
        have hCB : ChIs ks CF CC HB x2 f ⟨ys, d.t, d.g, d.r⟩ LB := ⟨hcB, hC.fr.same s0B, hpB⟩
        have eF := dF (M := LB) (fun z => by
          rw [hLB, eMap, hLG] at z
          have := congrArg List.length z
          rw [List.length_append, List.length_singleton] at this
          omega)
        refine ⟨_, rfl, _, rfl, eqc_rd T.ck (hC.same s0B) hCB fun HC sC => ⟨false, by rw [eF]; rfl, iteF ?_⟩⟩
        exact ⟨_, rfl, _, rfl, eqc_rd T.ck (hC.same (s0B.trans sC)) (hCB.same sC) fun HD sD => ⟨true, by rw [eF]; rfl, iteF ⟨⟨_, rfl⟩, s0B.trans (sC.trans sD)⟩⟩⟩
      · rw [decide_eq_false (show ¬ (G.length : Int) < 8 by omega)]
        exact iteF ⟨⟨_, rfl⟩, s07⟩
    rintro σ H8 ⟨⟨o6, rfl⟩, s08⟩
    -- turned
    refine ⟨fun σ H' => (∃ o6, σ = ([some (.ref p), some (.ref b), some (.ref q), some (.ref m), some (.ref f), some (.ref x), o6, none, none] : List (Option V))) ∧ Same H H', ?_, ?_⟩
    · have hrev : ∀ {H' : Hp} {r : Addr}, H' r = some (.lst (refsB G).reverse) → H' r = some (.lst (refsB G.reverse)) := fun {H' r} e => by
        rw [e]
        unfold refsB
        rw [List.map_reverse]
      refine ⟨_, rfl, _, rfl, q, _, rfl, SqL.of (s08 _ _ hR.1), fun r hr' => ?_⟩
      have s9 := same_at (o := .lst (refsB G).reverse) hr'
      have s09 := s08.trans s9
      refine ⟨q, r, G, G.reverse, rfl, rfl, s09 _ _ hR.1, hrev upd_same, fun y hy => s09 _ _ (hR.2 y hy), fun y hy => s09 _ _ (hR.2 y (List.mem_reverse.mp hy)), _, rfl, ?_⟩
      by_cases he : G.map (·.2) = G.reverse.map (·.2)
      · rw [decide_eq_true he]
        exact iteF (iteF ⟨⟨_, rfl⟩, s09⟩)
      · rw [decide_eq_false he]
        refine iteT ⟨_, rfl, rfl, _, rfl, _, rfl, q, _, rfl, SqL.of (s09 _ _ hR.1), fun r2 hr2 => ?_⟩
        have s10 := same_at (o := .lst (refsB G).reverse) hr2
        have sA := s09.trans s10
        have hpr : Parts ⟨ys, d.t, d.g, d.r⟩ G.reverse := ⟨by rw [List.length_reverse]; omega, by rw [List.length_reverse]; omega, by
          refine List.Perm.trans ?_ hp.pm
          exact (List.reverse_perm G).flatMap_right _⟩
        refine ⟨rfl, rfl, f, r2, _, G.reverse, rfl, .inl (hrev upd_same), hC.fr.same sA, fun y hy => rowAt sA y (List.mem_reverse.mp hy), hpr, fun x2 HB LB hx2 hLB hcB sB => ?_⟩
        have s0B := sA.trans sB
        have hCB : ChIs ks CF CC HB x2 f ⟨ys, d.t, d.g, d.r⟩ LB := ⟨hcB, hC.fr.same s0B, hpr.rows hLB⟩
        have eF := dF (M := LB) (fun z => he (by rw [← hLG, z, hLB]))
        exact eqc_rd T.ck (hC.same s0B) hCB fun HC sC => ⟨false, by rw [eF]; rfl, iteF ⟨⟨_, rfl⟩, s0B.trans sC⟩⟩
    rintro σ H9 ⟨⟨o6', rfl⟩, s09⟩
    -- wide
    obtain ⟨dl, ll, rl, hb, hdl, hll, hrl, hdp, hlp, hrp⟩ := hB.ex
    refine ⟨_, rfl, b, _, rfl, .inl (s09 _ _ hb), fun wd hwd => ?_⟩
    have s10 := same_at (o := .dK (rowsB d.t dl ll rl)) hwd
    obtain ⟨HA, eA'⟩ : ∃ HA, HA = upd H9 wd (.dK (rowsB d.t dl ll rl)) := ⟨_, rfl⟩
    have hwA : HA wd = some (.dK (rowsB d.t dl ll rl)) := by rw [eA', upd_same]
    have s0A : Same H HA := by rw [eA']; exact s09.trans s10
    rw [← eA']
    refine ⟨_, rfl, b, _, rfl, DGet.k (k := Sum.inr "top") (s0A _ _ hb), .inl ⟨_, rfl, _, _, rfl, rfl, (by show (0 : Int) < 3; decide), 1, _, rfl, rfl, _, rfl, wd, _, rfl, DPut.k (k := Sum.inr "top") hwA (by show 4 < sizeLine; decide), ?_⟩⟩
    rw [put_top]
    obtain ⟨HB, eB⟩ : ∃ HB, HB = upd HA wd (.dK (rowsB (1 + d.t % 3) dl ll rl)) := ⟨_, rfl⟩
    have hwB : HB wd = some (.dK (rowsB (1 + d.t % 3) dl ll rl)) := by rw [eB, upd_same]
    have hw0 : H wd = none := s09.free hwd
    have s0B : Same H HB := fun c o e => by
      rw [eB, upd_ne (ne_of_none e hw0)]
      exact s0A _ _ e
    show _
    rw [← eB]
    have t1 := ok.t1
    have t3 := ok.t3
    have hBw : BareAt HB wd ⟨1 + d.t % 3, d.ds, d.ls, d.g, d.r⟩ p := ⟨dl, ll, rl, hwB, s0B _ _ hdl, s0B _ _ hll, s0B _ _ hrl, hdp, hlp, hrp⟩
    have okw : BareD.ok ⟨1 + d.t % 3, d.ds, d.ls, d.g, d.r⟩ := ⟨by show (1 : Int) ≤ 1 + d.t % 3; omega, by show (1 : Int) + d.t % 3 ≤ 3; omega, ok.nd, ok.po, ok.sd, ok.sl, ok.le⟩
    refine ⟨_, rfl, rfl, _, rfl, wd, ⟨1 + d.t % 3, d.ds, d.ls, d.g, d.r⟩, p, rfl, hBw, okw, fun a ys' HC hF' hk' ha' sC => ?_⟩
    have s0C := s0B.trans sC
    have tw := told_of okw T.ne hF'.so hk'
    have to := told_of ok T.ne hC.fr.so hk
    have hpw : Parts ⟨ys', 1 + d.t % 3, d.g, d.r⟩ G := ⟨hp.l1, hp.l8, hp.pm.trans (to.pm.trans tw.pm.symm)⟩
    refine ⟨_, rfl, rfl, rfl, a, q, _, G, rfl, .inl (s0C _ _ hR.1), hF', rowAt s0C, hpw, fun x2 HD LD hx2 hLD hcD sD => ?_⟩
    have s0D := s0C.trans sD
    have hCD : ChIs ks CF CC HD x2 a ⟨ys', 1 + d.t % 3, d.g, d.r⟩ LD := ⟨hcD, hF'.same sD, hpw.rows hLD⟩
    refine eqc_rd T.ck (hC.same s0D) hCD fun HE sE => ?_
    have eF : eqCh ⟨ys, d.t, d.g, d.r⟩ ⟨ys', 1 + d.t % 3, d.g, d.r⟩ L LD = false := by
      unfold eqCh
      rw [eqFr_top (show d.t ≠ 1 + d.t % 3 by omega), Bool.false_and]
    rw [eF]
    exact k HE (s0D.trans sE)
end
end Sj
/-! def f(a, *v) of which more is known: that nothing is being shown around it; o.m(e, ..), o.m() of such a def -/
namespace Grd
open PySem PySem.Spec PyProof.Rows L2
open StX
/-- a promise by positional values, asked where nothing is being shown -/
def FnGR (P : Program) (w : World) (K : PySem.W.Frag) (mg : Str → Option Value) (base : Heap) (CX : CXT) (k : Nat) (f : Addr) (sp : Sp) : Prop :=
  ∀ (A : Around) (outer : List Env) (s : Shared) (H : Hp) (us : List Value) (vs : List V) (Q : VK) (E : XK), A.guards = some [] → Room k A → Env0 P w K mg base A outer s H → Vals vs us → sp vs H Q E →
    codeAny (model P w) A (.call (.ref f) ⟨us, []⟩) (CR CX outer P w H s Q E) s
section
variable {P : Program} {w : World} {K : PySem.W.Frag} {mg : Str → Option Value} {base : Heap} {CX : CXT} {j k : Nat} {f : Addr} {sp sp' : Sp} {N ps : List Str} {name qual : Str} {params : Arguments} {body : List Stmt} {scope : Scope} {dV kV doc pm cdv ct oc : Value} {an od : Option Addr}
  {osl : Array (Option Value)}
theorem FnGR.mono (F : FnGR P w K mg base CX j f sp) (h : j ≤ k) : FnGR P w K mg base CX k f sp := fun A outer s H us vs Q E hg hr => F A outer s H us vs Q E hg (hr.mono h)
end
end Grd
/-! o.m(k = e): an own method called by words alone, nothing being shown -/
namespace StK
open PySem PySem.Spec PyProof PyProof.Rows L2 Sup Grd Own StX
/-- a def called by these words behind its self, nothing being shown -/
def FnKG (P : Program) (w : World) (K : PySem.W.Frag) (mg : Str → Option Value) (base : Heap) (CX : CXT) (k : Nat) (f : Addr) (ks : List Str) (sp : Sp) : Prop :=
  ∀ (A : Around) (outer : List Env) (s : Shared) (H : Hp) (u : Value) (ws : List Value) (v : V) (zs : List V) (Q : VK) (E : XK), A.guards = some [] → Room k A → Env0 P w K mg base A outer s H → RelV v u → Vals zs ws → zs.length = ks.length → sp (v :: zs) H Q E →
    codeAny (model P w) A (.call (.ref f) ⟨[u], ks.zip ws⟩) (CR CX outer P w H s Q E) s
theorem fnKG_of {P : Program} {w : World} {K : PySem.W.Frag} {mg : Str → Option Value} {base : Heap} {CX : CXT} {k : Nat} {f : Addr} {fd : FuncData} {ps ks : List Str} {sp : Sp} (F : FnG P w K mg base CX k f fd ps sp)
    (hb : ∀ (s : Shared) (u : Value) (ws : List Value), ws.length = ks.length → BindsTo s fd ⟨[u], ks.zip ws⟩ (ps.zip (u :: ws))) : FnKG P w K mg base CX k f ks sp := fun A outer s H u ws v zs Q E hg hr e0 r rz hl h =>
  F.run A outer s H ⟨[u], ks.zip ws⟩ (u :: ws) (v :: zs) Q E hg hr e0 (hb s u ws (by rw [← rz.length]; exact hl)) (.cons r rz) h
section
variable {X : Cx} {CX : CXT} {k : Nat} {f C : Addr} {m : Str} {ks : List Str} {sp : Sp} {E : XK} {o : Expr} {kws : List Keyword} {ta : TE} {tk : TA} {apos pos : Pos}
def tMethK (C : Addr) (m : Str) (n : Nat) (sp : Sp) (E : XK) (ta : TE) (tk : TA) : TE := fun σ H Q => ta σ H fun x H1 => ∃ a dx fs, x = .ref a ∧ H1 a = some (.ins C dx fs) ∧ fs.lookup m = none ∧ tk σ H1 fun zs H2 => zs.length = n ∧ sp (x :: zs) H2 Q E
theorem pe_methK {pl : Sem Bool} (he : PE X o ta) (c : Cls X.K C) (hm : Meth X.K C m f) (F : FnKG X.prog X.w X.K X.mg X.base CX k f ks sp) (hG : X.A.guards = some []) (hr : Room k X.A) (hx : Passes CX X E) (hkw : PK X kws tk)
    (hall : (backToKw pos (keywordEach kws X.env)).all (·.1.isSome) = true := by rfl) (hks : (backToKw pos (keywordEach kws X.env)).filterMap (·.1) = ks := by rfl)
    (hpl : ((backTo pos (starEach [] X.env)).any (·.1) || (backToKw pos (keywordEach kws X.env)).any (·.1.isNone)) = false := by rfl)
    (ht : eval (.Call (.Attribute o m apos) [] kws pos) X.env = (do let ov ← eval o X.env; standAt apos.atName; let (f, first) ← holding [ov] (getMethod ov m pl); callWith pos f first (backTo pos (starEach [] X.env)) (backToKw pos (keywordEach kws X.env))) := by rfl) :
    PE X (.Call (.Attribute o m apos) [] kws pos) (tMethK C m ks.length sp E ta tk) := by
  refine ⟨fun pins s σ H Q I h => ?_⟩
  refine PySem.W.methodCall_KW (pl := pl) (thn (he.run pins s σ H _ I h) fun u s1 ⟨x, H1, I1, rx, a, dx, fs, ex, ea, l, q⟩ => ?_) ht
  subst ex
  obtain rfl : u = Value.ref a := rx
  refine getmeth_ok I1 ea c hm l ?_
  refine PySem.W.callWith_KW0 (first := [.ref a]) (h₀ := X.base) I.ok.mod.kin hm.kp hall ?_ hpl
  refine thn (hkw.run pos pins s1 σ H1 _ I1 q) fun ws s2 ⟨zs, H2, I2, rz, l2, q2⟩ => ⟨I2.kIn, ?_⟩
  rw [hks]
  refine wpAny_call (codeAny_mono (F X.A X.stack s2 H2 (.ref a) ws (.ref a) zs Q E hG hr I2.env0 rfl rz l2 q2) fun res s' hq => ?_)
  match res, hq with
  | .error e, hq => exact hx pins σ H2 s2 e s' I2 hq
  | .ok (.ret u), hq => exact I2.after hq
end
end StK
namespace Sj
open PySem L2 Sup StK Own Shw Exg Grd KepE
/-! k65: what is shown of a chain -/
theorem Sm.i20 {k n : Nat} {t : Int} (h1 : 0 ≤ t) (h3 : t ≤ 8) : Sm k n (.int t) := by
  obtain rfl | rfl | rfl | rfl | rfl | rfl | rfl | rfl | rfl : t = 0 ∨ t = 1 ∨ t = 2 ∨ t = 3 ∨ t = 4 ∨ t = 5 ∨ t = 6 ∨ t = 7 ∨ t = 8 := by omega
  all_goals exact ⟨by decide +kernel, by decide +kernel, by decide +kernel, Nat.zero_le _, Nat.zero_le _⟩
theorem fit_i20 {t : Int} (h1 : 0 ≤ t) (h3 : t ≤ 8) : ShN.FitN (.int t) := (Sm.i20 (k := 0) (n := 0) h1 h3).fit (by decide) (by decide)
def pdRw (r : List Str) : PyData := .tuple (r.map PyData.str)
theorem dp_rws {K : PySem.W.Frag} {H : Hp} : ∀ {L : List (Addr × List Str)}, (∀ x ∈ L, H x.1 = some (.tup (strv x.2))) → DpAll K H (refsB L) ((L.map (·.2)).map pdRw)
  | [], _ => .nil
  | x :: L, h => .cons (.tup (SqT.of (h x List.mem_cons_self)) (dp_strv _)) (dp_rws fun y hy => h y (List.mem_cons_of_mem _ hy))
def cellsR (t : Int) (R : List (List Str)) : List PyData := R.flatMap fun r => r.map PyData.str ++ [.int 0, .int t]
theorem dp_app {K : PySem.W.Frag} {H : Hp} : ∀ {xs ys : List V} {ds es : List PyData}, DpAll K H xs ds → DpAll K H ys es → DpAll K H (xs ++ ys) (ds ++ es)
  | _, _, _, _, .nil, h => h
  | _, _, _, _, .cons r t, h => .cons r (dp_app t h)
theorem dp_cells {K : PySem.W.Frag} {H : Hp} (t : Int) : ∀ L : List (Addr × List Str), DpAll K H (cellsV t L) (cellsR t (L.map (·.2)))
  | [] => .nil
  | x :: L => dp_app (dp_app (dp_strv x.2) (.cons (.int 0) (.cons (.int t) .nil))) (dp_cells t L)
def digI (f : Str → Int) (t : Int) (R : List (List Str)) : List Int := R.flatMap fun r => r.map f ++ [t, t]
theorem digV_eq (ks : Kinds) (e : FrD) (gv : List (Str × Int)) (t : Int) : ∀ L : List (Addr × List Str), digV ks e gv t L = (digI (wlv ks e gv) t (L.map (·.2))).map V.int
  | [] => rfl
  | x :: L => by
    have ih := digV_eq ks e gv t L
    have e1 : digV ks e gv t (x :: L) = ((x.2.map fun z => V.int (wlv ks e gv z)) ++ [V.int t, .int t]) ++ digV ks e gv t L := rfl
    have e2 : digI (wlv ks e gv) t ((x :: L).map (·.2)) = (x.2.map (wlv ks e gv) ++ [t, t]) ++ digI (wlv ks e gv) t (L.map (·.2)) := rfl
    rw [e1, e2, ih, List.map_append, List.map_append, List.map_map]
    rfl
theorem digB_eq (gv : List (Str × Int)) (t : Int) : ∀ L : List (Addr × List Str), digB gv t L = (digI (lvl gv t) t (L.map (·.2))).map V.int
  | [] => rfl
  | x :: L => by
    have ih := digB_eq gv t L
    have e1 : digB gv t (x :: L) = ((x.2.map fun z => V.int (lvl gv t z)) ++ [V.int t, .int t]) ++ digB gv t L := rfl
    have e2 : digI (lvl gv t) t ((x :: L).map (·.2)) = (x.2.map (lvl gv t) ++ [t, t]) ++ digI (lvl gv t) t (L.map (·.2)) := rfl
    rw [e1, e2, ih, List.map_append, List.map_append, List.map_map]
    rfl
theorem digI_congr {f g : Str → Int} {t : Int} : ∀ {R : List (List Str)}, (∀ r ∈ R, ∀ z ∈ r, f z = g z) → digI f t R = digI g t R
  | [], _ => rfl
  | r :: R, h => by
    have ih := digI_congr (t := t) (R := R) fun s hs => h s (List.mem_cons_of_mem _ hs)
    show (r.map f ++ [t, t]) ++ digI f t R = (r.map g ++ [t, t]) ++ digI g t R
    rw [ih, List.map_congr_left (h r List.mem_cons_self)]
theorem digI_bd {f : Str → Int} {t : Int} (ht : 0 ≤ t ∧ t ≤ 3) : ∀ {R : List (List Str)}, (∀ r ∈ R, ∀ z ∈ r, 0 ≤ f z ∧ f z ≤ 3) → ∀ i ∈ digI f t R, 0 ≤ i ∧ i ≤ 3 := fun {R} h i hi => by
  obtain ⟨r, hr, hi⟩ := List.mem_flatMap.mp hi
  rcases List.mem_append.mp hi with hi | hi
  · obtain ⟨z, hz, rfl⟩ := List.mem_map.mp hi
    exact h r hr z hz
  · simp only [List.mem_cons, List.not_mem_nil, or_false, or_self] at hi
    rw [hi]
    exact ht
theorem dp_ints2 {K : PySem.W.Frag} {H : Hp} : ∀ l : List Int, DpAll K H (l.map V.int) (l.map PyData.int)
  | [] => .nil
  | i :: l => .cons (.int i) (dp_ints2 l)
theorem fit_t03 {l : List Int} (hl : l.length ≤ 100) (h : ∀ i ∈ l, 0 ≤ i ∧ i ≤ 3) : ShN.FitN (.tuple (l.map PyData.int)) := by
  have a := SmA.all (k := 0) (n := 0) (ds := l.map PyData.int) fun d hd => by
    obtain ⟨i, hi, rfl⟩ := List.mem_map.mp hd
    exact Sm.i20 (h i hi).1 (by have := (h i hi).2; omega)
  rw [List.length_map] at a
  exact ((Sm.tup a).mono (k' := 1) (n' := 200) (Nat.le_refl _) (by omega)).fit (by decide) (by decide)
/-- [made.parts, len(made), made.cells] -/
def pdCh (t : Int) (R : List (List Str)) : PyData := .list [.tuple (R.map pdRw), .int R.length, .tuple (cellsR t R)]
theorem cellsR_len (t : Int) : ∀ R : List (List Str), (cellsR t R).length = R.flatten.length + 2 * R.length
  | [] => rfl
  | r :: R => by
    have ih := cellsR_len t R
    show ((r.map PyData.str ++ [PyData.int 0, PyData.int t]) ++ cellsR t R).length = (r ++ R.flatten).length + 2 * (R.length + 1)
    rw [List.length_append, List.length_append, List.length_append, ih, List.length_map]
    simp only [List.length_cons, List.length_nil]
    omega
theorem fit_pdCh {t : Int} {R : List (List Str)} (ht : 0 ≤ t ∧ t ≤ 3) (h8 : R.length ≤ 8) (h40 : R.flatten.length ≤ 40) (hz : ∀ r ∈ R, ∀ z ∈ r, shortZ z = true) : ShN.FitN (pdCh t R) := by
  have hr : ∀ r ∈ R, r.length ≤ 40 := fun r hr => by
    obtain ⟨A, B, e⟩ := List.append_of_mem hr
    rw [e, List.flatten_append, List.flatten_cons, List.length_append, List.length_append] at h40
    omega
  have a := SmA.all (k := 1) (n := 450) (ds := R.map pdRw) fun d hd => by
    obtain ⟨r, hr', rfl⟩ := List.mem_map.mp hd
    exact Sm.names (hz r hr') (by have := hr r hr'; omega)
  rw [List.length_map] at a
  have c := SmA.all (k := 1) (n := 8) (ds := cellsR t R) fun d hd => by
    obtain ⟨r, hr', hd⟩ := List.mem_flatMap.mp hd
    rcases List.mem_append.mp hd with hd | hd
    · obtain ⟨z, hz', rfl⟩ := List.mem_map.mp hd
      exact Sm.str (hz r hr' z hz')
    · simp only [List.mem_cons, List.not_mem_nil, or_false] at hd
      rcases hd with rfl | rfl
      · exact Sm.i20 (by decide) (by decide)
      · exact Sm.i20 ht.1 (by omega)
  have cl := cellsR_len t R
  have sh := (SmA.nil (k := 2)).cons ((Sm.tup c).mono (k' := 2) (n' := 600) (Nat.le_refl _) (by omega))
  have sh := sh.cons (Sm.i20 (k := 2) (n := 0) (t := (R.length : Int)) (by omega) (by omega))
  have sh := sh.cons ((Sm.tup a).mono (k' := 2) (n' := 4000) (Nat.le_refl _) (by omega))
  exact ((Sm.lst sh).mono (k' := 3) (n' := 100000) (Nat.le_refl _) (by omega)).fit (by decide) (by decide)
mutual
theorem dp_up {K : PySem.W.Frag} {H H' : Hp} (s : Same H H') : ∀ {v : V} {d : PyData}, Dp K H v d → Dp K H' v d
  | _, _, .non => .non
  | _, _, .bl b => .bl b
  | _, _, .int i => .int i
  | _, _, .str x => .str x
  | _, _, .lst q t => .lst (SqL.ext q s) (dpa_up s t)
  | _, _, .tup q t => .tup (SqT.ext q s) (dpa_up s t)
theorem dpa_up {K : PySem.W.Frag} {H H' : Hp} (s : Same H H') : ∀ {vs : List V} {ds : List PyData}, DpAll K H vs ds → DpAll K H' vs ds
  | _, _, .nil => .nil
  | _, _, .cons r t => .cons (dp_up s r) (dpa_up s t)
end
/-- what is no list stays -/
def NoL (H H' : Hp) : Prop := ∀ c o, H c = some o → (∀ xs, o ≠ .lst xs) → H' c = some o
theorem NoL.of {H H' : Hp} (s : Same H H') : NoL H H' := fun c o e _ => s _ _ e
theorem NoL.trans {H H1 H2 : Hp} (a : NoL H H1) (b : NoL H1 H2) : NoL H H2 := fun c o e n => b c o (a c o e n) n
theorem NoL.but {H H' : Hp} {p : Addr} {ys : List V} (b : But H H' p) (e : H p = some (.lst ys)) : NoL H H' := fun c o e' n => b _ _ (ne_of e' e (n ys)) e'
theorem NoL.put {H : Hp} {a : Addr} {xs ys : List V} (e : H a = some (.lst xs)) : NoL H (upd H a (.lst ys)) := fun c o e' n => by rw [upd_ne (ne_of e' e (n xs))]; exact e'
theorem FrIs.noL {ks : Kinds} {CF : Addr} {H H' : Hp} {a : Addr} {d : FrD} (h : FrIs ks CF H a d) (s : NoL H H') : FrIs ks CF H' a d := by
  refine ⟨?_, fun r hr => ?_, h.nd, h.le, h.so⟩
  · obtain ⟨dy, D, h1, h2, h3⟩ := h.at_
    exact ⟨dy, D, s _ _ h1 (fun _ z => by cases z), s _ _ h2 (fun _ z => by cases z), h3⟩
  · obtain ⟨hc, dy, hl⟩ := h.ok r hr
    exact ⟨hc, dy, s _ _ hl (fun _ z => by cases z)⟩
theorem ChIs.noL {ks : Kinds} {CF CC : Addr} {H H' : Hp} {o f : Addr} {d : FrD} {L : List (Addr × List Str)} (h : ChIs ks CF CC H o f d L) (s : NoL H H') : ChIs ks CF CC H' o f d L := by
  obtain ⟨dx, B, h1, h2, h3⟩ := h.at_
  exact ⟨⟨dx, B, s _ _ h1 (fun _ z => by cases z), s _ _ h2 (fun _ z => by cases z), fun x hx => s _ _ (h3 x hx) (fun _ z => by cases z)⟩, h.fr.noL s, h.p⟩
end Sj
namespace Sj
open PySem L2 Sup StK Own Shw Exg Grd KepE
open NdefX (NF NScope ncx envF startF nscope_by)
open C8 (pss_cut tCut)
/-! k65: _law_right -/
abbrev sRi : Stmt := top 42
abbrev nRi : List Str := ["_law_pen_here", "_law_bare_here", "_law_rows", "_law_field", "_law_row", "_law_given", "_law_made", "_law_due", "_law_piece", "_law_number", "_law_turn", "_law_told", "_law_word_so", "_law_tag"]
theorem scRi : FnScope nRi ["_law_pen_here", "_law_bare_here", "_law_rows"] (defScope sRi) := ⟨rfl, rfl, rfl, by decide +kernel, rfl, by decide +kernel, by decide +kernel⟩
structure RiT (P : Program) (w : World) (K : PySem.W.Frag) (mg : Str → Option Value) (base : Heap) (ks : Kinds) (CF CC CW gO fC gW fPo fEn : Addr) : Prop where
  dw : DwT P w K mg base
  ot : OtrT P w K mg base ks CF CC gO fC
  m : ChM K mg CF CC
  eqF : EqN P w K mg base 4 CF (spFEq K ks CF)
  icF : IsiC K CF
  nfF : PySem.W.notFirst K CF (.ref CF) = true
  len_ : MetN P w K mg base CX0 1 CC "__len__" ["self"] (spChL ks CF CC)
  cells : PropN P w K mg base 1 CC "cells" (spChC ks CF CC)
  po : FnKG P w K mg base CX0 2 fPo ["name"] (spChP ks CF CC)
  mpo : Meth K CC "part_of" fPo
  en : FnKG P w K mg base CX0 4 fEn ["word"] (spChN ks CF CC CW)
  men : Meth K CC "entering" fEn
  mW : mg "Word" = some (.ref CW)
  clsW : ∃ mc pO, ClX.CRead K CW mc ∧ ClX.CMet K CW mc "of" pO gW
  ofW : FnK P w K mg base CX0 8 gW [] (fun vs zs H Q E => vs.length = 3 ∧ spWOf ks CF CW vs H Q E)
  cel : ∃ f fd, mg "_law_cells" = some (.ref f) ∧ PySem.W.keepIn K (.ref f) = true ∧ Binds K fd ["_law_bare_here", "_law_rows"] [] ∧ FnOk P w K mg base CX0 1 f fd ["_law_bare_here", "_law_rows"] spCel
  lvs : ∃ f fd, mg "_law_levels" = some (.ref f) ∧ PySem.W.keepIn K (.ref f) = true ∧ Binds K fd ["_law_pen_here", "_law_bare_here"] [] ∧ FnOk P w K mg base CX0 3 f fd ["_law_pen_here", "_law_bare_here"] spLvs
  sen : ∃ f fd, mg "_law_sent" = some (.ref f) ∧ PySem.W.keepIn K (.ref f) = true ∧ Binds K fd ["_law_bare_here", "_law_rows", "_law_told"] [] ∧ FnOk P w K mg base CX0 2 f fd ["_law_bare_here", "_law_rows", "_law_told"] spSen
  otr : ∃ f fd, mg "_law_other_right" = some (.ref f) ∧ PySem.W.keepIn K (.ref f) = true ∧ Binds K fd ["_law_pen_here", "_law_bare_here", "_law_rows", "_law_made", "_law_field"] [] ∧ FnOk P w K mg base CX0 9 f fd ["_law_pen_here", "_law_bare_here", "_law_rows", "_law_made", "_law_field"] (spOtr ks CF CC)
  isi : mg "isinstance" = none
  list : mg "list" = none
  range : mg "range" = none
  repr : mg "repr" = none
  enum : mg "enumerate" = none
def teGv (K : PySem.W.Frag) : TE := tOp (rIxL K) (tLst (tCons (tCB (fun xs H Q => ∃ p ys, xs = [V.ref p] ∧ (SqL K H p ys ∨ SqT K H p ys) ∧ ∀ l, H l = none → Q (.ref l) (upd H l (.lst ys))) (tCons (tVar 4) tNil)) (tCons (tRow K 4) tNil))) (tCall spDraw [] E0 (tCons (tVar 0) (tCons (tC (.int 2)) tNil)))
def ttRi (K : PySem.W.Frag) (ks : Kinds) (CF CC : Addr) : TT := tTest (tOp rNe (tCB (ShN.rShN K) (tCons (tMethK CC "part_of" (["name"] : List Str).length (spChP ks CF CC) E0 (tVar 6) (tCons (tVar 13) tNil)) tNil)) (tCB (ShN.rShN K) (tCons (tVar 9) tNil)))
def spRi : Sp := fun vs H Q _ => ∃ (p l : Addr) (cs : List Int) (n : Nat) (b q : Addr) (d : BareD) (G : List (Addr × List Str)), vs = [.ref p, .ref b, .ref q] ∧ Pen H p l cs n ∧ BareAt H b d p ∧ d.ok ∧ RowL H q G ∧ q ≠ p ∧ (∀ x ∈ G, x.1 ≠ p) ∧ 1 ≤ G.length ∧ G.length ≤ 8 ∧ (allN G).Perm (d.ds ++ d.ls) ∧ n < 70000 ∧
  ∀ H', Pen H' p l cs (n + 300) → But H H' p → Q (.bl true) H'
abbrev stR (p b q f : Addr) (o4 : Option V) (D a : Addr) (o7 o8 o9 o10 o11 o12 : Option V) : L2.St := [some (.ref p), some (.ref b), some (.ref q), some (.ref f), o4, some (.ref D), some (.ref a), o7, o8, o9, o10, o11, o12, none]
theorem chF_no {f B : Addr} {x : Str} (h1 : x ≠ "parts") (h2 : x ≠ "frame") : (chF f B).lookup x = none := by
  unfold chF
  rw [lookup_putF, if_neg h1, lookup_putF, if_neg h2]
  rfl
theorem two_of {α : Type} : ∀ {xs : List α}, xs.length = 2 → ∃ x y, xs = [x, y]
  | [x, y], _ => ⟨x, y, rfl⟩
section
variable {P : Program} {w : World} {K : PySem.W.Frag} {mg : Str → Option Value} {base : Heap}
theorem ok_ri {f CF CC CW gO fC gW fPo fEn : Addr} {fd : FuncData} {ks : Kinds} (F : Fun K "_law_right" "_law_right" sRi f fd) (T : RiT P w K mg base ks CF CC CW gO fC gW fPo fEn) : FnG P w K mg base CX0 10 f fd ["_law_pen_here", "_law_bare_here", "_law_rows"] spRi := by
  obtain ⟨mc, pO, cr, cO⟩ := T.ot.ck.cls
  obtain ⟨mcW, pW, crW, cW⟩ := T.clsW
  obtain ⟨fF, fdF, mF, kF, bF, GF⟩ := T.ot.frm
  obtain ⟨fD, fdD, mD, kD, bD, GD⟩ := T.dw.draw
  obtain ⟨fL, fdL, mL, kL, bL, GL⟩ := T.lvs
  obtain ⟨fS, fdS, mS, kS, bS, GS⟩ := T.sen
  obtain ⟨fX, fdX, mX, kX, bX, GX⟩ := T.cel
  obtain ⟨fO, fdO, mO, kO, bO, GO⟩ := T.otr
  have mC := T.ot.ck.mC
  have mW := T.mW
  refine fun_g F scRi (fun vs H Q E h => ?_) (fun cdv A outer s H vs Q E hg hr h => ?_)
  · obtain ⟨p, l, cs, n, b, q, d, G, rfl, _⟩ := h
    rfl
  · obtain ⟨p, l, cs, n, b, q, d, G, rfl, hP, hB, ok, hR, hqp, hrp, h1, h8, hpm, hn, k⟩ := h
    have hu := hu_of hr
    have hr1 := hr.mono (show 1 ≤ 9 by decide)
    have hr2 := hr.mono (show 2 ≤ 9 by decide)
    have hr3 := hr.mono (show 3 ≤ 9 by decide)
    have hr4 := hr.mono (show 4 ≤ 9 by decide)
    have hr5 := hr.mono (show 5 ≤ 9 by decide)
    have hr6 := hr.mono (show 6 ≤ 9 by decide)
    have hr7 := hr.mono (show 7 ≤ 9 by decide)
    have hr8 := hr.mono (show 8 ≤ 9 by decide)
    refine ⟨_, pss_cons (ps_set (i := 3) scRi.nd rfl (Or.inl rfl) (pe_call GF hr7 rfl mF kF bF .nil pass0 (pa_cons (pv 1) pa_nil)))
      (pss_cons (ps_setLc (i := 5) (te := teGv K) (tt := tYes) (own := [("_law_row", 4)]) (g := gName 4) rfl scRi.nd rfl rfl (sw_true rfl rfl rfl (by decide +kernel)) (pi_list (pv 2)) (blkOk_by (N := nRi) (sc := defScope sRi) (by decide +kernel)) (fun _ _ _ _ _ => pg_name (i := 4) scRi.nd rfl (Or.inl rfl)) (fun _ _ _ _ _ => pts_nil)
        (fun _ _ _ _ _ => pe_ix ix_list (pe_lst (pa_cons (pe_callTy (T := "list") call_list_of (by rfl) T.list (by decide +kernel) (pa_cons (pv 4) pa_nil)) (pa_cons (pe_callTy (T := "tuple") call_tuple_of (by rfl) T.m.tuple (by decide +kernel) (pa_cons (pv 4) pa_nil)) pa_nil))) (pe_call GD hr1 rfl mD kD bD .nil pass0 (pa_cons (pv 0) (pa_cons pe_int pa_nil))) (fun _ _ => rfl)))
      (pss_cons (ps_set (i := 6) scRi.nd rfl (Or.inr rfl) (pe_cmethK (pe_glob rfl mC (v := .ref CC) rfl) cr cO T.ot.ck.of0 hr6 (passNo rfl rfl) (pa_cons (pv 3) (pa_cons (pv 5) pa_nil)) pk_nil))
      (pss_cut (ps_if (pt_cmpR op_eq (pe_callB call_len_seq (by rfl) T.m.len PySem.boot_len (pa_cons (pv 2) pa_nil)) pe_int (nomark _))
        (pss_one (ps_set (i := 6) scRi.nd rfl (Or.inr rfl) (StX.pe_makeR T.ot.ck.mkC T.ot.ck.iS hr5 rfl mC (passNo rfl rfl) (pa_cons (pv 3) (pa_cons (pe_ix ix_list (pv 5) pe_int (fun _ _ => rfl)) pa_nil))))) pss_nil)
      (pss_cut (ps_if (pt_cmpR op_eq (pe_callB call_len_seq (by rfl) T.m.len PySem.boot_len (pa_cons (pv 2) pa_nil)) pe_int (nomark _))
        (pss_one (ps_set (i := 6) scRi.nd rfl (Or.inr rfl) (StX.pe_makeR T.ot.ck.mkC T.ot.ck.iS hr5 rfl mC (passNo rfl rfl) (pa_cons (pv 3) (pa_cons (pe_ix ix_list (pv 5) pe_int (fun _ _ => rfl)) (pa_cons (pe_ix ix_list (pv 5) pe_int (fun _ _ => rfl)) pa_nil)))))) pss_nil)
      (pss_cons (ps_set (i := 7) scRi.nd rfl (Or.inl rfl) (pe_lst (pa_cons (pe_callTy (T := "tuple") call_tuple_of (by rfl) T.m.tuple (by decide +kernel) (pa_cons
          (pe_lc (te := tRow K 4) (tt := tYes) (own := [("_law_row", 4)]) (g := gName 4) rfl scRi.nd (pi_list (pv 2)) (blkOk_by (N := nRi) (sc := defScope sRi) (by decide +kernel)) (fun _ _ _ _ _ => pg_name (i := 4) scRi.nd rfl (Or.inl rfl)) (fun _ _ _ _ _ => pts_nil)
            (fun _ _ _ _ _ => pe_callTy (T := "tuple") call_tuple_of (by rfl) T.m.tuple (by decide +kernel) (pa_cons (pv 4) pa_nil))) pa_nil))
          (pa_cons (pe_callB call_len_seq (by rfl) T.m.len PySem.boot_len (pa_cons (pv 2) pa_nil))
          (pa_cons (pe_callTy (T := "tuple") call_tuple_of (by rfl) T.m.tuple (by decide +kernel) (pa_cons (pe_call GX hr1 rfl mX kX bX .nil pass0 (pa_cons (pv 1) (pa_cons (pv 2) pa_nil))) pa_nil)) pa_nil)))))
      (pss_cons (ps_expr (pe_bm PySem.F.plainAttrs_list PySem.F.slot_list_append PySem.F.type_list_append mt_append (pv 5) (pa_cons (pe_lst (pa_cons pe_str pa_nil)) pa_nil)))
      (pss_cut (ps_if (pt_val (pe_callB call_isi (by rfl) T.isi (by decide +kernel) (pa_cons (pe_ix ix_list (pv 5) pe_int (fun _ _ => rfl)) (pa_cons (pe_bltn (by rfl) T.list (by decide +kernel) (v := .ty "list") rfl) pa_nil))))
        (pss_cons (ps_set (i := 8) scRi.nd rfl (Or.inl rfl) (pe_ix ix_list (pv 5) pe_int (fun _ _ => rfl)))
        (pss_one (ps_expr (pe_bm PySem.F.plainAttrs_list PySem.F.slot_list_append PySem.F.type_list_append mt_append (pv 8) (pa_cons pe_str pa_nil))))) pss_nil)
      (pss_cut (ps_if (PW.pt (pw_or (pt_cmpR op_ne (pe_callB (ShN.call_shN hg hr.units) (by rfl) T.repr (by decide +kernel) (pa_cons (pe_lst (pa_cons (pe_fld (pv 6) rfl) (pa_cons (pe_callB (call_lenN T.len_ hr2) (by rfl) T.m.len PySem.boot_len (pa_cons (pv 6) pa_nil)) (pa_cons (pe_propS (S := fun C => C = CC) (spP := fun _ => spChC ks CF CC) (pv 6) (fun C e => by rw [e]; exact T.cells) hr2) pa_nil)))) pa_nil))
          (pe_callB (ShN.call_shN hg hr.units) (by rfl) T.repr (by decide +kernel) (pa_cons (pv 7) pa_nil)) (nomark _))
        (pw_or1 (pt_cmpR (op_ownE (.inr rfl) (S := fun C => C = CF) (spE := fun _ => spFEq K ks CF) (fun C e => by rw [e]; exact T.eqF.eqC hr5)) (pe_fld (pv 6) rfl) (pv 3) (nomark _))))) (pss_one (ps_ret pe_bl)) pss_nil)
      (pss_cut (ps_for PassesOwn.never rfl (EnT.pi_enumA (by rfl) T.enum (pa_cons (pv 2) pa_nil)) (pg_tup rfl (pgs_cons (pg_name (i := 9) scRi.nd rfl (Or.inr rfl)) (pgs_cons (pg_name (i := 4) scRi.nd rfl (Or.inl rfl)) pgs_nil)))
        (pss_one (ps_if (pt_cmpR (op_neNil hr.units) (pe_lc (te := tVar 13) (tt := ttRi K ks CF CC) (own := [("_law_tag", 13)]) (g := gName 13) rfl scRi.nd (pi_list (pv 4)) (blkOk_by (N := nRi) (sc := defScope sRi) (by decide +kernel)) (fun _ _ _ _ _ => pg_name (i := 13) scRi.nd rfl (Or.inl rfl))
            (fun _ _ _ _ _ => pts_one (pt_cmpR op_ne (pe_callB (ShN.call_shN hg hr.units) (by rfl) T.repr (by decide +kernel) (pa_cons (pe_methK (pv 6) T.m.cl T.mpo T.po hg hr2 pass0 (pk_cons (pv 13) pk_nil)) pa_nil)) (pe_callB (ShN.call_shN hg hr.units) (by rfl) T.repr (by decide +kernel) (pa_cons (pv 9) pa_nil)) (nomark _)))
            (fun _ _ _ _ _ => pv 13)) (pe_lst pa_nil) (nomark _)) (pss_one (ps_ret pe_bl)) pss_nil)))
      (pss_cut (ps_for PassesOwn.never rfl (pi_range1 rfl T.range (pa_cons pe_int pa_nil)) (pg_name (i := 10) scRi.nd rfl (Or.inl rfl))
        (pss_cons (ps_set (i := 11) scRi.nd rfl (Or.inl rfl) (pe_call GL hr3 rfl mL kL bL .nil pass0 (pa_cons (pv 0) (pa_cons (pv 1) pa_nil))))
        (pss_cons (ps_set (i := 12) scRi.nd rfl (Or.inl rfl) (pe_cmethK (pe_glob rfl mW (v := .ref CW) rfl) crW cW T.ofW hr8 pass0 (pa_cons (pv 3) (pa_cons (pv 11) pa_nil)) pk_nil))
        (pss_one (ps_if (pt_cmpR op_ne (pe_callB (ShN.call_shN hg hr.units) (by rfl) T.repr (by decide +kernel) (pa_cons (pe_methK (pv 6) T.m.cl T.men T.en hg hr4 pass0 (pk_cons (pv 12) pk_nil)) pa_nil))
          (pe_callB (ShN.call_shN hg hr.units) (by rfl) T.repr (by decide +kernel) (pa_cons (pe_callTy (T := "tuple") call_tuple_of (by rfl) T.m.tuple (by decide +kernel) (pa_cons (pe_call GS hr2 rfl mS kS bS .nil pass0 (pa_cons (pv 1) (pa_cons (pv 2) (pa_cons (pv 11) pa_nil)))) pa_nil)) pa_nil)) (nomark _)) (pss_one (ps_ret pe_bl)) pss_nil)))))
      (pss_one (ps_ret (pe_call GO hr rfl mO kO bO .nil pass0 (pa_cons (pv 0) (pa_cons (pv 1) (pa_cons (pv 2) (pa_cons (pv 6) (pa_cons (pv 3) pa_nil)))))))))))))))))), ?_⟩
    -- field
    refine ⟨_, rfl, b, d, p, rfl, hB, ok, fun f ys H1 hF hk hf s1 => ?_⟩
    have to := told_of ok T.ot.ne hF.so hk
    have hp : Parts ⟨ys, d.t, d.g, d.r⟩ G := ⟨h1, h8, hpm.trans to.pm.symm⟩
    have h40 : (allN G).length ≤ 40 := by rw [hpm.length_eq, List.length_append]; have := ok.le; omega
    have t1 := ok.t1
    have t3 := ok.t3
    -- given
    refine ⟨_, rfl, q, rfl, ⟨_, SqL.of (s1 _ _ hR.1)⟩, fun D hD => ?_⟩
    have hDH : H D = none := s1.free hD
    have Dp_ : D ≠ p := nep hP hDH
    have lD : l ≠ D := fun z => by
      obtain ⟨_, _, _, v2, _⟩ := hP
      rw [z, hDH] at v2
      cases v2
    refine lc_it (walk_list (K := K) (a := q) (xs := refsB G)) (fun i H' => Pen H' p l cs (n + i) ∧ But H H' p ∧ NoL H1 H' ∧ ∃ Gv : List (Addr × List Str), Gv.map (·.2) = (G.take i).map (·.2) ∧ H' D = some (.lst (refsB Gv)) ∧ ∀ x ∈ Gv, (H' x.1 = some (.lst (strv x.2)) ∧ H x.1 = none ∧ x.1 ≠ D) ∨ H' x.1 = some (.tup (strv x.2)))
      ⟨(hP.same s1).same (same_at hD), But.of (s1.trans (same_at hD)), NoL.of (same_at hD), [], rfl, upd_same, (fun x hx => (by cases hx))⟩ (fun i H' _ pv => SqL.of (pv.2.1 _ _ hqp hR.1)) ?_ ?_
    · rintro i x Ho Ha hi ⟨Po, bo, no, Gv, hGv, hDo, hgo⟩ ⟨rfl, hx⟩
      obtain ⟨y, hy, ey, rfl⟩ := refsB_at hx
      have hi' : i < G.length := by rw [← refsB_len G]; exact hi
      refine ⟨rfl, ?_⟩
      unfold tYes
      dsimp only
      rw [if_pos rfl]
      have hy' := bo _ _ (hrp y hy) (hR.2 y hy)
      refine ⟨_, rfl, y.1, strv y.2, rfl, .inl (SqL.of hy'), fun l1 hl1 => ?_⟩
      have sA := same_at (o := .lst (strv y.2)) hl1
      refine ⟨_, rfl, y.1, strv y.2, rfl, .inl ⟨SqL.of (sA _ _ hy'), fun t1' ht1 => ?_⟩⟩
      have sB := same_at (o := .tup (strv y.2)) ht1
      refine ⟨by show 2 ≤ sizeLine; decide, fun u hu' => ?_⟩
      have sC := same_at (o := .lst [V.ref l1, .ref t1']) hu'
      have sABC := sA.trans (sB.trans sC)
      have Pb := Po.same sABC
      have up : u ≠ p := nep ((Po.same sA).same sB) hu'
      have l1p : l1 ≠ p := nep Po hl1
      have e_l1 := sC _ _ (sB _ _ (upd_same (H := Ha) (a := l1) (o := .lst (strv y.2))))
      have e_t1 := sC _ _ (upd_same (a := t1') (o := .tup (strv y.2)))
      have e_u : upd (upd (upd Ha l1 (.lst (strv y.2))) t1' (.tup (strv y.2))) u (.lst [V.ref l1, .ref t1']) u = some (.lst [V.ref l1, .ref t1']) := upd_same
      obtain ⟨Hb, eb⟩ : ∃ Hb, Hb = upd (upd (upd Ha l1 (.lst (strv y.2))) t1' (.tup (strv y.2))) u (.lst [V.ref l1, .ref t1']) := ⟨_, rfl⟩
      rw [← eb] at sABC Pb e_l1 e_t1 e_u ⊢
      refine ⟨_, rfl, p, l, cs, n + i, 2, rfl, Pb, by decide, by decide, by omega, fun dd iz g Hc d0 d2 i0 in1 hpc bc => ?_⟩
      have Pc := Pb.next i0 in1 hpc bc
      obtain ⟨ps, hpb⟩ := Pb.at'
      have noc := NoL.but bc hpb
      have hDc := bc _ _ Dp_ (sABC _ _ hDo)
      have hGl : Gv.length ≤ 8 := by
        have := congrArg List.length hGv
        rw [List.length_map, List.length_map, List.length_take] at this
        omega
      have fin : ∀ v : Addr, ((Hc v = some (.lst (strv y.2)) ∧ H v = none ∧ v ≠ D) ∨ Hc v = some (.tup (strv y.2))) → ∃ acc, Hc D = some (.lst acc) ∧ acc.length < sizeLine ∧ (Pen (upd Hc D (.lst (acc ++ [.ref v]))) p l cs (n + (i + 1)) ∧ But H (upd Hc D (.lst (acc ++ [.ref v]))) p ∧ NoL H1 (upd Hc D (.lst (acc ++ [.ref v]))) ∧
          ∃ Gv : List (Addr × List Str), Gv.map (·.2) = (G.take (i + 1)).map (·.2) ∧ upd Hc D (.lst (acc ++ [.ref v])) D = some (.lst (refsB Gv)) ∧ ∀ x ∈ Gv, (upd Hc D (.lst (acc ++ [.ref v])) x.1 = some (.lst (strv x.2)) ∧ H x.1 = none ∧ x.1 ≠ D) ∨ upd Hc D (.lst (acc ++ [.ref v])) x.1 = some (.tup (strv x.2))) := by
        intro v hv
        refine ⟨_, hDc, ?_, ?_, fun c o hc e => ?_, (no.trans (NoL.of sABC)).trans (noc.trans (NoL.put hDc)), Gv ++ [(v, y.2)], ?_, ?_, fun x hx => ?_⟩
        · rw [refsB_len]
          exact Nat.lt_of_le_of_lt hGl (by decide)
        · obtain ⟨i', g', w1, w2, w3⟩ := Pc
          exact ⟨i', g', by rw [upd_ne (Ne.symm Dp_)]; exact w1, by rw [upd_ne lD]; exact w2, w3⟩
        · rw [upd_ne (ne_of_none e hDH)]
          exact bc _ _ hc (sABC _ _ (bo _ _ hc e))
        · rw [List.map_append, hGv, List.take_add_one, ey, Option.toList_some, List.map_append]
          rfl
        · rw [upd_same]
          unfold refsB
          rw [List.map_append]
          rfl
        · have ofT : ∀ {c : Addr} {zs : List V}, Hc c = some (.tup zs) → ∀ o, upd Hc D o c = some (.tup zs) := fun {c zs} e o => by
            rw [upd_ne (ne_of e hDc (by intro z; cases z))]
            exact e
          rcases List.mem_append.mp hx with hx | hx
          · rcases hgo x hx with ⟨w1, w2, w3⟩ | w1
            · exact .inl ⟨by rw [upd_ne w3]; exact bc _ _ (nep hP w2) (sABC _ _ w1), w2, w3⟩
            · exact .inr (ofT (noc _ _ (sABC _ _ w1) (fun _ z => by cases z)) _)
          · obtain rfl := List.mem_singleton.mp hx
            rcases hv with ⟨w1, w2, w3⟩ | w1
            · exact .inl ⟨by rw [upd_ne w3]; exact w1, w2, w3⟩
            · exact .inr (ofT w1 _)
      have l1H : H l1 = none := by
        cases e : H l1 with
        | none => rfl
        | some o => rw [bo _ _ l1p e] at hl1; cases hl1
      have l1D : l1 ≠ D := fun z => by rw [z, hDo] at hl1; cases hl1
      rcases (show dd = 0 ∨ dd = 1 by omega) with rfl | rfl
      · exact ⟨u, _, 0, _, rfl, rfl, SqL.of (bc _ _ up e_u), atI_nat (j := 0) rfl, fin l1 (.inl ⟨bc _ _ l1p e_l1, l1H, l1D⟩)⟩
      · exact ⟨u, _, 1, _, rfl, rfl, SqL.of (bc _ _ up e_u), atI_nat (j := 1) rfl, fin t1' (.inr (noc _ _ e_t1 (fun _ z => by cases z)))⟩
    rintro H2 ⟨P2, b2, no2, Gv, hGv, hD2, hg2⟩
    rw [refsB_len] at P2 hGv
    rw [List.take_length] at hGv
    have hF2 := hF.noL no2
    have hRow2 : RowAt H2 Gv := fun x hx => (hg2 x hx).imp (fun w => w.1) id
    have hpv := hp.rows hGv
    have hGl : Gv.length = G.length := by
      have := congrArg List.length hGv
      rwa [List.length_map, List.length_map] at this
    -- made
    refine ⟨rfl, _, rfl, _, rfl, rfl, rfl, f, D, ⟨ys, d.t, d.g, d.r⟩, Gv, rfl, .inl hD2, hF2, hRow2, hpv, fun a0 H3 L0 ha0 hL0 hc0 s23 => ?_⟩
    have hC0 : ChIs ks CF CC H3 a0 f ⟨ys, d.t, d.g, d.r⟩ L0 := ⟨hc0, hF2.same s23, hpv.rows hL0⟩
    -- made again of one part
    refine ⟨fun σ H' => (∃ a L, σ = stR p b q f none D a none none none none none none ∧ ChIs ks CF CC H' a f ⟨ys, d.t, d.g, d.r⟩ L ∧ L.map (·.2) = G.map (·.2)) ∧ Same H2 H', ?_, ?_⟩
    · refine ⟨_, rfl, q, _, rfl, .inl (SqL.of (s23 _ _ (b2 _ _ hqp hR.1))), rfl, _, rfl, ?_⟩
      rw [refsB_len]
      by_cases he : G.length = 1
      · rw [decide_eq_true (show V.int (G.length : Int) = V.int 1 by rw [he]; rfl)]
        refine iteT ?_
        obtain ⟨y, rfl⟩ : ∃ y, Gv = [y] := List.length_eq_one_iff.mp (hGl.trans he)
        refine ⟨_, rfl, _, rfl, D, _, 0, _, rfl, rfl, SqL.of (s23 _ _ hD2), atI_nat (j := 0) rfl, fun x dx hx hdx hne => ?_⟩
        exact mk_ch (Bl := [y]) (hF2.same s23) (hRow2.same s23) hpv hx hdx hne fun H' L hL hc s => ⟨rfl, ⟨x, L, rfl, ⟨hc, hF2.same (s23.trans s), hpv.rows hL⟩, hL.trans hGv⟩, s23.trans s⟩
      · rw [decide_eq_false (show ¬ V.int (G.length : Int) = V.int 1 from fun z => he (by injection z with z; omega))]
        exact iteF ⟨⟨a0, L0, rfl, hC0, hL0.trans hGv⟩, s23⟩
    rintro σ H4 ⟨⟨a1, L1, rfl, hC1, hL1⟩, s24⟩
    -- of two
    refine ⟨fun σ H' => (∃ a L, σ = stR p b q f none D a none none none none none none ∧ ChIs ks CF CC H' a f ⟨ys, d.t, d.g, d.r⟩ L ∧ L.map (·.2) = G.map (·.2)) ∧ Same H2 H', ?_, ?_⟩
    · refine ⟨_, rfl, q, _, rfl, .inl (SqL.of (s24 _ _ (b2 _ _ hqp hR.1))), rfl, _, rfl, ?_⟩
      rw [refsB_len]
      by_cases he : G.length = 2
      · rw [decide_eq_true (show V.int (G.length : Int) = V.int 2 by rw [he]; rfl)]
        refine iteT ?_
        obtain ⟨y, y', rfl⟩ : ∃ y y', Gv = [y, y'] := two_of (hGl.trans he)
        refine ⟨_, rfl, _, rfl, D, _, 0, _, rfl, rfl, SqL.of (s24 _ _ hD2), atI_nat (j := 0) rfl, _, rfl, D, _, 1, _, rfl, rfl, SqL.of (s24 _ _ hD2), atI_nat (j := 1) rfl, fun x dx hx hdx hne => ?_⟩
        exact mk_ch (Bl := [y, y']) (hF2.same s24) (hRow2.same s24) hpv hx hdx hne fun H' L hL hc s => ⟨rfl, ⟨x, L, rfl, ⟨hc, hF2.same (s24.trans s), hpv.rows hL⟩, hL.trans hGv⟩, s24.trans s⟩
      · rw [decide_eq_false (show ¬ V.int (G.length : Int) = V.int 2 from fun z => he (by injection z with z; omega))]
        exact iteF ⟨⟨a1, L1, rfl, hC1, hL1⟩, s24⟩
    rintro σ H5 ⟨⟨a, L, rfl, hC5, hLG⟩, s25⟩
    clear hC1 hC0 hc0 hL0 hL1 s23 s24
    -- due
    have b5 : But H H5 p := b2.same s25
    have P5 := P2.same s25
    have rows : ∀ {H' : Hp}, But H H' p → RowL H' q G := fun {H'} bb => ⟨bb _ _ hqp hR.1, fun x hx => bb _ _ (hrp x hx) (hR.2 x hx)⟩
    refine ⟨_, rfl, q, rfl, ⟨_, SqL.of (rows b5).1⟩, fun D6 hD6 => ?_⟩
    refine rows_it (Bl := G) (fun H' => SqL K H' q (refsB G)) (walk_list (K := K) (a := q) (xs := refsB G)) (fun H' s => SqL.of (s _ _ (rows b5).1)) hD6 (fun x hx => .inl ((rows b5).2 x hx)) (by omega) (fun x => rfl) (fun x => rfl) fun H6 L6 s6 hL6 hLa6 d6 => ?_
    refine ⟨D6, _, rfl, .inl ⟨SqL.of d6, fun tt1 htt1 => ?_⟩⟩
    have s7 := same_at (o := .tup (refsB L6)) htt1
    have s57 := s6.trans s7
    obtain ⟨H7, e7⟩ : ∃ H7, H7 = upd H6 tt1 (.tup (refsB L6)) := ⟨_, rfl⟩
    have htt7 : H7 tt1 = some (.tup (refsB L6)) := by rw [e7, upd_same]
    rw [← e7] at s7 s57 ⊢
    have b7 := b5.same s57
    refine ⟨_, rfl, q, _, rfl, .inl (SqL.of (rows b7).1), _, rfl, _, rfl, b, p, q, d, G, rfl, hB.but hP b7, rows b7, h8, h40, fun c8 H8 hc8 hv8 s78 => ?_⟩
    refine ⟨c8, _, rfl, .inl ⟨SqL.of hv8, fun tt2 htt2 => ?_⟩⟩
    have s9 := same_at (o := .tup (cellsV d.t G)) htt2
    refine ⟨by show 3 ≤ sizeLine; decide, fun u hu' => ?_⟩
    have s10 := same_at (o := .lst [V.ref tt1, .int ((refsB G).length : Int), .ref tt2]) hu'
    obtain ⟨HA, eA⟩ : ∃ HA, HA = upd (upd H8 tt2 (.tup (cellsV d.t G))) u (.lst [V.ref tt1, .int ((refsB G).length : Int), .ref tt2]) := ⟨_, rfl⟩
    have huA : HA u = some (.lst [V.ref tt1, .int ((refsB G).length : Int), .ref tt2]) := by rw [eA, upd_same]
    have s8A : Same H8 HA := by rw [eA]; exact s9.trans s10
    have s5A := s57.trans (s78.trans s8A)
    have htt2A : HA tt2 = some (.tup (cellsV d.t G)) := by rw [eA]; exact s10 _ _ upd_same
    have huD : u ≠ D := fun z => by
      have := (s9 _ _ (s78 _ _ (s57 _ _ (s25 _ _ hD2))))
      rw [z, this] at hu'
      cases hu'
    have hu8 : ∀ {c : Addr} {o : HO}, H2 c = some o → u ≠ c := fun {c o} e z => by
      have := (s9 _ _ (s78 _ _ (s57 _ _ (s25 _ _ e))))
      rw [z, this] at hu'
      cases hu'
    rw [← eA]
    have htt1A := s8A _ _ (s78 _ _ htt7)
    have hL6A : ∀ x ∈ L6, HA x.1 = some (.tup (strv x.2)) := fun x hx => s8A _ _ (s78 _ _ (s7 _ _ (hLa6 x hx)))
    have bA := b5.same s5A
    have PA_ := P5.same s5A
    have hCA := hC5.same s5A
    have hDA := s5A _ _ (s25 _ _ hD2)
    have hgA : ∀ x ∈ Gv, (HA x.1 = some (.lst (strv x.2)) ∧ H x.1 = none ∧ x.1 ≠ D) ∨ HA x.1 = some (.tup (strv x.2)) := fun x hx => (hg2 x hx).imp (fun w => ⟨s5A _ _ (s25 _ _ w.1), w.2⟩) (fun w => s5A _ _ (s25 _ _ w))
    have hgu : ∀ x ∈ Gv, u ≠ x.1 := fun x hx => by
      rcases hg2 x hx with ⟨w, _⟩ | w
      · exact hu8 w
      · exact hu8 w
    -- appended
    refine ⟨_, rfl, .inl ⟨rfl, _, SqL.of hDA⟩, by show 1 ≤ sizeLine; decide, fun e he => ?_⟩
    have s11 := same_at (o := .lst [V.str "later"]) he
    refine ⟨D, _, _, rfl, rfl, s11 _ _ hDA, by rw [refsB_len]; exact Nat.lt_of_le_of_lt (show _ ≤ 8 by omega) (by decide), ?_⟩
    obtain ⟨HB, eB⟩ : ∃ HB, HB = upd (upd HA e (.lst [V.str "later"])) D (.lst (refsB Gv ++ [.ref e])) := ⟨_, rfl⟩
    have hDB : HB D = some (.lst (refsB Gv ++ [.ref e])) := by rw [eB, upd_same]
    have hB_ : ∀ {c : Addr} {o : HO}, c ≠ D → HA c = some o → HB c = some o := fun {c o} h q => by rw [eB, upd_ne h]; exact s11 _ _ q
    have noB : NoL HA HB := by rw [eB]; exact (NoL.of s11).trans (NoL.put (s11 _ _ hDA))
    have bB : But H HB p := fun c o hc e' => hB_ (ne_of_none e' hDH) (bA _ _ hc e')
    have PB : Pen HB p l cs (n + G.length) := by
      obtain ⟨i', g', w1, w2, w3⟩ := PA_
      exact ⟨i', g', hB_ (Ne.symm Dp_) w1, hB_ lD w2, w3⟩
    have hCB := hCA.noL noB
    have huB := hB_ huD huA
    have tupB : ∀ {c : Addr} {zs : List V}, HA c = some (.tup zs) → HB c = some (.tup zs) := fun {c zs} q => noB _ _ q (fun _ z => by cases z)
    show _
    rw [← eB]
    have pdat : ∀ {H' : Hp}, H' u = some (.lst [V.ref tt1, .int ((refsB G).length : Int), .ref tt2]) → H' tt1 = some (.tup (refsB L6)) → H' tt2 = some (.tup (cellsV d.t G)) → (∀ x ∈ L6, H' x.1 = some (.tup (strv x.2))) → Dp K H' (.ref u) (pdCh d.t (G.map (·.2))) := fun {H'} w1 w2 w3 w4 => by
      have e1 : (((refsB G).length : Int)) = (((G.map (·.2)).length : Nat) : Int) := by rw [refsB_len, List.length_map]
      rw [e1] at w1
      refine .lst (SqL.of w1) (.cons (.tup (SqT.of w2) ?_) (.cons (.int _) (.cons (.tup (SqT.of w3) (dp_cells d.t G)) .nil)))
      rw [← hL6]
      exact dp_rws w4
    -- the first one, too
    refine ⟨fun σ H' => (∃ o8, σ = stR p b q f none D a (some (.ref u)) o8 none none none none) ∧ Pen H' p l cs (n + G.length) ∧ But H H' p ∧ ChIs ks CF CC H' a f ⟨ys, d.t, d.g, d.r⟩ L ∧ Dp K H' (.ref u) (pdCh d.t (G.map (·.2))), ?_, ?_⟩
    · have hG0 : 0 < Gv.length := by omega
      obtain ⟨y, ey⟩ : ∃ y, Gv[0]? = some y := ⟨_, List.getElem?_eq_getElem hG0⟩
      have hy := List.mem_of_getElem? ey
      have e0 : (refsB Gv ++ [V.ref e])[0]? = some (.ref y.1) := by
        rw [List.getElem?_append_left (by rw [refsB_len]; exact hG0)]
        unfold refsB
        rw [List.getElem?_map, ey]
        rfl
      refine ⟨_, rfl, D, _, 0, _, rfl, rfl, SqL.of hDB, atI_nat (j := 0) e0, ?_⟩
      rcases hgA y hy with ⟨w1, w2, w3⟩ | w1
      · have hyB := hB_ w3 w1
        refine ⟨_, _, .type "list", .type "list", true, rfl, .ty _, .base (.lst hyB), rfl, _, rfl, iteT ?_⟩
        refine ⟨_, rfl, D, _, 0, _, rfl, rfl, SqL.of hDB, atI_nat (j := 0) e0, ?_⟩
        refine ⟨_, rfl, .inl ⟨rfl, _, SqL.of hyB⟩, y.1, _, _, rfl, rfl, hyB, ?_, ⟨_, rfl⟩, ?_, fun c o hc e' => ?_, hCB.noL (NoL.put hyB), ?_⟩
        · show (List.map _ y.2).length < _
          rw [List.length_map]
          have : y.2.length ≤ (allN Gv).length := by
            obtain ⟨A', B', eAB⟩ := List.append_of_mem hy
            unfold allN
            rw [eAB, List.flatMap_append, List.flatMap_cons, List.length_append, List.length_append]
            omega
          have e2 : (allN Gv).length = (allN G).length := by rw [allN_map, hGv, ← allN_map]
          exact Nat.lt_of_le_of_lt (show _ ≤ 40 by omega) (by decide)
        · obtain ⟨i', g', v1, v2, v3⟩ := PB
          have hl : ∃ o, H l = some o := by
            obtain ⟨_, _, _, x2, _⟩ := hP
            exact ⟨_, x2⟩
          obtain ⟨o, hl⟩ := hl
          exact ⟨i', g', by rw [upd_ne (Ne.symm (nep hP w2))]; exact v1, by rw [upd_ne (ne_of_none hl w2)]; exact v2, v3⟩
        · rw [upd_ne (ne_of_none e' w2)]
          exact bB _ _ hc e'
        · have nt : ∀ {c : Addr} {zs : List V} {o : HO}, HB c = some (.tup zs) → upd HB y.1 o c = some (.tup zs) := fun {c zs o} q => by
            rw [upd_ne (ne_of q hyB (by intro z; cases z))]
            exact q
          exact pdat (by rw [upd_ne (hgu y hy)]; exact huB) (nt (tupB htt1A)) (nt (tupB htt2A)) fun x hx => nt (tupB (hL6A x hx))
      · have hyB := tupB w1
        exact ⟨_, _, .type "tuple", .type "list", false, rfl, .ty _, .base (.tup hyB), rfl, _, rfl, iteF ⟨⟨_, rfl⟩, PB, bB, hCB, pdat huB (tupB htt1A) (tupB htt2A) fun x hx => tupB (hL6A x hx)⟩⟩
    rintro σ HC ⟨⟨o8, rfl⟩, PC, bC, hCC, hpd⟩
    clear hCB hCA hC5 hgA hgu hDB hB_ noB bB PB huB tupB hL6A htt1A htt2A huA s8A s5A bA PA_ hDA pdat s57 s78 s7 s6 b7 b5 P5 s25 hL6 hLa6 d6
    have hLl : L.length = G.length := by
      have := congrArg List.length hLG
      rwa [List.length_map, List.length_map] at this
    have hzs : ∀ r ∈ G.map (·.2), ∀ z ∈ r, z ∈ d.ds ++ d.ls := fun r hr' z hz => hpm.mem_iff.mp (by rw [allN_map]; exact List.mem_flatten.mpr ⟨r, hr', hz⟩)
    have fit1 : ShN.FitN (pdCh d.t (G.map (·.2))) := fit_pdCh ⟨by omega, t3⟩ (by rw [List.length_map]; exact h8) (by rw [← allN_map]; exact h40) fun r hr' z hz => pool_short z (ok.po z (hzs r hr' z hz))
    -- what it tells
    refine ⟨fun σ H' => (∃ o8, σ = stR p b q f none D a (some (.ref u)) o8 none none none none) ∧ Same HC H', ?_, ?_⟩
    · obtain ⟨dx, B, c1, c2, c3⟩ := hCC.at_
      refine ⟨_, rfl, a, CC, dx, _, _, rfl, c1, T.m.cl, T.m.nP, chF_parts _ _, _, rfl, a, dx, _, rfl, c1, a, f, _, L, rfl, hCC, L.length, rfl, Nat.lt_of_le_of_lt (show _ ≤ 8 by omega) (by decide), _, rfl, a, CC, dx, _, rfl, c1, rfl, a, f, _, L, rfl, hCC, fun pc HD hpc hvc sD => ⟨by show 3 ≤ sizeLine; decide, fun v hv => ?_⟩⟩
      have sE := same_at (o := .lst [V.ref B, .int (L.length : Int), .ref pc]) hv
      have sCE := sD.trans sE
      have dp1 : Dp K (upd HD v (.lst [V.ref B, .int (L.length : Int), .ref pc])) (.ref v) (pdCh d.t (G.map (·.2))) := by
        have e1 : ((L.length : Int)) = (((G.map (·.2)).length : Nat) : Int) := by rw [List.length_map, hLl]
        refine .lst (SqL.of upd_same) (.cons (.tup (SqT.of (sCE _ _ c2)) ?_) (.cons ?_ (.cons (.tup (SqT.of (sE _ _ hvc)) ?_) .nil)))
        · rw [← hLG]
          exact dp_rws fun x hx => sCE _ _ (c3 x hx)
        · rw [e1]
          exact .int _
        · rw [← hLG]
          exact dp_cells d.t L
      refine ⟨_, _, rfl, dp1, fit1, _, rfl, _, _, rfl, dp_up sCE hpd, fit1, rfl, false, ?_, iteF ?_⟩
      · rw [decide_eq_true rfl]
        rfl
      obtain ⟨fx, fs, ef⟩ := (hCC.fr.same sCE).ins
      refine ⟨_, rfl, a, CC, dx, _, _, rfl, sCE _ _ c1, T.m.cl, T.m.nF, chF_frame _ _, _, rfl, f, CF, fx, fs, rfl, ef, rfl, .inl ⟨.ref CF, .base (.ins ef T.icF.cl T.icF.ca T.icF.cn T.icF.ct T.icF.cm), T.nfF, f, _, _, rfl, hCC.fr.same sCE, .inl ⟨f, _, rfl, hCC.fr.same sCE, fun HF sF => ⟨_, rfl, false, ?_, iteF ⟨⟨_, rfl⟩, sCE.trans sF⟩⟩⟩⟩⟩
      rw [eqFr_self rfl rfl rfl (eqLegs_of hk hk)]
      rfl
    rintro σ HD ⟨⟨o8', rfl⟩, sCD⟩
    have bD := bC.same sCD
    have hCD := hCC.same sCD
    -- parts of legs
    refine ⟨fun σ H' => (∃ o4 o8 o9, σ = stR p b q f o4 D a (some (.ref u)) o8 o9 none none none) ∧ Same HD H', ?_, ?_⟩
    · refine ⟨_, rfl, q, refsB G, rfl, EnT.for_enumA (H0 := HD) (.inl (SqL.of (rows bD).1)) (fun i σ H' => (∃ o4 o8 o9, σ = stR p b q f o4 D a (some (.ref u)) o8 o9 none none none) ∧ Same HD H') ⟨⟨_, _, _, rfl⟩, Same.refl _⟩ (fun i σ H' h => h.2) ?_ (fun σ H' h => h)⟩
      rintro i x σ HE Tp hx ⟨⟨o4, o8, o9, rfl⟩, sE⟩ hTp
      obtain ⟨y, hy, ey, rfl⟩ := refsB_at hx
      have hi : i < G.length := (List.getElem?_eq_some_iff.mp ey).1
      have sF := sE.trans (same_at (o := .tup [.int (i : Nat), .ref y.1]) hTp)
      refine ⟨Tp, _, rfl, SqT.of upd_same, rfl, _, _, rfl, _, _, rfl, rfl, ?_⟩
      obtain ⟨HF, eF⟩ : ∃ HF, HF = upd HE Tp (.tup [.int (i : Nat), .ref y.1]) := ⟨_, rfl⟩
      rw [← eF] at sF ⊢
      have hyF := sF _ _ ((rows bD).2 y hy)
      have hyl : (strv y.2).length = y.2.length := List.length_map _
      have eL : (L.map (·.2))[i]? = some y.2 := by rw [hLG, List.getElem?_map, ey]; rfl
      rw [List.getElem?_map] at eL
      cases eLi : L[i]? with
      | none => rw [eLi] at eL; cases eL
      | some yL =>
      rw [eLi] at eL
      have eyL : yL.2 = y.2 := Option.some.inj eL
      have hCF := hCD.same sF
      obtain ⟨dx, B, c1, _⟩ := hCF.at_
      have fiti : ShN.FitN (.int ((i : Nat) : Int)) := fit_i20 (by omega) (by omega)
      refine ⟨_, rfl, y.1, rfl, ⟨_, SqL.of hyF⟩, fun D3 hD3 => ?_⟩
      refine lc_it (walk_list (K := K) (a := y.1) (xs := strv y.2)) (fun j H' => Same HF H' ∧ H' D3 = some (.lst [])) ⟨same_at hD3, upd_same⟩ (fun j H' _ h => SqL.of (h.1 _ _ hyF)) ?_ ?_
      · rintro j x Ho Ha hj ⟨sa, da⟩ ⟨rfl, hxj⟩
        rw [hyl] at hj
        have exj : (strv y.2)[j]? = some (.str y.2[j]) := by show (y.2.map V.str)[j]? = _; rw [List.getElem?_map, List.getElem?_eq_getElem hj]; rfl
        rw [exj] at hxj
        obtain rfl := Option.some.inj hxj
        refine ⟨rfl, ?_⟩
        refine ⟨_, rfl, a, dx, _, rfl, sa _ _ c1, chF_no (by decide +kernel) (by decide +kernel), _, rfl, rfl, a, f, _, L, i, yL, y.2[j], rfl, hCF.same sa, eLi, by rw [eyL]; exact List.getElem_mem hj, fun HG sG => ?_⟩
        refine ⟨_, _, rfl, .int _, fiti, _, rfl, _, _, rfl, .int _, fiti, rfl, false, ?_, sa.trans sG, sG _ _ da⟩
        rw [decide_eq_true rfl]
        rfl
      · rintro HG ⟨sG, dG⟩
        refine ⟨by show 0 ≤ sizeLine; decide, fun e he => ?_⟩
        have s12 := same_at (o := .lst []) he
        exact ⟨D3, e, [], rfl, rfl, s12 _ _ dG, upd_same, _, rfl, iteF ⟨⟨_, _, _, rfl⟩, sF.trans (sG.trans s12)⟩⟩
    rintro σ HE ⟨⟨o4, o8, o9, rfl⟩, sDE⟩
    have bE := bD.same sDE
    have hCE := hCD.same sDE
    have PE_ := (PC.same sCD).same sDE
    -- words
    refine ⟨fun σ H' => (∃ o4 o8 o9 o10 o11 o12, σ = stR p b q f o4 D a (some (.ref u)) o8 o9 o10 o11 o12) ∧ Pen H' p l cs (n + 10 + 60 * 3) ∧ But H H' p ∧ ChIs ks CF CC H' a f ⟨ys, d.t, d.g, d.r⟩ L, ?_, ?_⟩
    · refine ⟨3, rfl, by decide, by decide, for_range (n := 3) (fun i σ H' => (∃ o4 o8 o9 o10 o11 o12, σ = stR p b q f o4 D a (some (.ref u)) o8 o9 o10 o11 o12) ∧ Pen H' p l cs (n + 10 + 60 * i) ∧ But H H' p ∧ ChIs ks CF CC H' a f ⟨ys, d.t, d.g, d.r⟩ L) ⟨⟨_, _, _, _, _, _, rfl⟩, PE_.mono (by omega), bE, hCE⟩ ?_ (fun σ H' h => h)⟩
      rintro i σ HF hi ⟨⟨o4, o8, o9, o10, o11, o12, rfl⟩, PF, bF', hCF⟩
      refine ⟨_, rfl, _, rfl, p, l, cs, _, b, d, rfl, PF, hB.but hP bF', ok, by omega, fun Dl gv HG hv hnd hLv hDl PG bFG => ?_⟩
      obtain ⟨ps, hpF⟩ := PF.at'
      have hCG := hCF.noL (NoL.but bFG hpF)
      have bG := bF'.trans bFG
      have lvok : LvOk ks ⟨ys, d.t, d.g, d.r⟩ gv := ⟨hv.1, fun x hx => by
        obtain ⟨v1, v2, v3⟩ := hv.2 x hx
        exact ⟨by show x.1 ∈ kindZ ks true ys; rw [to.dr]; exact v1, v2, v3⟩⟩
      refine ⟨rfl, _, rfl, _, rfl, rfl, rfl, f, Dl, _, gv, rfl, hCG.fr, hLv, lvok, t1, t3, fun wa HH hwa hW sGH _ => ?_⟩
      have hCH := hCG.same sGH
      obtain ⟨dx, B, c1, _⟩ := hCH.at_
      obtain ⟨I, eI⟩ : ∃ I, I = digI (lvl gv d.t) d.t (G.map (·.2)) := ⟨_, rfl⟩
      have eI2 : digI (wlv ks ⟨ys, d.t, d.g, d.r⟩ gv) d.t (L.map (·.2)) = I := by
        rw [hLG, eI]
        refine digI_congr fun r hr' z hz => ?_
        rw [wlv_eq]
        by_cases hzk : z ∈ kindZ ks true ys
        · exact if_pos hzk
        · rw [if_neg hzk]
          show d.t = lvl gv d.t z
          unfold lvl
          cases e : lvG gv z with
          | none => rfl
          | some j => exact absurd (lvok.2 _ (lvG_mem e)).1 hzk
      have hIb : ∀ j ∈ I, 0 ≤ j ∧ j ≤ 3 := by
        rw [eI]
        exact digI_bd ⟨by omega, t3⟩ fun r hr' z hz => by
          obtain ⟨v1, v2⟩ := lvl_le lvok (show (0 : Int) ≤ d.t by omega) z
          exact ⟨v1, Int.le_trans v2 t3⟩
      have hIl : I.length ≤ 60 := by
        have q1 := digB_len gv d.t G
        have q2 := cells_len d.t G
        rw [digB_eq, List.length_map, ← eI] at q1
        omega
      have fitI : ShN.FitN (.tuple ((0 :: d.t :: I.reverse).map PyData.int)) := fit_t03 (by rw [List.length_cons, List.length_cons, List.length_reverse]; omega) fun j hj => by
        rcases List.mem_cons.mp hj with rfl | hj
        · exact ⟨by decide, by decide⟩
        rcases List.mem_cons.mp hj with rfl | hj
        · exact ⟨by omega, t3⟩
        · exact hIb j (List.mem_reverse.mp hj)
      have eV : ∀ {xs : List V}, xs = I.map V.int → (V.int 0 :: .int d.t :: xs.reverse) = (0 :: d.t :: I.reverse).map V.int := fun {xs} e => by
        rw [e, ← List.map_reverse]
        rfl
      refine ⟨_, rfl, a, dx, _, rfl, c1, chF_no (by decide +kernel) (by decide +kernel), _, rfl, rfl, a, f, _, L, wa, _, gv, rfl, hCH, hW, fun z hz => hz, fun pc HI hpc hvc sHI => ?_⟩
      rw [digV_eq, eI2] at hvc
      rw [eV rfl] at hvc
      refine ⟨_, _, rfl, .tup (SqT.of hvc) (dp_ints2 _), fitI, ?_⟩
      have sGI := sGH.trans sHI
      have bI := bG.same sGI
      refine ⟨_, rfl, _, rfl, _, rfl, b, p, q, Dl, d, G, gv, rfl, hB.but hP bI, rows bI, h8, h40, sGI _ _ hLv, fun c HJ hc hvJ sIJ => ?_⟩
      rw [digB_eq, ← eI] at hvJ
      rw [eV rfl] at hvJ
      refine ⟨c, _, rfl, .inl ⟨SqL.of hvJ, fun t ht => ?_⟩⟩
      have sK := same_at (o := .tup ((0 :: d.t :: I.reverse).map V.int)) ht
      refine ⟨_, _, rfl, .tup (SqT.of upd_same) (dp_ints2 _), fitI, rfl, false, ?_, iteF ?_⟩
      · rw [decide_eq_true rfl]
        rfl
      have sGK := sGI.trans (sIJ.trans sK)
      exact ⟨⟨_, _, _, _, _, _, rfl⟩, (PG.same sGK).mono (by omega), bG.same sGK, hCG.same sGK⟩
    rintro σ HF ⟨⟨o4', o8'', o9', o10, o11, o12, rfl⟩, PF, bF', hCF⟩
    exact ⟨_, rfl, _, rfl, _, rfl, _, rfl, _, rfl, p, b, q, a, f, d, ys, G, L, rfl, hB.but hP bF', ok, rows bF', hk, hCF, hLG, fun H' s => k H' ((PF.same s).mono (by omega)) (bF'.same s)⟩
end
end Sj
/-! The law's def, proved for the one place where the row calls it (so that what is shown around is known: nothing). -/
namespace Sup
open PySem PySem.Spec PyProof.Rows L2
abbrev Sp1 := V → Hp → VK → Prop
/-- called there with one value, the def keeps its promise -/
def AtCall (P : Program) (w : World) (K : PySem.W.Frag) (mg : Str → Option Value) (base : Heap) (f : Addr) (sp : Sp1) : Prop :=
  ∀ (s : Shared) (H : Hp) (u : Value) (v : V) (Q : VK), Env0 P w K mg base callerA [] s H → RelV v u → sp v H Q → codeAny (model P w) callerA (.call (.ref f) ⟨[u], []⟩) (CR CX0 [] P w H s Q E0) s
section
variable {P : Program} {w : World} {K : PySem.W.Frag} {mg mb : Str → Option Value} {base : Heap}
theorem at_call {nm q x : Str} {st : Stmt} {f : Addr} {fd : FuncData} {N : List Str} {k : Nat} {sp : Sp1} (F : Fun K nm q st f fd) (S : FnScope N [x] (defScope st)) (room : Room (k + 1) callerA) (hb : ∀ (s : Shared) (u : Value), BindsTo s fd ⟨[u], []⟩ [(x, u)])
    (body : ∀ (cdv : Value) (s : Shared) (H : Hp) (v : V) (Q : VK), Room k (callerA.deeper (envOfC q (defScope st) s.heap.objs.size f cdv)) → sp v H Q →
      ∃ t, PSs (cxOf CX0 P w K mg base N q (defScope st) f cdv callerA [] s H E0).nox (defBody st) t ∧ t { nx := fun _ H' => Q .non H', rt := Q } (start N [v]) H) : AtCall P w K mg base f sp := by
  obtain ⟨oc, od, kV, doc, pm, an, cdv, ct, osl, rfl, lk, hcd⟩ := F.ex
  intro s H u v Q env0 ru hsp
  have stand : ∀ b o, base.get? b = some o → s.heap.get? b = some o := fun b o z => (env0.bs b o z).1
  have inK := env0.mod.kin.keeps stand
  have kinds : ∀ y ∈ [x].zip [u], (defScope st).names.lookup y.1 = some .local ∨ ((defScope st).names.lookup y.1 = some .cell ∧ ((cellsFrom (s.heap.objs.size + 1) (defScope st).names []).lookup y.1).isSome = true) := by
    intro y hy
    have ey : y = (x, u) := by simpa using hy
    subst ey
    exact (S.par x (by simp)).imp id fun c => ⟨c, PySem.W.cellsFrom_some _ _ _ (.inl c)⟩
  apply codeAny_call_function room.depth (inK _ _ lk) rfl S.co S.gen rfl (PySem.W.codeRec_of inK hcd)
  apply hb s u
  apply wpAny_newFunctionEnv_cells S.kind kinds
  intro env he s1 inC
  subst he
  constructor
  · exact (env0.mod.nolimit.keeps stand).keeps inC.toInCall.keep
  · obtain ⟨t, ht, hq⟩ := body cdv s H v Q (room.deeper _) hsp
    have J := inv_start (CX := CX0) (E := E0) (P := P) (w := w) (us := [u]) (vs := [v]) S room.hd env0 rfl (.cons ru .nil) inC
    apply codeAny_func
    apply wpAny_mono (ht.nox.run [] s1 (start N [v]) H _ J hq) _ (fun _ _ z => z)
    intro fl s' hs
    have done : ∀ {σ' : L2.St} {H' : Hp} {y : V} {z : Value}, Inv (cxOf CX0 P w K mg base N q (defScope st) f cdv callerA [] s H E0) [] σ' H' s' → L2.RelV y z → Q y H' → CE [] P w H s Q z s' := by
      intro σ' H' y z I ry qy
      exact ⟨y, H', I.os, I.bare, I.base, I.hok, ry, qy⟩
    match fl, hs with
    | .ret _, ⟨_, _, _, I, ry, qy⟩ => exact done I ry qy
    | .next, ⟨_, _, I, qy⟩ => exact done (y := V.non) (z := Value.none) I rfl qy
    | .brk, ⟨_, _, _, z⟩ => exact z.elim
    | .cont, ⟨_, _, _, z⟩ => exact z.elim
/-- behind the top, from the script alone -/
theorem law_runs {f a : Addr} {sp : Sp1} {s1 : Shared} {vs : List Value} {ns : List Int} (inK : K.In s1.heap) (gl : s1.heap.Ns mainGlobals mg) (bl : s1.heap.Ns builtinsNs mb) (bb : ∀ x : Str, x ≠ "__name__" → mb x = bootBuiltins x) (lim : s1.heap.NoLimit)
    (nogen : s1.gens = #[]) (ha : s1.heap.get? a = some { cls := .type "list", data := .seq vs.toArray }) (hi : IntsAre vs ns) (hl : ns.length ≤ sizeLine)
    (go : ∀ base : Heap, K.In base → base.Ns mainGlobals mg → AtCall P w K mg base f sp) (want : ∀ H : Hp, SqL K H a (ns.map V.int) → sp (.ref a) H fun v _ => v = .bl true) :
    codeAny (model P w) callerA (.call (.ref f) ⟨[.ref a], []⟩) (fun r s' => r = .ok (.ret (.bool true)) ∧ OldK s1.heap s'.heap ∧ s'.os = s1.os ∧ AllBare s'.gens) s1 := by
  have rel := vals_ints hi
  have szV : vs.length ≤ sizeLine := hi.length ▸ hl
  -- H tracks at most the script, as a thing that is known
  have main : ∀ H : Hp, (∀ b u, H b = some u → b = a ∧ K.lookup a = none ∧ ∃ o xs, u = .frz o (.lst xs)) → SqL K H a (ns.map V.int) → HOk P w H s1.heap → codeAny (model P w) callerA (.call (.ref f) ⟨[.ref a], []⟩)
      (fun r s' => r = .ok (.ret (.bool true)) ∧ OldK s1.heap s'.heap ∧ s'.os = s1.os ∧ AllBare s'.gens) s1 := by
    intro H only hS hok
    have keepB : ∀ {b : Addr} {o : Obj}, s1.heap.get? b = some o → (∀ xs n, o.data ≠ .seq xs n) → (hidT s1.heap H).get? b = some o := by
      intro b o e no
      apply hidT_get e
      cases z : H b with
      | none => rfl
      | some u =>
        obtain ⟨eb, _⟩ := only b u z
        rw [eb, ha] at e
        exact absurd rfl (by cases e; exact no _ _)
    have keepK : K.In (hidT s1.heap H) := by
      intro b o e
      apply hidT_get (inK b o e)
      cases z : H b with
      | none => rfl
      | some u =>
        obtain ⟨eb, nk, _⟩ := only b u z
        rw [eb, nk] at e
        cases e
    have keepN : ∀ {b : Addr} {m : Str → Option Value}, s1.heap.Ns b m → (hidT s1.heap H).Ns b m := by
      rintro b m ⟨o, es, ep, e, d, r⟩
      have nl : ∀ xs n, o.data ≠ .seq xs n := fun xs n z => by
        rw [d] at z
        cases z
      exact ⟨o, es, ep, keepB e nl, d, r⟩
    have mod : Mod K mg (hidT s1.heap H) := by
      refine ⟨keepK, keepN gl, ⟨mb, keepN bl, bb⟩, ?_⟩
      obtain ⟨mc, n1, n2⟩ := lim
      exact ⟨mc, keepN n1, n2⟩
    have env : Env0 P w K mg (hidT s1.heap H) callerA [] s1 H := by
      refine ⟨rfl, mod, fun b o e => of_hidT e, Nat.le_of_eq (hidT_size _ _), trivial, ?_, hok, .of_eq nogen⟩
      intro b hb
      cases hb
    apply codeAny_mono (go _ keepK (keepN gl) s1 H (.ref a) (.ref a) _ env rfl (want H hS))
    intro r s' h
    match r, h with
    | .ok (.ret u), ⟨v, H', os, bare, un, hok', ru, q⟩ =>
      have ev : v = .bl true := q
      subst ev
      obtain rfl : u = Value.bool true := ru
      refine ⟨rfl, OldK.of_keep ?_, os, bare⟩
      intro b o e
      cases z : H b with
      | none => exact un.keep b o e z (fun k => by cases k) (fun k => by cases k)
      | some u =>
        obtain ⟨_, _, ob, xs, eu⟩ := only b u z
        subst eu
        have here := (hok b _ z).1
        have there := (hok' b _ (un.frzs b ob _ z)).1
        rw [e] at here
        cases here
        exact there
  cases known : K.lookup a with
  | some o =>
    have eo := inK a o known
    rw [ha] at eo
    cases eo
    apply main (fun _ => none) (fun b u z => by cases z)
    · exact .inr ⟨_, vs.toArray, _, known, rfl, rfl, rfl, by simpa using szV, by simpa using rel⟩
    · intro b u z
      cases z
  | none =>
    apply main (fun b => if b = a then some (.frz { cls := .type "list", data := .seq vs.toArray } (.lst (ns.map V.int))) else none)
    · intro b u z
      by_cases hb : b = a
      · rw [if_pos hb] at z
        cases z
        exact ⟨hb, known, _, _, rfl⟩
      · rw [if_neg hb] at z
        cases z
    · exact .inl (.inr ⟨{ cls := .type "list", data := .seq vs.toArray }, if_pos rfl⟩)
    · intro b u z
      dsimp only at z
      by_cases hb : b = a
      · rw [if_pos hb] at z
        cases z
        subst hb
        exact ⟨ha, by rw [List.length_map]; exact hl, vs, _, rel, ha⟩
      · rw [if_neg hb] at z
        cases z
/-- the goal that k_head leaves, from AtCall -/
theorem walk_at {l : PySem.W.OpenLaw} {n : Nat} {q : Program} {loose : List Str} {XP : (Str → Option Value) → Heap → Prop} {YP : World → Heap → Prop} {d : DefRec} {K : Params → PySem.W.Frag} {sp : PySem.W.Frag → Sp1}
    (hn : l.most = some n) (hz : n ≤ sizeLine) (hdf : d.params.defaults = []) (hY : ∀ (w : World) (h : Heap), YP w h → (K w.params).In h)
    (go : ∀ (w : World) (mg : Str → Option Value) (f : Addr) (h : Heap), (K w.params).In h → h.Ns mainGlobals mg → mg d.name = some (.ref f) →
      ∀ base : Heap, (K w.params).In base → base.Ns mainGlobals mg → AtCall l.prog w (K w.params) mg base f (sp (K w.params)))
    (want : ∀ (K : PySem.W.Frag) (H : Hp) (a : Addr) (ns : List Int), ns.length ≤ n → SqL K H a (ns.map V.int) → sp K (.ref a) H fun v _ => v = .bl true) :
    PySem.W.WalkO q loose XP YP l.row.toRowW d [] (fun f vs => PySem.call f vs) := by
  apply Att.attach_call hn hdf
  intro w _ s1 mg mb f _ _ _ _ a vs ns G Y _ _ _ hmg hobj hints hlen hg
  have inK := hY w _ Y
  exact law_runs inK G.T.g G.T.b G.T.builtins G.T.nolimit hg hobj hints (Nat.le_trans hlen hz) (go w mg f _ inK G.T.g hmg) fun H hS => want _ H a ns hlen hS
end
end Sup
namespace Sj
open PySem L2 Sup StK Own Shw Exg Grd KepE
open NdefX (NF NScope ncx envF startF nscope_by)
open C8 (pss_cut tCut)
/-! k65: the law -/
abbrev sLaw65 : Stmt := top 43
abbrev nL65 : List Str := ["_law_script", "_law_pen_here", "_law_turn", "_law_bare_here"]
theorem scL65 : FnScope nL65 ["_law_script"] (defScope sLaw65) := ⟨rfl, rfl, rfl, by decide +kernel, rfl, by decide +kernel, by decide +kernel⟩
structure L65T (P : Program) (w : World) (K : PySem.W.Frag) (mg : Str → Option Value) (base : Heap) (CC : Addr) : Prop where
  pen : ∃ f fd, mg "_law_pen" = some (.ref f) ∧ PySem.W.keepIn K (.ref f) = true ∧ Binds K fd ["_law_script"] [] ∧ FnOk P w K mg base CX0 1 f fd ["_law_script"] (spPen K)
  bare : ∃ f fd, mg "_law_bare" = some (.ref f) ∧ PySem.W.keepIn K (.ref f) = true ∧ Binds K fd ["_law_pen_here", "_law_most"] [] ∧ FnOk P w K mg base CX0 3 f fd ["_law_pen_here", "_law_most"] spBare
  par : ∃ f fd, mg "_law_parts" = some (.ref f) ∧ PySem.W.keepIn K (.ref f) = true ∧ Binds K fd ["_law_pen_here", "_law_bare_here"] [] ∧ FnOk P w K mg base CX0 2 f fd ["_law_pen_here", "_law_bare_here"] spPar
  right : ∃ f fd, mg "_law_right" = some (.ref f) ∧ PySem.W.keepIn K (.ref f) = true ∧ Binds K fd ["_law_pen_here", "_law_bare_here", "_law_rows"] [] ∧ FnG P w K mg base CX0 10 f fd ["_law_pen_here", "_law_bare_here", "_law_rows"] spRi
  mC : mg "Chain" = some (.ref CC)
  most : ∃ mc u, ClX.CRead K CC mc ∧ ClX.CVal K CC mc "MOST" (.int 8) u
  range : mg "range" = none
  repr : mg "repr" = none
def spLaw1 (K : PySem.W.Frag) : Sp1 := fun v H Q => ∃ (a : Addr) (ns : List Int), v = .ref a ∧ SqL K H a (ns.map V.int) ∧ ns.length ≤ 63 ∧ ∀ H', Q (.bl true) H'
theorem eight : decide (V.str (PyData.int 8).shown = V.str "8") = true := by decide +kernel
section
variable {P : Program} {w : World} {K : PySem.W.Frag} {mg : Str → Option Value} {base : Heap}
theorem at_law {f CC : Addr} {fd : FuncData} (F : Fun K "law" "law" sLaw65 f fd) (hb : ∀ (s : Shared) (u : Value), BindsTo s fd ⟨[u], []⟩ [("_law_script", u)]) (T : L65T P w K mg base CC) : AtCall P w K mg base f (spLaw1 K) := by
  refine at_call (k := 12) F scL65 ⟨rfl, by decide, by decide⟩ hb fun cdv s H v Q hr h => ?_
  obtain ⟨sc, ns, rfl, hS, hlen, k⟩ := h
  obtain ⟨fP, fdP, mP, kP, bP, GP⟩ := T.pen
  obtain ⟨fB, fdB, mB, kB, bB, GB⟩ := T.bare
  obtain ⟨fA, fdA, mA, kA, bA, GA⟩ := T.par
  obtain ⟨fR, fdR, mR, kR, bR, GR⟩ := T.right
  obtain ⟨mc, u, cr, cv⟩ := T.most
  have hgu : (callerA.deeper (PyProof.Rows.envOfC "law" (defScope sLaw65) s.heap.objs.size f cdv)).guards = some [] := rfl
  have hr1 := hr.mono (show 1 ≤ 12 by decide)
  have hr2 := hr.mono (show 2 ≤ 12 by decide)
  have hr3 := hr.mono (show 3 ≤ 12 by decide)
  have hr10 := hr.mono (show 10 ≤ 12 by decide)
  refine ⟨_, pss_cons (ps_set (i := 1) scL65.nd rfl (Or.inl rfl) (pe_call GP hr1 rfl mP kP bP .nil pass0 (pa_cons (pv 0) pa_nil)))
    (pss_cut (ps_for PassesOwn.never rfl (pi_range1 rfl T.range (pa_cons pe_int pa_nil)) (pg_name (i := 2) scL65.nd rfl (Or.inl rfl))
      (pss_cons (ps_set (i := 3) scL65.nd rfl (Or.inl rfl) (pe_call GB hr3 rfl mB kB bB .nil pass0 (pa_cons (pv 1) (pa_cons pe_int pa_nil))))
      (pss_one (ps_if (pt_not (pt_val (pe_callG GR hgu hr10 rfl mR kR bR pass0 (pa_cons (pv 1) (pa_cons (pv 3) (pa_cons (pe_call GA hr2 rfl mA kA bA .nil pass0 (pa_cons (pv 1) (pa_cons (pv 3) pa_nil))) pa_nil)))))) (pss_one (ps_ret pe_bl)) pss_nil))))
    (pss_one (ps_ret (pe_cmpR op_eq (pe_callB (ShN.call_shN hgu hr.units) (by rfl) T.repr (by decide +kernel) (pa_cons (ClX.pe_cval (pe_glob rfl T.mC (v := .ref CC) rfl)) pa_nil)) pe_str (nomark _))))), ?_⟩
  refine ⟨_, rfl, sc, ns, rfl, hS, hlen, fun p l cs H1 hP s1 => ?_⟩
  refine ⟨fun _ _ => True, ?_, fun _ H' _ => ?_⟩
  · refine ⟨6, rfl, by decide, by decide, for_range (n := 6) (fun i σ H' => (∃ o2 o3, σ = ([some (.ref sc), some (.ref p), o2, o3] : List (Option V))) ∧ Pen H' p l cs (400 * i)) ⟨⟨_, _, rfl⟩, hP⟩ ?_ (fun _ _ _ => True.intro)⟩
    rintro i σ H2 hi ⟨⟨o2, o3, rfl⟩, P2⟩
    refine ⟨_, rfl, p, l, cs, 400 * i, 12, rfl, P2, by decide, by omega, fun b d H3 ok hl hb2 hB3 P3 b23 => ?_⟩
    refine ⟨_, rfl, _, rfl, _, rfl, _, rfl, p, l, cs, _, b, d, rfl, P3, hB3, ok, by omega, fun q G H4 hR hG1 hG8 hGp P4 b34 => ?_⟩
    refine ⟨p, l, cs, _, b, q, d, G, rfl, P4, hB3.but P3 b34, ok, hR.l, nep P3 hR.new, fun x hx => nep P3 (hR.row x hx).2.1, hG1, hG8, hGp, by omega, fun H5 P5 b45 => ⟨true, rfl, iteF ⟨⟨_, _, rfl⟩, P5.mono (by omega)⟩⟩⟩
  · refine ⟨CC, mc, _, u, rfl, cr, cv, _, _, rfl, .int 8, fit_i20 (by decide) (by decide), rfl, ?_⟩
    have := k H'
    rw [← eight] at this
    exact this
end
end Sj
namespace Sj
open PySem L2 Sup StK Own Shw Exg Grd KepE
open NdefX (NF NScope ncx envF startF nscope_by)
theorem wof_k0 {P : Program} {w : World} {K : PySem.W.Frag} {mg : Str → Option Value} {base : Heap} {f CF CW : Addr} {fd : FuncData} {ks : Kinds} (F : Fun K "of" "Word.of" (sWd 1) f fd) (G : FnOk P w K mg base CX0 8 f fd ["cls", "frame", "levels"] (spWOf ks CF CW)) : FnK P w K mg base CX0 8 f [] (fun vs zs H Q E => vs.length = 3 ∧ spWOf ks CF CW vs H Q E) := by
  obtain ⟨oc, od, kV, doc, pm, an, cdv, ct, osl, rfl, lk, hcd⟩ := F.ex
  exact fnK_of (g := fun us _ => us) (gV := fun vs _ => vs) G ⟨fun s us ws _ l1 l2 => .of_eq (match us, ws, l1, l2 with | [_, _, _], [], _, _ => rfl), fun r _ => r⟩
theorem po_k {P : Program} {w : World} {K : PySem.W.Frag} {mg : Str → Option Value} {base : Heap} {f : Addr} {fd : FuncData} {sp : Sp} (F : Fun K "part_of" "Chain.part_of" sChP f fd) (G : FnOk P w K mg base CX0 2 f fd ["self", "name"] sp) : FnKG P w K mg base CX0 2 f ["name"] sp := by
  obtain ⟨oc, od, kV, doc, pm, an, cdv, ct, osl, rfl, lk, hcd⟩ := F.ex
  exact fnKG_of (FnG.of G) fun s u ws h => match ws, h with
    | [_], _ => .of_eq rfl
theorem en_k {P : Program} {w : World} {K : PySem.W.Frag} {mg : Str → Option Value} {base : Heap} {f : Addr} {fd : FuncData} {sp : Sp} (F : Fun K "entering" "Chain.entering" sChN f fd) (G : FnOk P w K mg base CX0 4 f fd ["self", "word"] sp) : FnKG P w K mg base CX0 4 f ["word"] sp := by
  obtain ⟨oc, od, kV, doc, pm, an, cdv, ct, osl, rfl, lk, hcd⟩ := F.ex
  exact fnKG_of (FnG.of G) fun s u ws h => match ws, h with
    | [_], _ => .of_eq rfl
theorem all_mk65 {P : Program} {w : World} {K : PySem.W.Frag} {h : Heap} {mg : Str → Option Value} {fa : Addr} (X : K.In h) (G : h.Ns mainGlobals mg) (hfa : mg "law" = some (.ref fa))
    {CI : Addr}
    {CL : Addr}
    {CD : Addr}
    {CS : Addr}
    {CF : Addr}
    {CW : Addr}
    {CC : Addr}
    {tL tN : Tok} {aR : Addr} {dR : Option Addr} {itsR : Array Value} {nR : Nat} {slR : Array (Option Value)}
    {mcW : Value}
    {mcC uC : Value}
    {fN : Addr} {odN anN : Option Addr} {slN : Array (Option Value)} {ocN kVN dcN pmN cdN ctN : Value}
    {fIi : Addr} {odIi anIi : Option Addr} {slIi : Array (Option Value)} {ocIi kVIi dcIi pmIi cdIi ctIi : Value}
    {fBt : Addr} {odBt anBt : Option Addr} {slBt : Array (Option Value)} {ocBt kVBt dcBt pmBt cdBt ctBt : Value}
    {fWr : Addr} {odWr anWr : Option Addr} {slWr : Array (Option Value)} {ocWr kVWr dcWr pmWr cdWr ctWr : Value}
    {fLI : Addr} {odLI anLI : Option Addr} {slLI : Array (Option Value)} {ocLI kVLI dcLI pmLI cdLI ctLI : Value}
    {fPn : Addr} {odPn anPn : Option Addr} {slPn : Array (Option Value)} {ocPn kVPn dcPn pmPn cdPn ctPn : Value}
    {fDr : Addr} {odDr anDr : Option Addr} {slDr : Array (Option Value)} {ocDr kVDr dcDr pmDr cdDr ctDr : Value}
    {fTg : Addr} {odTg anTg : Option Addr} {slTg : Array (Option Value)} {ocTg kVTg dcTg pmTg cdTg ctTg : Value}
    {fBa : Addr} {odBa anBa : Option Addr} {slBa : Array (Option Value)} {ocBa kVBa dcBa pmBa cdBa ctBa : Value}
    {fFm : Addr} {odFm anFm : Option Addr} {slFm : Array (Option Value)} {ocFm kVFm dcFm pmFm cdFm ctFm : Value}
    {fId : Addr} {odId anId : Option Addr} {slId : Array (Option Value)} {ocId kVId dcId pmId cdId ctId : Value}
    {fDl : Addr} {odDl anDl : Option Addr} {slDl : Array (Option Value)} {ocDl kVDl dcDl pmDl cdDl ctDl : Value}
    {fLv : Addr} {odLv anLv : Option Addr} {slLv : Array (Option Value)} {ocLv kVLv dcLv pmLv cdLv ctLv : Value}
    {fWp : Addr} {odWp anWp : Option Addr} {slWp : Array (Option Value)} {ocWp kVWp dcWp pmWp cdWp ctWp : Value}
    {fPa : Addr} {odPa anPa : Option Addr} {slPa : Array (Option Value)} {ocPa kVPa dcPa pmPa cdPa ctPa : Value}
    {fCe : Addr} {odCe anCe : Option Addr} {slCe : Array (Option Value)} {ocCe kVCe dcCe pmCe cdCe ctCe : Value}
    {fSe : Addr} {odSe anSe : Option Addr} {slSe : Array (Option Value)} {ocSe kVSe dcSe pmSe cdSe ctSe : Value}
    {fOt : Addr} {odOt anOt : Option Addr} {slOt : Array (Option Value)} {ocOt kVOt dcOt pmOt cdOt ctOt : Value}
    {fRi : Addr} {odRi anRi : Option Addr} {slRi : Array (Option Value)} {ocRi kVRi dcRi pmRi cdRi ctRi : Value}
    {fLw : Addr} {odLw anLw : Option Addr} {slLw : Array (Option Value)} {ocLw kVLw dcLw pmLw cdLw ctLw : Value}
    {fgD : Addr} {odgD angD : Option Addr} {slgD : Array (Option Value)} {ocgD kVgD dcgD pmgD cdgD ctgD : Value}
    {pgD : Addr} {rsgD : List Value}
    {fgR : Addr} {odgR angR : Option Addr} {slgR : Array (Option Value)} {ocgR kVgR dcgR pmgR cdgR ctgR : Value}
    {pgR : Addr} {rsgR : List Value}
    {fmC : Addr} {odmC anmC : Option Addr} {slmC : Array (Option Value)} {ocmC kVmC dcmC pmmC cdmC ctmC : Value}
    {fmG : Addr} {odmG anmG : Option Addr} {slmG : Array (Option Value)} {ocmG kVmG dcmG pmmG cdmG ctmG : Value}
    {fmE : Addr} {odmE anmE : Option Addr} {slmE : Array (Option Value)} {ocmE kVmE dcmE pmmE cdmE ctmE : Value}
    {fmN : Addr} {odmN anmN : Option Addr} {slmN : Array (Option Value)} {ocmN kVmN dcmN pmmN cdmN ctmN : Value}
    {fDvD : Addr} {odDvD anDvD : Option Addr} {slDvD : Array (Option Value)} {ocDvD kVDvD dcDvD pmDvD cdDvD ctDvD : Value}
    {pDvD : Addr} {rsDvD : List Value}
    {fDvS : Addr} {odDvS anDvS : Option Addr} {slDvS : Array (Option Value)} {ocDvS kVDvS dcDvS pmDvS cdDvS ctDvS : Value}
    {pDvS : Addr} {rsDvS : List Value}
    {fEqD : Addr} {odEqD anEqD : Option Addr} {slEqD : Array (Option Value)} {ocEqD kVEqD dcEqD pmEqD cdEqD ctEqD : Value}
    {fEqS : Addr} {odEqS anEqS : Option Addr} {slEqS : Array (Option Value)} {ocEqS kVEqS dcEqS pmEqS cdEqS ctEqS : Value}
    {fwI : Addr} {odwI anwI : Option Addr} {slwI : Array (Option Value)} {ocwI kVwI dcwI pmwI cdwI ctwI : Value}
    {fwG : Addr} {odwG anwG : Option Addr} {slwG : Array (Option Value)} {ocwG kVwG dcwG pmwG cdwG ctwG : Value}
    {fwO : Addr} {odwO anwO : Option Addr} {slwO : Array (Option Value)} {ocwO kVwO dcwO pmwO cdwO ctwO : Value}
    {pwO : Addr} {rswO : List Value}
    {fcI : Addr} {odcI ancI : Option Addr} {slcI : Array (Option Value)} {occI kVcI dccI pmcI cdcI ctcI : Value}
    {fcO : Addr} {odcO ancO : Option Addr} {slcO : Array (Option Value)} {occO kVcO dccO pmcO cdcO ctcO : Value}
    {pcO : Addr} {rscO : List Value}
    {fcC : Addr} {odcC ancC : Option Addr} {slcC : Array (Option Value)} {occC kVcC dccC pmcC cdcC ctcC : Value}
    {pcC : Addr} {rscC : List Value}
    {fcP : Addr} {odcP ancP : Option Addr} {slcP : Array (Option Value)} {occP kVcP dccP pmcP cdcP ctcP : Value}
    {fcN : Addr} {odcN ancN : Option Addr} {slcN : Array (Option Value)} {occN kVcN dccN pmcN cdcN ctcN : Value}
    {fcL : Addr} {odcL ancL : Option Addr} {slcL : Array (Option Value)} {occL kVcL dccL pmcL cdcL ctcL : Value}
    {fcQ : Addr} {odcQ ancQ : Option Addr} {slcQ : Array (Option Value)} {occQ kVcQ dccQ pmcQ cdcQ ctcQ : Value}
    {fFI DFI : Addr} {odFI anFI : Option Addr} {slFI : Array (Option Value)} {ocFI dcFI pmFI cdFI ctFI x1FI x2FI x3FI : Value}
    {fO DO : Addr} {odO anO : Option Addr} {slO : Array (Option Value)} {ocO dcO pmO cdO ctO x1O x2O x3O : Value}
    {pO : Addr} {rsO : List Value} {mcF uM : Value}
    {fIE xIE yIE : Addr} {odIE anIE : Option Addr} {slIE : Array (Option Value)} {ocIE kVIE dcIE pmIE ctIE : Value}
    {u1IE u2IE : Value} {v1IE v2IE : Option Addr} {vsIE : Array Value} {w1IE w2IE : Array (Option Value)} {flIE : Str} {tfIE : Tok}
    {fDI xDI yDI : Addr} {odDI anDI : Option Addr} {slDI : Array (Option Value)} {ocDI kVDI dcDI pmDI ctDI : Value}
    {u1DI u2DI : Value} {v1DI v2DI : Option Addr} {vsDI : Array Value} {w1DI w2DI : Array (Option Value)} {flDI : Str} {tfDI : Tok}
    {fSI xSI ySI : Addr} {odSI anSI : Option Addr} {slSI : Array (Option Value)} {ocSI kVSI dcSI pmSI ctSI : Value}
    {u1SI u2SI : Value} {v1SI v2SI : Option Addr} {vsSI : Array Value} {w1SI w2SI : Array (Option Value)} {flSI : Str} {tfSI : Tok}
    {cdCI : ClassData}
    {cdCD : ClassData}
    {cdCS : ClassData}
    {cdCL : ClassData}
    {nm q : Str} {Ns : Addr} {bs bm sub : List Value} {sn : List Str} {ab : Bool} {col : Option Bool} {dd : Option Addr} {k0 k1 k2 k3 k5 : Option Value}
    (gCI : PySem.W.nsIn K mainGlobals "InvalidFrame" = some (some (.ref CI)))
    (gCL : PySem.W.nsIn K mainGlobals "Leg" = some (some (.ref CL)))
    (gCD : PySem.W.nsIn K mainGlobals "Driver" = some (some (.ref CD)))
    (gCS : PySem.W.nsIn K mainGlobals "Listener" = some (some (.ref CS)))
    (gCF : PySem.W.nsIn K mainGlobals "Frame" = some (some (.ref CF)))
    (gCW : PySem.W.nsIn K mainGlobals "Word" = some (some (.ref CW)))
    (gCC : PySem.W.nsIn K mainGlobals "Chain" = some (some (.ref CC)))
    (gLet : PySem.W.nsIn K mainGlobals "LETTERS" = some (some (.str lettersS tL)))
    (gLon : PySem.W.nsIn K mainGlobals "LONGEST" = some (some (.int 8 tN)))
    (gRes : PySem.W.nsIn K mainGlobals "RESERVED" = some (some (.ref aR)))
    (lRes : K.lookup aR = some ⟨.type "tuple", dR, .seq itsR nR, slR⟩)
    (sRes : itsR.size ≤ sizeLine)
    (vRes : Vals reservedV itsR.toList)
    (z_dict : PySem.W.nsIn K mainGlobals "dict" = some none)
    (z_enumerate : PySem.W.nsIn K mainGlobals "enumerate" = some none)
    (z_set : PySem.W.nsIn K mainGlobals "set" = some none)
    (z_isinstance : PySem.W.nsIn K mainGlobals "isinstance" = some none)
    (z_str : PySem.W.nsIn K mainGlobals "str" = some none)
    (z_len : PySem.W.nsIn K mainGlobals "len" = some none)
    (z_all : PySem.W.nsIn K mainGlobals "all" = some none)
    (z_bool : PySem.W.nsIn K mainGlobals "bool" = some none)
    (z_int : PySem.W.nsIn K mainGlobals "int" = some none)
    (z_abs : PySem.W.nsIn K mainGlobals "abs" = some none)
    (z_range : PySem.W.nsIn K mainGlobals "range" = some none)
    (z_list : PySem.W.nsIn K mainGlobals "list" = some none)
    (z_tuple : PySem.W.nsIn K mainGlobals "tuple" = some none)
    (z_sorted : PySem.W.nsIn K mainGlobals "sorted" = some none)
    (z_super : PySem.W.nsIn K mainGlobals "super" = some none)
    (z_repr : PySem.W.nsIn K mainGlobals "repr" = some none)
    (tyW : PySem.W.typeIn K (.ref CW) = some mcW)
    (rdW : PySem.W.readsIn K CW mcW = true)
    (gaW : PySem.W.specialIn K (.ref CW) "__getattribute__" = some (some (.builtin "type.__getattribute__")))
    (tyC : PySem.W.typeIn K (.ref CC) = some mcC)
    (rdC : PySem.W.readsIn K CC mcC = true)
    (gaC : PySem.W.specialIn K (.ref CC) "__getattribute__" = some (some (.builtin "type.__getattribute__")))
    (moC : PySem.W.findCls K (.ref CC) mcC "MOST" = some (.val uC))
    (rmC : RelV (.int 8) uC)
    (aN : PySem.W.nsIn K mainGlobals "is_name" = some (some (.ref fN)))
    (lN : K.lookup fN = some ⟨ocN, odN, .func (PySem.W.fnOf "is_name" "is_name" (defArgs sIsName) (defBody sIsName) (defScope sIsName) .none kVN dcN pmN anN cdN ctN), slN⟩)
    (cN : PySem.W.codeIn K cdN "is_name" = true)
    (kN : PySem.W.keepIn K (.ref fN) = true)
    (aIi : PySem.W.nsIn K mainGlobals "is_integer" = some (some (.ref fIi)))
    (lIi : K.lookup fIi = some ⟨ocIi, odIi, .func (PySem.W.fnOf "is_integer" "is_integer" (defArgs sIsInt) (defBody sIsInt) (defScope sIsInt) .none kVIi dcIi pmIi anIi cdIi ctIi), slIi⟩)
    (cIi : PySem.W.codeIn K cdIi "is_integer" = true)
    (kIi : PySem.W.keepIn K (.ref fIi) = true)
    (aBt : PySem.W.nsIn K mainGlobals "is_between" = some (some (.ref fBt)))
    (lBt : K.lookup fBt = some ⟨ocBt, odBt, .func (PySem.W.fnOf "is_between" "is_between" (defArgs sBetw) (defBody sBetw) (defScope sBetw) .none kVBt dcBt pmBt anBt cdBt ctBt), slBt⟩)
    (cBt : PySem.W.codeIn K cdBt "is_between" = true)
    (kBt : PySem.W.keepIn K (.ref fBt) = true)
    (aWr : PySem.W.nsIn K mainGlobals "wrong_frame" = some (some (.ref fWr)))
    (lWr : K.lookup fWr = some ⟨ocWr, odWr, .func (PySem.W.fnOf "wrong_frame" "wrong_frame" (defArgs sWrong) (defBody sWrong) (defScope sWrong) .none kVWr dcWr pmWr anWr cdWr ctWr), slWr⟩)
    (cWr : PySem.W.codeIn K cdWr "wrong_frame" = true)
    (kWr : PySem.W.keepIn K (.ref fWr) = true)
    (aLI : PySem.W.findIn K (.ref CL) "__init__" = some (some (.ref fLI)))
    (iLI : PySem.W.isFn K (.ref fLI) = true)
    (lLI : K.lookup fLI = some ⟨ocLI, odLI, .func (PySem.W.fnOf "__init__" "Leg.__init__" (defArgs sLegI) (defBody sLegI) (defScope sLegI) .none kVLI dcLI pmLI anLI cdLI ctLI), slLI⟩)
    (cLI : PySem.W.codeIn K cdLI "Leg.__init__" = true)
    (kLI : PySem.W.keepIn K (.ref fLI) = true)
    (aPn : PySem.W.nsIn K mainGlobals "_law_pen" = some (some (.ref fPn)))
    (lPn : K.lookup fPn = some ⟨ocPn, odPn, .func (PySem.W.fnOf "_law_pen" "_law_pen" (defArgs sPen) (defBody sPen) (defScope sPen) .none kVPn dcPn pmPn anPn cdPn ctPn), slPn⟩)
    (cPn : PySem.W.codeIn K cdPn "_law_pen" = true)
    (kPn : PySem.W.keepIn K (.ref fPn) = true)
    (aDr : PySem.W.nsIn K mainGlobals "_law_draw" = some (some (.ref fDr)))
    (lDr : K.lookup fDr = some ⟨ocDr, odDr, .func (PySem.W.fnOf "_law_draw" "_law_draw" (defArgs sDraw) (defBody sDraw) (defScope sDraw) .none kVDr dcDr pmDr anDr cdDr ctDr), slDr⟩)
    (cDr : PySem.W.codeIn K cdDr "_law_draw" = true)
    (kDr : PySem.W.keepIn K (.ref fDr) = true)
    (aTg : PySem.W.nsIn K mainGlobals "_law_tags" = some (some (.ref fTg)))
    (lTg : K.lookup fTg = some ⟨ocTg, odTg, .func (PySem.W.fnOf "_law_tags" "_law_tags" (defArgs sTags) (defBody sTags) (defScope sTags) .none kVTg dcTg pmTg anTg cdTg ctTg), slTg⟩)
    (cTg : PySem.W.codeIn K cdTg "_law_tags" = true)
    (kTg : PySem.W.keepIn K (.ref fTg) = true)
    (aBa : PySem.W.nsIn K mainGlobals "_law_bare" = some (some (.ref fBa)))
    (lBa : K.lookup fBa = some ⟨ocBa, odBa, .func (PySem.W.fnOf "_law_bare" "_law_bare" (defArgs sBare) (defBody sBare) (defScope sBare) .none kVBa dcBa pmBa anBa cdBa ctBa), slBa⟩)
    (cBa : PySem.W.codeIn K cdBa "_law_bare" = true)
    (kBa : PySem.W.keepIn K (.ref fBa) = true)
    (aFm : PySem.W.nsIn K mainGlobals "_law_frame" = some (some (.ref fFm)))
    (lFm : K.lookup fFm = some ⟨ocFm, odFm, .func (PySem.W.fnOf "_law_frame" "_law_frame" (defArgs sFrm) (defBody sFrm) (defScope sFrm) .none kVFm dcFm pmFm anFm cdFm ctFm), slFm⟩)
    (cFm : PySem.W.codeIn K cdFm "_law_frame" = true)
    (kFm : PySem.W.keepIn K (.ref fFm) = true)
    (aId : PySem.W.nsIn K mainGlobals "is_driver" = some (some (.ref fId)))
    (lId : K.lookup fId = some ⟨ocId, odId, .func (PySem.W.fnOf "is_driver" "is_driver" (defArgs sIsD) (defBody sIsD) (defScope sIsD) .none kVId dcId pmId anId cdId ctId), slId⟩)
    (cId : PySem.W.codeIn K cdId "is_driver" = true)
    (kId : PySem.W.keepIn K (.ref fId) = true)
    (aDl : PySem.W.nsIn K mainGlobals "driver_levels" = some (some (.ref fDl)))
    (lDl : K.lookup fDl = some ⟨ocDl, odDl, .func (PySem.W.fnOf "driver_levels" "driver_levels" (defArgs sDL) (defBody sDL) (defScope sDL) .none kVDl dcDl pmDl anDl cdDl ctDl), slDl⟩)
    (cDl : PySem.W.codeIn K cdDl "driver_levels" = true)
    (kDl : PySem.W.keepIn K (.ref fDl) = true)
    (aLv : PySem.W.nsIn K mainGlobals "_law_levels" = some (some (.ref fLv)))
    (lLv : K.lookup fLv = some ⟨ocLv, odLv, .func (PySem.W.fnOf "_law_levels" "_law_levels" (defArgs sLvs) (defBody sLvs) (defScope sLvs) .none kVLv dcLv pmLv anLv cdLv ctLv), slLv⟩)
    (cLv : PySem.W.codeIn K cdLv "_law_levels" = true)
    (kLv : PySem.W.keepIn K (.ref fLv) = true)
    (aWp : PySem.W.nsIn K mainGlobals "wrong_parts" = some (some (.ref fWp)))
    (lWp : K.lookup fWp = some ⟨ocWp, odWp, .func (PySem.W.fnOf "wrong_parts" "wrong_parts" (defArgs sWp) (defBody sWp) (defScope sWp) .none kVWp dcWp pmWp anWp cdWp ctWp), slWp⟩)
    (cWp : PySem.W.codeIn K cdWp "wrong_parts" = true)
    (kWp : PySem.W.keepIn K (.ref fWp) = true)
    (aPa : PySem.W.nsIn K mainGlobals "_law_parts" = some (some (.ref fPa)))
    (lPa : K.lookup fPa = some ⟨ocPa, odPa, .func (PySem.W.fnOf "_law_parts" "_law_parts" (defArgs sPar) (defBody sPar) (defScope sPar) .none kVPa dcPa pmPa anPa cdPa ctPa), slPa⟩)
    (cPa : PySem.W.codeIn K cdPa "_law_parts" = true)
    (kPa : PySem.W.keepIn K (.ref fPa) = true)
    (aCe : PySem.W.nsIn K mainGlobals "_law_cells" = some (some (.ref fCe)))
    (lCe : K.lookup fCe = some ⟨ocCe, odCe, .func (PySem.W.fnOf "_law_cells" "_law_cells" (defArgs sCel) (defBody sCel) (defScope sCel) .none kVCe dcCe pmCe anCe cdCe ctCe), slCe⟩)
    (cCe : PySem.W.codeIn K cdCe "_law_cells" = true)
    (kCe : PySem.W.keepIn K (.ref fCe) = true)
    (aSe : PySem.W.nsIn K mainGlobals "_law_sent" = some (some (.ref fSe)))
    (lSe : K.lookup fSe = some ⟨ocSe, odSe, .func (PySem.W.fnOf "_law_sent" "_law_sent" (defArgs sSen) (defBody sSen) (defScope sSen) .none kVSe dcSe pmSe anSe cdSe ctSe), slSe⟩)
    (cSe : PySem.W.codeIn K cdSe "_law_sent" = true)
    (kSe : PySem.W.keepIn K (.ref fSe) = true)
    (aOt : PySem.W.nsIn K mainGlobals "_law_other_right" = some (some (.ref fOt)))
    (lOt : K.lookup fOt = some ⟨ocOt, odOt, .func (PySem.W.fnOf "_law_other_right" "_law_other_right" (defArgs sOtr) (defBody sOtr) (defScope sOtr) .none kVOt dcOt pmOt anOt cdOt ctOt), slOt⟩)
    (cOt : PySem.W.codeIn K cdOt "_law_other_right" = true)
    (kOt : PySem.W.keepIn K (.ref fOt) = true)
    (aRi : PySem.W.nsIn K mainGlobals "_law_right" = some (some (.ref fRi)))
    (lRi : K.lookup fRi = some ⟨ocRi, odRi, .func (PySem.W.fnOf "_law_right" "_law_right" (defArgs sRi) (defBody sRi) (defScope sRi) .none kVRi dcRi pmRi anRi cdRi ctRi), slRi⟩)
    (cRi : PySem.W.codeIn K cdRi "_law_right" = true)
    (kRi : PySem.W.keepIn K (.ref fRi) = true)
    (aLw : PySem.W.nsIn K mainGlobals "law" = some (some (.ref fLw)))
    (lLw : K.lookup fLw = some ⟨ocLw, odLw, .func (PySem.W.fnOf "law" "law" (defArgs sLaw65) (defBody sLaw65) (defScope sLaw65) .none kVLw dcLw pmLw anLw cdLw ctLw), slLw⟩)
    (cLw : PySem.W.codeIn K cdLw "law" = true)
    (kLw : PySem.W.keepIn K (.ref fLw) = true)
    (agD : PySem.W.findIn K (.ref CF) "drivers" = some (some (.ref pgD)))
    (bgD : PySem.W.specialIn K (.ref pgD) "__get__" = some (some (.builtin "property.__get__")))
    (dgD : PySem.W.takesIn K (.ref pgD) = some true)
    (egD : PySem.W.recIn K pgD "property" = some (.ref fgD :: rsgD))
    (lgD : K.lookup fgD = some ⟨ocgD, odgD, .func (PySem.W.fnOf "drivers" "Frame.drivers" (defArgs (sFr 5)) (defBody (sFr 5)) (defScope (sFr 5)) .none kVgD dcgD pmgD angD cdgD ctgD), slgD⟩)
    (cgD : PySem.W.codeIn K cdgD "Frame.drivers" = true)
    (kgD : PySem.W.keepIn K (.ref fgD) = true)
    (agR : PySem.W.findIn K (.ref CF) "rails" = some (some (.ref pgR)))
    (bgR : PySem.W.specialIn K (.ref pgR) "__get__" = some (some (.builtin "property.__get__")))
    (dgR : PySem.W.takesIn K (.ref pgR) = some true)
    (egR : PySem.W.recIn K pgR "property" = some (.ref fgR :: rsgR))
    (lgR : K.lookup fgR = some ⟨ocgR, odgR, .func (PySem.W.fnOf "rails" "Frame.rails" (defArgs (sFr 7)) (defBody (sFr 7)) (defScope (sFr 7)) .none kVgR dcgR pmgR angR cdgR ctgR), slgR⟩)
    (cgR : PySem.W.codeIn K cdgR "Frame.rails" = true)
    (kgR : PySem.W.keepIn K (.ref fgR) = true)
    (amC : PySem.W.findIn K (.ref CF) "__contains__" = some (some (.ref fmC)))
    (imC : PySem.W.isFn K (.ref fmC) = true)
    (jmC : PySem.W.fnIn K fmC = true)
    (lmC : K.lookup fmC = some ⟨ocmC, odmC, .func (PySem.W.fnOf "__contains__" "Frame.__contains__" (defArgs (sFr 9)) (defBody (sFr 9)) (defScope (sFr 9)) .none kVmC dcmC pmmC anmC cdmC ctmC), slmC⟩)
    (cmC : PySem.W.codeIn K cdmC "Frame.__contains__" = true)
    (kmC : PySem.W.keepIn K (.ref fmC) = true)
    (amG : PySem.W.findIn K (.ref CF) "__getitem__" = some (some (.ref fmG)))
    (imG : PySem.W.isFn K (.ref fmG) = true)
    (jmG : PySem.W.fnIn K fmG = true)
    (lmG : K.lookup fmG = some ⟨ocmG, odmG, .func (PySem.W.fnOf "__getitem__" "Frame.__getitem__" (defArgs (sFr 10)) (defBody (sFr 10)) (defScope (sFr 10)) .none kVmG dcmG pmmG anmG cdmG ctmG), slmG⟩)
    (cmG : PySem.W.codeIn K cdmG "Frame.__getitem__" = true)
    (kmG : PySem.W.keepIn K (.ref fmG) = true)
    (amE : PySem.W.findIn K (.ref CF) "__eq__" = some (some (.ref fmE)))
    (imE : PySem.W.isFn K (.ref fmE) = true)
    (lmE : K.lookup fmE = some ⟨ocmE, odmE, .func (PySem.W.fnOf "__eq__" "Frame.__eq__" (defArgs (sFr 13)) (defBody (sFr 13)) (defScope (sFr 13)) .none kVmE dcmE pmmE anmE cdmE ctmE), slmE⟩)
    (cmE : PySem.W.codeIn K cdmE "Frame.__eq__" = true)
    (kmE : PySem.W.keepIn K (.ref fmE) = true)
    (amN : PySem.W.findIn K (.ref CF) "__len__" = some (some (.ref fmN)))
    (imN : PySem.W.isFn K (.ref fmN) = true)
    (jmN : PySem.W.fnIn K fmN = true)
    (lmN : K.lookup fmN = some ⟨ocmN, odmN, .func (PySem.W.fnOf "__len__" "Frame.__len__" (defArgs (sFr 12)) (defBody (sFr 12)) (defScope (sFr 12)) .none kVmN dcmN pmmN anmN cdmN ctmN), slmN⟩)
    (cmN : PySem.W.codeIn K cdmN "Frame.__len__" = true)
    (kmN : PySem.W.keepIn K (.ref fmN) = true)
    (aDvD : PySem.W.findIn K (.ref CD) "drives" = some (some (.ref pDvD)))
    (bDvD : PySem.W.specialIn K (.ref pDvD) "__get__" = some (some (.builtin "property.__get__")))
    (dDvD : PySem.W.takesIn K (.ref pDvD) = some true)
    (eDvD : PySem.W.recIn K pDvD "property" = some (.ref fDvD :: rsDvD))
    (lDvD : K.lookup fDvD = some ⟨ocDvD, odDvD, .func (PySem.W.fnOf "drives" "Driver.drives" (defArgs (sDrv 2)) (defBody (sDrv 2)) (defScope (sDrv 2)) .none kVDvD dcDvD pmDvD anDvD cdDvD ctDvD), slDvD⟩)
    (cDvD : PySem.W.codeIn K cdDvD "Driver.drives" = true)
    (kDvD : PySem.W.keepIn K (.ref fDvD) = true)
    (aDvS : PySem.W.findIn K (.ref CS) "drives" = some (some (.ref pDvS)))
    (bDvS : PySem.W.specialIn K (.ref pDvS) "__get__" = some (some (.builtin "property.__get__")))
    (dDvS : PySem.W.takesIn K (.ref pDvS) = some true)
    (eDvS : PySem.W.recIn K pDvS "property" = some (.ref fDvS :: rsDvS))
    (lDvS : K.lookup fDvS = some ⟨ocDvS, odDvS, .func (PySem.W.fnOf "drives" "Listener.drives" (defArgs (sLis 2)) (defBody (sLis 2)) (defScope (sLis 2)) .none kVDvS dcDvS pmDvS anDvS cdDvS ctDvS), slDvS⟩)
    (cDvS : PySem.W.codeIn K cdDvS "Listener.drives" = true)
    (kDvS : PySem.W.keepIn K (.ref fDvS) = true)
    (aEqD : PySem.W.findIn K (.ref CD) "__eq__" = some (some (.ref fEqD)))
    (iEqD : PySem.W.isFn K (.ref fEqD) = true)
    (lEqD : K.lookup fEqD = some ⟨ocEqD, odEqD, .func (PySem.W.fnOf "__eq__" "Driver.__eq__" (defArgs (sDrv 3)) (defBody (sDrv 3)) (defScope (sDrv 3)) .none kVEqD dcEqD pmEqD anEqD cdEqD ctEqD), slEqD⟩)
    (cEqD : PySem.W.codeIn K cdEqD "Driver.__eq__" = true)
    (kEqD : PySem.W.keepIn K (.ref fEqD) = true)
    (aEqS : PySem.W.findIn K (.ref CS) "__eq__" = some (some (.ref fEqS)))
    (iEqS : PySem.W.isFn K (.ref fEqS) = true)
    (lEqS : K.lookup fEqS = some ⟨ocEqS, odEqS, .func (PySem.W.fnOf "__eq__" "Listener.__eq__" (defArgs (sLis 3)) (defBody (sLis 3)) (defScope (sLis 3)) .none kVEqS dcEqS pmEqS anEqS cdEqS ctEqS), slEqS⟩)
    (cEqS : PySem.W.codeIn K cdEqS "Listener.__eq__" = true)
    (kEqS : PySem.W.keepIn K (.ref fEqS) = true)
    (awI : PySem.W.findIn K (.ref CW) "__init__" = some (some (.ref fwI)))
    (iwI : PySem.W.isFn K (.ref fwI) = true)
    (lwI : K.lookup fwI = some ⟨ocwI, odwI, .func (PySem.W.fnOf "__init__" "Word.__init__" (defArgs (sWd 0)) (defBody (sWd 0)) (defScope (sWd 0)) .none kVwI dcwI pmwI anwI cdwI ctwI), slwI⟩)
    (cwI : PySem.W.codeIn K cdwI "Word.__init__" = true)
    (kwI : PySem.W.keepIn K (.ref fwI) = true)
    (awG : PySem.W.findIn K (.ref CW) "__getitem__" = some (some (.ref fwG)))
    (iwG : PySem.W.isFn K (.ref fwG) = true)
    (jwG : PySem.W.fnIn K fwG = true)
    (lwG : K.lookup fwG = some ⟨ocwG, odwG, .func (PySem.W.fnOf "__getitem__" "Word.__getitem__" (defArgs (sWd 5)) (defBody (sWd 5)) (defScope (sWd 5)) .none kVwG dcwG pmwG anwG cdwG ctwG), slwG⟩)
    (cwG : PySem.W.codeIn K cdwG "Word.__getitem__" = true)
    (kwG : PySem.W.keepIn K (.ref fwG) = true)
    (awO : PySem.W.findCls K (.ref CW) mcW "of" = some (.get (.builtin "classmethod.__get__") (.ref pwO) .none (.ref CW)))
    (rwO : PySem.W.recIn K pwO "classmethod" = some (.ref fwO :: rswO))
    (jwO : PySem.W.fnIn K fwO = true)
    (lwO : K.lookup fwO = some ⟨ocwO, odwO, .func (PySem.W.fnOf "of" "Word.of" (defArgs (sWd 1)) (defBody (sWd 1)) (defScope (sWd 1)) .none kVwO dcwO pmwO anwO cdwO ctwO), slwO⟩)
    (cwO : PySem.W.codeIn K cdwO "Word.of" = true)
    (kwO : PySem.W.keepIn K (.ref fwO) = true)
    (acI : PySem.W.findIn K (.ref CC) "__init__" = some (some (.ref fcI)))
    (icI : PySem.W.isFn K (.ref fcI) = true)
    (lcI : K.lookup fcI = some ⟨occI, odcI, .func (PySem.W.fnOf "__init__" "Chain.__init__" (defArgs sChI) (defBody sChI) (defScope sChI) .none kVcI dccI pmcI ancI cdcI ctcI), slcI⟩)
    (ccI : PySem.W.codeIn K cdcI "Chain.__init__" = true)
    (kcI : PySem.W.keepIn K (.ref fcI) = true)
    (acO : PySem.W.findCls K (.ref CC) mcC "of" = some (.get (.builtin "classmethod.__get__") (.ref pcO) .none (.ref CC)))
    (rcO : PySem.W.recIn K pcO "classmethod" = some (.ref fcO :: rscO))
    (jcO : PySem.W.fnIn K fcO = true)
    (lcO : K.lookup fcO = some ⟨occO, odcO, .func (PySem.W.fnOf "of" "Chain.of" (defArgs sChO) (defBody sChO) (defScope sChO) .none kVcO dccO pmcO ancO cdcO ctcO), slcO⟩)
    (ccO : PySem.W.codeIn K cdcO "Chain.of" = true)
    (kcO : PySem.W.keepIn K (.ref fcO) = true)
    (acC : PySem.W.findIn K (.ref CC) "cells" = some (some (.ref pcC)))
    (bcC : PySem.W.specialIn K (.ref pcC) "__get__" = some (some (.builtin "property.__get__")))
    (dcC : PySem.W.takesIn K (.ref pcC) = some true)
    (ecC : PySem.W.recIn K pcC "property" = some (.ref fcC :: rscC))
    (lcC : K.lookup fcC = some ⟨occC, odcC, .func (PySem.W.fnOf "cells" "Chain.cells" (defArgs sChC) (defBody sChC) (defScope sChC) .none kVcC dccC pmcC ancC cdcC ctcC), slcC⟩)
    (ccC : PySem.W.codeIn K cdcC "Chain.cells" = true)
    (kcC : PySem.W.keepIn K (.ref fcC) = true)
    (acP : PySem.W.findIn K (.ref CC) "part_of" = some (some (.ref fcP)))
    (icP : PySem.W.isFn K (.ref fcP) = true)
    (lcP : K.lookup fcP = some ⟨occP, odcP, .func (PySem.W.fnOf "part_of" "Chain.part_of" (defArgs sChP) (defBody sChP) (defScope sChP) .none kVcP dccP pmcP ancP cdcP ctcP), slcP⟩)
    (ccP : PySem.W.codeIn K cdcP "Chain.part_of" = true)
    (kcP : PySem.W.keepIn K (.ref fcP) = true)
    (acN : PySem.W.findIn K (.ref CC) "entering" = some (some (.ref fcN)))
    (icN : PySem.W.isFn K (.ref fcN) = true)
    (lcN : K.lookup fcN = some ⟨occN, odcN, .func (PySem.W.fnOf "entering" "Chain.entering" (defArgs sChN) (defBody sChN) (defScope sChN) .none kVcN dccN pmcN ancN cdcN ctcN), slcN⟩)
    (ccN : PySem.W.codeIn K cdcN "Chain.entering" = true)
    (kcN : PySem.W.keepIn K (.ref fcN) = true)
    (acL : PySem.W.findIn K (.ref CC) "__len__" = some (some (.ref fcL)))
    (icL : PySem.W.isFn K (.ref fcL) = true)
    (jcL : PySem.W.fnIn K fcL = true)
    (lcL : K.lookup fcL = some ⟨occL, odcL, .func (PySem.W.fnOf "__len__" "Chain.__len__" (defArgs sChL) (defBody sChL) (defScope sChL) .none kVcL dccL pmcL ancL cdcL ctcL), slcL⟩)
    (ccL : PySem.W.codeIn K cdcL "Chain.__len__" = true)
    (kcL : PySem.W.keepIn K (.ref fcL) = true)
    (acQ : PySem.W.findIn K (.ref CC) "__eq__" = some (some (.ref fcQ)))
    (icQ : PySem.W.isFn K (.ref fcQ) = true)
    (lcQ : K.lookup fcQ = some ⟨occQ, odcQ, .func (PySem.W.fnOf "__eq__" "Chain.__eq__" (defArgs sChQ) (defBody sChQ) (defScope sChQ) .none kVcQ dccQ pmcQ ancQ cdcQ ctcQ), slcQ⟩)
    (ccQ : PySem.W.codeIn K cdcQ "Chain.__eq__" = true)
    (kcQ : PySem.W.keepIn K (.ref fcQ) = true)
    (aFI : PySem.W.findIn K (.ref CF) "__init__" = some (some (.ref fFI)))
    (iFI : PySem.W.isFn K (.ref fFI) = true)
    (lFI : K.lookup fFI = some ⟨ocFI, odFI, .func (PySem.W.fnOf "__init__" "Frame.__init__" (defArgs sFrI) (defBody sFrI) (defScope sFrI) .none (.ref DFI) dcFI pmFI anFI cdFI ctFI), slFI⟩)
    (cFI : PySem.W.codeIn K cdFI "Frame.__init__" = true)
    (kFI : PySem.W.keepIn K (.ref fFI) = true)
    (n1FI : PySem.W.nsIn K DFI "top" = some (some x1FI))
    (r1FI : RelV (.int 1) x1FI)
    (n2FI : PySem.W.nsIn K DFI "ground" = some (some x2FI))
    (r2FI : RelV (.bl false) x2FI)
    (n3FI : PySem.W.nsIn K DFI "power" = some (some x3FI))
    (r3FI : RelV (.bl false) x3FI)
    (tyF : PySem.W.typeIn K (.ref CF) = some mcF)
    (rdF : PySem.W.readsIn K CF mcF = true)
    (gaF : PySem.W.specialIn K (.ref CF) "__getattribute__" = some (some (.builtin "type.__getattribute__")))
    (moF : PySem.W.findCls K (.ref CF) mcF "MOST" = some (.val uM))
    (rmF : RelV (.int 40) uM)
    (aO : PySem.W.findCls K (.ref CF) mcF "of" = some (.get (.builtin "classmethod.__get__") (.ref pO) .none (.ref CF)))
    (rO : PySem.W.recIn K pO "classmethod" = some (.ref fO :: rsO))
    (fO_ : PySem.W.fnIn K fO = true)
    (lO : K.lookup fO = some ⟨ocO, odO, .func (PySem.W.fnOf "of" "Frame.of" (defArgs sOf) (defBody sOf) (defScope sOf) .none (.ref DO) dcO pmO anO cdO ctO), slO⟩)
    (cO : PySem.W.codeIn K cdO "Frame.of" = true)
    (kO : PySem.W.keepIn K (.ref fO) = true)
    (n1O : PySem.W.nsIn K DO "top" = some (some x1O))
    (r1O : RelV (.int 1) x1O)
    (n2O : PySem.W.nsIn K DO "ground" = some (some x2O))
    (r2O : RelV (.bl false) x2O)
    (n3O : PySem.W.nsIn K DO "power" = some (some x3O))
    (r3O : RelV (.bl false) x3O)
    (aIE : PySem.W.findIn K (.ref CI) "__init__" = some (some (.ref fIE)))
    (iIE : PySem.W.isFn K (.ref fIE) = true)
    (tIE : PySem.W.typeIn K (.ref fIE) = some (.type "function"))
    (lIE : K.lookup fIE = some ⟨ocIE, odIE, .func (PySem.W.fnX "__init__" "InvalidFrame.__init__" (defArgs sInv) (defBody sInv) (defScope sInv) [("__class__", yIE)] .none kVIE dcIE pmIE anIE (.ref xIE) ctIE), slIE⟩)
    (cIE : PySem.W.codeIn K (.ref xIE) "InvalidFrame.__init__" = true)
    (mIE : K.lookup xIE = some ⟨u1IE, v1IE, .fields vsIE, w1IE⟩)
    (nIE : vsIE[2]? = some (.str flIE tfIE))
    (pIE : ((P.main.file : Str) == flIE) = true)
    (qIE : K.lookup yIE = some ⟨u2IE, v2IE, .cell (some (.ref CI)), w2IE⟩)
    (kIE : PySem.W.keepIn K (.ref fIE) = true)
    (aDI : PySem.W.findIn K (.ref CD) "__init__" = some (some (.ref fDI)))
    (iDI : PySem.W.isFn K (.ref fDI) = true)
    (tDI : PySem.W.typeIn K (.ref fDI) = some (.type "function"))
    (lDI : K.lookup fDI = some ⟨ocDI, odDI, .func (PySem.W.fnX "__init__" "Driver.__init__" (defArgs sDrvI) (defBody sDrvI) (defScope sDrvI) [("__class__", yDI)] .none kVDI dcDI pmDI anDI (.ref xDI) ctDI), slDI⟩)
    (cDI : PySem.W.codeIn K (.ref xDI) "Driver.__init__" = true)
    (mDI : K.lookup xDI = some ⟨u1DI, v1DI, .fields vsDI, w1DI⟩)
    (nDI : vsDI[2]? = some (.str flDI tfDI))
    (pDI : ((P.main.file : Str) == flDI) = true)
    (qDI : K.lookup yDI = some ⟨u2DI, v2DI, .cell (some (.ref CD)), w2DI⟩)
    (kDI : PySem.W.keepIn K (.ref fDI) = true)
    (aSI : PySem.W.findIn K (.ref CS) "__init__" = some (some (.ref fSI)))
    (iSI : PySem.W.isFn K (.ref fSI) = true)
    (tSI : PySem.W.typeIn K (.ref fSI) = some (.type "function"))
    (lSI : K.lookup fSI = some ⟨ocSI, odSI, .func (PySem.W.fnX "__init__" "Listener.__init__" (defArgs sLisI) (defBody sLisI) (defScope sLisI) [("__class__", ySI)] .none kVSI dcSI pmSI anSI (.ref xSI) ctSI), slSI⟩)
    (cSI : PySem.W.codeIn K (.ref xSI) "Listener.__init__" = true)
    (mSI : K.lookup xSI = some ⟨u1SI, v1SI, .fields vsSI, w1SI⟩)
    (nSI : vsSI[2]? = some (.str flSI tfSI))
    (pSI : ((P.main.file : Str) == flSI) = true)
    (qSI : K.lookup ySI = some ⟨u2SI, v2SI, .cell (some (.ref CS)), w2SI⟩)
    (kSI : PySem.W.keepIn K (.ref fSI) = true)
    (top_ : (P.main.scope.names.lookup ("super" : Str)).isSome = false)
    (third : PySem.W.nsIn K cStatics "thirdparty.any" = some none)
    (clsCI : PySem.W.clsIn K CI = some cdCI)
    (mrCI : PySem.W.mroIn K CI (.ref CI) = some true)
    (clsCD : PySem.W.clsIn K CD = some cdCD)
    (mrCD : PySem.W.mroIn K CD (.ref CD) = some true)
    (clsCS : PySem.W.clsIn K CS = some cdCS)
    (mrCS : PySem.W.mroIn K CS (.ref CS) = some true)
    (clsCL : PySem.W.clsIn K CL = some cdCL)
    (mrCL : PySem.W.mroIn K CL (.ref CL) = some true)
    (exL : K.lookup CI = some (excClassObj nm q CI Ns bs bm true sn sub ab col dd k0 k1 k2 k3 k5 "ValueError.__new__"))
    (exR : PySem.HandSPX.refsVE bm = true)
    (exS : PySem.W.findIn K (.ref CI) "__setattr__" = some (some (.builtin "object.__setattr__")))
    (exB : PySem.W.subIn K (.ref CI) (.type "BaseException") = some true)
    (exV : PySem.W.subIn K (.ref CI) (.type "ValueError") = some true)
    (exT : PySem.W.typeIn K (.ref CI) = some (.type "type"))
    (exK : PySem.W.keepIn K (.ref CI) = true)
    (exN : PySem.W.findIn K (.ref CI) "reason" = some none)
    (exU : PySem.W.ks_superIn K CI CI "__init__" = some (some (.builtin "ValueError.__init__")))
    (fnLI : PySem.W.fnIn K fLI = true)
    (tyLI : PySem.W.typeIn K (.ref fLI) = some (.type "function"))
    (suCD : PySem.W.ks_superIn K CD CD "__init__" = some (some (.ref fLI)))
    (suCS : PySem.W.ks_superIn K CS CS "__init__" = some (some (.ref fLI)))
    (pgCD : PySem.W.plainGet K CD Str.empty = true)
    (hdCD : PySem.W.hasDictIn K CD = true)
    (poCD : PySem.W.plainOver K CD = true)
    (saCD : PySem.W.findIn K (.ref CD) "__setattr__" = some (some (.builtin "object.__setattr__")))
    (mkCD : PySem.W.makesIn K CD = true)
    (kcCD : PySem.W.keepIn K (.ref CD) = true)
    (caCD : PySem.W.findIn K (.ref CD) "__class__" = some (some (.builtin "object.__class__")))
    (obCD : PySem.W.mroIn K CD (.type "object") = some true)
    (neCD : PySem.W.findIn K (.ref CD) "__ne__" = some (some (.builtin "object.__ne__")))
    (nnCD : PySem.W.findIn K (.ref CD) "name" = some none)
    (pgCS : PySem.W.plainGet K CS Str.empty = true)
    (hdCS : PySem.W.hasDictIn K CS = true)
    (poCS : PySem.W.plainOver K CS = true)
    (saCS : PySem.W.findIn K (.ref CS) "__setattr__" = some (some (.builtin "object.__setattr__")))
    (mkCS : PySem.W.makesIn K CS = true)
    (kcCS : PySem.W.keepIn K (.ref CS) = true)
    (caCS : PySem.W.findIn K (.ref CS) "__class__" = some (some (.builtin "object.__class__")))
    (obCS : PySem.W.mroIn K CS (.type "object") = some true)
    (neCS : PySem.W.findIn K (.ref CS) "__ne__" = some (some (.builtin "object.__ne__")))
    (nnCS : PySem.W.findIn K (.ref CS) "name" = some none)
    (pgCF : PySem.W.plainGet K CF Str.empty = true)
    (hdCF : PySem.W.hasDictIn K CF = true)
    (poCF : PySem.W.plainOver K CF = true)
    (saCF : PySem.W.findIn K (.ref CF) "__setattr__" = some (some (.builtin "object.__setattr__")))
    (mkCF : PySem.W.makesIn K CF = true)
    (kcCF : PySem.W.keepIn K (.ref CF) = true)
    (caCF : PySem.W.findIn K (.ref CF) "__class__" = some (some (.builtin "object.__class__")))
    (obCF : PySem.W.mroIn K CF (.type "object") = some true)
    (neCF : PySem.W.findIn K (.ref CF) "__ne__" = some (some (.builtin "object.__ne__")))
    (pgCW : PySem.W.plainGet K CW Str.empty = true)
    (hdCW : PySem.W.hasDictIn K CW = true)
    (poCW : PySem.W.plainOver K CW = true)
    (saCW : PySem.W.findIn K (.ref CW) "__setattr__" = some (some (.builtin "object.__setattr__")))
    (mkCW : PySem.W.makesIn K CW = true)
    (kcCW : PySem.W.keepIn K (.ref CW) = true)
    (caCW : PySem.W.findIn K (.ref CW) "__class__" = some (some (.builtin "object.__class__")))
    (obCW : PySem.W.mroIn K CW (.type "object") = some true)
    (neCW : PySem.W.findIn K (.ref CW) "__ne__" = some (some (.builtin "object.__ne__")))
    (pgCC : PySem.W.plainGet K CC Str.empty = true)
    (hdCC : PySem.W.hasDictIn K CC = true)
    (poCC : PySem.W.plainOver K CC = true)
    (saCC : PySem.W.findIn K (.ref CC) "__setattr__" = some (some (.builtin "object.__setattr__")))
    (mkCC : PySem.W.makesIn K CC = true)
    (kcCC : PySem.W.keepIn K (.ref CC) = true)
    (caCC : PySem.W.findIn K (.ref CC) "__class__" = some (some (.builtin "object.__class__")))
    (obCC : PySem.W.mroIn K CC (.type "object") = some true)
    (neCC : PySem.W.findIn K (.ref CC) "__ne__" = some (some (.builtin "object.__ne__")))
    (nwframe : PySem.W.findIn K (.ref CW) "frame" = some none)
    (nw_levels : PySem.W.findIn K (.ref CW) "_levels" = some none)
    (ncframe : PySem.W.findIn K (.ref CC) "frame" = some none)
    (ncparts : PySem.W.findIn K (.ref CC) "parts" = some none)
    (nf_legs : PySem.W.findIn K (.ref CF) "_legs" = some none)
    (nftop : PySem.W.findIn K (.ref CF) "top" = some none)
    (nfground : PySem.W.findIn K (.ref CF) "ground" = some none)
    (nfpower : PySem.W.findIn K (.ref CF) "power" = some none)
    (cn : PySem.W.specialIn K (.builtin "object.__class__") "__get__" = some (some (.builtin "getset_descriptor.__get__")))
    (ct : PySem.W.takesIn K (.builtin "object.__class__") = some true)
    (kdd : PySem.W.kitAny K (.ref CD) [.ref CD, .ref CS] = some true)
    (kii : PySem.W.kitAny K (.ref CS) [.ref CD, .ref CS] = some true)
    (klt : PySem.W.kitAny K (.type "list") [.type "list", .type "tuple"] = some true)
    (ktt : PySem.W.kitAny K (.type "tuple") [.type "list", .type "tuple"] = some true)
    (kkCDCD : PySem.W.kitOne K (.ref CD) (.ref CD) = some true)
    (kkCSCS : PySem.W.kitOne K (.ref CS) (.ref CS) = some true)
    (kkCFCF : PySem.W.kitOne K (.ref CF) (.ref CF) = some true)
    (kkCCCC : PySem.W.kitOne K (.ref CC) (.ref CC) = some true)
    (kkCDCS : PySem.W.kitOne K (.ref CD) (.ref CS) = some false)
    (kkCSCD : PySem.W.kitOne K (.ref CS) (.ref CD) = some false)
    (nfCDCD : PySem.W.notFirst K CD (.ref CD) = true)
    (nfCDCS : PySem.W.notFirst K CD (.ref CS) = true)
    (nfCSCD : PySem.W.notFirst K CS (.ref CD) = true)
    (nfCSCS : PySem.W.notFirst K CS (.ref CS) = true)
    (nfCFCF : PySem.W.notFirst K CF (.ref CF) = true)
    (nfCCCC : PySem.W.notFirst K CC (.ref CC) = true)
    (neDS : CD ≠ CS)
    (wf1 : CW ≠ CF)
    (wf2 : CW ≠ CD)
    (wf3 : CW ≠ CS)
    (nfCl : PySem.W.notFirst K CC (.type "list") = true)
    (nfCn : PySem.W.notFirst K CC (.type "NoneType") = true)
    (koCl : PySem.W.kitOne K (.type "list") (.ref CC) = some false)
    (koCn : PySem.W.kitOne K (.type "NoneType") (.ref CC) = some false) :
    ∀ base : Heap, K.In base → base.Ns mainGlobals mg → AtCall P w K mg base fa (spLaw1 K) := by
  intro base _ _
  have e := hfa.symm.trans (PySem.W.mg_of X G aLw)
  cases e
  have mCI := PySem.W.mg_of X G gCI
  have mCL := PySem.W.mg_of X G gCL
  have mCD := PySem.W.mg_of X G gCD
  have mCS := PySem.W.mg_of X G gCS
  have mCF := PySem.W.mg_of X G gCF
  have mCW := PySem.W.mg_of X G gCW
  have mCC := PySem.W.mg_of X G gCC
  have y_dict := PySem.W.mg_none_of X G z_dict
  have y_enumerate := PySem.W.mg_none_of X G z_enumerate
  have y_set := PySem.W.mg_none_of X G z_set
  have y_isinstance := PySem.W.mg_none_of X G z_isinstance
  have y_str := PySem.W.mg_none_of X G z_str
  have y_len := PySem.W.mg_none_of X G z_len
  have y_all := PySem.W.mg_none_of X G z_all
  have y_bool := PySem.W.mg_none_of X G z_bool
  have y_int := PySem.W.mg_none_of X G z_int
  have y_abs := PySem.W.mg_none_of X G z_abs
  have y_range := PySem.W.mg_none_of X G z_range
  have y_list := PySem.W.mg_none_of X G z_list
  have y_tuple := PySem.W.mg_none_of X G z_tuple
  have y_sorted := PySem.W.mg_none_of X G z_sorted
  have y_super := PySem.W.mg_none_of X G z_super
  have y_repr := PySem.W.mg_none_of X G z_repr
  have FN := fun_mk (x := "is_name") (qual := "is_name") (st := sIsName) lN cN kN
  have mN := PySem.W.mg_of X G aN
  have bN_ := FN.binds (ps := ["value"]) fun _ _ _ _ _ _ us hl => match us, hl with | [_], _ => rfl
  have FIi := fun_mk (x := "is_integer") (qual := "is_integer") (st := sIsInt) lIi cIi kIi
  have mIi := PySem.W.mg_of X G aIi
  have bIi_ := FIi.binds (ps := ["value"]) fun _ _ _ _ _ _ us hl => match us, hl with | [_], _ => rfl
  have FBt := fun_mk (x := "is_between") (qual := "is_between") (st := sBetw) lBt cBt kBt
  have mBt := PySem.W.mg_of X G aBt
  have bBt_ := FBt.binds (ps := ["value", "least", "most"]) fun _ _ _ _ _ _ us hl => match us, hl with | [_, _, _], _ => rfl
  have FWr := fun_mk (x := "wrong_frame") (qual := "wrong_frame") (st := sWrong) lWr cWr kWr
  have mWr := PySem.W.mg_of X G aWr
  have bWr_ := FWr.binds (ps := ["legs", "top", "ground", "power"]) fun _ _ _ _ _ _ us hl => match us, hl with | [_, _, _, _], _ => rfl
  have FLI := fun_mk (x := "__init__") (qual := "Leg.__init__") (st := sLegI) lLI cLI kLI
  have bLI_ := FLI.binds (ps := ["self", "name"]) fun _ _ _ _ _ _ us hl => match us, hl with | [_, _], _ => rfl
  have FPn := fun_mk (x := "_law_pen") (qual := "_law_pen") (st := sPen) lPn cPn kPn
  have mPn := PySem.W.mg_of X G aPn
  have bPn_ := FPn.binds (ps := ["_law_script"]) fun _ _ _ _ _ _ us hl => match us, hl with | [_], _ => rfl
  have FDr := fun_mk (x := "_law_draw") (qual := "_law_draw") (st := sDraw) lDr cDr kDr
  have mDr := PySem.W.mg_of X G aDr
  have bDr_ := FDr.binds (ps := ["_law_pen_here", "_law_many"]) fun _ _ _ _ _ _ us hl => match us, hl with | [_, _], _ => rfl
  have FTg := fun_mk (x := "_law_tags") (qual := "_law_tags") (st := sTags) lTg cTg kTg
  have mTg := PySem.W.mg_of X G aTg
  have bTg_ := FTg.binds (ps := ["_law_pen_here", "_law_many"]) fun _ _ _ _ _ _ us hl => match us, hl with | [_, _], _ => rfl
  have FBa := fun_mk (x := "_law_bare") (qual := "_law_bare") (st := sBare) lBa cBa kBa
  have mBa := PySem.W.mg_of X G aBa
  have bBa_ := FBa.binds (ps := ["_law_pen_here", "_law_most"]) fun _ _ _ _ _ _ us hl => match us, hl with | [_, _], _ => rfl
  have FFm := fun_mk (x := "_law_frame") (qual := "_law_frame") (st := sFrm) lFm cFm kFm
  have mFm := PySem.W.mg_of X G aFm
  have bFm_ := FFm.binds (ps := ["_law_bare_here"]) fun _ _ _ _ _ _ us hl => match us, hl with | [_], _ => rfl
  have FId := fun_mk (x := "is_driver") (qual := "is_driver") (st := sIsD) lId cId kId
  have mId := PySem.W.mg_of X G aId
  have bId_ := FId.binds (ps := ["frame", "value"]) fun _ _ _ _ _ _ us hl => match us, hl with | [_, _], _ => rfl
  have FDl := fun_mk (x := "driver_levels") (qual := "driver_levels") (st := sDL) lDl cDl kDl
  have mDl := PySem.W.mg_of X G aDl
  have bDl_ := FDl.binds (ps := ["frame", "levels"]) fun _ _ _ _ _ _ us hl => match us, hl with | [_, _], _ => rfl
  have FLv := fun_mk (x := "_law_levels") (qual := "_law_levels") (st := sLvs) lLv cLv kLv
  have mLv := PySem.W.mg_of X G aLv
  have bLv_ := FLv.binds (ps := ["_law_pen_here", "_law_bare_here"]) fun _ _ _ _ _ _ us hl => match us, hl with | [_, _], _ => rfl
  have FWp := fun_mk (x := "wrong_parts") (qual := "wrong_parts") (st := sWp) lWp cWp kWp
  have mWp := PySem.W.mg_of X G aWp
  have bWp_ := FWp.binds (ps := ["frame", "parts"]) fun _ _ _ _ _ _ us hl => match us, hl with | [_, _], _ => rfl
  have FPa := fun_mk (x := "_law_parts") (qual := "_law_parts") (st := sPar) lPa cPa kPa
  have mPa := PySem.W.mg_of X G aPa
  have bPa_ := FPa.binds (ps := ["_law_pen_here", "_law_bare_here"]) fun _ _ _ _ _ _ us hl => match us, hl with | [_, _], _ => rfl
  have FCe := fun_mk (x := "_law_cells") (qual := "_law_cells") (st := sCel) lCe cCe kCe
  have mCe := PySem.W.mg_of X G aCe
  have bCe_ := FCe.binds (ps := ["_law_bare_here", "_law_rows"]) fun _ _ _ _ _ _ us hl => match us, hl with | [_, _], _ => rfl
  have FSe := fun_mk (x := "_law_sent") (qual := "_law_sent") (st := sSen) lSe cSe kSe
  have mSe := PySem.W.mg_of X G aSe
  have bSe_ := FSe.binds (ps := ["_law_bare_here", "_law_rows", "_law_told"]) fun _ _ _ _ _ _ us hl => match us, hl with | [_, _, _], _ => rfl
  have FOt := fun_mk (x := "_law_other_right") (qual := "_law_other_right") (st := sOtr) lOt cOt kOt
  have mOt := PySem.W.mg_of X G aOt
  have bOt_ := FOt.binds (ps := ["_law_pen_here", "_law_bare_here", "_law_rows", "_law_made", "_law_field"]) fun _ _ _ _ _ _ us hl => match us, hl with | [_, _, _, _, _], _ => rfl
  have FRi := fun_mk (x := "_law_right") (qual := "_law_right") (st := sRi) lRi cRi kRi
  have mRi := PySem.W.mg_of X G aRi
  have bRi_ := FRi.binds (ps := ["_law_pen_here", "_law_bare_here", "_law_rows"]) fun _ _ _ _ _ _ us hl => match us, hl with | [_, _, _], _ => rfl
  have FLw := fun_mk (x := "law") (qual := "law") (st := sLaw65) lLw cLw kLw
  have mLw := PySem.W.mg_of X G aLw
  have FgD := fun_mk (x := "drivers") (qual := "Frame.drivers") (st := (sFr 5)) lgD cgD kgD
  have bgD_ := FgD.binds (ps := ["self"]) fun _ _ _ _ _ _ us hl => match us, hl with | [_], _ => rfl
  have FgR := fun_mk (x := "rails") (qual := "Frame.rails") (st := (sFr 7)) lgR cgR kgR
  have bgR_ := FgR.binds (ps := ["self"]) fun _ _ _ _ _ _ us hl => match us, hl with | [_], _ => rfl
  have FmC := fun_mk (x := "__contains__") (qual := "Frame.__contains__") (st := (sFr 9)) lmC cmC kmC
  have bmC_ := FmC.binds (ps := ["self", "x"]) fun _ _ _ _ _ _ us hl => match us, hl with | [_, _], _ => rfl
  have FmG := fun_mk (x := "__getitem__") (qual := "Frame.__getitem__") (st := (sFr 10)) lmG cmG kmG
  have bmG_ := FmG.binds (ps := ["self", "at"]) fun _ _ _ _ _ _ us hl => match us, hl with | [_, _], _ => rfl
  have FmE := fun_mk (x := "__eq__") (qual := "Frame.__eq__") (st := (sFr 13)) lmE cmE kmE
  have bmE_ := FmE.binds (ps := ["self", "other"]) fun _ _ _ _ _ _ us hl => match us, hl with | [_, _], _ => rfl
  have FmN := fun_mk (x := "__len__") (qual := "Frame.__len__") (st := (sFr 12)) lmN cmN kmN
  have bmN_ := FmN.binds (ps := ["self"]) fun _ _ _ _ _ _ us hl => match us, hl with | [_], _ => rfl
  have FDvD := fun_mk (x := "drives") (qual := "Driver.drives") (st := (sDrv 2)) lDvD cDvD kDvD
  have bDvD_ := FDvD.binds (ps := ["self"]) fun _ _ _ _ _ _ us hl => match us, hl with | [_], _ => rfl
  have FDvS := fun_mk (x := "drives") (qual := "Listener.drives") (st := (sLis 2)) lDvS cDvS kDvS
  have bDvS_ := FDvS.binds (ps := ["self"]) fun _ _ _ _ _ _ us hl => match us, hl with | [_], _ => rfl
  have FEqD := fun_mk (x := "__eq__") (qual := "Driver.__eq__") (st := (sDrv 3)) lEqD cEqD kEqD
  have bEqD_ := FEqD.binds (ps := ["self", "other"]) fun _ _ _ _ _ _ us hl => match us, hl with | [_, _], _ => rfl
  have FEqS := fun_mk (x := "__eq__") (qual := "Listener.__eq__") (st := (sLis 3)) lEqS cEqS kEqS
  have bEqS_ := FEqS.binds (ps := ["self", "other"]) fun _ _ _ _ _ _ us hl => match us, hl with | [_, _], _ => rfl
  have FwI := fun_mk (x := "__init__") (qual := "Word.__init__") (st := (sWd 0)) lwI cwI kwI
  have FwG := fun_mk (x := "__getitem__") (qual := "Word.__getitem__") (st := (sWd 5)) lwG cwG kwG
  have bwG_ := FwG.binds (ps := ["self", "at"]) fun _ _ _ _ _ _ us hl => match us, hl with | [_, _], _ => rfl
  have FwO := fun_mk (x := "of") (qual := "Word.of") (st := (sWd 1)) lwO cwO kwO
  have FcI : FunD K "__init__" "Chain.__init__" (defArgs sChI) (defBody sChI) (defScope sChI) [] [] fcI _ := ⟨⟨occI, odcI, _, _, dccI, pmcI, ancI, cdcI, ctcI, slcI, rfl, lcI, ccI, .inl ⟨rfl, rfl⟩, .inl rfl⟩, kcI⟩
  have FcO : FunD K "of" "Chain.of" (defArgs sChO) (defBody sChO) (defScope sChO) [] [] fcO _ := ⟨⟨occO, odcO, _, _, dccO, pmcO, ancO, cdcO, ctcO, slcO, rfl, lcO, ccO, .inl ⟨rfl, rfl⟩, .inl rfl⟩, kcO⟩
  have FcC := fun_mk (x := "cells") (qual := "Chain.cells") (st := sChC) lcC ccC kcC
  have bcC_ := FcC.binds (ps := ["self"]) fun _ _ _ _ _ _ us hl => match us, hl with | [_], _ => rfl
  have FcP := fun_mk (x := "part_of") (qual := "Chain.part_of") (st := sChP) lcP ccP kcP
  have bcP_ := FcP.binds (ps := ["self", "name"]) fun _ _ _ _ _ _ us hl => match us, hl with | [_, _], _ => rfl
  have FcN := fun_mk (x := "entering") (qual := "Chain.entering") (st := sChN) lcN ccN kcN
  have bcN_ := FcN.binds (ps := ["self", "word"]) fun _ _ _ _ _ _ us hl => match us, hl with | [_, _], _ => rfl
  have FcL := fun_mk (x := "__len__") (qual := "Chain.__len__") (st := sChL) lcL ccL kcL
  have bcL_ := FcL.binds (ps := ["self"]) fun _ _ _ _ _ _ us hl => match us, hl with | [_], _ => rfl
  have FcQ := fun_mk (x := "__eq__") (qual := "Chain.__eq__") (st := sChQ) lcQ ccQ kcQ
  have bcQ_ := FcQ.binds (ps := ["self", "other"]) fun _ _ _ _ _ _ us hl => match us, hl with | [_, _], _ => rfl
  have FIE : FunS P K "__init__" "InvalidFrame.__init__" sInv fIE _ xIE yIE CI := ⟨⟨ocIE, odIE, kVIE, dcIE, pmIE, anIE, ctIE, slIE, rfl, lIE⟩, cIE, ⟨u1IE, v1IE, vsIE, w1IE, flIE, tfIE, mIE, nIE, pIE⟩, ⟨u2IE, v2IE, w2IE, qIE⟩, kIE⟩
  have bIE_ : Binds K (PySem.W.fnX "__init__" "InvalidFrame.__init__" (defArgs sInv) (defBody sInv) (defScope sInv) [("__class__", yIE)] .none kVIE dcIE pmIE anIE (.ref xIE) ctIE) ["self", "reason"] [] := .all fun us hl => match us, hl with | [_, _], _ => rfl
  have FDI : FunS P K "__init__" "Driver.__init__" sDrvI fDI _ xDI yDI CD := ⟨⟨ocDI, odDI, kVDI, dcDI, pmDI, anDI, ctDI, slDI, rfl, lDI⟩, cDI, ⟨u1DI, v1DI, vsDI, w1DI, flDI, tfDI, mDI, nDI, pDI⟩, ⟨u2DI, v2DI, w2DI, qDI⟩, kDI⟩
  have bDI_ : Binds K (PySem.W.fnX "__init__" "Driver.__init__" (defArgs sDrvI) (defBody sDrvI) (defScope sDrvI) [("__class__", yDI)] .none kVDI dcDI pmDI anDI (.ref xDI) ctDI) ["self", "name"] [] := .all fun us hl => match us, hl with | [_, _], _ => rfl
  have FSI : FunS P K "__init__" "Listener.__init__" sLisI fSI _ xSI ySI CS := ⟨⟨ocSI, odSI, kVSI, dcSI, pmSI, anSI, ctSI, slSI, rfl, lSI⟩, cSI, ⟨u1SI, v1SI, vsSI, w1SI, flSI, tfSI, mSI, nSI, pSI⟩, ⟨u2SI, v2SI, w2SI, qSI⟩, kSI⟩
  have bSI_ : Binds K (PySem.W.fnX "__init__" "Listener.__init__" (defArgs sLisI) (defBody sLisI) (defScope sLisI) [("__class__", ySI)] .none kVSI dcSI pmSI anSI (.ref xSI) ctSI) ["self", "name"] [] := .all fun us hl => match us, hl with | [_, _], _ => rfl
  have FFI : FunD K "__init__" "Frame.__init__" (defArgs sFrI) (defBody sFrI) (defScope sFrI) [] kwsF fFI _ := ⟨⟨ocFI, odFI, _, _, dcFI, pmFI, anFI, cdFI, ctFI, slFI, rfl, lFI, cFI, .inl ⟨rfl, rfl⟩, .inr ⟨DFI, rfl, fun p hp => by
      rcases List.mem_cons.mp hp with rfl | hp
      · exact ⟨_, n1FI, r1FI⟩
      rcases List.mem_cons.mp hp with rfl | hp
      · exact ⟨_, n2FI, r2FI⟩
      obtain rfl := List.mem_singleton.mp hp
      exact ⟨_, n3FI, r3FI⟩⟩⟩, kFI⟩
  have FO : FunD K "of" "Frame.of" (defArgs sOf) (defBody sOf) (defScope sOf) [] kwsF fO _ := ⟨⟨ocO, odO, _, _, dcO, pmO, anO, cdO, ctO, slO, rfl, lO, cO, .inl ⟨rfl, rfl⟩, .inr ⟨DO, rfl, fun p hp => by
      rcases List.mem_cons.mp hp with rfl | hp
      · exact ⟨_, n1O, r1O⟩
      rcases List.mem_cons.mp hp with rfl | hp
      · exact ⟨_, n2O, r2O⟩
      obtain rfl := List.mem_singleton.mp hp
      exact ⟨_, n3O, r3O⟩⟩⟩, kO⟩
  have NT : NmT K mg := ⟨y_isinstance, y_str, y_len, y_all, ⟨tL, PySem.W.mg_of X G gLet⟩, ⟨tN, PySem.W.mg_of X G gLon⟩, ⟨aR, PySem.W.mg_of X G gRes, fun H => .inr ⟨_, itsR, nR, lRes, rfl, rfl, sRes, vRes⟩⟩⟩
  have suCI_ : SupT P K mg CI := ⟨top_, y_super, ⟨cdCI, clsCI⟩, third⟩
  have suCD_ : SupT P K mg CD := ⟨top_, y_super, ⟨cdCD, clsCD⟩, third⟩
  have suCS_ : SupT P K mg CS := ⟨top_, y_super, ⟨cdCS, clsCS⟩, third⟩
  have OE : OexC K CI := ⟨⟨nm, q, Ns, bs, bm, sn, sub, ab, col, dd, k0, k1, k2, k3, k5, exL, exR⟩, exS, exB, exT, exK⟩
  have ET : ExT P K mg CI "reason" := ⟨suCI_, OE, exU, exV, mrCI, exN⟩
  have LT : LgT P K mg CI fIE fLI fN := ⟨ET, aIE, tIE, mCI, mN⟩
  have clCD : Cls K CD := ⟨pgCD, hdCD, poCD, saCD⟩
  have isCD : IsiC K CD := ⟨clCD, caCD, cn, ct, obCD⟩
  have clCS : Cls K CS := ⟨pgCS, hdCS, poCS, saCS⟩
  have isCS : IsiC K CS := ⟨clCS, caCS, cn, ct, obCS⟩
  have clCF : Cls K CF := ⟨pgCF, hdCF, poCF, saCF⟩
  have isCF : IsiC K CF := ⟨clCF, caCF, cn, ct, obCF⟩
  have clCW : Cls K CW := ⟨pgCW, hdCW, poCW, saCW⟩
  have isCW : IsiC K CW := ⟨clCW, caCW, cn, ct, obCW⟩
  have clCC : Cls K CC := ⟨pgCC, hdCC, poCC, saCC⟩
  have isCC : IsiC K CC := ⟨clCC, caCC, cn, ct, obCC⟩
  have glCD : FnOk P w K mg base (L2.CX P w) 3 fLI _ ["self", "name"] (spLegI K CI CD) := ok_legI FLI LT NT ⟨clCD, nnCD⟩ FN bN_ FIE bIE_
  have glCS : FnOk P w K mg base (L2.CX P w) 3 fLI _ ["self", "name"] (spLegI K CI CS) := ok_legI FLI LT NT ⟨clCS, nnCS⟩ FN bN_ FIE bIE_
  have hD := ok_drvI FDI ⟨suCD_, suCD, tyLI, fnLI, mrCD⟩ bLI_ glCD
  have hS := ok_lisI FSI ⟨suCS_, suCS, tyLI, fnLI, mrCS⟩ bLI_ glCS
  let ks : Kinds := ⟨CD, CS, CL⟩
  have MD : MkL P w K mg base CI CD "Driver" := ⟨⟨fDI, _, ⟨mkCD, aDI, iDI, kcCD⟩, hD, bDI_⟩, mCD⟩
  have MS : MkL P w K mg base CI CS "Listener" := ⟨⟨fSI, _, ⟨mkCS, aSI, iSI, kcCS⟩, hS, bSI_⟩, mCS⟩
  have BI : Bi mg := ⟨y_int, y_len, y_abs⟩
  have gI : FnOk P w K mg base CX0 1 fIE _ ["self", "reason"] (spInv K CI) := ok_inv FIE ET
  have gII : FnOk P w K mg base CX0 1 fIi _ ["value"] (spIsInt K) := ok_isint FIi y_isinstance y_int y_bool
  have gBt : FnOk P w K mg base CX0 2 fBt _ ["value", "least", "most"] (spBetw K) := ok_betw FBt gII mIi kIi bIi_
  have WT : WrT P w K mg base ks CF := { isi := y_isinstance, all := y_all, len := y_len, bool := y_bool, mD := mCD, mI := mCS, mF := mCF, most := ⟨mcF, uM, ⟨rdF, gaF⟩, ⟨moF, rmF⟩⟩, icD := isCD, icI := isCS, nD := nnCD, nI := nnCS, dd := kdd, ii := kii, betw := ⟨fBt, _, mBt, kBt, bBt_, gBt⟩ }
  have gWr : FnOk P w K mg base CX0 3 fWr _ ["legs", "top", "ground", "power"] (spWrong K ks) := ok_wrong FWr WT
  have FT : FrT P w K mg base ks CI fIE CF := { wr := WT, sorted := y_sorted, mI := mCI, ex := ET, iC := aIE, tI := tIE, inv := ⟨_, bIE_, gI⟩, wrong := ⟨fWr, _, mWr, kWr, bWr_, gWr⟩, cl := clCF, nL := nf_legs, nT := nftop, nG := nfground, nP := nfpower }
  have kB := fr_kwB (w := w) (base := base) FFI FT
  have MF : Mk K CF fFI := ⟨mkCF, aFI, iFI, kcCF⟩
  have OT : OfT P w K mg base ks CI fIE CF fFI := { isi := y_isinstance, list := y_list, tuple := y_tuple, mI := mCI, ex := ET, iC := aIE, tI := tIE, inv := ⟨_, bIE_, gI⟩, mkc := MF, kt := klt, kt2 := ktt }
  have gO := ok_of FO OT kB
  have gDr : FnOk P w K mg base CX0 1 fDr _ ["_law_pen_here", "_law_many"] spDraw := ok_draw FDr BI
  have DW : DwT P w K mg base := { bi := BI, sorted := y_sorted, draw := ⟨fDr, _, mDr, kDr, bDr_, gDr⟩, tags := ⟨fTg, _, mTg, kTg, bTg_, ok_tags FTg BI y_range FDr bDr_ mDr⟩ }
  have CR : ClX.CRead K CF mcF := ⟨rdF, gaF⟩
  have CM : ClX.CMet K CF mcF "of" pO fO := ⟨aO, ⟨rsO, rO⟩, fO_⟩
  have TK : FkT P w K mg base ks CI CF := { d := MD, i := MS, mF := mCF, of := ⟨mcF, pO, fO, CR, CM, of_kwB FO gO⟩ }
  have two : ∀ {R : Addr → Prop}, R CD → R CS → ∀ C, (C = CD ∨ C = CS) → R C := by
    rintro R a b C (rfl | rfl)
    · exact a
    · exact b
  have dvD : PropN P w K mg base 1 CD "drives" (spDr CD (decide (CD = CD))) := ⟨clCD, pDvD, fDvD, _, ⟨aDvD, bDvD, dDvD, _, eDvD⟩, by rw [decide_eq_true rfl]; exact ok_drives FDvD rfl rfl, bDvD_⟩
  have dvS : PropN P w K mg base 1 CS "drives" (spDr CS (decide (CS = CD))) := ⟨clCS, pDvS, fDvS, _, ⟨aDvS, bDvS, dDvS, _, eDvS⟩, by rw [decide_eq_false (Ne.symm neDS)]; exact ok_drives FDvS rfl rfl, bDvS_⟩
  have DV : ∀ C, (C = ks.drv ∨ C = ks.lis) → PropN P w K mg base 1 C "drives" (spDr C (decide (C = ks.drv))) := two dvD dvS
  have eqD : EqN P w K mg base 1 CD (spEq K CD) := ⟨⟨fEqD, _, aEqD, iEqD, ok_eqD FEqD ⟨y_isinstance, mCD, isCD, kkCDCD, nnCD⟩, bEqD_⟩, neCD, obCD⟩
  have eqS : EqN P w K mg base 1 CS (spEq K CS) := ⟨⟨fEqS, _, aEqS, iEqS, ok_eqI FEqS ⟨y_isinstance, mCS, isCS, kkCSCS, nnCS⟩, bEqS_⟩, neCS, obCS⟩
  have LQ : LqT P w K mg base ks := { eq := two eqD eqS, ic := two isCD isCS, nf := fun C D hc hd => two (R := fun C => PySem.W.notFirst K C (.ref D) = true) (two (R := fun D => PySem.W.notFirst K CD (.ref D) = true) nfCDCD nfCDCS D hd) (two (R := fun D => PySem.W.notFirst K CS (.ref D) = true) nfCSCD nfCSCS D hd) C hc, un := fun C D hc hd => two (R := fun C => C ≠ D → PySem.W.kitOne K (.ref D) (.ref C) = some false) (two (R := fun D => CD ≠ D → PySem.W.kitOne K (.ref D) (.ref CD) = some false) (fun z => absurd rfl z) (fun _ => kkCSCD) D hd) (two (R := fun D => CS ≠ D → PySem.W.kitOne K (.ref D) (.ref CS) = some false) (fun _ => kkCDCS) (fun z => absurd rfl z) D hd) C hc }
  have FP : FpT P w K mg base ks CF := { cl := clCF, nL := nf_legs, nG := nfground, nP := nfpower, tuple := y_tuple, sorted := y_sorted, dv := DV }
  have pRa : PropN P w K mg base 1 CF "rails" (spTup ks CF fun d => railsZ d.g d.r) := ⟨clCF, pgR, fgR, _, ⟨agR, bgR, dgR, _, egR⟩, ok_frails FgR FP, bgR_⟩
  have pDr : PropN P w K mg base 3 CF "drivers" (spTup ks CF fun d => kindZ ks true d.ys) := ⟨clCF, pgD, fgD, _, ⟨agD, bgD, dgD, _, egD⟩, ok_fdrv FgD FP, bgD_⟩
  have FM : FmT K mg CF := ⟨clCF, nf_legs, y_len, y_isinstance, y_str⟩
  have tIn : MetN P w K mg base CX0 1 CF "__contains__" ["self", "x"] (spFIs K ks CF) := ⟨fmC, _, amC, imC, jmC, ⟨fun vs H Q E q => (ok_fin (P := P) (w := w) (mg := mg) (base := base) FmC FM).len vs H Q E (spFIs_of q), fun A outer s H args us vs Q E hr he hb hv hs => (ok_fin (P := P) (w := w) (mg := mg) (base := base) FmC FM).run A outer s H args us vs Q E hr he hb hv (spFIs_of hs)⟩, bmC_⟩
  have tGet : MetN P w K mg base CX0 2 CF "__getitem__" ["self", "at"] (spFGetI ks CF) := ⟨fmG, _, amG, imG, jmG, ok_fgetI FmG clCF nf_legs tIn, bmG_⟩
  have FE : FeT P w K mg base ks CF := { ic := isCF, nT := nftop, nL := nf_legs, isi := y_isinstance, mF := mCF, self := kkCFCF, lq := LQ, rails := pRa }
  have eqF : EqN P w K mg base 4 CF (spFEq K ks CF) := ⟨⟨fmE, _, amE, imE, ok_feq FmE FE, bmE_⟩, neCF, obCF⟩
  -- words
  have gId := ok_isd FId (w := w) (base := base) (ks := ks) ⟨tIn, tGet, DV⟩
  have gBg : FnOk P w K mg base CX0 2 fBt _ ["value", "least", "most"] (spBetG K) := ok_betG FBt gII mIi kIi bIi_
  have ID : ∃ f fd, mg "is_driver" = some (.ref f) ∧ PySem.W.keepIn K (.ref f) = true ∧ Binds K fd ["frame", "value"] [] ∧ FnOk P w K mg base CX0 4 f fd ["frame", "value"] (spIsD K ks CF) := ⟨fId, _, mId, kId, bId_, gId⟩
  have gDl := ok_dl FDl (w := w) (base := base) (ks := ks) { cl := clCF, nT := nftop, isi := y_isinstance, dict := y_dict, str := y_str, all := y_all, sorted := y_sorted, isd := ID, bet := ⟨fBt, _, mBt, kBt, bBt_, gBg⟩, drv := pDr }
  have IT : WiT6 P w K mg base ks CF CW := { cl := clCW, nF := nwframe, nL := nw_levels, dl := ⟨fDl, _, mDl, kDl, bDl_, gDl⟩ }
  have MW : Mk K CW fwI := ⟨mkCW, awI, iwI, kcCW⟩
  have W0 := ok_wdI FwI IT wf1 wf2 wf3 [] (by decide) (by decide) wdI_b0
  have WmT_ : WmT P w K mg base ks CF CW fwI := ⟨IT, MW, W0⟩
  have CRW : ClX.CRead K CW mcW := ⟨rdW, gaW⟩
  have CMO : ClX.CMet K CW mcW "of" pwO fwO := ⟨awO, ⟨rswO, rwO⟩, jwO⟩
  have gOf := ok_wof FwO WmT_
  have WF : WfT P w K mg base ks CF CW := { cw := clCW, nF := nwframe, nL := nw_levels, cf := clCF, nT := nftop, tuple := y_tuple, bool := y_bool }
  have tLen : MetN P w K mg base CX0 1 CF "__len__" ["self"] (spFLen CF) := ⟨fmN, _, amN, imN, jmN, ok_flen FmN FM, bmN_⟩
  have tWG : MetN P w K mg base CX0 2 CW "__getitem__" ["self", "at"] (spWGetI ks CF CW) := ⟨fwG, _, awG, iwG, jwG, ok_wgi FwG WF tIn, bwG_⟩
  -- chains
  have MO : ∃ mc u, ClX.CRead K CC mc ∧ ClX.CVal K CC mc "MOST" (.int 8) u := ⟨mcC, uC, ⟨rdC, gaC⟩, ⟨moC, rmC⟩⟩
  have gWp := ok_wp FWp (w := w) (base := base) (ks := ks) { in_ := tIn, len_ := tLen, mC := mCC, most := MO, isi := y_isinstance, all := y_all, len := y_len, set := y_set, list := y_list, tuple := y_tuple, kl := klt, kt := ktt }
  have CT : ChT P w K mg base ks CF CC := { wrong := ⟨fWp, _, mWp, kWp, bWp_, gWp⟩, tuple := y_tuple, list := y_list, isi := y_isinstance, cl := clCC, nF := ncframe, nP := ncparts, kl := klt, kt := ktt }
  have CS_ := fnr_chI FcI CT
  have MCC : Mk K CC fcI := ⟨mkCC, acI, icI, kcCC⟩
  have gCO := ok_cho FcO CT MCC CS_
  have CM_ : ChM K mg CF CC := { cl := clCC, nF := ncframe, nP := ncparts, cf := clCF, nT := nftop, tuple := y_tuple, len := y_len }
  have gCQ := ok_cheq FcQ (w := w) (base := base) (ks := ks) { m := CM_, isi := y_isinstance, mC := mCC, icC := isCC, self := kkCCCC, eqF := eqF, icF := isCF, nf := nfCFCF }
  have eqC_ : EqN P w K mg base 7 CC (spCEq K ks CF CC) := ⟨⟨fcQ, _, acQ, icQ, gCQ, bcQ_⟩, neCC, obCC⟩
  have CK : ChK P w K mg base ks CF CC fcO fcI := { mC := mCC, cls := ⟨mcC, pcO, ⟨rdC, gaC⟩, ⟨acO, ⟨rscO, rcO⟩, jcO⟩⟩, of0 := ch_of0 FcO gCO, ofK := ch_ofK FcO gCO, mkC := MCC, iS := CS_, eqN := eqC_, ic := isCC, nfC := nfCCCC, nfL := nfCl, nfN := nfCn, koL := koCl, koN := koCn }
  have pCe : PropN P w K mg base 1 CC "cells" (spChC ks CF CC) := ⟨clCC, pcC, fcC, _, ⟨acC, bcC, dcC, _, ecC⟩, ok_chc FcC CM_, bcC_⟩
  have gPo := ok_chp FcP (w := w) (base := base) (ks := ks) CM_ tIn y_enumerate
  have gEn := ok_chn FcN (w := w) (base := base) (ks := ks) CM_ pCe tWG y_isinstance y_str
  have gCe := ok_cel FCe (P := P) (w := w) (mg := mg) (base := base)
  have CE : ∃ f fd, mg "_law_cells" = some (.ref f) ∧ PySem.W.keepIn K (.ref f) = true ∧ Binds K fd ["_law_bare_here", "_law_rows"] [] ∧ FnOk P w K mg base CX0 1 f fd ["_law_bare_here", "_law_rows"] spCel := ⟨fCe, _, mCe, kCe, bCe_, gCe⟩
  have gSe := ok_sen FSe (w := w) (base := base) { cel := CE, isi := y_isinstance, str := y_str }
  have OTT : OtrT P w K mg base ks CF CC fcO fcI := { ck := CK, frm := ⟨fFm, _, mFm, kFm, bFm_, ok_frm FFm TK⟩, ne := neDS, tuple := y_tuple, len := y_len, dict := y_dict, int := y_int }
  have gOt := ok_otr FOt OTT
  have RT : RiT P w K mg base ks CF CC CW fcO fcI fwO fcP fcN := { dw := DW, ot := OTT, m := CM_, eqF := eqF, icF := isCF, nfF := nfCFCF, len_ := ⟨fcL, _, acL, icL, jcL, ok_chl FcL CM_, bcL_⟩, cells := pCe, po := po_k FcP gPo, mpo := ⟨acP, icP, kcP⟩, en := en_k FcN gEn, men := ⟨acN, icN, kcN⟩, mW := mCW, clsW := ⟨mcW, pwO, CRW, CMO⟩, ofW := wof_k0 FwO gOf, cel := CE, lvs := ⟨fLv, _, mLv, kLv, bLv_, ok_lvs FLv DW⟩, sen := ⟨fSe, _, mSe, kSe, bSe_, gSe⟩, otr := ⟨fOt, _, mOt, kOt, bOt_, gOt⟩, isi := y_isinstance, list := y_list, range := y_range, repr := y_repr, enum := y_enumerate }
  have gRi := ok_ri FRi RT
  refine at_law FLw (fun s u => .of_eq rfl) (CC := CC) ?_
  exact { pen := ⟨fPn, _, mPn, kPn, bPn_, ok_pen FPn y_list⟩, bare := ⟨fBa, _, mBa, kBa, bBa_, ok_bare FBa DW⟩, par := ⟨fPa, _, mPa, kPa, bPa_, ok_par FPa DW y_range⟩, right := ⟨fRi, _, mRi, kRi, bRi_, gRi⟩, mC := mCC, most := MO, range := y_range, repr := y_repr }
end Sj
open PySem PySem.W PyProof.Rows in
set_option maxRecDepth 100000 in
set_option maxHeartbeats 0 in
theorem PySem.Challenge.cw_strayjoins_k65_chains_made_holds : PySem.Challenge.rw_strayjoins_k65_chains_made.Holds := by
  w_on; o_law; k_head; (case hw => w_witness2)
  k_fill
  refine Sup.walk_at (l := PySem.Challenge.rw_strayjoins_k65_chains_made) (sp := Sj.spLaw1) rfl (by decide) rfl (fun w h Y => PySem.W.kIn_of Y) ?F ?W
  case W => exact fun K H a ns hl hS => ⟨a, ns, rfl, hS, hl, fun _ => rfl⟩
  case F =>
    intro w mg f h KX G hmg
    refine' Sj.all_mk65 KX G hmg ?gCI ?gCL ?gCD ?gCS ?gCF ?gCW ?gCC ?gLet ?gLon ?gRes ?lRes ?sRes ?vRes ?z_dict ?z_enumerate ?z_set ?z_isinstance ?z_str ?z_len ?z_all ?z_bool ?z_int ?z_abs ?z_range ?z_list ?z_tuple ?z_sorted ?z_super ?z_repr ?tyW ?rdW ?gaW ?tyC ?rdC ?gaC ?moC ?rmC ?aN ?lN ?cN ?kN ?aIi ?lIi ?cIi ?kIi ?aBt ?lBt ?cBt ?kBt ?aWr ?lWr ?cWr ?kWr ?aLI ?iLI ?lLI ?cLI ?kLI ?aPn ?lPn ?cPn ?kPn ?aDr ?lDr ?cDr ?kDr ?aTg ?lTg ?cTg ?kTg ?aBa ?lBa ?cBa ?kBa ?aFm ?lFm ?cFm ?kFm ?aId ?lId ?cId ?kId ?aDl ?lDl ?cDl ?kDl ?aLv ?lLv ?cLv ?kLv ?aWp ?lWp ?cWp ?kWp ?aPa ?lPa ?cPa ?kPa ?aCe ?lCe ?cCe ?kCe ?aSe ?lSe ?cSe ?kSe ?aOt ?lOt ?cOt ?kOt ?aRi ?lRi ?cRi ?kRi ?aLw ?lLw ?cLw ?kLw ?agD ?bgD ?dgD ?egD ?lgD ?cgD ?kgD ?agR ?bgR ?dgR ?egR ?lgR ?cgR ?kgR ?amC ?imC ?jmC ?lmC ?cmC ?kmC ?amG ?imG ?jmG ?lmG ?cmG ?kmG ?amE ?imE ?lmE ?cmE ?kmE ?amN ?imN ?jmN ?lmN ?cmN ?kmN ?aDvD ?bDvD ?dDvD ?eDvD ?lDvD ?cDvD ?kDvD ?aDvS ?bDvS ?dDvS ?eDvS ?lDvS ?cDvS ?kDvS ?aEqD ?iEqD ?lEqD ?cEqD ?kEqD ?aEqS ?iEqS ?lEqS ?cEqS ?kEqS ?awI ?iwI ?lwI ?cwI ?kwI ?awG ?iwG ?jwG ?lwG ?cwG ?kwG ?awO ?rwO ?jwO ?lwO ?cwO ?kwO ?acI ?icI ?lcI ?ccI ?kcI ?acO ?rcO ?jcO ?lcO ?ccO ?kcO ?acC ?bcC ?dcC ?ecC ?lcC ?ccC ?kcC ?acP ?icP ?lcP ?ccP ?kcP ?acN ?icN ?lcN ?ccN ?kcN ?acL ?icL ?jcL ?lcL ?ccL ?kcL ?acQ ?icQ ?lcQ ?ccQ ?kcQ ?aFI ?iFI ?lFI ?cFI ?kFI ?n1FI ?r1FI ?n2FI ?r2FI ?n3FI ?r3FI ?tyF ?rdF ?gaF ?moF ?rmF ?aO ?rO ?fO_ ?lO ?cO ?kO ?n1O ?r1O ?n2O ?r2O ?n3O ?r3O ?aIE ?iIE ?tIE ?lIE ?cIE ?mIE ?nIE ?pIE ?qIE ?kIE ?aDI ?iDI ?tDI ?lDI ?cDI ?mDI ?nDI ?pDI ?qDI ?kDI ?aSI ?iSI ?tSI ?lSI ?cSI ?mSI ?nSI ?pSI ?qSI ?kSI ?top_ ?third ?clsCI ?mrCI ?clsCD ?mrCD ?clsCS ?mrCS ?clsCL ?mrCL ?exL ?exR ?exS ?exB ?exV ?exT ?exK ?exN ?exU ?fnLI ?tyLI ?suCD ?suCS ?pgCD ?hdCD ?poCD ?saCD ?mkCD ?kcCD ?caCD ?obCD ?neCD ?nnCD ?pgCS ?hdCS ?poCS ?saCS ?mkCS ?kcCS ?caCS ?obCS ?neCS ?nnCS ?pgCF ?hdCF ?poCF ?saCF ?mkCF ?kcCF ?caCF ?obCF ?neCF ?pgCW ?hdCW ?poCW ?saCW ?mkCW ?kcCW ?caCW ?obCW ?neCW ?pgCC ?hdCC ?poCC ?saCC ?mkCC ?kcCC ?caCC ?obCC ?neCC ?nwframe ?nw_levels ?ncframe ?ncparts ?nf_legs ?nftop ?nfground ?nfpower ?cn ?ct ?kdd ?kii ?klt ?ktt ?kkCDCD ?kkCSCS ?kkCFCF ?kkCCCC ?kkCDCS ?kkCSCD ?nfCDCD ?nfCDCS ?nfCSCD ?nfCSCS ?nfCFCF ?nfCCCC ?neDS ?wf1 ?wf2 ?wf3 ?nfCl ?nfCn ?koCl ?koCn
    case gCI => k_is
    case gCL => k_is
    case gCD => k_is
    case gCS => k_is
    case gCF => k_is
    case gCW => k_is
    case gCC => k_is
    case gLet => k_is
    case gLon => k_is
    case gRes => k_is
    case lRes => k_is
    case sRes => decide
    case vRes => exact .cons ⟨_, rfl⟩ (.cons ⟨_, rfl⟩ (.cons ⟨_, rfl⟩ .nil))
    case z_dict => k_is
    case z_enumerate => k_is
    case z_set => k_is
    case z_isinstance => k_is
    case z_str => k_is
    case z_len => k_is
    case z_all => k_is
    case z_bool => k_is
    case z_int => k_is
    case z_abs => k_is
    case z_range => k_is
    case z_list => k_is
    case z_tuple => k_is
    case z_sorted => k_is
    case z_super => k_is
    case z_repr => k_is
    case tyW => k_is
    case rdW => k_is
    case gaW => k_is
    case tyC => k_is
    case rdC => k_is
    case gaC => k_is
    case moC => k_is
    case rmC => exact ⟨_, rfl⟩
    case aN => k_is
    case lN => k_is
    case cN => k_is
    case kN => k_is
    case aIi => k_is
    case lIi => k_is
    case cIi => k_is
    case kIi => k_is
    case aBt => k_is
    case lBt => k_is
    case cBt => k_is
    case kBt => k_is
    case aWr => k_is
    case lWr => k_is
    case cWr => k_is
    case kWr => k_is
    case aLI => k_is
    case iLI => k_is
    case lLI => k_is
    case cLI => k_is
    case kLI => k_is
    case aPn => k_is
    case lPn => k_is
    case cPn => k_is
    case kPn => k_is
    case aDr => k_is
    case lDr => k_is
    case cDr => k_is
    case kDr => k_is
    case aTg => k_is
    case lTg => k_is
    case cTg => k_is
    case kTg => k_is
    case aBa => k_is
    case lBa => k_is
    case cBa => k_is
    case kBa => k_is
    case aFm => k_is
    case lFm => k_is
    case cFm => k_is
    case kFm => k_is
    case aId => k_is
    case lId => k_is
    case cId => k_is
    case kId => k_is
    case aDl => k_is
    case lDl => k_is
    case cDl => k_is
    case kDl => k_is
    case aLv => k_is
    case lLv => k_is
    case cLv => k_is
    case kLv => k_is
    case aWp => k_is
    case lWp => k_is
    case cWp => k_is
    case kWp => k_is
    case aPa => k_is
    case lPa => k_is
    case cPa => k_is
    case kPa => k_is
    case aCe => k_is
    case lCe => k_is
    case cCe => k_is
    case kCe => k_is
    case aSe => k_is
    case lSe => k_is
    case cSe => k_is
    case kSe => k_is
    case aOt => k_is
    case lOt => k_is
    case cOt => k_is
    case kOt => k_is
    case aRi => k_is
    case lRi => k_is
    case cRi => k_is
    case kRi => k_is
    case aLw => k_is
    case lLw => k_is
    case cLw => k_is
    case kLw => k_is
    case agD => k_is
    case bgD => k_is
    case dgD => k_is
    case egD => k_is
    case lgD => k_is
    case cgD => k_is
    case kgD => k_is
    case agR => k_is
    case bgR => k_is
    case dgR => k_is
    case egR => k_is
    case lgR => k_is
    case cgR => k_is
    case kgR => k_is
    case amC => k_is
    case imC => k_is
    case jmC => k_is
    case lmC => k_is
    case cmC => k_is
    case kmC => k_is
    case amG => k_is
    case imG => k_is
    case jmG => k_is
    case lmG => k_is
    case cmG => k_is
    case kmG => k_is
    case amE => k_is
    case imE => k_is
    case lmE => k_is
    case cmE => k_is
    case kmE => k_is
    case amN => k_is
    case imN => k_is
    case jmN => k_is
    case lmN => k_is
    case cmN => k_is
    case kmN => k_is
    case aDvD => k_is
    case bDvD => k_is
    case dDvD => k_is
    case eDvD => k_is
    case lDvD => k_is
    case cDvD => k_is
    case kDvD => k_is
    case aDvS => k_is
    case bDvS => k_is
    case dDvS => k_is
    case eDvS => k_is
    case lDvS => k_is
    case cDvS => k_is
    case kDvS => k_is
    case aEqD => k_is
    case iEqD => k_is
    case lEqD => k_is
    case cEqD => k_is
    case kEqD => k_is
    case aEqS => k_is
    case iEqS => k_is
    case lEqS => k_is
    case cEqS => k_is
    case kEqS => k_is
    case awI => k_is
    case iwI => k_is
    case lwI => k_is
    case cwI => k_is
    case kwI => k_is
    case awG => k_is
    case iwG => k_is
    case jwG => k_is
    case lwG => k_is
    case cwG => k_is
    case kwG => k_is
    case awO => k_is
    case rwO => k_is
    case jwO => k_is
    case lwO => k_is
    case cwO => k_is
    case kwO => k_is
    case acI => k_is
    case icI => k_is
    case lcI => k_is
    case ccI => k_is
    case kcI => k_is
    case acO => k_is
    case rcO => k_is
    case jcO => k_is
    case lcO => k_is
    case ccO => k_is
    case kcO => k_is
    case acC => k_is
    case bcC => k_is
    case dcC => k_is
    case ecC => k_is
    case lcC => k_is
    case ccC => k_is
    case kcC => k_is
    case acP => k_is
    case icP => k_is
    case lcP => k_is
    case ccP => k_is
    case kcP => k_is
    case acN => k_is
    case icN => k_is
    case lcN => k_is
    case ccN => k_is
    case kcN => k_is
    case acL => k_is
    case icL => k_is
    case jcL => k_is
    case lcL => k_is
    case ccL => k_is
    case kcL => k_is
    case acQ => k_is
    case icQ => k_is
    case lcQ => k_is
    case ccQ => k_is
    case kcQ => k_is
    case aFI => k_is
    case iFI => k_is
    case lFI => k_is
    case cFI => k_is
    case kFI => k_is
    case n1FI => k_is
    case r1FI => exact ⟨_, rfl⟩
    case n2FI => k_is
    case r2FI => rfl
    case n3FI => k_is
    case r3FI => rfl
    case tyF => k_is
    case rdF => k_is
    case gaF => k_is
    case moF => k_is
    case rmF => exact ⟨_, rfl⟩
    case aO => k_is
    case rO => k_is
    case fO_ => k_is
    case lO => k_is
    case cO => k_is
    case kO => k_is
    case n1O => k_is
    case r1O => exact ⟨_, rfl⟩
    case n2O => k_is
    case r2O => rfl
    case n3O => k_is
    case r3O => rfl
    case aIE => k_is
    case iIE => k_is
    case tIE => k_is
    case lIE => k_is
    case cIE => k_is
    case mIE => k_is
    case nIE => rfl
    case pIE => first | rfl | decide +kernel
    case qIE => k_is
    case kIE => k_is
    case aDI => k_is
    case iDI => k_is
    case tDI => k_is
    case lDI => k_is
    case cDI => k_is
    case mDI => k_is
    case nDI => rfl
    case pDI => first | rfl | decide +kernel
    case qDI => k_is
    case kDI => k_is
    case aSI => k_is
    case iSI => k_is
    case tSI => k_is
    case lSI => k_is
    case cSI => k_is
    case mSI => k_is
    case nSI => rfl
    case pSI => first | rfl | decide +kernel
    case qSI => k_is
    case kSI => k_is
    case top_ => first | rfl | decide +kernel
    case third => k_is
    case clsCI => k_is
    case mrCI => k_is
    case clsCD => k_is
    case mrCD => k_is
    case clsCS => k_is
    case mrCS => k_is
    case clsCL => k_is
    case mrCL => k_is
    case exL => k_is
    case exR => decide +kernel
    case exS => k_is
    case exB => k_is
    case exV => k_is
    case exT => k_is
    case exK => k_is
    case exN => k_is
    case exU => kernel_rfl
    case fnLI => k_is
    case tyLI => k_is
    case suCD => kernel_rfl
    case suCS => kernel_rfl
    case pgCD => k_is
    case hdCD => k_is
    case poCD => k_is
    case saCD => k_is
    case mkCD => k_is
    case kcCD => k_is
    case caCD => k_is
    case obCD => k_is
    case neCD => k_is
    case nnCD => k_is
    case pgCS => k_is
    case hdCS => k_is
    case poCS => k_is
    case saCS => k_is
    case mkCS => k_is
    case kcCS => k_is
    case caCS => k_is
    case obCS => k_is
    case neCS => k_is
    case nnCS => k_is
    case pgCF => k_is
    case hdCF => k_is
    case poCF => k_is
    case saCF => k_is
    case mkCF => k_is
    case kcCF => k_is
    case caCF => k_is
    case obCF => k_is
    case neCF => k_is
    case pgCW => k_is
    case hdCW => k_is
    case poCW => k_is
    case saCW => k_is
    case mkCW => k_is
    case kcCW => k_is
    case caCW => k_is
    case obCW => k_is
    case neCW => k_is
    case pgCC => k_is
    case hdCC => k_is
    case poCC => k_is
    case saCC => k_is
    case mkCC => k_is
    case kcCC => k_is
    case caCC => k_is
    case obCC => k_is
    case neCC => k_is
    case nwframe => k_is
    case nw_levels => k_is
    case ncframe => k_is
    case ncparts => k_is
    case nf_legs => k_is
    case nftop => k_is
    case nfground => k_is
    case nfpower => k_is
    case cn => k_is
    case ct => k_is
    case kdd => kernel_rfl
    case kii => kernel_rfl
    case klt => kernel_rfl
    case ktt => kernel_rfl
    case kkCDCD => kernel_rfl
    case kkCSCS => kernel_rfl
    case kkCFCF => kernel_rfl
    case kkCCCC => kernel_rfl
    case kkCDCS => kernel_rfl
    case kkCSCD => kernel_rfl
    case nfCDCD => k_is
    case nfCDCS => k_is
    case nfCSCD => k_is
    case nfCSCS => k_is
    case nfCFCF => k_is
    case nfCCCC => k_is
    case neDS => decide
    case wf1 => decide
    case wf2 => decide
    case wf3 => decide
    case nfCl => k_is
    case nfCn => k_is
    case koCl => kernel_rfl
    case koCn => kernel_rfl
